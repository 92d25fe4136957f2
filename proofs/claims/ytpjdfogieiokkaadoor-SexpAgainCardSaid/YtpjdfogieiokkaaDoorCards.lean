/-
  DERIVED. GIVEN WITH THE SEED: THE CARDS: each row of YtpjdfogieiokkaaDoorRows.lean that lists a variable, with what it lists TIED to the program's text (the seventh form; the later family's looks); each row that meets fmt, with fmt's text TOLD by the authors' own Lean function (tested against real Go, not proved from fmt's source: count such statements apart). THE CARD IS WHAT COUNTS. Prove the row's statement (the work); the ties are given (YtpjdfogieiokkaaDoorTie.lean); close each card by the builder's one call (the guide's Derived/Test/ToyasCard.lean, 'card_holds'). Laid BY PROGRAM, IN A SANDBOX (cutbox-door.mjs). By AI agents, Wed Nov 11 2026. No macro, syntax, notation, axiom, sorry.
-/
import Derived.Test.YtpjdfogieiokkaaDoorRows
import GoSem.ClaimSeven
namespace Go.Proofs.YtpjdfogieiokkaaDoor
namespace Rows

/-- THE TIED CARD OF 'gudgeonlaw06.SexpParses'. -/
def sexpParsesCard : Claim7 := { stood := { row := sexpParsesRow, standIns := [], harness := (true, "62f9772e1a2ec1e99defcaecd27c40f20d488844c5dbacd3678013c013abc488"), looks := false }, kinds := [], alts := [], laidByText := true, laidKinds := [.data, .pinned], laidTests := true, laidLooks := .later }
def SexpParsesCardSaid : Prop := Claim7.holds Tryd.pinned (.plain (OpenSpec.ofChange sexpParsesSpec)) sexpParsesCard

/-- THE TIED CARD OF 'gudgeonlaw06.SexpReads'. -/
def sexpReadsCard : Claim7 := { stood := { row := sexpReadsRow, standIns := [], harness := (true, "62f9772e1a2ec1e99defcaecd27c40f20d488844c5dbacd3678013c013abc488"), looks := false }, kinds := [], alts := [], laidByText := true, laidKinds := [.data, .pinned], laidTests := true, laidLooks := .later }
def SexpReadsCardSaid : Prop := Claim7.holds Tryd.pinned (.plain (OpenSpec.ofChange sexpReadsSpec)) sexpReadsCard

/-- THE TIED CARD OF 'gudgeonlaw06.SexpPrints'. -/
def sexpPrintsCard : Claim7 := { stood := { row := sexpPrintsRow, standIns := [], harness := (true, "62f9772e1a2ec1e99defcaecd27c40f20d488844c5dbacd3678013c013abc488"), looks := false }, kinds := [], alts := [], laidByText := true, laidKinds := [.data, .pinned], laidTests := true, laidLooks := .later }
def SexpPrintsCardSaid : Prop := Claim7.holds Tryd.pinned (.plain (OpenSpec.ofChange sexpPrintsSpec)) sexpPrintsCard

/-- THE TIED CARD OF 'gudgeonlaw06.SexpBack'. -/
def sexpBackCard : Claim7 := { stood := { row := sexpBackRow, standIns := [], harness := (true, "62f9772e1a2ec1e99defcaecd27c40f20d488844c5dbacd3678013c013abc488"), looks := false }, kinds := [], alts := [], laidByText := true, laidKinds := [.data, .pinned], laidTests := true, laidLooks := .later }
def SexpBackCardSaid : Prop := Claim7.holds Tryd.pinned (.plain (OpenSpec.ofChange sexpBackSpec)) sexpBackCard

/-- THE TIED CARD OF 'gudgeonlaw06.SexpAgain'. -/
def sexpAgainCard : Claim7 := { stood := { row := sexpAgainRow, standIns := [], harness := (true, "62f9772e1a2ec1e99defcaecd27c40f20d488844c5dbacd3678013c013abc488"), looks := false }, kinds := [], alts := [], laidByText := true, laidKinds := [.data, .pinned], laidTests := true, laidLooks := .later }
def SexpAgainCardSaid : Prop := Claim7.holds Tryd.pinned (.plain (OpenSpec.ofChange sexpAgainSpec)) sexpAgainCard

/-- THE TIED CARD OF 'gudgeonlaw06.SexpHeads'. -/
def sexpHeadsCard : Claim7 := { stood := { row := sexpHeadsRow, standIns := [], harness := (true, "62f9772e1a2ec1e99defcaecd27c40f20d488844c5dbacd3678013c013abc488"), looks := false }, kinds := [], alts := [], laidByText := true, laidKinds := [.data, .pinned], laidTests := true, laidLooks := .later }
def SexpHeadsCardSaid : Prop := Claim7.holds Tryd.pinned (.plain (OpenSpec.ofChange sexpHeadsSpec)) sexpHeadsCard

/-- THE SECOND FORM's CARD OF 'gudgeonlaw06.SexpParses'. -/
def sexpParsesUptoCard : Claim7 := { stood := { row := sexpParsesUptoRow, standIns := [], harness := (true, "62f9772e1a2ec1e99defcaecd27c40f20d488844c5dbacd3678013c013abc488"), looks := false }, kinds := [], alts := [], laidByText := true, laidKinds := [.data, .pinned], laidTests := true, laidLooks := .later }
def SexpParsesUptoCardSaid : Prop := Claim7.holds Tryd.pinned (.plain (OpenSpec.upto sexpParsesSpec)) sexpParsesUptoCard

/-- THE SECOND FORM's CARD OF 'gudgeonlaw06.SexpReads'. -/
def sexpReadsUptoCard : Claim7 := { stood := { row := sexpReadsUptoRow, standIns := [], harness := (true, "62f9772e1a2ec1e99defcaecd27c40f20d488844c5dbacd3678013c013abc488"), looks := false }, kinds := [], alts := [], laidByText := true, laidKinds := [.data, .pinned], laidTests := true, laidLooks := .later }
def SexpReadsUptoCardSaid : Prop := Claim7.holds Tryd.pinned (.plain (OpenSpec.upto sexpReadsSpec)) sexpReadsUptoCard

/-- THE SECOND FORM's CARD OF 'gudgeonlaw06.SexpPrints'. -/
def sexpPrintsUptoCard : Claim7 := { stood := { row := sexpPrintsUptoRow, standIns := [], harness := (true, "62f9772e1a2ec1e99defcaecd27c40f20d488844c5dbacd3678013c013abc488"), looks := false }, kinds := [], alts := [], laidByText := true, laidKinds := [.data, .pinned], laidTests := true, laidLooks := .later }
def SexpPrintsUptoCardSaid : Prop := Claim7.holds Tryd.pinned (.plain (OpenSpec.upto sexpPrintsSpec)) sexpPrintsUptoCard

/-- THE SECOND FORM's CARD OF 'gudgeonlaw06.SexpBack'. -/
def sexpBackUptoCard : Claim7 := { stood := { row := sexpBackUptoRow, standIns := [], harness := (true, "62f9772e1a2ec1e99defcaecd27c40f20d488844c5dbacd3678013c013abc488"), looks := false }, kinds := [], alts := [], laidByText := true, laidKinds := [.data, .pinned], laidTests := true, laidLooks := .later }
def SexpBackUptoCardSaid : Prop := Claim7.holds Tryd.pinned (.plain (OpenSpec.upto sexpBackSpec)) sexpBackUptoCard

/-- THE SECOND FORM's CARD OF 'gudgeonlaw06.SexpAgain'. -/
def sexpAgainUptoCard : Claim7 := { stood := { row := sexpAgainUptoRow, standIns := [], harness := (true, "62f9772e1a2ec1e99defcaecd27c40f20d488844c5dbacd3678013c013abc488"), looks := false }, kinds := [], alts := [], laidByText := true, laidKinds := [.data, .pinned], laidTests := true, laidLooks := .later }
def SexpAgainUptoCardSaid : Prop := Claim7.holds Tryd.pinned (.plain (OpenSpec.upto sexpAgainSpec)) sexpAgainUptoCard

/-- THE SECOND FORM's CARD OF 'gudgeonlaw06.SexpHeads'. -/
def sexpHeadsUptoCard : Claim7 := { stood := { row := sexpHeadsUptoRow, standIns := [], harness := (true, "62f9772e1a2ec1e99defcaecd27c40f20d488844c5dbacd3678013c013abc488"), looks := false }, kinds := [], alts := [], laidByText := true, laidKinds := [.data, .pinned], laidTests := true, laidLooks := .later }
def SexpHeadsUptoCardSaid : Prop := Claim7.holds Tryd.pinned (.plain (OpenSpec.upto sexpHeadsSpec)) sexpHeadsUptoCard
end Rows
end Go.Proofs.YtpjdfogieiokkaaDoor
