/-
  DERIVED. GIVEN WITH THE SEED: THE CARDS: each row of YtcgaeknikfaghaaGreatDoorRows.lean that lists a variable, with what it lists TIED to the program's text (the seventh form; the later family's looks); each row that meets fmt, with fmt's text TOLD by the authors' own Lean function (tested against real Go, not proved from fmt's source: count such statements apart). THE CARD IS WHAT COUNTS. Prove the row's statement (the work); the ties are given (YtcgaeknikfaghaaGreatDoorTie.lean); close each card by the builder's one call (the guide's Derived/Test/ToyasCard.lean, 'card_holds'). Laid BY PROGRAM, IN A SANDBOX (cutbox-door.mjs). By AI agents, Wed Nov 11 2026. No macro, syntax, notation, axiom, sorry.
-/
import Derived.Test.YtcgaeknikfaghaaGreatDoorRows
import GoSem.ClaimSeven
namespace Go.Proofs.YtcgaeknikfaghaaGreatDoor
namespace Rows

/-- THE TIED CARD OF 'gudgeonlaw10.BuildTerms'. -/
def buildTermsCard : Claim7 := { stood := { row := buildTermsRow, standIns := [], harness := (true, "93079810ee6fcb1e940d3184c44c6cb9a6d5b6c7ba3cf2b979bb8c05ef310dcd"), looks := true }, kinds := [], alts := [], laidByText := true, laidKinds := [.data, .data, .data, .sentinel, .sentinel, .data], laidTests := true, laidLooks := .later }
def BuildTermsCardSaid : Prop := Claim7.holds Tryz.pinned (.plain (OpenSpec.ofChange buildTermsSpec)) buildTermsCard

/-- THE TIED CARD OF 'gudgeonlaw10.BuildChecks'. -/
def buildChecksCard : Claim7 := { stood := { row := buildChecksRow, standIns := [], harness := (true, "93079810ee6fcb1e940d3184c44c6cb9a6d5b6c7ba3cf2b979bb8c05ef310dcd"), looks := true }, kinds := [], alts := [], laidByText := true, laidKinds := [.data, .data, .data, .sentinel, .sentinel, .data], laidTests := true, laidLooks := .later }
def BuildChecksCardSaid : Prop := Claim7.holds Tryz.pinned (.plain (OpenSpec.ofChange buildChecksSpec)) buildChecksCard

/-- THE TIED CARD OF 'gudgeonlaw10.BuildNames'. -/
def buildNamesCard : Claim7 := { stood := { row := buildNamesRow, standIns := [], harness := (true, "93079810ee6fcb1e940d3184c44c6cb9a6d5b6c7ba3cf2b979bb8c05ef310dcd"), looks := true }, kinds := [], alts := [], laidByText := true, laidKinds := [.data, .data, .data, .sentinel, .sentinel, .data], laidTests := true, laidLooks := .later }
def BuildNamesCardSaid : Prop := Claim7.holds Tryz.pinned (.plain (OpenSpec.ofChange buildNamesSpec)) buildNamesCard

/-- THE TIED CARD OF 'gudgeonlaw10.BuildTwice'. -/
def buildTwiceCard : Claim7 := { stood := { row := buildTwiceRow, standIns := [], harness := (true, "93079810ee6fcb1e940d3184c44c6cb9a6d5b6c7ba3cf2b979bb8c05ef310dcd"), looks := true }, kinds := [], alts := [], laidByText := true, laidKinds := [.data, .data, .data, .sentinel, .sentinel, .data], laidTests := true, laidLooks := .later }
def BuildTwiceCardSaid : Prop := Claim7.holds Tryz.pinned (.plain (OpenSpec.ofChange buildTwiceSpec)) buildTwiceCard

/-- THE TIED CARD OF 'gudgeonlaw10.BuildLets'. -/
def buildLetsCard : Claim7 := { stood := { row := buildLetsRow, standIns := [], harness := (true, "93079810ee6fcb1e940d3184c44c6cb9a6d5b6c7ba3cf2b979bb8c05ef310dcd"), looks := true }, kinds := [], alts := [], laidByText := true, laidKinds := [.data, .data, .data, .sentinel, .sentinel, .data], laidTests := true, laidLooks := .later }
def BuildLetsCardSaid : Prop := Claim7.holds Tryz.pinned (.plain (OpenSpec.ofChange buildLetsSpec)) buildLetsCard

/-- THE TIED CARD OF 'gudgeonlaw10.BuildReads'. -/
def buildReadsCard : Claim7 := { stood := { row := buildReadsRow, standIns := [], harness := (true, "93079810ee6fcb1e940d3184c44c6cb9a6d5b6c7ba3cf2b979bb8c05ef310dcd"), looks := true }, kinds := [], alts := [], laidByText := true, laidKinds := [.data, .data, .data, .data, .sentinel, .sentinel, .data, .pinned], laidTests := true, laidLooks := .later }
def BuildReadsCardSaid : Prop := Claim7.holds Tryz.pinned (.plain (OpenSpec.ofChange buildReadsSpec)) buildReadsCard

/-- THE TIED CARD OF 'gudgeonlaw10.BuildMore'. -/
def buildMoreCard : Claim7 := { stood := { row := buildMoreRow, standIns := [], harness := (true, "93079810ee6fcb1e940d3184c44c6cb9a6d5b6c7ba3cf2b979bb8c05ef310dcd"), looks := true }, kinds := [], alts := [], laidByText := true, laidKinds := [.data, .data, .data, .sentinel, .sentinel, .data], laidTests := true, laidLooks := .later }
def BuildMoreCardSaid : Prop := Claim7.holds Tryz.pinned (.plain (OpenSpec.ofChange buildMoreSpec)) buildMoreCard

/-- THE SECOND FORM's CARD OF 'gudgeonlaw10.BuildTerms'. -/
def buildTermsUptoCard : Claim7 := { stood := { row := buildTermsUptoRow, standIns := [], harness := (true, "93079810ee6fcb1e940d3184c44c6cb9a6d5b6c7ba3cf2b979bb8c05ef310dcd"), looks := true }, kinds := [], alts := [], laidByText := true, laidKinds := [.data, .data, .data, .sentinel, .sentinel, .data], laidTests := true, laidLooks := .later }
def BuildTermsUptoCardSaid : Prop := Claim7.holds Tryz.pinned (.plain (OpenSpec.upto buildTermsSpec)) buildTermsUptoCard

/-- THE SECOND FORM's CARD OF 'gudgeonlaw10.BuildChecks'. -/
def buildChecksUptoCard : Claim7 := { stood := { row := buildChecksUptoRow, standIns := [], harness := (true, "93079810ee6fcb1e940d3184c44c6cb9a6d5b6c7ba3cf2b979bb8c05ef310dcd"), looks := true }, kinds := [], alts := [], laidByText := true, laidKinds := [.data, .data, .data, .sentinel, .sentinel, .data], laidTests := true, laidLooks := .later }
def BuildChecksUptoCardSaid : Prop := Claim7.holds Tryz.pinned (.plain (OpenSpec.upto buildChecksSpec)) buildChecksUptoCard

/-- THE SECOND FORM's CARD OF 'gudgeonlaw10.BuildNames'. -/
def buildNamesUptoCard : Claim7 := { stood := { row := buildNamesUptoRow, standIns := [], harness := (true, "93079810ee6fcb1e940d3184c44c6cb9a6d5b6c7ba3cf2b979bb8c05ef310dcd"), looks := true }, kinds := [], alts := [], laidByText := true, laidKinds := [.data, .data, .data, .sentinel, .sentinel, .data], laidTests := true, laidLooks := .later }
def BuildNamesUptoCardSaid : Prop := Claim7.holds Tryz.pinned (.plain (OpenSpec.upto buildNamesSpec)) buildNamesUptoCard

/-- THE SECOND FORM's CARD OF 'gudgeonlaw10.BuildTwice'. -/
def buildTwiceUptoCard : Claim7 := { stood := { row := buildTwiceUptoRow, standIns := [], harness := (true, "93079810ee6fcb1e940d3184c44c6cb9a6d5b6c7ba3cf2b979bb8c05ef310dcd"), looks := true }, kinds := [], alts := [], laidByText := true, laidKinds := [.data, .data, .data, .sentinel, .sentinel, .data], laidTests := true, laidLooks := .later }
def BuildTwiceUptoCardSaid : Prop := Claim7.holds Tryz.pinned (.plain (OpenSpec.upto buildTwiceSpec)) buildTwiceUptoCard

/-- THE SECOND FORM's CARD OF 'gudgeonlaw10.BuildLets'. -/
def buildLetsUptoCard : Claim7 := { stood := { row := buildLetsUptoRow, standIns := [], harness := (true, "93079810ee6fcb1e940d3184c44c6cb9a6d5b6c7ba3cf2b979bb8c05ef310dcd"), looks := true }, kinds := [], alts := [], laidByText := true, laidKinds := [.data, .data, .data, .sentinel, .sentinel, .data], laidTests := true, laidLooks := .later }
def BuildLetsUptoCardSaid : Prop := Claim7.holds Tryz.pinned (.plain (OpenSpec.upto buildLetsSpec)) buildLetsUptoCard

/-- THE SECOND FORM's CARD OF 'gudgeonlaw10.BuildReads'. -/
def buildReadsUptoCard : Claim7 := { stood := { row := buildReadsUptoRow, standIns := [], harness := (true, "93079810ee6fcb1e940d3184c44c6cb9a6d5b6c7ba3cf2b979bb8c05ef310dcd"), looks := true }, kinds := [], alts := [], laidByText := true, laidKinds := [.data, .data, .data, .data, .sentinel, .sentinel, .data, .pinned], laidTests := true, laidLooks := .later }
def BuildReadsUptoCardSaid : Prop := Claim7.holds Tryz.pinned (.plain (OpenSpec.upto buildReadsSpec)) buildReadsUptoCard

/-- THE SECOND FORM's CARD OF 'gudgeonlaw10.BuildMore'. -/
def buildMoreUptoCard : Claim7 := { stood := { row := buildMoreUptoRow, standIns := [], harness := (true, "93079810ee6fcb1e940d3184c44c6cb9a6d5b6c7ba3cf2b979bb8c05ef310dcd"), looks := true }, kinds := [], alts := [], laidByText := true, laidKinds := [.data, .data, .data, .sentinel, .sentinel, .data], laidTests := true, laidLooks := .later }
def BuildMoreUptoCardSaid : Prop := Claim7.holds Tryz.pinned (.plain (OpenSpec.upto buildMoreSpec)) buildMoreUptoCard
end Rows
end Go.Proofs.YtcgaeknikfaghaaGreatDoor
