/-
  DERIVED. GIVEN WITH THE SEED: THE CARDS: each row of YtfjpcjebecgglaaGreatDoorRows.lean that lists a variable, with what it lists TIED to the program's text (the seventh form; the later family's looks); each row that meets fmt, with fmt's text TOLD by the authors' own Lean function (tested against real Go, not proved from fmt's source: count such statements apart). THE CARD IS WHAT COUNTS. Prove the row's statement (the work); the ties are given (YtfjpcjebecgglaaGreatDoorTie.lean); close each card by the builder's one call (the guide's Derived/Test/ToyasCard.lean, 'card_holds'). Laid BY PROGRAM, IN A SANDBOX (cutbox-door.mjs). By AI agents, Wed Nov 11 2026. No macro, syntax, notation, axiom, sorry.
-/
import Derived.Test.YtfjpcjebecgglaaGreatDoorRows
import GoSem.ClaimSeven
namespace Go.Proofs.YtfjpcjebecgglaaGreatDoor
namespace Rows

/-- THE TIED CARD OF 'gudgeonlaw12.ShowTerms'. -/
def showTermsCard : Claim7 := { stood := { row := showTermsRow, standIns := [], harness := (true, "c4a962eb379be473c44964c1000d833cb6d79338338ec1595f57db907420dfd9"), looks := false }, kinds := [], alts := [], laidByText := true, laidKinds := [.data, .data, .data, .data, .data, .data, .pinned], laidTests := true, laidLooks := .later }
def ShowTermsCardSaid : Prop := Claim7.holds Tryz.pinned (.plain (OpenSpec.ofChange showTermsSpec)) showTermsCard

/-- THE TIED CARD OF 'gudgeonlaw12.ShowValues'. -/
def showValuesCard : Claim7 := { stood := { row := showValuesRow, standIns := [], harness := (true, "c4a962eb379be473c44964c1000d833cb6d79338338ec1595f57db907420dfd9"), looks := false }, kinds := [], alts := [], laidByText := true, laidKinds := [.data, .data, .data, .data, .data, .pinned], laidTests := true, laidLooks := .later }
def ShowValuesCardSaid : Prop := Claim7.holds Tryz.pinned (.plain (OpenSpec.ofChange showValuesSpec)) showValuesCard

/-- THE TIED CARD OF 'gudgeonlaw12.ShowNames'. -/
def showNamesCard : Claim7 := { stood := { row := showNamesRow, standIns := [], harness := (true, "c4a962eb379be473c44964c1000d833cb6d79338338ec1595f57db907420dfd9"), looks := false }, kinds := [], alts := [], laidByText := true, laidKinds := [.data, .data, .data, .data, .data, .pinned], laidTests := true, laidLooks := .later }
def ShowNamesCardSaid : Prop := Claim7.holds Tryz.pinned (.plain (OpenSpec.ofChange showNamesSpec)) showNamesCard

/-- THE TIED CARD OF 'gudgeonlaw12.ShowShort'. -/
def showShortCard : Claim7 := { stood := { row := showShortRow, standIns := [], harness := (true, "c4a962eb379be473c44964c1000d833cb6d79338338ec1595f57db907420dfd9"), looks := false }, kinds := [], alts := [], laidByText := true, laidKinds := [.data, .data, .data, .data, .data, .pinned], laidTests := true, laidLooks := .later }
def ShowShortCardSaid : Prop := Claim7.holds Tryz.pinned (.plain (OpenSpec.ofChange showShortSpec)) showShortCard

/-- THE SECOND FORM's CARD OF 'gudgeonlaw12.ShowTerms'. -/
def showTermsUptoCard : Claim7 := { stood := { row := showTermsUptoRow, standIns := [], harness := (true, "c4a962eb379be473c44964c1000d833cb6d79338338ec1595f57db907420dfd9"), looks := false }, kinds := [], alts := [], laidByText := true, laidKinds := [.data, .data, .data, .data, .data, .data, .pinned], laidTests := true, laidLooks := .later }
def ShowTermsUptoCardSaid : Prop := Claim7.holds Tryz.pinned (.plain (OpenSpec.upto showTermsSpec)) showTermsUptoCard

/-- THE SECOND FORM's CARD OF 'gudgeonlaw12.ShowValues'. -/
def showValuesUptoCard : Claim7 := { stood := { row := showValuesUptoRow, standIns := [], harness := (true, "c4a962eb379be473c44964c1000d833cb6d79338338ec1595f57db907420dfd9"), looks := false }, kinds := [], alts := [], laidByText := true, laidKinds := [.data, .data, .data, .data, .data, .pinned], laidTests := true, laidLooks := .later }
def ShowValuesUptoCardSaid : Prop := Claim7.holds Tryz.pinned (.plain (OpenSpec.upto showValuesSpec)) showValuesUptoCard

/-- THE SECOND FORM's CARD OF 'gudgeonlaw12.ShowNames'. -/
def showNamesUptoCard : Claim7 := { stood := { row := showNamesUptoRow, standIns := [], harness := (true, "c4a962eb379be473c44964c1000d833cb6d79338338ec1595f57db907420dfd9"), looks := false }, kinds := [], alts := [], laidByText := true, laidKinds := [.data, .data, .data, .data, .data, .pinned], laidTests := true, laidLooks := .later }
def ShowNamesUptoCardSaid : Prop := Claim7.holds Tryz.pinned (.plain (OpenSpec.upto showNamesSpec)) showNamesUptoCard

/-- THE SECOND FORM's CARD OF 'gudgeonlaw12.ShowShort'. -/
def showShortUptoCard : Claim7 := { stood := { row := showShortUptoRow, standIns := [], harness := (true, "c4a962eb379be473c44964c1000d833cb6d79338338ec1595f57db907420dfd9"), looks := false }, kinds := [], alts := [], laidByText := true, laidKinds := [.data, .data, .data, .data, .data, .pinned], laidTests := true, laidLooks := .later }
def ShowShortUptoCardSaid : Prop := Claim7.holds Tryz.pinned (.plain (OpenSpec.upto showShortSpec)) showShortUptoCard
end Rows
end Go.Proofs.YtfjpcjebecgglaaGreatDoor
