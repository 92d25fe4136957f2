/-
  DERIVED. GIVEN WITH THE SEED: THE CARDS: each row of YtdbgiijdgedggaaGreatDoorRows.lean that lists a variable, with what it lists TIED to the program's text (the seventh form; the later family's looks); each row that meets fmt, with fmt's text TOLD by the authors' own Lean function (tested against real Go, not proved from fmt's source: count such statements apart). THE CARD IS WHAT COUNTS. Prove the row's statement (the work); the ties are given (YtdbgiijdgedggaaGreatDoorTie.lean); close each card by the builder's one call (the guide's Derived/Test/ToyasCard.lean, 'card_holds'). Laid BY PROGRAM, IN A SANDBOX (cutbox-door.mjs). By AI agents, Wed Nov 11 2026. No macro, syntax, notation, axiom, sorry.
-/
import Derived.Test.YtdbgiijdgedggaaGreatDoorRows
import GoSem.ClaimSeven
namespace Go.Proofs.YtdbgiijdgedggaaGreatDoor
namespace Rows

/-- THE TIED CARD OF 'gudgeonlaw10.BuildTerms'. -/
def buildTermsCard : Claim7 := { stood := { row := buildTermsRow, standIns := [], harness := (true, "dd468e6d3699a2370c35e386f1b2c50e34901dd477ea8598f79661a432d222e4"), looks := true }, kinds := [], alts := [], laidByText := true, laidKinds := [.data, .data, .data, .sentinel, .sentinel, .data], laidTests := true, laidLooks := .later }
def BuildTermsCardSaid : Prop := Claim7.holds Tryz.pinned (.plain (OpenSpec.ofChange buildTermsSpec)) buildTermsCard

/-- THE TIED CARD OF 'gudgeonlaw10.BuildChecks'. -/
def buildChecksCard : Claim7 := { stood := { row := buildChecksRow, standIns := [], harness := (true, "dd468e6d3699a2370c35e386f1b2c50e34901dd477ea8598f79661a432d222e4"), looks := true }, kinds := [], alts := [], laidByText := true, laidKinds := [.data, .data, .data, .sentinel, .sentinel, .data], laidTests := true, laidLooks := .later }
def BuildChecksCardSaid : Prop := Claim7.holds Tryz.pinned (.plain (OpenSpec.ofChange buildChecksSpec)) buildChecksCard

/-- THE TIED CARD OF 'gudgeonlaw11.EvalTells'. -/
def evalTellsCard : Claim7 := { stood := { row := evalTellsRow, standIns := [], harness := (true, "dd468e6d3699a2370c35e386f1b2c50e34901dd477ea8598f79661a432d222e4"), looks := true }, kinds := [], alts := [], laidByText := true, laidKinds := [.data, .data, .data, .sentinel, .sentinel, .data], laidTests := true, laidLooks := .later }
def EvalTellsCardSaid : Prop := Claim7.holds Tryz.pinned (.plain (OpenSpec.ofChange evalTellsSpec)) evalTellsCard

/-- THE TIED CARD OF 'gudgeonlaw11.EvalSame'. -/
def evalSameCard : Claim7 := { stood := { row := evalSameRow, standIns := [], harness := (true, "dd468e6d3699a2370c35e386f1b2c50e34901dd477ea8598f79661a432d222e4"), looks := true }, kinds := [], alts := [], laidByText := true, laidKinds := [.data, .data, .data, .sentinel, .sentinel, .data], laidTests := true, laidLooks := .later }
def EvalSameCardSaid : Prop := Claim7.holds Tryz.pinned (.plain (OpenSpec.ofChange evalSameSpec)) evalSameCard

/-- THE TIED CARD OF 'gudgeonlaw11.EvalTexts'. -/
def evalTextsCard : Claim7 := { stood := { row := evalTextsRow, standIns := [], harness := (true, "dd468e6d3699a2370c35e386f1b2c50e34901dd477ea8598f79661a432d222e4"), looks := true }, kinds := [], alts := [], laidByText := true, laidKinds := [.data, .data, .data, .sentinel, .sentinel, .data], laidTests := true, laidLooks := .later }
def EvalTextsCardSaid : Prop := Claim7.holds Tryz.pinned (.plain (OpenSpec.ofChange evalTextsSpec)) evalTextsCard

/-- THE TIED CARD OF 'gudgeonlaw11.EvalNumbers'. -/
def evalNumbersCard : Claim7 := { stood := { row := evalNumbersRow, standIns := [], harness := (true, "dd468e6d3699a2370c35e386f1b2c50e34901dd477ea8598f79661a432d222e4"), looks := true }, kinds := [], alts := [], laidByText := true, laidKinds := [.data, .data, .data, .sentinel, .sentinel, .data], laidTests := true, laidLooks := .later }
def EvalNumbersCardSaid : Prop := Claim7.holds Tryz.pinned (.plain (OpenSpec.ofChange evalNumbersSpec)) evalNumbersCard

/-- THE TIED CARD OF 'gudgeonlaw11.EvalLong'. -/
def evalLongCard : Claim7 := { stood := { row := evalLongRow, standIns := [], harness := (true, "dd468e6d3699a2370c35e386f1b2c50e34901dd477ea8598f79661a432d222e4"), looks := true }, kinds := [], alts := [], laidByText := true, laidKinds := [.data, .data, .data, .sentinel, .sentinel, .data], laidTests := true, laidLooks := .later }
def EvalLongCardSaid : Prop := Claim7.holds Tryz.pinned (.plain (OpenSpec.ofChange evalLongSpec)) evalLongCard

/-- THE TIED CARD OF 'gudgeonlaw11.EvalPut'. -/
def evalPutCard : Claim7 := { stood := { row := evalPutRow, standIns := [], harness := (true, "dd468e6d3699a2370c35e386f1b2c50e34901dd477ea8598f79661a432d222e4"), looks := true }, kinds := [], alts := [], laidByText := true, laidKinds := [.data, .data, .data, .sentinel, .sentinel, .data], laidTests := true, laidLooks := .later }
def EvalPutCardSaid : Prop := Claim7.holds Tryz.pinned (.plain (OpenSpec.ofChange evalPutSpec)) evalPutCard

/-- THE SECOND FORM's CARD OF 'gudgeonlaw10.BuildTerms'. -/
def buildTermsUptoCard : Claim7 := { stood := { row := buildTermsUptoRow, standIns := [], harness := (true, "dd468e6d3699a2370c35e386f1b2c50e34901dd477ea8598f79661a432d222e4"), looks := true }, kinds := [], alts := [], laidByText := true, laidKinds := [.data, .data, .data, .sentinel, .sentinel, .data], laidTests := true, laidLooks := .later }
def BuildTermsUptoCardSaid : Prop := Claim7.holds Tryz.pinned (.plain (OpenSpec.upto buildTermsSpec)) buildTermsUptoCard

/-- THE SECOND FORM's CARD OF 'gudgeonlaw10.BuildChecks'. -/
def buildChecksUptoCard : Claim7 := { stood := { row := buildChecksUptoRow, standIns := [], harness := (true, "dd468e6d3699a2370c35e386f1b2c50e34901dd477ea8598f79661a432d222e4"), looks := true }, kinds := [], alts := [], laidByText := true, laidKinds := [.data, .data, .data, .sentinel, .sentinel, .data], laidTests := true, laidLooks := .later }
def BuildChecksUptoCardSaid : Prop := Claim7.holds Tryz.pinned (.plain (OpenSpec.upto buildChecksSpec)) buildChecksUptoCard

/-- THE SECOND FORM's CARD OF 'gudgeonlaw11.EvalTells'. -/
def evalTellsUptoCard : Claim7 := { stood := { row := evalTellsUptoRow, standIns := [], harness := (true, "dd468e6d3699a2370c35e386f1b2c50e34901dd477ea8598f79661a432d222e4"), looks := true }, kinds := [], alts := [], laidByText := true, laidKinds := [.data, .data, .data, .sentinel, .sentinel, .data], laidTests := true, laidLooks := .later }
def EvalTellsUptoCardSaid : Prop := Claim7.holds Tryz.pinned (.plain (OpenSpec.upto evalTellsSpec)) evalTellsUptoCard

/-- THE SECOND FORM's CARD OF 'gudgeonlaw11.EvalSame'. -/
def evalSameUptoCard : Claim7 := { stood := { row := evalSameUptoRow, standIns := [], harness := (true, "dd468e6d3699a2370c35e386f1b2c50e34901dd477ea8598f79661a432d222e4"), looks := true }, kinds := [], alts := [], laidByText := true, laidKinds := [.data, .data, .data, .sentinel, .sentinel, .data], laidTests := true, laidLooks := .later }
def EvalSameUptoCardSaid : Prop := Claim7.holds Tryz.pinned (.plain (OpenSpec.upto evalSameSpec)) evalSameUptoCard

/-- THE SECOND FORM's CARD OF 'gudgeonlaw11.EvalTexts'. -/
def evalTextsUptoCard : Claim7 := { stood := { row := evalTextsUptoRow, standIns := [], harness := (true, "dd468e6d3699a2370c35e386f1b2c50e34901dd477ea8598f79661a432d222e4"), looks := true }, kinds := [], alts := [], laidByText := true, laidKinds := [.data, .data, .data, .sentinel, .sentinel, .data], laidTests := true, laidLooks := .later }
def EvalTextsUptoCardSaid : Prop := Claim7.holds Tryz.pinned (.plain (OpenSpec.upto evalTextsSpec)) evalTextsUptoCard

/-- THE SECOND FORM's CARD OF 'gudgeonlaw11.EvalNumbers'. -/
def evalNumbersUptoCard : Claim7 := { stood := { row := evalNumbersUptoRow, standIns := [], harness := (true, "dd468e6d3699a2370c35e386f1b2c50e34901dd477ea8598f79661a432d222e4"), looks := true }, kinds := [], alts := [], laidByText := true, laidKinds := [.data, .data, .data, .sentinel, .sentinel, .data], laidTests := true, laidLooks := .later }
def EvalNumbersUptoCardSaid : Prop := Claim7.holds Tryz.pinned (.plain (OpenSpec.upto evalNumbersSpec)) evalNumbersUptoCard

/-- THE SECOND FORM's CARD OF 'gudgeonlaw11.EvalLong'. -/
def evalLongUptoCard : Claim7 := { stood := { row := evalLongUptoRow, standIns := [], harness := (true, "dd468e6d3699a2370c35e386f1b2c50e34901dd477ea8598f79661a432d222e4"), looks := true }, kinds := [], alts := [], laidByText := true, laidKinds := [.data, .data, .data, .sentinel, .sentinel, .data], laidTests := true, laidLooks := .later }
def EvalLongUptoCardSaid : Prop := Claim7.holds Tryz.pinned (.plain (OpenSpec.upto evalLongSpec)) evalLongUptoCard

/-- THE SECOND FORM's CARD OF 'gudgeonlaw11.EvalPut'. -/
def evalPutUptoCard : Claim7 := { stood := { row := evalPutUptoRow, standIns := [], harness := (true, "dd468e6d3699a2370c35e386f1b2c50e34901dd477ea8598f79661a432d222e4"), looks := true }, kinds := [], alts := [], laidByText := true, laidKinds := [.data, .data, .data, .sentinel, .sentinel, .data], laidTests := true, laidLooks := .later }
def EvalPutUptoCardSaid : Prop := Claim7.holds Tryz.pinned (.plain (OpenSpec.upto evalPutSpec)) evalPutUptoCard
end Rows
end Go.Proofs.YtdbgiijdgedggaaGreatDoor
