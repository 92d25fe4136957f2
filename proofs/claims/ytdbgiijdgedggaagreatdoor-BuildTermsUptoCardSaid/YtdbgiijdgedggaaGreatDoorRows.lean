/-
  NARROWER THAN 'FOR EVERY INPUT', by the rows' own cells (each row's printed sentence says how): BuildTerms: loops, laid · BuildChecks: loops, laid · EvalTells: loops, laid · EvalSame: loops, laid · EvalTexts: laid · EvalNumbers: laid · EvalLong: laid · EvalPut: loops, laid.
  DERIVED. THE GIVEN ROWS OF THIS SEAT. 8 by the template 'for every input the law returns true; each argument reads behind the call as it read before'; 0 by the template 'total and deterministic' (their statements: YtdbgiijdgedggaaGreatDoorTotals.lean).
  GIVEN WITH THE SEED: the statements are not yours to turn. If you find one false, say at which input.
  Laid BY PROGRAM, IN A SANDBOX (cutbox-rows.mjs): the forced cells as the released guide's own fill.sh prints them over the translation 6406f7f43afae465… (all of the seat's roots in one cut). By AI agents, Wed Nov 11 2026. No macro, syntax, notation, axiom, sorry.
-/
import Derived.Test.YtdbgiijdgedggaaGreatDoorChecked
import GoSem.Claim
import GoSem.ClaimJoined
import GoSem.ClaimMapViews
import Derived.JoinedTies
import Derived.KernelRfl
namespace Go.Proofs.YtdbgiijdgedggaaGreatDoor
/- THE CELL 'sum', in the pinned program and in every row, IS THE sha256 OF THE DUMP (.gsa) THAT YtdbgiijdgedggaaGreatDoorProg.lean LOADS. Nothing in Lean hashes anything: it is a label: what it is worth is what the hold of that sum in a sandbox is worth. -/
noncomputable def Tryz.pinned : Pinned := { name := "ytdbgiijdgedggaagreatdoor", sum := "6406f7f43afae465e6da4a988e04569e457e83a766ca3ccbd8a47422f4e6a0c4", checked := Tryz.checked }
namespace Rows
def none {H : Type} : Left H := { results := [], args := [] }

/- WHAT THE LISTED PACKAGE-LEVEL VARIABLES READ AS WHEN THE CALL BEGINS. Each datum BY PROGRAM (the guide's laid-datum.mjs) off the statement by which the dump's own 'gosem.cut.vars' lays the variable. In a bare row this is a premise. The card (YtdbgiijdgedggaaGreatDoorCards.lean) ties it to the program's text. -/
def laid_math_bits_deBruijn32tab {H : Type} : DataW H := .agg [.lit (.int .u8 0), .lit (.int .u8 1), .lit (.int .u8 28), .lit (.int .u8 2), .lit (.int .u8 29), .lit (.int .u8 14), .lit (.int .u8 24), .lit (.int .u8 3), .lit (.int .u8 30), .lit (.int .u8 22), .lit (.int .u8 20), .lit (.int .u8 15), .lit (.int .u8 25), .lit (.int .u8 17), .lit (.int .u8 4), .lit (.int .u8 8), .lit (.int .u8 31), .lit (.int .u8 27), .lit (.int .u8 13), .lit (.int .u8 23), .lit (.int .u8 21), .lit (.int .u8 19), .lit (.int .u8 16), .lit (.int .u8 7), .lit (.int .u8 26), .lit (.int .u8 12), .lit (.int .u8 18), .lit (.int .u8 6), .lit (.int .u8 11), .lit (.int .u8 5), .lit (.int .u8 10), .lit (.int .u8 9)]
def laid_math_bits_deBruijn64tab {H : Type} : DataW H := .agg [.lit (.int .u8 0), .lit (.int .u8 1), .lit (.int .u8 56), .lit (.int .u8 2), .lit (.int .u8 57), .lit (.int .u8 49), .lit (.int .u8 28), .lit (.int .u8 3), .lit (.int .u8 61), .lit (.int .u8 58), .lit (.int .u8 42), .lit (.int .u8 50), .lit (.int .u8 38), .lit (.int .u8 29), .lit (.int .u8 17), .lit (.int .u8 4), .lit (.int .u8 62), .lit (.int .u8 47), .lit (.int .u8 59), .lit (.int .u8 36), .lit (.int .u8 45), .lit (.int .u8 43), .lit (.int .u8 51), .lit (.int .u8 22), .lit (.int .u8 53), .lit (.int .u8 39), .lit (.int .u8 33), .lit (.int .u8 30), .lit (.int .u8 24), .lit (.int .u8 18), .lit (.int .u8 12), .lit (.int .u8 5), .lit (.int .u8 63), .lit (.int .u8 55), .lit (.int .u8 48), .lit (.int .u8 27), .lit (.int .u8 60), .lit (.int .u8 41), .lit (.int .u8 37), .lit (.int .u8 16), .lit (.int .u8 46), .lit (.int .u8 35), .lit (.int .u8 44), .lit (.int .u8 21), .lit (.int .u8 52), .lit (.int .u8 32), .lit (.int .u8 23), .lit (.int .u8 11), .lit (.int .u8 54), .lit (.int .u8 26), .lit (.int .u8 40), .lit (.int .u8 15), .lit (.int .u8 34), .lit (.int .u8 20), .lit (.int .u8 31), .lit (.int .u8 10), .lit (.int .u8 25), .lit (.int .u8 14), .lit (.int .u8 19), .lit (.int .u8 9), .lit (.int .u8 13), .lit (.int .u8 8), .lit (.int .u8 7), .lit (.int .u8 6)]
def laid_internal_strconv_uint64pow10 {H : Type} : DataW H := .agg [.lit (.int .u64 1), .lit (.int .u64 10), .lit (.int .u64 100), .lit (.int .u64 1000), .lit (.int .u64 10000), .lit (.int .u64 100000), .lit (.int .u64 1000000), .lit (.int .u64 10000000), .lit (.int .u64 100000000), .lit (.int .u64 1000000000), .lit (.int .u64 10000000000), .lit (.int .u64 100000000000), .lit (.int .u64 1000000000000), .lit (.int .u64 10000000000000), .lit (.int .u64 100000000000000), .lit (.int .u64 1000000000000000), .lit (.int .u64 10000000000000000), .lit (.int .u64 100000000000000000), .lit (.int .u64 1000000000000000000), .lit (.int .u64 10000000000000000000)]
def laid_strconv_ErrRange {H : Type} : DataW H := .iface "*errors.errorString" (.ptr (.agg [.lit (.string [118, 97, 108, 117, 101, 32, 111, 117, 116, 32, 111, 102, 32, 114, 97, 110, 103, 101])]))
def laid_strconv_ErrSyntax {H : Type} : DataW H := .iface "*errors.errorString" (.ptr (.agg [.lit (.string [105, 110, 118, 97, 108, 105, 100, 32, 115, 121, 110, 116, 97, 120])]))
def laid_gudgeon_term_asked {H : Type} : DataW H := .agg [.agg [.lit (.int .u8 0), .lit (.int .u8 0), .agg [.lit (.int .u8 0), .lit (.int .u8 0), .lit (.int .u8 0)], .lit (.int .u8 0)], .agg [.lit (.int .u8 0), .lit (.int .u8 0), .agg [.lit (.int .u8 0), .lit (.int .u8 0), .lit (.int .u8 0)], .lit (.int .u8 0)], .agg [.lit (.int .u8 0), .lit (.int .u8 0), .agg [.lit (.int .u8 0), .lit (.int .u8 0), .lit (.int .u8 0)], .lit (.int .u8 0)], .agg [.lit (.int .u8 0), .lit (.int .u8 0), .agg [.lit (.int .u8 0), .lit (.int .u8 0), .lit (.int .u8 0)], .lit (.int .u8 0)], .agg [.lit (.int .u8 0), .lit (.int .u8 0), .agg [.lit (.int .u8 0), .lit (.int .u8 0), .lit (.int .u8 0)], .lit (.int .u8 0)], .agg [.lit (.int .u8 0), .lit (.int .u8 0), .agg [.lit (.int .u8 0), .lit (.int .u8 0), .lit (.int .u8 0)], .lit (.int .u8 0)], .agg [.lit (.int .u8 1), .lit (.int .u8 1), .agg [.lit (.int .u8 1), .lit (.int .u8 0), .lit (.int .u8 0)], .lit (.int .u8 1)], .agg [.lit (.int .u8 2), .lit (.int .u8 200), .agg [.lit (.int .u8 1), .lit (.int .u8 1), .lit (.int .u8 1)], .lit (.int .u8 1)], .agg [.lit (.int .u8 2), .lit (.int .u8 200), .agg [.lit (.int .u8 1), .lit (.int .u8 1), .lit (.int .u8 1)], .lit (.int .u8 1)], .agg [.lit (.int .u8 2), .lit (.int .u8 200), .agg [.lit (.int .u8 1), .lit (.int .u8 1), .lit (.int .u8 1)], .lit (.int .u8 1)], .agg [.lit (.int .u8 2), .lit (.int .u8 200), .agg [.lit (.int .u8 1), .lit (.int .u8 1), .lit (.int .u8 1)], .lit (.int .u8 1)], .agg [.lit (.int .u8 2), .lit (.int .u8 200), .agg [.lit (.int .u8 0), .lit (.int .u8 0), .lit (.int .u8 0)], .lit (.int .u8 1)], .agg [.lit (.int .u8 2), .lit (.int .u8 200), .agg [.lit (.int .u8 0), .lit (.int .u8 0), .lit (.int .u8 0)], .lit (.int .u8 1)], .agg [.lit (.int .u8 3), .lit (.int .u8 3), .agg [.lit (.int .u8 1), .lit (.int .u8 0), .lit (.int .u8 0)], .lit (.int .u8 0)], .agg [.lit (.int .u8 1), .lit (.int .u8 1), .agg [.lit (.int .u8 2), .lit (.int .u8 0), .lit (.int .u8 0)], .lit (.int .u8 2)], .agg [.lit (.int .u8 2), .lit (.int .u8 200), .agg [.lit (.int .u8 2), .lit (.int .u8 2), .lit (.int .u8 2)], .lit (.int .u8 2)], .agg [.lit (.int .u8 2), .lit (.int .u8 200), .agg [.lit (.int .u8 2), .lit (.int .u8 2), .lit (.int .u8 2)], .lit (.int .u8 2)], .agg [.lit (.int .u8 2), .lit (.int .u8 200), .agg [.lit (.int .u8 2), .lit (.int .u8 2), .lit (.int .u8 2)], .lit (.int .u8 2)], .agg [.lit (.int .u8 2), .lit (.int .u8 200), .agg [.lit (.int .u8 2), .lit (.int .u8 2), .lit (.int .u8 2)], .lit (.int .u8 1)], .agg [.lit (.int .u8 2), .lit (.int .u8 200), .agg [.lit (.int .u8 2), .lit (.int .u8 2), .lit (.int .u8 2)], .lit (.int .u8 1)], .agg [.lit (.int .u8 2), .lit (.int .u8 200), .agg [.lit (.int .u8 2), .lit (.int .u8 2), .lit (.int .u8 2)], .lit (.int .u8 1)], .agg [.lit (.int .u8 2), .lit (.int .u8 200), .agg [.lit (.int .u8 2), .lit (.int .u8 2), .lit (.int .u8 2)], .lit (.int .u8 1)], .agg [.lit (.int .u8 2), .lit (.int .u8 200), .agg [.lit (.int .u8 3), .lit (.int .u8 3), .lit (.int .u8 3)], .lit (.int .u8 3)], .agg [.lit (.int .u8 1), .lit (.int .u8 1), .agg [.lit (.int .u8 3), .lit (.int .u8 0), .lit (.int .u8 0)], .lit (.int .u8 2)], .agg [.lit (.int .u8 2), .lit (.int .u8 2), .agg [.lit (.int .u8 3), .lit (.int .u8 2), .lit (.int .u8 0)], .lit (.int .u8 3)], .agg [.lit (.int .u8 3), .lit (.int .u8 3), .agg [.lit (.int .u8 3), .lit (.int .u8 2), .lit (.int .u8 2)], .lit (.int .u8 3)], .agg [.lit (.int .u8 2), .lit (.int .u8 2), .agg [.lit (.int .u8 3), .lit (.int .u8 3), .lit (.int .u8 0)], .lit (.int .u8 1)], .agg [.lit (.int .u8 2), .lit (.int .u8 2), .agg [.lit (.int .u8 3), .lit (.int .u8 3), .lit (.int .u8 0)], .lit (.int .u8 1)], .agg [.lit (.int .u8 2), .lit (.int .u8 2), .agg [.lit (.int .u8 3), .lit (.int .u8 3), .lit (.int .u8 0)], .lit (.int .u8 1)], .agg [.lit (.int .u8 3), .lit (.int .u8 3), .agg [.lit (.int .u8 3), .lit (.int .u8 3), .lit (.int .u8 2)], .lit (.int .u8 2)], .agg [.lit (.int .u8 3), .lit (.int .u8 3), .agg [.lit (.int .u8 3), .lit (.int .u8 3), .lit (.int .u8 3)], .lit (.int .u8 3)]]

/-- 'gudgeonlaw10.BuildTerms': WHATEVER THE INPUT: true; the input reads as it did. -/
def buildTermsSpec : ChangeSpec := { name := "buildTerms", fn := fun _ => fun
  | [d1, d2] => { results := [.lit (.bool true)], args := [d1, d2] }
  | _ => none }
def buildTermsRow : OpenClaim := { program := "ytdbgiijdgedggaagreatdoor", sum := "6406f7f43afae465e6da4a988e04569e457e83a766ca3ccbd8a47422f4e6a0c4", func := "gudgeon/gudgeonlaw10.BuildTerms", spec := "buildTerms", inPlace := ["internal/bytealg.IndexByteString", "internal/bytealg.IndexString"], unfollowed := true, recurses := true, named := ["gudgeon/term.asked", "internal/strconv.uint64pow10", "math/bits.deBruijn32tab", "math/bits.deBruijn64tab", "internal/bytealg.MaxLen", "strconv.ErrSyntax", "strconv.ErrRange"], loops := true, plainKeys := false, apart := false, laid := [("math/bits.deBruijn32tab", laid_math_bits_deBruijn32tab), ("math/bits.deBruijn64tab", laid_math_bits_deBruijn64tab), ("internal/strconv.uint64pow10", laid_internal_strconv_uint64pow10), ("strconv.ErrRange", laid_strconv_ErrRange), ("strconv.ErrSyntax", laid_strconv_ErrSyntax), ("gudgeon/term.asked", laid_gudgeon_term_asked)] }
def BuildTermsSaid : Prop := buildTermsRow.holds Tryz.pinned (OpenSpec.ofChange buildTermsSpec)

/-- ITS FALSE NEIGHBOUR: 'it returns false'. Refute it at one input. -/
def buildTermsWrong : ChangeSpec := { name := "buildTerms", fn := fun _ => fun
  | [d1, d2] => { results := [.lit (.bool false)], args := [d1, d2] }
  | _ => none }
def BuildTermsWrongFalsely : Prop := buildTermsRow.holds Tryz.pinned (OpenSpec.ofChange buildTermsWrong)

/-- 'gudgeonlaw10.BuildChecks': WHATEVER THE INPUT: true; the input reads as it did. -/
def buildChecksSpec : ChangeSpec := { name := "buildChecks", fn := fun _ => fun
  | [d1, d2] => { results := [.lit (.bool true)], args := [d1, d2] }
  | _ => none }
def buildChecksRow : OpenClaim := { program := "ytdbgiijdgedggaagreatdoor", sum := "6406f7f43afae465e6da4a988e04569e457e83a766ca3ccbd8a47422f4e6a0c4", func := "gudgeon/gudgeonlaw10.BuildChecks", spec := "buildChecks", inPlace := ["internal/bytealg.IndexByteString", "internal/bytealg.IndexString"], unfollowed := true, recurses := true, named := ["gudgeon/term.asked", "internal/strconv.uint64pow10", "math/bits.deBruijn32tab", "math/bits.deBruijn64tab", "internal/bytealg.MaxLen", "strconv.ErrSyntax", "strconv.ErrRange"], loops := true, plainKeys := false, apart := false, laid := [("math/bits.deBruijn32tab", laid_math_bits_deBruijn32tab), ("math/bits.deBruijn64tab", laid_math_bits_deBruijn64tab), ("internal/strconv.uint64pow10", laid_internal_strconv_uint64pow10), ("strconv.ErrRange", laid_strconv_ErrRange), ("strconv.ErrSyntax", laid_strconv_ErrSyntax), ("gudgeon/term.asked", laid_gudgeon_term_asked)] }
def BuildChecksSaid : Prop := buildChecksRow.holds Tryz.pinned (OpenSpec.ofChange buildChecksSpec)

/-- ITS FALSE NEIGHBOUR: 'it returns false'. Refute it at one input. -/
def buildChecksWrong : ChangeSpec := { name := "buildChecks", fn := fun _ => fun
  | [d1, d2] => { results := [.lit (.bool false)], args := [d1, d2] }
  | _ => none }
def BuildChecksWrongFalsely : Prop := buildChecksRow.holds Tryz.pinned (OpenSpec.ofChange buildChecksWrong)

/-- 'gudgeonlaw11.EvalTells': WHATEVER THE INPUT: true; the input reads as it did. -/
def evalTellsSpec : ChangeSpec := { name := "evalTells", fn := fun _ => fun
  | [d1, d2, d3, d4] => { results := [.lit (.bool true)], args := [d1, d2, d3, d4] }
  | _ => none }
def evalTellsRow : OpenClaim := { program := "ytdbgiijdgedggaagreatdoor", sum := "6406f7f43afae465e6da4a988e04569e457e83a766ca3ccbd8a47422f4e6a0c4", func := "gudgeon/gudgeonlaw11.EvalTells", spec := "evalTells", inPlace := ["internal/bytealg.IndexByteString", "internal/bytealg.IndexString"], unfollowed := true, recurses := true, named := ["gudgeon/term.asked", "internal/strconv.uint64pow10", "math/bits.deBruijn32tab", "math/bits.deBruijn64tab", "internal/bytealg.MaxLen", "strconv.ErrSyntax", "strconv.ErrRange"], loops := true, plainKeys := false, apart := false, laid := [("math/bits.deBruijn32tab", laid_math_bits_deBruijn32tab), ("math/bits.deBruijn64tab", laid_math_bits_deBruijn64tab), ("internal/strconv.uint64pow10", laid_internal_strconv_uint64pow10), ("strconv.ErrRange", laid_strconv_ErrRange), ("strconv.ErrSyntax", laid_strconv_ErrSyntax), ("gudgeon/term.asked", laid_gudgeon_term_asked)] }
def EvalTellsSaid : Prop := evalTellsRow.holds Tryz.pinned (OpenSpec.ofChange evalTellsSpec)

/-- ITS FALSE NEIGHBOUR: 'it returns false'. Refute it at one input. -/
def evalTellsWrong : ChangeSpec := { name := "evalTells", fn := fun _ => fun
  | [d1, d2, d3, d4] => { results := [.lit (.bool false)], args := [d1, d2, d3, d4] }
  | _ => none }
def EvalTellsWrongFalsely : Prop := evalTellsRow.holds Tryz.pinned (OpenSpec.ofChange evalTellsWrong)

/-- 'gudgeonlaw11.EvalSame': WHATEVER THE INPUT: true; the input reads as it did. -/
def evalSameSpec : ChangeSpec := { name := "evalSame", fn := fun _ => fun
  | [d1, d2, d3, d4] => { results := [.lit (.bool true)], args := [d1, d2, d3, d4] }
  | _ => none }
def evalSameRow : OpenClaim := { program := "ytdbgiijdgedggaagreatdoor", sum := "6406f7f43afae465e6da4a988e04569e457e83a766ca3ccbd8a47422f4e6a0c4", func := "gudgeon/gudgeonlaw11.EvalSame", spec := "evalSame", inPlace := ["internal/bytealg.IndexByteString", "internal/bytealg.IndexString"], unfollowed := true, recurses := true, named := ["gudgeon/term.asked", "internal/strconv.uint64pow10", "math/bits.deBruijn32tab", "math/bits.deBruijn64tab", "internal/bytealg.MaxLen", "strconv.ErrSyntax", "strconv.ErrRange"], loops := true, plainKeys := false, apart := false, laid := [("math/bits.deBruijn32tab", laid_math_bits_deBruijn32tab), ("math/bits.deBruijn64tab", laid_math_bits_deBruijn64tab), ("internal/strconv.uint64pow10", laid_internal_strconv_uint64pow10), ("strconv.ErrRange", laid_strconv_ErrRange), ("strconv.ErrSyntax", laid_strconv_ErrSyntax), ("gudgeon/term.asked", laid_gudgeon_term_asked)] }
def EvalSameSaid : Prop := evalSameRow.holds Tryz.pinned (OpenSpec.ofChange evalSameSpec)

/-- ITS FALSE NEIGHBOUR: 'it returns false'. Refute it at one input. -/
def evalSameWrong : ChangeSpec := { name := "evalSame", fn := fun _ => fun
  | [d1, d2, d3, d4] => { results := [.lit (.bool false)], args := [d1, d2, d3, d4] }
  | _ => none }
def EvalSameWrongFalsely : Prop := evalSameRow.holds Tryz.pinned (OpenSpec.ofChange evalSameWrong)

/-- 'gudgeonlaw11.EvalTexts': WHATEVER THE INPUT: true; the input reads as it did. -/
def evalTextsSpec : ChangeSpec := { name := "evalTexts", fn := fun _ => fun
  | [d1, d2, d3] => { results := [.lit (.bool true)], args := [d1, d2, d3] }
  | _ => none }
def evalTextsRow : OpenClaim := { program := "ytdbgiijdgedggaagreatdoor", sum := "6406f7f43afae465e6da4a988e04569e457e83a766ca3ccbd8a47422f4e6a0c4", func := "gudgeon/gudgeonlaw11.EvalTexts", spec := "evalTexts", inPlace := ["internal/bytealg.IndexByteString", "internal/bytealg.IndexString"], unfollowed := true, recurses := true, named := ["gudgeon/term.asked", "internal/strconv.uint64pow10", "math/bits.deBruijn32tab", "math/bits.deBruijn64tab", "internal/bytealg.MaxLen", "strconv.ErrSyntax", "strconv.ErrRange"], plainKeys := false, apart := false, laid := [("math/bits.deBruijn32tab", laid_math_bits_deBruijn32tab), ("math/bits.deBruijn64tab", laid_math_bits_deBruijn64tab), ("internal/strconv.uint64pow10", laid_internal_strconv_uint64pow10), ("strconv.ErrRange", laid_strconv_ErrRange), ("strconv.ErrSyntax", laid_strconv_ErrSyntax), ("gudgeon/term.asked", laid_gudgeon_term_asked)] }
def EvalTextsSaid : Prop := evalTextsRow.holds Tryz.pinned (OpenSpec.ofChange evalTextsSpec)

/-- ITS FALSE NEIGHBOUR: 'it returns false'. Refute it at one input. -/
def evalTextsWrong : ChangeSpec := { name := "evalTexts", fn := fun _ => fun
  | [d1, d2, d3] => { results := [.lit (.bool false)], args := [d1, d2, d3] }
  | _ => none }
def EvalTextsWrongFalsely : Prop := evalTextsRow.holds Tryz.pinned (OpenSpec.ofChange evalTextsWrong)

/-- 'gudgeonlaw11.EvalNumbers': WHATEVER THE INPUT: true; the input reads as it did. -/
def evalNumbersSpec : ChangeSpec := { name := "evalNumbers", fn := fun _ => fun
  | [d1, d2, d3, d4] => { results := [.lit (.bool true)], args := [d1, d2, d3, d4] }
  | _ => none }
def evalNumbersRow : OpenClaim := { program := "ytdbgiijdgedggaagreatdoor", sum := "6406f7f43afae465e6da4a988e04569e457e83a766ca3ccbd8a47422f4e6a0c4", func := "gudgeon/gudgeonlaw11.EvalNumbers", spec := "evalNumbers", inPlace := ["internal/bytealg.IndexByteString", "internal/bytealg.IndexString"], unfollowed := true, recurses := true, named := ["gudgeon/term.asked", "internal/strconv.uint64pow10", "math/bits.deBruijn32tab", "math/bits.deBruijn64tab", "internal/bytealg.MaxLen", "strconv.ErrSyntax", "strconv.ErrRange"], plainKeys := false, apart := false, laid := [("math/bits.deBruijn32tab", laid_math_bits_deBruijn32tab), ("math/bits.deBruijn64tab", laid_math_bits_deBruijn64tab), ("internal/strconv.uint64pow10", laid_internal_strconv_uint64pow10), ("strconv.ErrRange", laid_strconv_ErrRange), ("strconv.ErrSyntax", laid_strconv_ErrSyntax), ("gudgeon/term.asked", laid_gudgeon_term_asked)] }
def EvalNumbersSaid : Prop := evalNumbersRow.holds Tryz.pinned (OpenSpec.ofChange evalNumbersSpec)

/-- ITS FALSE NEIGHBOUR: 'it returns false'. Refute it at one input. -/
def evalNumbersWrong : ChangeSpec := { name := "evalNumbers", fn := fun _ => fun
  | [d1, d2, d3, d4] => { results := [.lit (.bool false)], args := [d1, d2, d3, d4] }
  | _ => none }
def EvalNumbersWrongFalsely : Prop := evalNumbersRow.holds Tryz.pinned (OpenSpec.ofChange evalNumbersWrong)

/-- 'gudgeonlaw11.EvalLong': WHATEVER THE INPUT: true; the input reads as it did. -/
def evalLongSpec : ChangeSpec := { name := "evalLong", fn := fun _ => fun
  | [d1, d2] => { results := [.lit (.bool true)], args := [d1, d2] }
  | _ => none }
def evalLongRow : OpenClaim := { program := "ytdbgiijdgedggaagreatdoor", sum := "6406f7f43afae465e6da4a988e04569e457e83a766ca3ccbd8a47422f4e6a0c4", func := "gudgeon/gudgeonlaw11.EvalLong", spec := "evalLong", inPlace := ["internal/bytealg.IndexByteString", "internal/bytealg.IndexString"], unfollowed := true, recurses := true, named := ["gudgeon/term.asked", "internal/strconv.uint64pow10", "math/bits.deBruijn32tab", "math/bits.deBruijn64tab", "internal/bytealg.MaxLen", "strconv.ErrSyntax", "strconv.ErrRange"], plainKeys := false, apart := false, laid := [("math/bits.deBruijn32tab", laid_math_bits_deBruijn32tab), ("math/bits.deBruijn64tab", laid_math_bits_deBruijn64tab), ("internal/strconv.uint64pow10", laid_internal_strconv_uint64pow10), ("strconv.ErrRange", laid_strconv_ErrRange), ("strconv.ErrSyntax", laid_strconv_ErrSyntax), ("gudgeon/term.asked", laid_gudgeon_term_asked)] }
def EvalLongSaid : Prop := evalLongRow.holds Tryz.pinned (OpenSpec.ofChange evalLongSpec)

/-- ITS FALSE NEIGHBOUR: 'it returns false'. Refute it at one input. -/
def evalLongWrong : ChangeSpec := { name := "evalLong", fn := fun _ => fun
  | [d1, d2] => { results := [.lit (.bool false)], args := [d1, d2] }
  | _ => none }
def EvalLongWrongFalsely : Prop := evalLongRow.holds Tryz.pinned (OpenSpec.ofChange evalLongWrong)

/-- 'gudgeonlaw11.EvalPut': WHATEVER THE INPUT: true; the input reads as it did. -/
def evalPutSpec : ChangeSpec := { name := "evalPut", fn := fun _ => fun
  | [d1, d2, d3, d4] => { results := [.lit (.bool true)], args := [d1, d2, d3, d4] }
  | _ => none }
def evalPutRow : OpenClaim := { program := "ytdbgiijdgedggaagreatdoor", sum := "6406f7f43afae465e6da4a988e04569e457e83a766ca3ccbd8a47422f4e6a0c4", func := "gudgeon/gudgeonlaw11.EvalPut", spec := "evalPut", inPlace := ["internal/bytealg.IndexByteString", "internal/bytealg.IndexString"], unfollowed := true, recurses := true, named := ["gudgeon/term.asked", "internal/strconv.uint64pow10", "math/bits.deBruijn32tab", "math/bits.deBruijn64tab", "internal/bytealg.MaxLen", "strconv.ErrSyntax", "strconv.ErrRange"], loops := true, plainKeys := false, apart := false, laid := [("math/bits.deBruijn32tab", laid_math_bits_deBruijn32tab), ("math/bits.deBruijn64tab", laid_math_bits_deBruijn64tab), ("internal/strconv.uint64pow10", laid_internal_strconv_uint64pow10), ("strconv.ErrRange", laid_strconv_ErrRange), ("strconv.ErrSyntax", laid_strconv_ErrSyntax), ("gudgeon/term.asked", laid_gudgeon_term_asked)] }
def EvalPutSaid : Prop := evalPutRow.holds Tryz.pinned (OpenSpec.ofChange evalPutSpec)

/-- ITS FALSE NEIGHBOUR: 'it returns false'. Refute it at one input. -/
def evalPutWrong : ChangeSpec := { name := "evalPut", fn := fun _ => fun
  | [d1, d2, d3, d4] => { results := [.lit (.bool false)], args := [d1, d2, d3, d4] }
  | _ => none }
def EvalPutWrongFalsely : Prop := evalPutRow.holds Tryz.pinned (OpenSpec.ofChange evalPutWrong)

/- THE SECOND FORM. 'bulk': how many values and letters a reading holds, each counted each time it is reached (what is shared counts as often as it is met; a slice's spare places count too). A statement '..UptoSaid' is the law's where the arguments, and the package variables that the reading takes, are together of bulk at most 1048576: NARROWER than '..Said'. Prove '..Said' where nothing that the law and all that it calls make is longer than what came in: it says more and counts as full. Else prove '..UptoSaid'. A law counts once. -/
mutual
def uptoBulk {H : Type} : DataW H → Nat
  | .lit (.string bytes) => bytes.length + 1
  | .lit _ => 1
  | .nil => 1
  | .ptr d => uptoBulk d + 1
  | .slice elems spare => uptoBulkAll elems + uptoBulkAll spare + 1
  | .agg parts => uptoBulkAll parts + 1
  | .iface _ d => uptoBulk d + 1
  | .map entries => uptoBulkEntries entries + 1
  | .held _ => 1
def uptoBulkAll {H : Type} : List (DataW H) → Nat
  | [] => 0
  | d :: r => uptoBulk d + uptoBulkAll r
def uptoBulkEntries {H : Type} : List (Lit × DataW H) → Nat
  | [] => 0
  | x :: r => uptoBulkEntry x + uptoBulkEntries r
def uptoBulkEntry {H : Type} : Lit × DataW H → Nat
  | (.string bytes, d) => bytes.length + uptoBulk d + 1
  | (_, d) => uptoBulk d + 1
 end
def uptoSmall : (H : Type) → List (DataW H) → Bool := fun _ ds => decide (uptoBulkAll ds ≤ 1048576)
def OpenSpec.upto (s : _root_.Go.ChangeSpec) : _root_.Go.OpenSpec := { _root_.Go.OpenSpec.ofChange s with cond := some uptoSmall }

/-- 'gudgeonlaw10.BuildTerms', WHERE WHAT IT READS IS OF BULK AT MOST 1048576: true; the input reads as it did. -/
def buildTermsUptoRow : OpenClaim := { program := "ytdbgiijdgedggaagreatdoor", sum := "6406f7f43afae465e6da4a988e04569e457e83a766ca3ccbd8a47422f4e6a0c4", func := "gudgeon/gudgeonlaw10.BuildTerms", spec := "buildTerms", inPlace := ["internal/bytealg.IndexByteString", "internal/bytealg.IndexString"], unfollowed := true, recurses := true, named := ["gudgeon/term.asked", "internal/strconv.uint64pow10", "math/bits.deBruijn32tab", "math/bits.deBruijn64tab", "internal/bytealg.MaxLen", "strconv.ErrSyntax", "strconv.ErrRange"], loops := true, plainKeys := false, apart := false, laid := [("math/bits.deBruijn32tab", laid_math_bits_deBruijn32tab), ("math/bits.deBruijn64tab", laid_math_bits_deBruijn64tab), ("internal/strconv.uint64pow10", laid_internal_strconv_uint64pow10), ("strconv.ErrRange", laid_strconv_ErrRange), ("strconv.ErrSyntax", laid_strconv_ErrSyntax), ("gudgeon/term.asked", laid_gudgeon_term_asked)], narrowed := true }
def BuildTermsUptoSaid : Prop := buildTermsUptoRow.holds Tryz.pinned (OpenSpec.upto buildTermsSpec)

/-- 'gudgeonlaw10.BuildChecks', WHERE WHAT IT READS IS OF BULK AT MOST 1048576: true; the input reads as it did. -/
def buildChecksUptoRow : OpenClaim := { program := "ytdbgiijdgedggaagreatdoor", sum := "6406f7f43afae465e6da4a988e04569e457e83a766ca3ccbd8a47422f4e6a0c4", func := "gudgeon/gudgeonlaw10.BuildChecks", spec := "buildChecks", inPlace := ["internal/bytealg.IndexByteString", "internal/bytealg.IndexString"], unfollowed := true, recurses := true, named := ["gudgeon/term.asked", "internal/strconv.uint64pow10", "math/bits.deBruijn32tab", "math/bits.deBruijn64tab", "internal/bytealg.MaxLen", "strconv.ErrSyntax", "strconv.ErrRange"], loops := true, plainKeys := false, apart := false, laid := [("math/bits.deBruijn32tab", laid_math_bits_deBruijn32tab), ("math/bits.deBruijn64tab", laid_math_bits_deBruijn64tab), ("internal/strconv.uint64pow10", laid_internal_strconv_uint64pow10), ("strconv.ErrRange", laid_strconv_ErrRange), ("strconv.ErrSyntax", laid_strconv_ErrSyntax), ("gudgeon/term.asked", laid_gudgeon_term_asked)], narrowed := true }
def BuildChecksUptoSaid : Prop := buildChecksUptoRow.holds Tryz.pinned (OpenSpec.upto buildChecksSpec)

/-- 'gudgeonlaw11.EvalTells', WHERE WHAT IT READS IS OF BULK AT MOST 1048576: true; the input reads as it did. -/
def evalTellsUptoRow : OpenClaim := { program := "ytdbgiijdgedggaagreatdoor", sum := "6406f7f43afae465e6da4a988e04569e457e83a766ca3ccbd8a47422f4e6a0c4", func := "gudgeon/gudgeonlaw11.EvalTells", spec := "evalTells", inPlace := ["internal/bytealg.IndexByteString", "internal/bytealg.IndexString"], unfollowed := true, recurses := true, named := ["gudgeon/term.asked", "internal/strconv.uint64pow10", "math/bits.deBruijn32tab", "math/bits.deBruijn64tab", "internal/bytealg.MaxLen", "strconv.ErrSyntax", "strconv.ErrRange"], loops := true, plainKeys := false, apart := false, laid := [("math/bits.deBruijn32tab", laid_math_bits_deBruijn32tab), ("math/bits.deBruijn64tab", laid_math_bits_deBruijn64tab), ("internal/strconv.uint64pow10", laid_internal_strconv_uint64pow10), ("strconv.ErrRange", laid_strconv_ErrRange), ("strconv.ErrSyntax", laid_strconv_ErrSyntax), ("gudgeon/term.asked", laid_gudgeon_term_asked)], narrowed := true }
def EvalTellsUptoSaid : Prop := evalTellsUptoRow.holds Tryz.pinned (OpenSpec.upto evalTellsSpec)

/-- 'gudgeonlaw11.EvalSame', WHERE WHAT IT READS IS OF BULK AT MOST 1048576: true; the input reads as it did. -/
def evalSameUptoRow : OpenClaim := { program := "ytdbgiijdgedggaagreatdoor", sum := "6406f7f43afae465e6da4a988e04569e457e83a766ca3ccbd8a47422f4e6a0c4", func := "gudgeon/gudgeonlaw11.EvalSame", spec := "evalSame", inPlace := ["internal/bytealg.IndexByteString", "internal/bytealg.IndexString"], unfollowed := true, recurses := true, named := ["gudgeon/term.asked", "internal/strconv.uint64pow10", "math/bits.deBruijn32tab", "math/bits.deBruijn64tab", "internal/bytealg.MaxLen", "strconv.ErrSyntax", "strconv.ErrRange"], loops := true, plainKeys := false, apart := false, laid := [("math/bits.deBruijn32tab", laid_math_bits_deBruijn32tab), ("math/bits.deBruijn64tab", laid_math_bits_deBruijn64tab), ("internal/strconv.uint64pow10", laid_internal_strconv_uint64pow10), ("strconv.ErrRange", laid_strconv_ErrRange), ("strconv.ErrSyntax", laid_strconv_ErrSyntax), ("gudgeon/term.asked", laid_gudgeon_term_asked)], narrowed := true }
def EvalSameUptoSaid : Prop := evalSameUptoRow.holds Tryz.pinned (OpenSpec.upto evalSameSpec)

/-- 'gudgeonlaw11.EvalTexts', WHERE WHAT IT READS IS OF BULK AT MOST 1048576: true; the input reads as it did. -/
def evalTextsUptoRow : OpenClaim := { program := "ytdbgiijdgedggaagreatdoor", sum := "6406f7f43afae465e6da4a988e04569e457e83a766ca3ccbd8a47422f4e6a0c4", func := "gudgeon/gudgeonlaw11.EvalTexts", spec := "evalTexts", inPlace := ["internal/bytealg.IndexByteString", "internal/bytealg.IndexString"], unfollowed := true, recurses := true, named := ["gudgeon/term.asked", "internal/strconv.uint64pow10", "math/bits.deBruijn32tab", "math/bits.deBruijn64tab", "internal/bytealg.MaxLen", "strconv.ErrSyntax", "strconv.ErrRange"], plainKeys := false, apart := false, laid := [("math/bits.deBruijn32tab", laid_math_bits_deBruijn32tab), ("math/bits.deBruijn64tab", laid_math_bits_deBruijn64tab), ("internal/strconv.uint64pow10", laid_internal_strconv_uint64pow10), ("strconv.ErrRange", laid_strconv_ErrRange), ("strconv.ErrSyntax", laid_strconv_ErrSyntax), ("gudgeon/term.asked", laid_gudgeon_term_asked)], narrowed := true }
def EvalTextsUptoSaid : Prop := evalTextsUptoRow.holds Tryz.pinned (OpenSpec.upto evalTextsSpec)

/-- 'gudgeonlaw11.EvalNumbers', WHERE WHAT IT READS IS OF BULK AT MOST 1048576: true; the input reads as it did. -/
def evalNumbersUptoRow : OpenClaim := { program := "ytdbgiijdgedggaagreatdoor", sum := "6406f7f43afae465e6da4a988e04569e457e83a766ca3ccbd8a47422f4e6a0c4", func := "gudgeon/gudgeonlaw11.EvalNumbers", spec := "evalNumbers", inPlace := ["internal/bytealg.IndexByteString", "internal/bytealg.IndexString"], unfollowed := true, recurses := true, named := ["gudgeon/term.asked", "internal/strconv.uint64pow10", "math/bits.deBruijn32tab", "math/bits.deBruijn64tab", "internal/bytealg.MaxLen", "strconv.ErrSyntax", "strconv.ErrRange"], plainKeys := false, apart := false, laid := [("math/bits.deBruijn32tab", laid_math_bits_deBruijn32tab), ("math/bits.deBruijn64tab", laid_math_bits_deBruijn64tab), ("internal/strconv.uint64pow10", laid_internal_strconv_uint64pow10), ("strconv.ErrRange", laid_strconv_ErrRange), ("strconv.ErrSyntax", laid_strconv_ErrSyntax), ("gudgeon/term.asked", laid_gudgeon_term_asked)], narrowed := true }
def EvalNumbersUptoSaid : Prop := evalNumbersUptoRow.holds Tryz.pinned (OpenSpec.upto evalNumbersSpec)

/-- 'gudgeonlaw11.EvalLong', WHERE WHAT IT READS IS OF BULK AT MOST 1048576: true; the input reads as it did. -/
def evalLongUptoRow : OpenClaim := { program := "ytdbgiijdgedggaagreatdoor", sum := "6406f7f43afae465e6da4a988e04569e457e83a766ca3ccbd8a47422f4e6a0c4", func := "gudgeon/gudgeonlaw11.EvalLong", spec := "evalLong", inPlace := ["internal/bytealg.IndexByteString", "internal/bytealg.IndexString"], unfollowed := true, recurses := true, named := ["gudgeon/term.asked", "internal/strconv.uint64pow10", "math/bits.deBruijn32tab", "math/bits.deBruijn64tab", "internal/bytealg.MaxLen", "strconv.ErrSyntax", "strconv.ErrRange"], plainKeys := false, apart := false, laid := [("math/bits.deBruijn32tab", laid_math_bits_deBruijn32tab), ("math/bits.deBruijn64tab", laid_math_bits_deBruijn64tab), ("internal/strconv.uint64pow10", laid_internal_strconv_uint64pow10), ("strconv.ErrRange", laid_strconv_ErrRange), ("strconv.ErrSyntax", laid_strconv_ErrSyntax), ("gudgeon/term.asked", laid_gudgeon_term_asked)], narrowed := true }
def EvalLongUptoSaid : Prop := evalLongUptoRow.holds Tryz.pinned (OpenSpec.upto evalLongSpec)

/-- 'gudgeonlaw11.EvalPut', WHERE WHAT IT READS IS OF BULK AT MOST 1048576: true; the input reads as it did. -/
def evalPutUptoRow : OpenClaim := { program := "ytdbgiijdgedggaagreatdoor", sum := "6406f7f43afae465e6da4a988e04569e457e83a766ca3ccbd8a47422f4e6a0c4", func := "gudgeon/gudgeonlaw11.EvalPut", spec := "evalPut", inPlace := ["internal/bytealg.IndexByteString", "internal/bytealg.IndexString"], unfollowed := true, recurses := true, named := ["gudgeon/term.asked", "internal/strconv.uint64pow10", "math/bits.deBruijn32tab", "math/bits.deBruijn64tab", "internal/bytealg.MaxLen", "strconv.ErrSyntax", "strconv.ErrRange"], loops := true, plainKeys := false, apart := false, laid := [("math/bits.deBruijn32tab", laid_math_bits_deBruijn32tab), ("math/bits.deBruijn64tab", laid_math_bits_deBruijn64tab), ("internal/strconv.uint64pow10", laid_internal_strconv_uint64pow10), ("strconv.ErrRange", laid_strconv_ErrRange), ("strconv.ErrSyntax", laid_strconv_ErrSyntax), ("gudgeon/term.asked", laid_gudgeon_term_asked)], narrowed := true }
def EvalPutUptoSaid : Prop := evalPutUptoRow.holds Tryz.pinned (OpenSpec.upto evalPutSpec)

end Rows
end Go.Proofs.YtdbgiijdgedggaaGreatDoor
