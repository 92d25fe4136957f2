/-
  NARROWER THAN 'FOR EVERY INPUT', by the rows' own cells (each row's printed sentence says how): SexpParses: laid · SexpReads: laid · SexpPrints: loops, laid · SexpBack: loops, laid · SexpAgain: laid · SexpHeads: laid.
  DERIVED. THE GIVEN ROWS OF THIS SEAT. 6 by the template 'for every input the law returns true; each argument reads behind the call as it read before'; 0 by the template 'total and deterministic' (their statements: YtpjdfogieiokkaaDoorTotals.lean).
  GIVEN WITH THE SEED: the statements are not yours to turn. If you find one false, say at which input.
  Laid BY PROGRAM, IN A SANDBOX (cutbox-rows.mjs): the forced cells as the released guide's own fill.sh prints them over the translation 2abec1fcf85ca7cc… (all of the seat's roots in one cut). By AI agents, Wed Nov 11 2026. No macro, syntax, notation, axiom, sorry.
-/
import Derived.Test.YtpjdfogieiokkaaDoorChecked
import GoSem.PinnedTables
import GoSem.Claim
import GoSem.ClaimJoined
import GoSem.ClaimMapViews
import Derived.JoinedTies
import Derived.KernelRfl
namespace Go.Proofs.YtpjdfogieiokkaaDoor
/- THE CELL 'sum', in the pinned program and in every row, IS THE sha256 OF THE DUMP (.gsa) THAT YtpjdfogieiokkaaDoorProg.lean LOADS. Nothing in Lean hashes anything: it is a label: what it is worth is what the hold of that sum in a sandbox is worth. -/
noncomputable def Tryd.pinned : Pinned := { name := "ytpjdfogieiokkaadoor", sum := "2abec1fcf85ca7cc72a1a85263e3e3aa63f10e0a71c7abff8fdec99496c9d096", checked := Tryd.checked }
namespace Rows
def none {H : Type} : Left H := { results := [], args := [] }

/- WHAT THE LISTED PACKAGE-LEVEL VARIABLES READ AS WHEN THE CALL BEGINS. Each datum BY PROGRAM (the guide's laid-datum.mjs) off the statement by which the dump's own 'gosem.cut.vars' lays the variable. In a bare row this is a premise. The card (YtpjdfogieiokkaaDoorCards.lean) ties it to the program's text. -/
def laid_unicode_utf8_acceptRanges {H : Type} : DataW H := .agg [.agg [.lit (.int .u8 128), .lit (.int .u8 191)], .agg [.lit (.int .u8 160), .lit (.int .u8 191)], .agg [.lit (.int .u8 128), .lit (.int .u8 159)], .agg [.lit (.int .u8 144), .lit (.int .u8 191)], .agg [.lit (.int .u8 128), .lit (.int .u8 143)], .agg [.lit (.int .u8 0), .lit (.int .u8 0)], .agg [.lit (.int .u8 0), .lit (.int .u8 0)], .agg [.lit (.int .u8 0), .lit (.int .u8 0)], .agg [.lit (.int .u8 0), .lit (.int .u8 0)], .agg [.lit (.int .u8 0), .lit (.int .u8 0)], .agg [.lit (.int .u8 0), .lit (.int .u8 0)], .agg [.lit (.int .u8 0), .lit (.int .u8 0)], .agg [.lit (.int .u8 0), .lit (.int .u8 0)], .agg [.lit (.int .u8 0), .lit (.int .u8 0)], .agg [.lit (.int .u8 0), .lit (.int .u8 0)], .agg [.lit (.int .u8 0), .lit (.int .u8 0)]]
/-- One of Go's own tables, pinned by name: the form's constant. -/
def laid_unicode_utf8_first : DataW Unit := Go.Pinned.utf8First

/-- 'gudgeonlaw06.SexpParses': WHATEVER THE INPUT: true; the input reads as it did. -/
def sexpParsesSpec : ChangeSpec := { name := "sexpParses", fn := fun _ => fun
  | [d1, d2] => { results := [.lit (.bool true)], args := [d1, d2] }
  | _ => none }
def sexpParsesRow : OpenClaim := { program := "ytpjdfogieiokkaadoor", sum := "2abec1fcf85ca7cc72a1a85263e3e3aa63f10e0a71c7abff8fdec99496c9d096", func := "gudgeon/gudgeonlaw06.SexpParses", spec := "sexpParses", inPlace := ["internal/bytealg.IndexByteString", "internal/bytealg.IndexString", "internal/bytealg.CountString", "internal/abi.NoEscape", "internal/bytealg.MakeNoZero"], unfollowed := true, recurses := true, named := ["internal/bytealg.MaxLen", "unicode/utf8.first", "unicode/utf8.acceptRanges"], apart := false, laid := [("unicode/utf8.acceptRanges", laid_unicode_utf8_acceptRanges), ("unicode/utf8.first", laid_unicode_utf8_first)] }
def SexpParsesSaid : Prop := sexpParsesRow.holds Tryd.pinned (OpenSpec.ofChange sexpParsesSpec)

/-- ITS FALSE NEIGHBOUR: 'it returns false'. Refute it at one input. -/
def sexpParsesWrong : ChangeSpec := { name := "sexpParses", fn := fun _ => fun
  | [d1, d2] => { results := [.lit (.bool false)], args := [d1, d2] }
  | _ => none }
def SexpParsesWrongFalsely : Prop := sexpParsesRow.holds Tryd.pinned (OpenSpec.ofChange sexpParsesWrong)

/-- 'gudgeonlaw06.SexpReads': WHATEVER THE INPUT: true; the input reads as it did. -/
def sexpReadsSpec : ChangeSpec := { name := "sexpReads", fn := fun _ => fun
  | [d] => { results := [.lit (.bool true)], args := [d] }
  | _ => none }
def sexpReadsRow : OpenClaim := { program := "ytpjdfogieiokkaadoor", sum := "2abec1fcf85ca7cc72a1a85263e3e3aa63f10e0a71c7abff8fdec99496c9d096", func := "gudgeon/gudgeonlaw06.SexpReads", spec := "sexpReads", inPlace := ["internal/bytealg.IndexByteString", "internal/bytealg.IndexString", "internal/bytealg.CountString", "internal/abi.NoEscape", "internal/bytealg.MakeNoZero"], unfollowed := true, recurses := true, named := ["internal/bytealg.MaxLen", "unicode/utf8.first", "unicode/utf8.acceptRanges"], apart := false, laid := [("unicode/utf8.acceptRanges", laid_unicode_utf8_acceptRanges), ("unicode/utf8.first", laid_unicode_utf8_first)] }
def SexpReadsSaid : Prop := sexpReadsRow.holds Tryd.pinned (OpenSpec.ofChange sexpReadsSpec)

/-- ITS FALSE NEIGHBOUR: 'it returns false'. Refute it at one input. -/
def sexpReadsWrong : ChangeSpec := { name := "sexpReads", fn := fun _ => fun
  | [d] => { results := [.lit (.bool false)], args := [d] }
  | _ => none }
def SexpReadsWrongFalsely : Prop := sexpReadsRow.holds Tryd.pinned (OpenSpec.ofChange sexpReadsWrong)

/-- 'gudgeonlaw06.SexpPrints': WHATEVER THE INPUT: true; the input reads as it did. -/
def sexpPrintsSpec : ChangeSpec := { name := "sexpPrints", fn := fun _ => fun
  | [d] => { results := [.lit (.bool true)], args := [d] }
  | _ => none }
def sexpPrintsRow : OpenClaim := { program := "ytpjdfogieiokkaadoor", sum := "2abec1fcf85ca7cc72a1a85263e3e3aa63f10e0a71c7abff8fdec99496c9d096", func := "gudgeon/gudgeonlaw06.SexpPrints", spec := "sexpPrints", inPlace := ["internal/bytealg.IndexByteString", "internal/bytealg.IndexString", "internal/bytealg.CountString", "internal/abi.NoEscape", "internal/bytealg.MakeNoZero"], unfollowed := true, recurses := true, named := ["internal/bytealg.MaxLen", "unicode/utf8.first", "unicode/utf8.acceptRanges"], loops := true, apart := false, laid := [("unicode/utf8.acceptRanges", laid_unicode_utf8_acceptRanges), ("unicode/utf8.first", laid_unicode_utf8_first)] }
def SexpPrintsSaid : Prop := sexpPrintsRow.holds Tryd.pinned (OpenSpec.ofChange sexpPrintsSpec)

/-- ITS FALSE NEIGHBOUR: 'it returns false'. Refute it at one input. -/
def sexpPrintsWrong : ChangeSpec := { name := "sexpPrints", fn := fun _ => fun
  | [d] => { results := [.lit (.bool false)], args := [d] }
  | _ => none }
def SexpPrintsWrongFalsely : Prop := sexpPrintsRow.holds Tryd.pinned (OpenSpec.ofChange sexpPrintsWrong)

/-- 'gudgeonlaw06.SexpBack': WHATEVER THE INPUT: true; the input reads as it did. -/
def sexpBackSpec : ChangeSpec := { name := "sexpBack", fn := fun _ => fun
  | [d] => { results := [.lit (.bool true)], args := [d] }
  | _ => none }
def sexpBackRow : OpenClaim := { program := "ytpjdfogieiokkaadoor", sum := "2abec1fcf85ca7cc72a1a85263e3e3aa63f10e0a71c7abff8fdec99496c9d096", func := "gudgeon/gudgeonlaw06.SexpBack", spec := "sexpBack", inPlace := ["internal/bytealg.IndexByteString", "internal/bytealg.IndexString", "internal/bytealg.CountString", "internal/abi.NoEscape", "internal/bytealg.MakeNoZero"], unfollowed := true, recurses := true, named := ["internal/bytealg.MaxLen", "unicode/utf8.first", "unicode/utf8.acceptRanges"], loops := true, apart := false, laid := [("unicode/utf8.acceptRanges", laid_unicode_utf8_acceptRanges), ("unicode/utf8.first", laid_unicode_utf8_first)] }
def SexpBackSaid : Prop := sexpBackRow.holds Tryd.pinned (OpenSpec.ofChange sexpBackSpec)

/-- ITS FALSE NEIGHBOUR: 'it returns false'. Refute it at one input. -/
def sexpBackWrong : ChangeSpec := { name := "sexpBack", fn := fun _ => fun
  | [d] => { results := [.lit (.bool false)], args := [d] }
  | _ => none }
def SexpBackWrongFalsely : Prop := sexpBackRow.holds Tryd.pinned (OpenSpec.ofChange sexpBackWrong)

/-- 'gudgeonlaw06.SexpAgain': WHATEVER THE INPUT: true; the input reads as it did. -/
def sexpAgainSpec : ChangeSpec := { name := "sexpAgain", fn := fun _ => fun
  | [d] => { results := [.lit (.bool true)], args := [d] }
  | _ => none }
def sexpAgainRow : OpenClaim := { program := "ytpjdfogieiokkaadoor", sum := "2abec1fcf85ca7cc72a1a85263e3e3aa63f10e0a71c7abff8fdec99496c9d096", func := "gudgeon/gudgeonlaw06.SexpAgain", spec := "sexpAgain", inPlace := ["internal/bytealg.IndexByteString", "internal/bytealg.IndexString", "internal/bytealg.CountString", "internal/abi.NoEscape", "internal/bytealg.MakeNoZero"], unfollowed := true, recurses := true, named := ["internal/bytealg.MaxLen", "unicode/utf8.first", "unicode/utf8.acceptRanges"], apart := false, laid := [("unicode/utf8.acceptRanges", laid_unicode_utf8_acceptRanges), ("unicode/utf8.first", laid_unicode_utf8_first)] }
def SexpAgainSaid : Prop := sexpAgainRow.holds Tryd.pinned (OpenSpec.ofChange sexpAgainSpec)

/-- ITS FALSE NEIGHBOUR: 'it returns false'. Refute it at one input. -/
def sexpAgainWrong : ChangeSpec := { name := "sexpAgain", fn := fun _ => fun
  | [d] => { results := [.lit (.bool false)], args := [d] }
  | _ => none }
def SexpAgainWrongFalsely : Prop := sexpAgainRow.holds Tryd.pinned (OpenSpec.ofChange sexpAgainWrong)

/-- 'gudgeonlaw06.SexpHeads': WHATEVER THE INPUT: true; the input reads as it did. -/
def sexpHeadsSpec : ChangeSpec := { name := "sexpHeads", fn := fun _ => fun
  | [d1, d2] => { results := [.lit (.bool true)], args := [d1, d2] }
  | _ => none }
def sexpHeadsRow : OpenClaim := { program := "ytpjdfogieiokkaadoor", sum := "2abec1fcf85ca7cc72a1a85263e3e3aa63f10e0a71c7abff8fdec99496c9d096", func := "gudgeon/gudgeonlaw06.SexpHeads", spec := "sexpHeads", inPlace := ["internal/bytealg.IndexByteString", "internal/bytealg.IndexString", "internal/bytealg.CountString", "internal/abi.NoEscape", "internal/bytealg.MakeNoZero"], unfollowed := true, recurses := true, named := ["internal/bytealg.MaxLen", "unicode/utf8.first", "unicode/utf8.acceptRanges"], apart := false, laid := [("unicode/utf8.acceptRanges", laid_unicode_utf8_acceptRanges), ("unicode/utf8.first", laid_unicode_utf8_first)] }
def SexpHeadsSaid : Prop := sexpHeadsRow.holds Tryd.pinned (OpenSpec.ofChange sexpHeadsSpec)

/-- ITS FALSE NEIGHBOUR: 'it returns false'. Refute it at one input. -/
def sexpHeadsWrong : ChangeSpec := { name := "sexpHeads", fn := fun _ => fun
  | [d1, d2] => { results := [.lit (.bool false)], args := [d1, d2] }
  | _ => none }
def SexpHeadsWrongFalsely : Prop := sexpHeadsRow.holds Tryd.pinned (OpenSpec.ofChange sexpHeadsWrong)

/- THE SECOND FORM. 'bulk': how many values and letters a reading holds, each counted each time it is reached (what is shared counts as often as it is met; a slice's spare places count too). A statement '..UptoSaid' is the law's where the arguments, and the package variables that the reading takes, are together of bulk at most 1048576: NARROWER than '..Said'. Prove '..Said' where nothing that the law and all that it calls make is longer than what came in: it says more and counts as full. Else prove '..UptoSaid'. A law counts once. -/
mutual
def uptoBulk {H : Type} : DataW H → Nat
  | .lit (.string bytes) => bytes.length + 1
  | .lit _ => 1
  | .nil => 1
  | .ptr d => uptoBulk d + 1
  | .slice elems spare => uptoBulkAll elems + uptoBulkAll spare + 1
  | .agg parts => uptoBulkAll parts + 1
  | .iface _ d => uptoBulk d + 1
  | .map entries => uptoBulkEntries entries + 1
  | .held _ => 1
def uptoBulkAll {H : Type} : List (DataW H) → Nat
  | [] => 0
  | d :: r => uptoBulk d + uptoBulkAll r
def uptoBulkEntries {H : Type} : List (Lit × DataW H) → Nat
  | [] => 0
  | x :: r => uptoBulkEntry x + uptoBulkEntries r
def uptoBulkEntry {H : Type} : Lit × DataW H → Nat
  | (.string bytes, d) => bytes.length + uptoBulk d + 1
  | (_, d) => uptoBulk d + 1
 end
def uptoSmall : (H : Type) → List (DataW H) → Bool := fun _ ds => decide (uptoBulkAll ds ≤ 1048576)
def OpenSpec.upto (s : _root_.Go.ChangeSpec) : _root_.Go.OpenSpec := { _root_.Go.OpenSpec.ofChange s with cond := some uptoSmall }

/-- 'gudgeonlaw06.SexpParses', WHERE WHAT IT READS IS OF BULK AT MOST 1048576: true; the input reads as it did. -/
def sexpParsesUptoRow : OpenClaim := { program := "ytpjdfogieiokkaadoor", sum := "2abec1fcf85ca7cc72a1a85263e3e3aa63f10e0a71c7abff8fdec99496c9d096", func := "gudgeon/gudgeonlaw06.SexpParses", spec := "sexpParses", inPlace := ["internal/bytealg.IndexByteString", "internal/bytealg.IndexString", "internal/bytealg.CountString", "internal/abi.NoEscape", "internal/bytealg.MakeNoZero"], unfollowed := true, recurses := true, named := ["internal/bytealg.MaxLen", "unicode/utf8.first", "unicode/utf8.acceptRanges"], apart := false, laid := [("unicode/utf8.acceptRanges", laid_unicode_utf8_acceptRanges), ("unicode/utf8.first", laid_unicode_utf8_first)], narrowed := true }
def SexpParsesUptoSaid : Prop := sexpParsesUptoRow.holds Tryd.pinned (OpenSpec.upto sexpParsesSpec)

/-- 'gudgeonlaw06.SexpReads', WHERE WHAT IT READS IS OF BULK AT MOST 1048576: true; the input reads as it did. -/
def sexpReadsUptoRow : OpenClaim := { program := "ytpjdfogieiokkaadoor", sum := "2abec1fcf85ca7cc72a1a85263e3e3aa63f10e0a71c7abff8fdec99496c9d096", func := "gudgeon/gudgeonlaw06.SexpReads", spec := "sexpReads", inPlace := ["internal/bytealg.IndexByteString", "internal/bytealg.IndexString", "internal/bytealg.CountString", "internal/abi.NoEscape", "internal/bytealg.MakeNoZero"], unfollowed := true, recurses := true, named := ["internal/bytealg.MaxLen", "unicode/utf8.first", "unicode/utf8.acceptRanges"], apart := false, laid := [("unicode/utf8.acceptRanges", laid_unicode_utf8_acceptRanges), ("unicode/utf8.first", laid_unicode_utf8_first)], narrowed := true }
def SexpReadsUptoSaid : Prop := sexpReadsUptoRow.holds Tryd.pinned (OpenSpec.upto sexpReadsSpec)

/-- 'gudgeonlaw06.SexpPrints', WHERE WHAT IT READS IS OF BULK AT MOST 1048576: true; the input reads as it did. -/
def sexpPrintsUptoRow : OpenClaim := { program := "ytpjdfogieiokkaadoor", sum := "2abec1fcf85ca7cc72a1a85263e3e3aa63f10e0a71c7abff8fdec99496c9d096", func := "gudgeon/gudgeonlaw06.SexpPrints", spec := "sexpPrints", inPlace := ["internal/bytealg.IndexByteString", "internal/bytealg.IndexString", "internal/bytealg.CountString", "internal/abi.NoEscape", "internal/bytealg.MakeNoZero"], unfollowed := true, recurses := true, named := ["internal/bytealg.MaxLen", "unicode/utf8.first", "unicode/utf8.acceptRanges"], loops := true, apart := false, laid := [("unicode/utf8.acceptRanges", laid_unicode_utf8_acceptRanges), ("unicode/utf8.first", laid_unicode_utf8_first)], narrowed := true }
def SexpPrintsUptoSaid : Prop := sexpPrintsUptoRow.holds Tryd.pinned (OpenSpec.upto sexpPrintsSpec)

/-- 'gudgeonlaw06.SexpBack', WHERE WHAT IT READS IS OF BULK AT MOST 1048576: true; the input reads as it did. -/
def sexpBackUptoRow : OpenClaim := { program := "ytpjdfogieiokkaadoor", sum := "2abec1fcf85ca7cc72a1a85263e3e3aa63f10e0a71c7abff8fdec99496c9d096", func := "gudgeon/gudgeonlaw06.SexpBack", spec := "sexpBack", inPlace := ["internal/bytealg.IndexByteString", "internal/bytealg.IndexString", "internal/bytealg.CountString", "internal/abi.NoEscape", "internal/bytealg.MakeNoZero"], unfollowed := true, recurses := true, named := ["internal/bytealg.MaxLen", "unicode/utf8.first", "unicode/utf8.acceptRanges"], loops := true, apart := false, laid := [("unicode/utf8.acceptRanges", laid_unicode_utf8_acceptRanges), ("unicode/utf8.first", laid_unicode_utf8_first)], narrowed := true }
def SexpBackUptoSaid : Prop := sexpBackUptoRow.holds Tryd.pinned (OpenSpec.upto sexpBackSpec)

/-- 'gudgeonlaw06.SexpAgain', WHERE WHAT IT READS IS OF BULK AT MOST 1048576: true; the input reads as it did. -/
def sexpAgainUptoRow : OpenClaim := { program := "ytpjdfogieiokkaadoor", sum := "2abec1fcf85ca7cc72a1a85263e3e3aa63f10e0a71c7abff8fdec99496c9d096", func := "gudgeon/gudgeonlaw06.SexpAgain", spec := "sexpAgain", inPlace := ["internal/bytealg.IndexByteString", "internal/bytealg.IndexString", "internal/bytealg.CountString", "internal/abi.NoEscape", "internal/bytealg.MakeNoZero"], unfollowed := true, recurses := true, named := ["internal/bytealg.MaxLen", "unicode/utf8.first", "unicode/utf8.acceptRanges"], apart := false, laid := [("unicode/utf8.acceptRanges", laid_unicode_utf8_acceptRanges), ("unicode/utf8.first", laid_unicode_utf8_first)], narrowed := true }
def SexpAgainUptoSaid : Prop := sexpAgainUptoRow.holds Tryd.pinned (OpenSpec.upto sexpAgainSpec)

/-- 'gudgeonlaw06.SexpHeads', WHERE WHAT IT READS IS OF BULK AT MOST 1048576: true; the input reads as it did. -/
def sexpHeadsUptoRow : OpenClaim := { program := "ytpjdfogieiokkaadoor", sum := "2abec1fcf85ca7cc72a1a85263e3e3aa63f10e0a71c7abff8fdec99496c9d096", func := "gudgeon/gudgeonlaw06.SexpHeads", spec := "sexpHeads", inPlace := ["internal/bytealg.IndexByteString", "internal/bytealg.IndexString", "internal/bytealg.CountString", "internal/abi.NoEscape", "internal/bytealg.MakeNoZero"], unfollowed := true, recurses := true, named := ["internal/bytealg.MaxLen", "unicode/utf8.first", "unicode/utf8.acceptRanges"], apart := false, laid := [("unicode/utf8.acceptRanges", laid_unicode_utf8_acceptRanges), ("unicode/utf8.first", laid_unicode_utf8_first)], narrowed := true }
def SexpHeadsUptoSaid : Prop := sexpHeadsUptoRow.holds Tryd.pinned (OpenSpec.upto sexpHeadsSpec)

end Rows
end Go.Proofs.YtpjdfogieiokkaaDoor
