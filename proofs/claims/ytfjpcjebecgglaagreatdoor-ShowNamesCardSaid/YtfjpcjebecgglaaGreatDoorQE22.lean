/- What the proofs of this claim use, text by text. -/
import Derived.Test.YtfjpcjebecgglaaGreatDoorQE14
import Derived.Laws.AppendOwnNone
import Derived.BigQuiet
import Derived.OrdersIn
import Derived.RangeFuncCalls
import Derived.StillTail
import Derived.TacticsIn
import Derived.Lib.ItoaLen
import Derived.Test.YtfjpcjebecgglaaGreatDoorRows
import Derived.Deep.Slices
import Derived.Deep.Fields
import Derived.ChangeSame
import Derived.ProofKit
import Derived.OpenShut
import Derived.WalkSpells
import Derived.WalkLawsBesides
import Derived.Defers
import Derived.Recover
import Derived.Lib.SlicesS
import Derived.Maps.OwnOps
import Derived.Laws.StructEq
import Derived.DeepKeys4
import Derived.MapViews
import Derived.StillTailTactics
import Derived.Outline
import Derived.OwnWalk
import Derived.Deep.RegionLaw
import Derived.Lib.AppendIntMem
import Derived.Lib.Slices
import Derived.Laws.IdiomStrings
import Derived.WalkKit
import Derived.BigCall
import Derived.Deep.RegionHeld3
import Derived.Lib.LaidTab
import Derived.Stop.LaidErr
import Derived.Maps.OwnRows
import Derived.WalkSmall
import Derived.Laws.OwnMore
import Derived.Deep.CutBlock
import Derived.Deep.DeepCutAuto
import Derived.WideShapes
set_option linter.unusedSimpArgs false
set_option linter.unusedVariables false
set_option maxRecDepth 100000
set_option maxHeartbeats 25600000
namespace Go.Proofs.YtfjpcjebecgglaaGreatDoor
structure Nd where
  op : Int
  sort : Int
  a : List Int
  name : ByteArray
  num : Nat
  str : List (Int × Int)
end Go.Proofs.YtfjpcjebecgglaaGreatDoor
namespace Go.Proofs.YtfjpcjebecgglaaGreatDoor
structure Dc where
  name : ByteArray
  sort : Int
  mac : Bool
  par : List (ByteArray × Int)
  body : Sx
abbrev Sc := List (ByteArray × Int)
def Bd.opNames : List (List UInt8) := [[110, 111, 116], [97, 110, 100], [111, 114], [61, 62], [120, 111, 114], [61], [100, 105, 115, 116, 105, 110, 99, 116], [105, 116, 101], [], [43], [45], [42], [60, 61], [60], [62, 61], [62], [115, 116, 114, 46, 43, 43], [115, 116, 114, 46, 108, 101, 110], [115, 116, 114, 46, 97, 116], [115, 116, 114, 46, 115, 117, 98, 115, 116, 114], [115, 116, 114, 46, 112, 114, 101, 102, 105, 120, 111, 102], [115, 116, 114, 46, 115, 117, 102, 102, 105, 120, 111, 102], [115, 116, 114, 46, 99, 111, 110, 116, 97, 105, 110, 115], [115, 116, 114, 46, 105, 110, 100, 101, 120, 111, 102], [115, 116, 114, 46, 114, 101, 112, 108, 97, 99, 101]]
def Bd.resNames : List (List UInt8) := [[116, 114, 117, 101], [102, 97, 108, 115, 101], [108, 101, 116], [102, 111, 114, 97, 108, 108], [101, 120, 105, 115, 116, 115], [109, 97, 116, 99, 104], [112, 97, 114], [33], [95], [97, 115], [100, 105, 118], [109, 111, 100], [97, 98, 115]]
def Bd.op (s : List UInt8) (n : Nat) : Int :=
  if s = [45] ∧ n = 1 then 14 else if s = [] then 0 else match Bd.opNames.findIdx? (fun t => t == s) with
    | some i => 6 + (i : Int)
    | none => 0
def Bd.reserved (s : List UInt8) : Bool := Bd.resNames.contains s || decide (s.take 4 = [115, 116, 114, 46]) || decide (s.take 3 = [114, 101, 46]) || decide (Bd.op s 2 ≠ 0)
end Go.Proofs.YtfjpcjebecgglaaGreatDoor
namespace Go.Proofs.YtfjpcjebecgglaaGreatDoor
inductive Kt
  | none
  | op (o : Int)
  | fn (j : Nat)
  | bind (names : List ByteArray) (t : Sx)
  | first
  | memo (j : Nat) (A : List Int)
structure Scp where
  terms : Sc
  body : Bool
  ahead : Nat
structure Fr where
  parts : List Sx
  ids : List Int
  th : Kt
  sc : Nat
  dp : Nat
structure Ms where
  N : List Nd
  made : List (Nat × List Int × Int)
  sc : List Scp
  fr : List Fr
end Go.Proofs.YtfjpcjebecgglaaGreatDoor
namespace Go.Proofs.YtfjpcjebecgglaaGreatDoor
open Go.RowKit
theorem sgn_neg {z : Int} : (Z.sgn z < 0) ↔ z < 0 := by
  rcases Z.sgn_cases z with ⟨h1, h2⟩ | ⟨h1, h2⟩ | ⟨h1, h2⟩ <;> rw [h2] <;> omega
end Go.Proofs.YtfjpcjebecgglaaGreatDoor
namespace Go.Proofs.YtfjpcjebecgglaaGreatDoor
open Go.RowKit
structure DcP where
  A : Option Addr
  c : Nat
  B : Option Addr
  d : Nat
end Go.Proofs.YtfjpcjebecgglaaGreatDoor
namespace Go.Proofs.YtfjpcjebecgglaaGreatDoor
open Go.RowKit
structure FrP where
  pA : Option Addr
  pc : Nat
  iA : Option Addr
  ic : Nat
  v : Value
structure Mk.Env where
  w0 : World
  A : Option Addr
  n : Nat
  c : Nat
  L : List (DcP × Dc)
  v : World
  P : Nat → Prop
  pb : Nat
  bk : Nat
structure Mk.Lay where
  mb : Nat
  sA : Option Addr
  sc : Nat
  fA : Option Addr
  fc : Nat
  Fb : Nat → Prop
  SL : List (Value × Scp)
  FL : List (FrP × Fr)
section
variable {E : Mk.Env} {w w' : World} {M : Nat} {Y : Mk.Lay} {s : Ms}
end
end Go.Proofs.YtfjpcjebecgglaaGreatDoor
namespace Go.Proofs.YtfjpcjebecgglaaGreatDoor
open Go.RowKit
def Pl (D : List Dc) (s : ByteArray) (k : Nat) : List Int := ((List.range k).filter fun i => decide (D[i]?.map (·.name) = some s)).map fun (i : Nat) => (i : Int)
end Go.Proofs.YtfjpcjebecgglaaGreatDoor
namespace Go.Proofs.YtfjpcjebecgglaaGreatDoor
open Go.RowKit Go.Shelf
theorem lit_no {s : ByteArray} {l : List UInt8} (h : ¬ s.data.toList = l) : (s.toList == l) = false := by rw [ByteArray.toList_eq]; exact beq_eq_false_iff_ne.2 h
theorem lit_yes {s : ByteArray} {l : List UInt8} (h : s.data.toList = l) : (s.toList == l) = true := by rw [ByteArray.toList_eq]; exact beq_iff_eq.2 h
theorem Bd.op_none {s : List UInt8} {n : Nat} (h : s ∉ Bd.opNames) : Bd.op s n = 0 := by
  have h1 : s ≠ [45] := fun e => h (by rw [e]; decide)
  unfold Bd.op
  rw [if_neg fun e => h1 e.1]
  split
  · rfl
  · have : List.findIdx? (fun t => t == s) Bd.opNames = none := by
      rw [List.findIdx?_eq_none_iff]
      intro x hx
      rw [beq_eq_false_iff_ne]
      exact fun e => h (e ▸ hx)
    rw [this]
theorem Bd.op_zero (s : List UInt8) : Bd.op s 0 = Bd.op s 2 := by unfold Bd.op; simp
theorem ktextop (s : ByteArray) (w : World) (hno : s.data.toList ≠ [110, 111, 116] ∧ s.data.toList ≠ [97, 110, 100] ∧ s.data.toList ≠ [111, 114] ∧ s.data.toList ≠ [61, 62] ∧ s.data.toList ≠ [120, 111, 114] ∧ s.data.toList ≠ [61] ∧ s.data.toList ≠ [100, 105, 115, 116, 105, 110, 99, 116] ∧ s.data.toList ≠ [105, 116, 101] ∧ s.data.toList ≠ [43] ∧ s.data.toList ≠ [45] ∧ s.data.toList ≠ [42] ∧ s.data.toList ≠ [60, 61] ∧ s.data.toList ≠ [60] ∧ s.data.toList ≠ [62, 61] ∧ s.data.toList ≠ [62]) :
    Calls Tryz.prog 92 #[.string s] w fun e w' => e = .returned (.int .i64 (Bd.op s.data.toList 0)) ∧ w' = w := by
  obtain ⟨n0, n1, n2, n3, n4, n5, n6, n7, n8, n9, n10, n11, n12, n13, n14⟩ := hno
  by_cases h0 : s.data.toList = [115, 116, 114, 46, 43, 43]
  · rw [h0]
    have e : Bd.op [115, 116, 114, 46, 43, 43] 0 = 22 := by decide
    rw [e]
    have b0 := lit_yes h0
    clear n0 n1 n2 n3 n4 n5 n6 n7 n8 n9 n10 n11 n12 n13 n14 h0
    go_enter Tryz.func92, Tryz.ntmps92
    go_wp2
    go_ret
    exact ⟨rfl, rfl⟩
  have b0 := lit_no h0
  by_cases h1 : s.data.toList = [115, 116, 114, 46, 108, 101, 110]
  · rw [h1]
    have e : Bd.op [115, 116, 114, 46, 108, 101, 110] 0 = 23 := by decide
    rw [e]
    have b1 := lit_yes h1
    clear n0 n1 n2 n3 n4 n5 n6 n7 n8 n9 n10 n11 n12 n13 n14 h1
    go_enter Tryz.func92, Tryz.ntmps92
    go_wp2
    go_ret
    exact ⟨rfl, rfl⟩
  have b1 := lit_no h1
  by_cases h2 : s.data.toList = [115, 116, 114, 46, 97, 116]
  · rw [h2]
    have e : Bd.op [115, 116, 114, 46, 97, 116] 0 = 24 := by decide
    rw [e]
    have b2 := lit_yes h2
    clear n0 n1 n2 n3 n4 n5 n6 n7 n8 n9 n10 n11 n12 n13 n14 h2
    go_enter Tryz.func92, Tryz.ntmps92
    go_wp2
    go_ret
    exact ⟨rfl, rfl⟩
  have b2 := lit_no h2
  by_cases h3 : s.data.toList = [115, 116, 114, 46, 115, 117, 98, 115, 116, 114]
  · rw [h3]
    have e : Bd.op [115, 116, 114, 46, 115, 117, 98, 115, 116, 114] 0 = 25 := by decide
    rw [e]
    have b3 := lit_yes h3
    clear n0 n1 n2 n3 n4 n5 n6 n7 n8 n9 n10 n11 n12 n13 n14 h3
    go_enter Tryz.func92, Tryz.ntmps92
    go_wp2
    go_ret
    exact ⟨rfl, rfl⟩
  have b3 := lit_no h3
  by_cases h4 : s.data.toList = [115, 116, 114, 46, 112, 114, 101, 102, 105, 120, 111, 102]
  · rw [h4]
    have e : Bd.op [115, 116, 114, 46, 112, 114, 101, 102, 105, 120, 111, 102] 0 = 26 := by decide
    rw [e]
    have b4 := lit_yes h4
    clear n0 n1 n2 n3 n4 n5 n6 n7 n8 n9 n10 n11 n12 n13 n14 h4
    go_enter Tryz.func92, Tryz.ntmps92
    go_wp2
    go_ret
    exact ⟨rfl, rfl⟩
  have b4 := lit_no h4
  by_cases h5 : s.data.toList = [115, 116, 114, 46, 115, 117, 102, 102, 105, 120, 111, 102]
  · rw [h5]
    have e : Bd.op [115, 116, 114, 46, 115, 117, 102, 102, 105, 120, 111, 102] 0 = 27 := by decide
    rw [e]
    have b5 := lit_yes h5
    clear n0 n1 n2 n3 n4 n5 n6 n7 n8 n9 n10 n11 n12 n13 n14 h5
    go_enter Tryz.func92, Tryz.ntmps92
    go_wp2
    go_ret
    exact ⟨rfl, rfl⟩
  have b5 := lit_no h5
  by_cases h6 : s.data.toList = [115, 116, 114, 46, 99, 111, 110, 116, 97, 105, 110, 115]
  · rw [h6]
    have e : Bd.op [115, 116, 114, 46, 99, 111, 110, 116, 97, 105, 110, 115] 0 = 28 := by decide
    rw [e]
    have b6 := lit_yes h6
    clear n0 n1 n2 n3 n4 n5 n6 n7 n8 n9 n10 n11 n12 n13 n14 h6
    go_enter Tryz.func92, Tryz.ntmps92
    go_wp2
    go_ret
    exact ⟨rfl, rfl⟩
  have b6 := lit_no h6
  by_cases h7 : s.data.toList = [115, 116, 114, 46, 105, 110, 100, 101, 120, 111, 102]
  · rw [h7]
    have e : Bd.op [115, 116, 114, 46, 105, 110, 100, 101, 120, 111, 102] 0 = 29 := by decide
    rw [e]
    have b7 := lit_yes h7
    clear n0 n1 n2 n3 n4 n5 n6 n7 n8 n9 n10 n11 n12 n13 n14 h7
    go_enter Tryz.func92, Tryz.ntmps92
    go_wp2
    go_ret
    exact ⟨rfl, rfl⟩
  have b7 := lit_no h7
  by_cases h8 : s.data.toList = [115, 116, 114, 46, 114, 101, 112, 108, 97, 99, 101]
  · rw [h8]
    have e : Bd.op [115, 116, 114, 46, 114, 101, 112, 108, 97, 99, 101] 0 = 30 := by decide
    rw [e]
    have b8 := lit_yes h8
    clear n0 n1 n2 n3 n4 n5 n6 n7 n8 n9 n10 n11 n12 n13 n14 h8
    go_enter Tryz.func92, Tryz.ntmps92
    go_wp2
    go_ret
    exact ⟨rfl, rfl⟩
  have b8 := lit_no h8
  by_cases h9 : s.data.toList = []
  · have e : Bd.op s.data.toList 0 = 0 := by rw [h9]; decide
    rw [e]
    clear n0 n1 n2 n3 n4 n5 n6 n7 n8 n9 n10 n11 n12 n13 n14 h0 h1 h2 h3 h4 h5 h6 h7 h8 h9
    go_enter Tryz.func92, Tryz.ntmps92
    go_wp2
    go_ret
    exact ⟨rfl, rfl⟩
  have e : Bd.op s.data.toList 0 = 0 := Bd.op_none (by simp [Bd.opNames, n0, n1, n2, n3, n4, n5, n6, n7, n8, n9, n10, n11, n12, n13, n14, h0, h1, h2, h3, h4, h5, h6, h7, h8, h9])
  rw [e]
  clear n0 n1 n2 n3 n4 n5 n6 n7 n8 n9 n10 n11 n12 n13 n14 h0 h1 h2 h3 h4 h5 h6 h7 h8 h9
  go_enter Tryz.func92, Tryz.ntmps92
  go_wp2
  go_ret
  exact ⟨rfl, rfl⟩
theorem Bd.op_any {s : List UInt8} (h : s ≠ [45]) (n : Nat) : Bd.op s n = Bd.op s 0 := by unfold Bd.op; simp [h]
theorem koperation (s : ByteArray) (n : Nat) (w : World) :
    Calls Tryz.prog 54 #[.string s, .int .i64 (n : Int)] w fun e w' => e = .returned (.int .i64 (Bd.op s.data.toList n)) ∧ w' = w := by
  by_cases h0 : s.data.toList = [110, 111, 116]
  · rw [Bd.op_any (by rw [h0]; decide) n, h0]
    have e : Bd.op [110, 111, 116] 0 = 6 := by decide
    rw [e]
    have b0 := lit_yes h0
    clear h0
    go_enter Tryz.func54, Tryz.ntmps54
    go_wp2
    go_ret
    exact ⟨rfl, rfl⟩
  have b0 := lit_no h0
  by_cases h1 : s.data.toList = [97, 110, 100]
  · rw [Bd.op_any (by rw [h1]; decide) n, h1]
    have e : Bd.op [97, 110, 100] 0 = 7 := by decide
    rw [e]
    have b1 := lit_yes h1
    clear h0 h1
    go_enter Tryz.func54, Tryz.ntmps54
    go_wp2
    go_ret
    exact ⟨rfl, rfl⟩
  have b1 := lit_no h1
  by_cases h2 : s.data.toList = [111, 114]
  · rw [Bd.op_any (by rw [h2]; decide) n, h2]
    have e : Bd.op [111, 114] 0 = 8 := by decide
    rw [e]
    have b2 := lit_yes h2
    clear h0 h1 h2
    go_enter Tryz.func54, Tryz.ntmps54
    go_wp2
    go_ret
    exact ⟨rfl, rfl⟩
  have b2 := lit_no h2
  by_cases h3 : s.data.toList = [61, 62]
  · rw [Bd.op_any (by rw [h3]; decide) n, h3]
    have e : Bd.op [61, 62] 0 = 9 := by decide
    rw [e]
    have b3 := lit_yes h3
    clear h0 h1 h2 h3
    go_enter Tryz.func54, Tryz.ntmps54
    go_wp2
    go_ret
    exact ⟨rfl, rfl⟩
  have b3 := lit_no h3
  by_cases h4 : s.data.toList = [120, 111, 114]
  · rw [Bd.op_any (by rw [h4]; decide) n, h4]
    have e : Bd.op [120, 111, 114] 0 = 10 := by decide
    rw [e]
    have b4 := lit_yes h4
    clear h0 h1 h2 h3 h4
    go_enter Tryz.func54, Tryz.ntmps54
    go_wp2
    go_ret
    exact ⟨rfl, rfl⟩
  have b4 := lit_no h4
  by_cases h5 : s.data.toList = [61]
  · rw [Bd.op_any (by rw [h5]; decide) n, h5]
    have e : Bd.op [61] 0 = 11 := by decide
    rw [e]
    have b5 := lit_yes h5
    clear h0 h1 h2 h3 h4 h5
    go_enter Tryz.func54, Tryz.ntmps54
    go_wp2
    go_ret
    exact ⟨rfl, rfl⟩
  have b5 := lit_no h5
  by_cases h6 : s.data.toList = [100, 105, 115, 116, 105, 110, 99, 116]
  · rw [Bd.op_any (by rw [h6]; decide) n, h6]
    have e : Bd.op [100, 105, 115, 116, 105, 110, 99, 116] 0 = 12 := by decide
    rw [e]
    have b6 := lit_yes h6
    clear h0 h1 h2 h3 h4 h5 h6
    go_enter Tryz.func54, Tryz.ntmps54
    go_wp2
    go_ret
    exact ⟨rfl, rfl⟩
  have b6 := lit_no h6
  by_cases h7 : s.data.toList = [105, 116, 101]
  · rw [Bd.op_any (by rw [h7]; decide) n, h7]
    have e : Bd.op [105, 116, 101] 0 = 13 := by decide
    rw [e]
    have b7 := lit_yes h7
    clear h0 h1 h2 h3 h4 h5 h6 h7
    go_enter Tryz.func54, Tryz.ntmps54
    go_wp2
    go_ret
    exact ⟨rfl, rfl⟩
  have b7 := lit_no h7
  by_cases h8 : s.data.toList = [43]
  · rw [Bd.op_any (by rw [h8]; decide) n, h8]
    have e : Bd.op [43] 0 = 15 := by decide
    rw [e]
    have b8 := lit_yes h8
    clear h0 h1 h2 h3 h4 h5 h6 h7 h8
    go_enter Tryz.func54, Tryz.ntmps54
    go_wp2
    go_ret
    exact ⟨rfl, rfl⟩
  have b8 := lit_no h8
  by_cases h9 : s.data.toList = [45]
  · by_cases hn : n = 1
    · subst hn
      rw [h9]
      have e : Bd.op [45] 1 = 14 := by decide
      rw [e]
      have b9 := lit_yes h9
      clear h0 h1 h2 h3 h4 h5 h6 h7 h8 h9
      go_enter Tryz.func54, Tryz.ntmps54
      go_wp2
      go_ret
      exact ⟨rfl, rfl⟩
    · have e : Bd.op [45] n = 16 := by unfold Bd.op; rw [if_neg fun e => hn e.2]; decide
      rw [h9, e]
      have b9 := lit_yes h9
      have hn1 : ((n : Int) == 1) = false := beq_eq_false_iff_ne.2 (by omega)
      clear h0 h1 h2 h3 h4 h5 h6 h7 h8 h9
      go_enter Tryz.func54, Tryz.ntmps54
      go_wp2
      go_ret
      exact ⟨rfl, rfl⟩
  have b9 := lit_no h9
  by_cases h10 : s.data.toList = [42]
  · rw [Bd.op_any (by rw [h10]; decide) n, h10]
    have e : Bd.op [42] 0 = 17 := by decide
    rw [e]
    have b10 := lit_yes h10
    clear h0 h1 h2 h3 h4 h5 h6 h7 h8 h9 h10
    go_enter Tryz.func54, Tryz.ntmps54
    go_wp2
    go_ret
    exact ⟨rfl, rfl⟩
  have b10 := lit_no h10
  by_cases h11 : s.data.toList = [60, 61]
  · rw [Bd.op_any (by rw [h11]; decide) n, h11]
    have e : Bd.op [60, 61] 0 = 18 := by decide
    rw [e]
    have b11 := lit_yes h11
    clear h0 h1 h2 h3 h4 h5 h6 h7 h8 h9 h10 h11
    go_enter Tryz.func54, Tryz.ntmps54
    go_wp2
    go_ret
    exact ⟨rfl, rfl⟩
  have b11 := lit_no h11
  by_cases h12 : s.data.toList = [60]
  · rw [Bd.op_any (by rw [h12]; decide) n, h12]
    have e : Bd.op [60] 0 = 19 := by decide
    rw [e]
    have b12 := lit_yes h12
    clear h0 h1 h2 h3 h4 h5 h6 h7 h8 h9 h10 h11 h12
    go_enter Tryz.func54, Tryz.ntmps54
    go_wp2
    go_ret
    exact ⟨rfl, rfl⟩
  have b12 := lit_no h12
  by_cases h13 : s.data.toList = [62, 61]
  · rw [Bd.op_any (by rw [h13]; decide) n, h13]
    have e : Bd.op [62, 61] 0 = 20 := by decide
    rw [e]
    have b13 := lit_yes h13
    clear h0 h1 h2 h3 h4 h5 h6 h7 h8 h9 h10 h11 h12 h13
    go_enter Tryz.func54, Tryz.ntmps54
    go_wp2
    go_ret
    exact ⟨rfl, rfl⟩
  have b13 := lit_no h13
  by_cases h14 : s.data.toList = [62]
  · rw [Bd.op_any (by rw [h14]; decide) n, h14]
    have e : Bd.op [62] 0 = 21 := by decide
    rw [e]
    have b14 := lit_yes h14
    clear h0 h1 h2 h3 h4 h5 h6 h7 h8 h9 h10 h11 h12 h13 h14
    go_enter Tryz.func54, Tryz.ntmps54
    go_wp2
    go_ret
    exact ⟨rfl, rfl⟩
  have b14 := lit_no h14
  rw [Bd.op_any h9 n]
  have HT := Lib.hid fun w => ktextop s w ⟨h0, h1, h2, h3, h4, h5, h6, h7, h8, h9, h10, h11, h12, h13, h14⟩
  clear h0 h1 h2 h3 h4 h5 h6 h7 h8 h9 h10 h11 h12 h13 h14
  generalize Bd.op s.data.toList 0 = r at HT ⊢
  go_enter Tryz.func54, Tryz.ntmps54
  go_wp2_with fail
  refine (HT.out _).mono ?_
  rintro e w1 ⟨rfl, rfl⟩
  clear HT
  go_wp2
  go_ret
  exact ⟨rfl, rfl⟩
theorem hasPrefix_take (l p : List UInt8) : Lib.hasPrefix l p = decide (l.take p.length = p) := by
  unfold Lib.hasPrefix
  rw [Bool.eq_iff_iff, decide_eq_true_eq, List.isPrefixOf_iff_prefix, List.prefix_iff_eq_take]
  exact ⟨Eq.symm, Eq.symm⟩
theorem kreserved (s : ByteArray) (w : World) :
    Calls Tryz.prog 20 #[.string s] w fun e w' => e = .returned (.bool (Bd.reserved s.data.toList)) ∧ w' = w := by
  by_cases h0 : s.data.toList = [116, 114, 117, 101]
  · rw [h0]
    have e : Bd.reserved [116, 114, 117, 101] = true := by decide
    rw [e]
    have b0 := lit_yes h0
    clear h0
    go_enter Tryz.func20, Tryz.ntmps20
    go_wp2
    go_ret
    exact ⟨rfl, rfl⟩
  have b0 := lit_no h0
  by_cases h1 : s.data.toList = [102, 97, 108, 115, 101]
  · rw [h1]
    have e : Bd.reserved [102, 97, 108, 115, 101] = true := by decide
    rw [e]
    have b1 := lit_yes h1
    clear h0 h1
    go_enter Tryz.func20, Tryz.ntmps20
    go_wp2
    go_ret
    exact ⟨rfl, rfl⟩
  have b1 := lit_no h1
  by_cases h2 : s.data.toList = [108, 101, 116]
  · rw [h2]
    have e : Bd.reserved [108, 101, 116] = true := by decide
    rw [e]
    have b2 := lit_yes h2
    clear h0 h1 h2
    go_enter Tryz.func20, Tryz.ntmps20
    go_wp2
    go_ret
    exact ⟨rfl, rfl⟩
  have b2 := lit_no h2
  by_cases h3 : s.data.toList = [102, 111, 114, 97, 108, 108]
  · rw [h3]
    have e : Bd.reserved [102, 111, 114, 97, 108, 108] = true := by decide
    rw [e]
    have b3 := lit_yes h3
    clear h0 h1 h2 h3
    go_enter Tryz.func20, Tryz.ntmps20
    go_wp2
    go_ret
    exact ⟨rfl, rfl⟩
  have b3 := lit_no h3
  by_cases h4 : s.data.toList = [101, 120, 105, 115, 116, 115]
  · rw [h4]
    have e : Bd.reserved [101, 120, 105, 115, 116, 115] = true := by decide
    rw [e]
    have b4 := lit_yes h4
    clear h0 h1 h2 h3 h4
    go_enter Tryz.func20, Tryz.ntmps20
    go_wp2
    go_ret
    exact ⟨rfl, rfl⟩
  have b4 := lit_no h4
  by_cases h5 : s.data.toList = [109, 97, 116, 99, 104]
  · rw [h5]
    have e : Bd.reserved [109, 97, 116, 99, 104] = true := by decide
    rw [e]
    have b5 := lit_yes h5
    clear h0 h1 h2 h3 h4 h5
    go_enter Tryz.func20, Tryz.ntmps20
    go_wp2
    go_ret
    exact ⟨rfl, rfl⟩
  have b5 := lit_no h5
  by_cases h6 : s.data.toList = [112, 97, 114]
  · rw [h6]
    have e : Bd.reserved [112, 97, 114] = true := by decide
    rw [e]
    have b6 := lit_yes h6
    clear h0 h1 h2 h3 h4 h5 h6
    go_enter Tryz.func20, Tryz.ntmps20
    go_wp2
    go_ret
    exact ⟨rfl, rfl⟩
  have b6 := lit_no h6
  by_cases h7 : s.data.toList = [33]
  · rw [h7]
    have e : Bd.reserved [33] = true := by decide
    rw [e]
    have b7 := lit_yes h7
    clear h0 h1 h2 h3 h4 h5 h6 h7
    go_enter Tryz.func20, Tryz.ntmps20
    go_wp2
    go_ret
    exact ⟨rfl, rfl⟩
  have b7 := lit_no h7
  by_cases h8 : s.data.toList = [95]
  · rw [h8]
    have e : Bd.reserved [95] = true := by decide
    rw [e]
    have b8 := lit_yes h8
    clear h0 h1 h2 h3 h4 h5 h6 h7 h8
    go_enter Tryz.func20, Tryz.ntmps20
    go_wp2
    go_ret
    exact ⟨rfl, rfl⟩
  have b8 := lit_no h8
  by_cases h9 : s.data.toList = [97, 115]
  · rw [h9]
    have e : Bd.reserved [97, 115] = true := by decide
    rw [e]
    have b9 := lit_yes h9
    clear h0 h1 h2 h3 h4 h5 h6 h7 h8 h9
    go_enter Tryz.func20, Tryz.ntmps20
    go_wp2
    go_ret
    exact ⟨rfl, rfl⟩
  have b9 := lit_no h9
  by_cases h10 : s.data.toList = [100, 105, 118]
  · rw [h10]
    have e : Bd.reserved [100, 105, 118] = true := by decide
    rw [e]
    have b10 := lit_yes h10
    clear h0 h1 h2 h3 h4 h5 h6 h7 h8 h9 h10
    go_enter Tryz.func20, Tryz.ntmps20
    go_wp2
    go_ret
    exact ⟨rfl, rfl⟩
  have b10 := lit_no h10
  by_cases h11 : s.data.toList = [109, 111, 100]
  · rw [h11]
    have e : Bd.reserved [109, 111, 100] = true := by decide
    rw [e]
    have b11 := lit_yes h11
    clear h0 h1 h2 h3 h4 h5 h6 h7 h8 h9 h10 h11
    go_enter Tryz.func20, Tryz.ntmps20
    go_wp2
    go_ret
    exact ⟨rfl, rfl⟩
  have b11 := lit_no h11
  by_cases h12 : s.data.toList = [97, 98, 115]
  · rw [h12]
    have e : Bd.reserved [97, 98, 115] = true := by decide
    rw [e]
    have b12 := lit_yes h12
    clear h0 h1 h2 h3 h4 h5 h6 h7 h8 h9 h10 h11 h12
    go_enter Tryz.func20, Tryz.ntmps20
    go_wp2
    go_ret
    exact ⟨rfl, rfl⟩
  have b12 := lit_no h12
  have e : Bd.reserved s.data.toList = (decide (Bd.op s.data.toList 0 ≠ 0) || Lib.hasPrefix s.data.toList [115, 116, 114, 46] || Lib.hasPrefix s.data.toList [114, 101, 46]) := by
    rw [hasPrefix_take, hasPrefix_take]
    unfold Bd.reserved
    rw [show Bd.resNames.contains s.data.toList = false by simp [Bd.resNames, h0, h1, h2, h3, h4, h5, h6, h7, h8, h9, h10, h11, h12], Bd.op_zero, Bool.false_or]
    generalize decide (Bd.op s.data.toList 2 ≠ 0) = x
    show (decide (List.take 4 s.data.toList = [115, 116, 114, 46]) || decide (List.take 3 s.data.toList = [114, 101, 46]) || x) = (x || decide (List.take 4 s.data.toList = [115, 116, 114, 46]) || decide (List.take 3 s.data.toList = [114, 101, 46]))
    generalize decide (List.take 4 s.data.toList = [115, 116, 114, 46]) = y
    generalize decide (List.take 3 s.data.toList = [114, 101, 46]) = z
    cases x <;> cases y <;> cases z <;> rfl
  rw [e]
  have HO := Lib.hid fun w => koperation s 0 w
  have H1 := Lib.hid fun w => Tryz.strings_HasPrefix s ⟨#[115, 116, 114, 46]⟩ w
  have H2 := Lib.hid fun w => Tryz.strings_HasPrefix s ⟨#[114, 101, 46]⟩ w
  clear e h0 h1 h2 h3 h4 h5 h6 h7 h8 h9 h10 h11 h12
  obtain ⟨o, ho⟩ : ∃ o, Bd.op s.data.toList 0 = o := ⟨_, rfl⟩
  obtain ⟨p, hp⟩ : ∃ p, Lib.hasPrefix s.data.toList [115, 116, 114, 46] = p := ⟨_, rfl⟩
  obtain ⟨q, hq⟩ : ∃ q, Lib.hasPrefix s.data.toList [114, 101, 46] = q := ⟨_, rfl⟩
  rw [show ((⟨#[115, 116, 114, 46]⟩ : ByteArray).data.toList) = [115, 116, 114, 46] from rfl, hp] at H1
  rw [show ((⟨#[114, 101, 46]⟩ : ByteArray).data.toList) = [114, 101, 46] from rfl, hq] at H2
  rw [ho] at HO
  rw [ho, hp, hq]
  clear ho hp hq
  by_cases h0 : o = 0
  · subst h0
    cases p with
    | true =>
      go_enter Tryz.func20, Tryz.ntmps20
      go_wp2_with (go_at_call 54; refine (HO.out _).mono ?_; rintro e w1 ⟨rfl, rfl⟩)
      refine (H1.out _).mono ?_
      rintro e w1 ⟨rfl, rfl⟩
      go_wp2
      go_ret
      exact ⟨rfl, rfl⟩
    | false =>
      go_enter Tryz.func20, Tryz.ntmps20
      go_wp2_with (go_at_call 54; refine (HO.out _).mono ?_; rintro e w1 ⟨rfl, rfl⟩)
      refine (H1.out _).mono ?_
      rintro e w1 ⟨rfl, rfl⟩
      go_wp2_with fail
      refine (H2.out _).mono ?_
      rintro e w1 ⟨rfl, rfl⟩
      go_wp2
      go_ret
      exact ⟨by simp, rfl⟩
  · have hb : (o != 0) = true := by simp [h0]
    go_enter Tryz.func20, Tryz.ntmps20
    go_wp2_with (go_at_call 54; refine (HO.out _).mono ?_; rintro e w1 ⟨rfl, rfl⟩)
    go_ret
    exact ⟨by simp [h0], rfl⟩
end Go.Proofs.YtfjpcjebecgglaaGreatDoor
namespace Go.Proofs.YtfjpcjebecgglaaGreatDoor
open Go.RowKit
section
variable {T : TypeId} {s : Nat} (hT : Tryz.prog.underlying T = some (.slice (Tryz.prog.elem T))) (hz : ∀ W, (sizeOf (Tryz.prog.elem T)).run Tryz.prog W = .ok s W)
include hT hz
end
theorem bytes_eq {a b : ByteArray} (h : a.data.toList = b.data.toList) : a = b := by
  have e := Array.toList_inj.1 h
  cases a
  cases b
  simp only at e
  rw [e]
end Go.Proofs.YtfjpcjebecgglaaGreatDoor
namespace Go.Proofs.YtfjpcjebecgglaaGreatDoor
open Go.RowKit
end Go.Proofs.YtfjpcjebecgglaaGreatDoor
namespace Go.Proofs.YtfjpcjebecgglaaGreatDoor
open Go.RowKit
theorem text_eq (a b : ByteArray) : (a.toList == b.toList) = decide (a = b) := by
  rw [ByteArray.toList_eq, ByteArray.toList_eq]
  by_cases e : a = b
  · subst e
    rw [decide_eq_true rfl, beq_iff_eq.2 rfl]
  · rw [decide_eq_false e, beq_eq_false_iff_ne]
    exact fun h => e (bytes_eq h)
end Go.Proofs.YtfjpcjebecgglaaGreatDoor
namespace Go.Proofs.YtfjpcjebecgglaaGreatDoor
open Go.RowKit
abbrev opCells : Array Value := #[.string ⟨#[110, 111, 116]⟩, .string ⟨#[97, 110, 100]⟩, .string ⟨#[111, 114]⟩, .string ⟨#[61, 62]⟩, .string ⟨#[120, 111, 114]⟩, .string ⟨#[61]⟩, .string ⟨#[100, 105, 115, 116, 105, 110, 99, 116]⟩, .string ⟨#[105, 116, 101]⟩, .string ⟨#[]⟩, .string ⟨#[43]⟩, .string ⟨#[45]⟩, .string ⟨#[42]⟩, .string ⟨#[60, 61]⟩, .string ⟨#[60]⟩, .string ⟨#[62, 61]⟩, .string ⟨#[62]⟩, .string ⟨#[115, 116, 114, 46, 43, 43]⟩, .string ⟨#[115, 116, 114, 46, 108, 101, 110]⟩, .string ⟨#[115, 116, 114, 46, 97, 116]⟩, .string ⟨#[115, 116, 114, 46, 115, 117, 98, 115, 116, 114]⟩, .string ⟨#[115, 116, 114, 46, 112, 114, 101, 102, 105, 120, 111, 102]⟩, .string ⟨#[115, 116, 114, 46, 115, 117, 102, 102, 105, 120, 111, 102]⟩, .string ⟨#[115, 116, 114, 46, 99, 111, 110, 116, 97, 105, 110, 115]⟩, .string ⟨#[115, 116, 114, 46, 105, 110, 100, 101, 120, 111, 102]⟩, .string ⟨#[115, 116, 114, 46, 114, 101, 112, 108, 97, 99, 101]⟩]
theorem opCells_get (i : Nat) : opCells[i]? = (Bd.opNames[i]?).map fun l => Value.string ⟨l.toArray⟩ := by
  rw [← List.getElem?_map, ← Array.getElem?_toList]
  rfl
theorem opNames_len : Bd.opNames.length = 25 := rfl
theorem Bd.op_hits : ∀ i : Fin 25, Bd.opNames[i] ≠ [] → Bd.opNames.findIdx? (fun t => t == Bd.opNames[i]) = some i.val := by decide
theorem Bd.op_hit {s : List UInt8} {n i : Nat} (h : ¬ (s = [45] ∧ n = 1)) (hs : s ≠ []) (hi : Bd.opNames[i]? = some s) : Bd.op s n = 6 + (i : Int) := by
  obtain ⟨hl, e⟩ := List.getElem?_eq_some_iff.1 hi
  have := Bd.op_hits ⟨i, hl⟩
  simp only [Fin.getElem_fin, e] at this
  unfold Bd.op
  rw [if_neg h, if_neg hs, this hs]
theorem Bd.op_miss {s : List UInt8} {n : Nat} (h : ¬ (s = [45] ∧ n = 1)) (hs : s ≠ [] → ∀ (j : Nat) y, Bd.opNames[j]? = some y → y ≠ s) : Bd.op s n = 0 := by
  by_cases e : s = []
  · unfold Bd.op
    rw [if_neg h, if_pos e]
  · exact Bd.op_none fun hm => by
      obtain ⟨j, hj⟩ := List.getElem?_of_mem hm
      exact hs e j s hj rfl
theorem txt_ne {s : ByteArray} (h : s.data.toList ≠ []) : s.toList.isEmpty = false := by
  rw [ByteArray.toList_eq]
  cases e : s.data.toList with
  | nil => exact absurd e h
  | cons a l => rfl
theorem txt_no {s : ByteArray} (h : s.data.toList = []) : s.toList.isEmpty = true := by rw [ByteArray.toList_eq, h]; rfl
theorem roperation10 (s : ByteArray) (n : Nat) (w : World) :
    Calls Tryz.prog 19 #[.string s, .int .i64 (n : Int)] w fun e w' => e = .returned (.int .i64 (Bd.op s.data.toList n)) ∧ Below w.heap.size w w' := by
  by_cases h45 : s.data.toList = [45] ∧ n = 1
  · obtain ⟨h45, rfl⟩ := h45
    have b0 := lit_yes h45
    have e : Bd.op s.data.toList 1 = 14 := by rw [h45]; decide
    rw [e]
    clear h45 e
    go_enter Tryz.func19, Tryz.ntmps19
    go_wp2
    go_ret
    exact ⟨rfl, Below.refl _ _⟩
  have hc : ((s.toList == [45]) = true ∧ ((n : Int) == 1) = false) ∨ (s.toList == [45]) = false := by
    by_cases h : s.data.toList = [45]
    · have h1 : n ≠ 1 := fun e => h45 ⟨h, e⟩
      exact .inl ⟨lit_yes h, beq_eq_false_iff_ne.2 (by omega)⟩
    · exact .inr (lit_no h)
  have HMiss : Hid ((s.data.toList ≠ [] → ∀ (j : Nat) y, Bd.opNames[j]? = some y → y ≠ s.data.toList) → Bd.op s.data.toList n = 0) := fun h => Bd.op_miss h45 h
  have HHit : Hid (∀ i : Nat, s.data.toList ≠ [] → Bd.opNames[i]? = some s.data.toList → Bd.op s.data.toList n = 6 + (i : Int)) := fun i h1 h2 => Bd.op_hit h45 h1 h2
  obtain ⟨r, hr⟩ : ∃ r, Bd.op s.data.toList n = r := ⟨_, rfl⟩
  rw [hr] at HMiss HHit ⊢
  obtain ⟨W1, hW1⟩ : ∃ W1, w.alloc (.cells opCells 9) = W1 := ⟨_, rfl⟩
  have hL : Lies W1 w.heap.size 9 opCells := by rw [← hW1]; exact Lies.new w _ _
  have HB : Hid (Below w.heap.size w W1) := by rw [← hW1]; exact (Below.refl _ w).alloc (Nat.le_refl _) _
  have hlt := hL.lt
  have HC : Hid (∀ (i : Nat), i < 25 → ∃ y : ByteArray, Bd.opNames[i]? = some y.data.toList ∧ W1.cell? ⟨w.heap.size, i, none⟩ = some (.string y)) := fun i hi => by
    obtain ⟨l, hl⟩ : ∃ l, Bd.opNames[i]? = some l := ⟨_, List.getElem?_eq_getElem (by rw [opNames_len]; exact hi)⟩
    exact ⟨⟨l.toArray⟩, by rw [hl], by rw [hL.cell, opCells_get, hl]; rfl⟩
  unfold opCells at hW1
  clear h45 hr hL
  rcases hc with ⟨b0, d1⟩ | b0
  all_goals
    go_enter Tryz.func19, Tryz.ntmps19
    go_wp2
    clear hW1
    go_loopw [6] (fun iv wr => ∃ i : Nat, i ≤ 25 ∧ iv = .int .i64 (i : Nat) ∧ W1 = wr ∧ Hid (s.data.toList ≠ [] → ∀ (j : Nat) y, j < i → Bd.opNames[j]? = some y → y ≠ s.data.toList)) (fun iv _ => 25 - (intOf iv).toNat)
    case atStart => exact ⟨0, Nat.zero_le _, rfl, rfl, fun _ _ _ h => absurd h (Nat.not_lt_zero _)⟩
    case round =>
      obtain ⟨i, hi, rfl, rfl, HI⟩ := hrel
      by_cases hlt2 : i < 25
      · obtain ⟨y, hl, c1⟩ := HC.out i hlt2
        have q1 := text_eq y s
        have hi0 : (0 : Int) ≤ (i : Int) := by omega
        have hi1 : (i : Int) < 25 := by omega
        have hiw : IntKind.i64.wrap ((i : Int) + 1) = (i : Int) + 1 := IntWalk.i64_in _ (by omega)
        have hi6 : IntKind.i64.wrap (6 + (i : Int)) = 6 + (i : Int) := IntWalk.i64_in _ (by omega)
        by_cases e : y = s
        · rw [decide_eq_true e] at q1
          by_cases hs : s.data.toList = []
          · have q2 := txt_no hs
            have HN : Hid (s.data.toList ≠ [] → ∀ (j : Nat) y, j < i + 1 → Bd.opNames[j]? = some y → y ≠ s.data.toList) := fun h => absurd hs h
            clear hl e hs HI HC HMiss HHit
            go_wp2
            go_roundw
            case rel => exact ⟨i + 1, by omega, by go_num, (by first | trivial | rfl), HN⟩
            case measure => simp [intOf]; omega
          · have q2 := txt_ne hs
            rw [e] at hl
            have hh := HHit.out i hs hl
            subst hh
            clear hl e hs HI HC HMiss HHit
            go_wp2
            go_ret
            exact ⟨rfl, HB.out⟩
        · rw [decide_eq_false e] at q1
          have HN : Hid (s.data.toList ≠ [] → ∀ (j : Nat) y, j < i + 1 → Bd.opNames[j]? = some y → y ≠ s.data.toList) := fun h j y2 hj hy => by
            rcases Nat.lt_or_ge j i with e1 | e1
            · exact HI.out h j y2 e1 hy
            · obtain rfl : j = i := by omega
              rw [hl] at hy
              injection hy with hy
              rw [← hy]
              exact fun h2 => e (bytes_eq h2)
          clear hl e HI HC HMiss HHit
          go_wp2
          go_roundw
          case rel => exact ⟨i + 1, by omega, by go_num, (by first | trivial | rfl), HN⟩
          case measure => simp [intOf]; omega
      · obtain rfl : i = 25 := by omega
        have hh : r = 0 := HMiss.out fun h j y hy => HI.out h j y (by have := (List.getElem?_eq_some_iff.1 hy).1; rw [opNames_len] at this; exact this) hy
        subst hh
        clear HI HC HMiss HHit
        go_wp2
        go_ret
        exact ⟨rfl, HB.out⟩
end Go.Proofs.YtfjpcjebecgglaaGreatDoor
