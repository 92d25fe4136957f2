/- several texts in one. -/
import Derived.Test.YtkooconjkimgoaaDoorGA
import Derived.Deep.RegionWith
/- nat: gcdSmall, divideBy: what each answers. -/
namespace Go.Proofs.YtkooconjkimgoaaDoor
open Go.RowKit

/-- divideBy's answer: the rest, and the whole part in place -/
def Divided (W : World) (g n d : Nat) (L : List Nat) (e : Ending) (w' : World) : Prop :=
  ∃ L' : List Nat, e = .returned (.int .u32 (M.val (L.take n) % d : Nat)) ∧ Row w' g L' ∧ W.grownBy w' (some g) ∧ L'.length = L.length ∧ M.Fit L' ∧ M.val (L'.take n) = M.val (L.take n) / d ∧ ∀ q, n ≤ q → L'.getD q 0 = L.getD q 0

end Go.Proofs.YtkooconjkimgoaaDoor

/- nat: DivMod, where the numbers are small, or the divisor has one limb: what it answers. -/
namespace Go.Proofs.YtkooconjkimgoaaDoor
open Go.RowKit

theorem of_int (x : Int) (w : World) (h : 0 ≤ x ∧ x ≤ 18446744073709551615) : Calls Tryd.prog 41 #[.int .u64 x] w (Gives w x.toNat) := by
  obtain ⟨n, rfl⟩ := Int.eq_ofNat_of_zero_le h.1
  exact of_any n w (by omega)

/-- two numbers, and no error -/
def GivesTwo (W : World) (N R : Nat) (e : Ending) (w' : World) : Prop :=
  ∃ u v, e = .returned (.tuple #[u, v, .int .i64 0]) ∧ Num w' u N ∧ Num w' v R ∧ Below W.heap.size W w'

theorem num_nil (w : World) : Num w (.slice none 0 0) 0 := ⟨none, 0, 0, [], rfl, Lims.nil_ _ _, M.Top.nil, rfl, by omega, by omega⟩

/-- DivMod of numbers in their own form -/
structure Two (w : World) (A B : Option Addr) (n m c d : Nat) (k l : List Nat) : Prop where
  ha : Lims w A n k
  hb : Lims w B m l
  hn : n ≤ c
  hm : m ≤ d
  hc : c ≤ maxLen
  hd : d ≤ maxLen
  hs : n ≤ 1000000
  ht : m ≤ 1000000

end Go.Proofs.YtkooconjkimgoaaDoor

/- nat: Gcd of small numbers: what it answers. -/
namespace Go.Proofs.YtkooconjkimgoaaDoor
open Go.RowKit

end Go.Proofs.YtkooconjkimgoaaDoor

/- nat: addTimes, Mul: what each answers. -/
namespace Go.Proofs.YtkooconjkimgoaaDoor
open Go.RowKit

/-- addTimes' answer -/
def AddedT (W : World) (g o n k : Nat) (l L : List Nat) (e : Ending) (w' : World) : Prop :=
  ∃ (L' : List Nat) (c : Nat), e = .returned (.int .u32 (c : Nat)) ∧ Row w' g L' ∧ W.grownBy w' (some g) ∧ M.AT l L L' o n k c

end Go.Proofs.YtkooconjkimgoaaDoor

/- nat: Mul: what it answers. -/
namespace Go.Proofs.YtkooconjkimgoaaDoor
open Go.RowKit

end Go.Proofs.YtkooconjkimgoaaDoor

/- nat: Sub: what it answers. -/
namespace Go.Proofs.YtkooconjkimgoaaDoor
open Go.RowKit

/-- a number, and no error -/
def Gives1 (W : World) (N : Nat) (e : Ending) (w' : World) : Prop := ∃ v, e = .returned (.tuple #[v, .int .i64 0]) ∧ Num w' v N ∧ Below W.heap.size W w'

theorem cmp_lt {A B : Option Addr} {n m c d : Nat} {k l : List Nat} {w : World} (hk : Lims w A n k) (hl : Lims w B m l) (hn : n ≤ c) (hm : m ≤ d) (hc : c ≤ maxLen) (hd : d ≤ maxLen) (h : M.val k < M.val l) :
    Calls Tryd.prog 66 #[.slice A n c, .slice B m d] w fun e w' => e = .returned (.int .i64 (-1)) ∧ ∃ j, w' = w.drewN j := by
  have := cmp_any A B n m c d k l w hk hl hn hm hc hd
  rw [M.cmpI_lt h] at this
  exact this
theorem cmp_ge {A B : Option Addr} {n m c d : Nat} {k l : List Nat} {w : World} (hk : Lims w A n k) (hl : Lims w B m l) (hn : n ≤ c) (hm : m ≤ d) (hc : c ≤ maxLen) (hd : d ≤ maxLen) (h : M.val l ≤ M.val k) :
    ∃ z : Nat, Calls Tryd.prog 66 #[.slice A n c, .slice B m d] w fun e w' => e = .returned (.int .i64 (z : Int)) ∧ ∃ j, w' = w.drewN j := by
  have := cmp_any A B n m c d k l w hk hl hn hm hc hd
  rcases Nat.lt_or_ge (M.val l) (M.val k) with h1 | h1
  · rw [M.cmpI_gt h1] at this
    exact ⟨1, this⟩
  · obtain e : M.val k = M.val l := by omega
    rw [e, M.cmpI_eq] at this
    exact ⟨0, this⟩

/-- one limb's difference, as Go reckons it -/
theorem sub_word (x y c : Nat) (hx : x ≤ 4294967295) (hy : y ≤ 4294967295) (hc : c ≤ 1) :
    ∃ u t v c' : Nat, IntKind.u64.wrap ((x : Int) - (y : Int)) = (u : Int) ∧ IntKind.u64.wrap ((u : Int) - (c : Int)) = (t : Int) ∧ (t : Int) % 4294967296 = (v : Int) ∧ (t : Int) / 9223372036854775808 = (c' : Int) ∧
      v ≤ 4294967295 ∧ c' ≤ 1 ∧ v + y + c = x + 4294967296 * c' := by
  rw [IntKind.wrap_u64]
  refine ⟨(x + 18446744073709551616 - y) % 18446744073709551616, ((x + 18446744073709551616 - y) % 18446744073709551616 + 18446744073709551616 - c) % 18446744073709551616,
    (((x + 18446744073709551616 - y) % 18446744073709551616 + 18446744073709551616 - c) % 18446744073709551616) % 4294967296,
    (((x + 18446744073709551616 - y) % 18446744073709551616 + 18446744073709551616 - c) % 18446744073709551616) / 9223372036854775808, ?_, ?_, ?_, ?_, ?_, ?_, ?_⟩
  · omega
  · rw [IntKind.wrap_u64]; omega
  · omega
  · omega
  · omega
  · omega
  · omega

end Go.Proofs.YtkooconjkimgoaaDoor
