/- The reference of literals: next, Points. -/
import Derived.Test.YtkooconjkimgoaaDoorJ4
namespace Go.Proofs.YtkooconjkimgoaaDoor
open Go.RowKit

theorem Lt.seek_short {q : List UInt8} : ∀ (m k : Nat), q.length ≤ k → Lt.seek q m k = none
  | 0, _, _ => rfl
  | m + 1, k, h => by rw [Lt.seek, List.getElem?_eq_none h, if_neg (by simp), Lt.seek_short m (k + 1) (by omega)]
theorem Lt.seek_other {q : List UInt8} {m k : Nat} (h : q[k]? ≠ some 125) : Lt.seek q (m + 1) k = Lt.seek q m (k + 1) := by rw [Lt.seek, if_neg h]
theorem Lt.seek_some {q : List UInt8} {m k n : Nat} (h : q[k]? = some 125) (hn : Lt.num (q.take k) = some n) : Lt.seek q (m + 1) k = some (n, q.drop (k + 1)) := by rw [Lt.seek, if_pos h, hn]
theorem Lt.seek_none {q : List UInt8} {m k : Nat} (h : q[k]? = some 125) (hn : Lt.num (q.take k) = none) : Lt.seek q (m + 1) k = Lt.seek q m (k + 1) := by rw [Lt.seek, if_pos h, hn]
theorem Lt.numI_some {l : List UInt8} {n : Nat} (h : Lt.num l = some n) : Lt.numI l = (n : Int) := by rw [Lt.numI, h]
theorem Lt.numI_none {l : List UInt8} (h : Lt.num l = none) : Lt.numI l = -1 := by rw [Lt.numI, h]
theorem Lt.num_123 (t : List UInt8) : Lt.num (123 :: t) = none := by
  cases e : Lt.num (123 :: t) with
  | none => rfl
  | some n =>
    have := (Lt.num_some.1 e).2.1
    rw [Lt.val_none _ Lt.dig_123] at this
    cases this
/-- what next answers: the code point that comes first, and where what is left begins -/
def NextSaid (s : ByteArray) (a : Nat) (e : Ending) : Prop := ∃ c k : Nat, e = .returned (.tuple #[.int .i64 (c : Nat), .int .i64 (k : Nat)]) ∧ a < k ∧ k ≤ s.size ∧ c ≤ 196607 ∧ Lt.one (s.data.toList.drop a) = (c, s.data.toList.drop k)
theorem NextSaid.of {s : ByteArray} {a c k : Nat} (h1 : a < k) (h2 : k ≤ s.size) (h : Lt.one (s.data.toList.drop a) = (c, s.data.toList.drop k)) : NextSaid s a (.returned (.tuple #[.int .i64 (c : Nat), .int .i64 (k : Nat)])) := by
  refine ⟨c, k, rfl, h1, h2, ?_, h⟩
  have hl : 0 < (s.data.toList.drop a).length := by rw [List.length_drop, Lt.len_bytes]; omega
  cases hd : s.data.toList.drop a with
  | nil => rw [hd] at hl; cases hl
  | cons x t =>
    have := (Lt.one_facts x t).1
    rw [← hd, h] at this
    exact this
theorem Lt.get_drop (s : ByteArray) {a k : Nat} (h : a + k < s.size) : (s.data.toList.drop a)[k]? = some s[a + k] := by
  rw [List.getElem?_drop]
  have h' : a + k < s.data.toList.length := by rw [Lt.len_bytes]; exact h
  rw [List.getElem?_eq_getElem h']
  rfl
theorem Lt.head_drop (s : ByteArray) {a : Nat} (h : a < s.size) : (s.data.toList.drop a).head? = some s[a] := by rw [Lt.drop_at s h]; rfl
theorem Lt.byte_eq {c : UInt8} {n : Nat} (h : c.toNat = n) : c = UInt8.ofNat n := by rw [← h]; simp

/-- what Points answers -/
def PtsSaid (w : World) (L : List Int) (e : Ending) (w' : World) : Prop := (∃ A c, e = .returned (.slice A L.length c) ∧ OwnN w' w.heap.size A c L) ∧ Below w.heap.size w w'
theorem PtsSaid.mk {w w' : World} {L l : List Int} {A : Option Addr} {c n : Nat} (hn : l.length = n) (hl : L = l) (h : OwnN w' w.heap.size A c l) (hb : Below w.heap.size w w') : PtsSaid w L (.returned (.slice A n c)) w' := by
  subst hl
  exact ⟨⟨A, c, by rw [hn], h⟩, hb⟩

end Go.Proofs.YtkooconjkimgoaaDoor
