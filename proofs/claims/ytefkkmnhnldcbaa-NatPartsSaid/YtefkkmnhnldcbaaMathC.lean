/- How bits are compared, added, taken away, multiplied, one by one. Plain mathematics, nothing of the program. -/
import Derived.Test.YtefkkmnhnldcbaaMathB
import Derived.Test.YtefkkmnhnldcbaaMath
namespace Go.Proofs.Ytefkkmnhnldcbaa
namespace Bt

theorem val_ext {bs cs : List Bool} (h : ∀ j, bs.getD j false = cs.getD j false) : val bs = val cs := by
  induction bs generalizing cs with
  | nil =>
    have := val_zeros cs 0 (fun j _ => by rw [← h j]; rfl)
    rw [← this]; rfl
  | cons b bs ih =>
    cases cs with
    | nil =>
      have := val_zeros (b :: bs) 0 (fun j _ => by rw [h j]; rfl)
      rw [← this]; rfl
    | cons c cs =>
      have h0 : b = c := by simpa using h 0
      rw [val_cons, val_cons, h0, ih fun j => by simpa using h (j + 1)]
theorem drop_get (bs : List Bool) (i j : Nat) : (bs.drop i).getD j false = bs.getD (i + j) false := by simp [List.getD_eq_getElem?_getD]
theorem val_take_drop (bs : List Bool) (i : Nat) : val bs = val (bs.take i) + 2 ^ i * val (bs.drop i) := by
  rcases Nat.lt_or_ge bs.length i with h | h
  · rw [List.take_of_length_le (by omega), List.drop_of_length_le (by omega), val_nil]; simp
  · have e := W2.val_append (nat (bs.take i)) (nat (bs.drop i))
    rw [← nat_append, List.take_append_drop, nat_length, List.length_take, Nat.min_eq_left h, W2.BB_eq] at e
    exact e
theorem val_drop (bs : List Bool) (i : Nat) : val (bs.drop i) = (bs.getD i false).toNat + 2 * val (bs.drop (i + 1)) := by
  rcases Nat.lt_or_ge i bs.length with h | h
  · rw [List.drop_eq_getElem_cons h, val_cons, getD_lt h]
  · rw [List.drop_of_length_le h, List.drop_of_length_le (by omega), getD_ge h, val_nil]; simp
theorem val_take_lt (bs : List Bool) (i : Nat) : val (bs.take i) < 2 ^ i := by
  have h1 := val_lt (bs.take i)
  have h2 : 2 ^ (bs.take i).length ≤ 2 ^ i := Nat.pow_le_pow_right (by omega) (List.length_take_le _ _)
  omega
theorem val_take_succ (bs : List Bool) (i : Nat) : val (bs.take (i + 1)) = val (bs.take i) + 2 ^ i * (bs.getD i false).toNat := by
  have h := val_split bs i 1
  rw [h]
  congr 2
  have := val_piece bs i 0
  rw [this, List.take_zero, val_nil]; omega
theorem val_take_len (bs : List Bool) {i : Nat} (h : bs.length ≤ i) : val (bs.take i) = val bs := by rw [List.take_of_length_le h]
/-- the highest bit that differs decides -/
theorem lt_of_top {bs cs : List Bool} (i : Nat) (h : ∀ j, i < j → bs.getD j false = cs.getD j false) (hb : bs.getD i false = false) (hc : cs.getD i false = true) : val bs < val cs := by
  have e : val (bs.drop (i + 1)) = val (cs.drop (i + 1)) := val_ext fun j => by rw [drop_get, drop_get]; exact h _ (by omega)
  rw [val_take_drop bs i, val_take_drop cs i, val_drop bs i, val_drop cs i, hb, hc, e]
  have h1 := val_take_lt bs i
  generalize val (cs.drop (i + 1)) = t
  have e2 : 2 ^ i * (true.toNat + 2 * t) = 2 ^ i + 2 ^ i * (false.toNat + 2 * t) := by
    rw [show true.toNat = 1 from rfl, show false.toNat = 0 from rfl, Nat.mul_add, Nat.mul_one, Nat.zero_add]
  omega

/-- where an addition stands -/
structure AddInv (a b out : List Bool) (i : Nat) (c : Bool) : Prop where
  len : out.length = i
  sum : val out + 2 ^ i * c.toNat = val (a.take i) + val (b.take i)

theorem AddInv.start (a b : List Bool) : AddInv a b [] 0 false := ⟨rfl, by simp [val_nil]⟩
theorem AddInv.step {a b out : List Bool} {i n : Nat} {c x y : Bool} (h : AddInv a b out i c) (hx : x = a.getD i false) (hy : y = b.getD i false) (hn : n = x.toNat + y.toNat + c.toNat) :
    AddInv a b (out ++ [decide (n % 2 = 1)]) (i + 1) (decide (1 < n)) := by
  refine ⟨by simp [h.len], ?_⟩
  rw [val_snoc, h.len, odd_bit, val_take_succ, val_take_succ, ← hx, ← hy]
  have hs := h.sum
  have e : (decide (1 < n)).toNat = n / 2 := by
    have hxb := bit_le x
    have hyb := bit_le y
    have hcb := bit_le c
    by_cases h1 : 1 < n
    · rw [decide_eq_true h1]; simp; omega
    · rw [decide_eq_false h1]; simp; omega
  rw [e, Nat.pow_succ, Nat.mul_assoc]
  have e2 : 2 ^ i * (n % 2) + 2 ^ i * (2 * (n / 2)) = 2 ^ i * n := by rw [← Nat.mul_add]; congr 1; omega
  have e3 : 2 ^ i * n = 2 ^ i * x.toNat + 2 ^ i * y.toNat + 2 ^ i * c.toNat := by rw [hn, Nat.mul_add, Nat.mul_add]
  omega
theorem AddInv.end_ {a b out : List Bool} {i : Nat} (h : AddInv a b out i false) (ha : a.length ≤ i) (hb : b.length ≤ i) : val out = val a + val b := by
  have := h.sum
  rw [val_take_len a ha, val_take_len b hb] at this
  simpa using this

/-- where a subtraction stands -/
structure SubInv (a b out : List Bool) (i : Nat) (c : Bool) : Prop where
  len : out.length = i
  sum : val out + val (b.take i) = val (a.take i) + 2 ^ i * c.toNat
theorem SubInv.start (a b : List Bool) : SubInv a b [] 0 false := ⟨rfl, by simp [val_nil]⟩
theorem SubInv.step {a b out : List Bool} {i : Nat} {c x y v c' : Bool} (h : SubInv a b out i c) (hx : x = a.getD i false) (hy : y = b.getD i false) (hv : v.toNat + y.toNat + c.toNat = x.toNat + 2 * c'.toNat) :
    SubInv a b (out ++ [v]) (i + 1) c' := by
  refine ⟨by simp [h.len], ?_⟩
  rw [val_snoc, h.len, val_take_succ, val_take_succ, ← hx, ← hy, Nat.pow_succ, Nat.mul_assoc]
  have hs := h.sum
  have e : 2 ^ i * v.toNat + 2 ^ i * y.toNat + 2 ^ i * c.toNat = 2 ^ i * x.toNat + 2 ^ i * (2 * c'.toNat) := by rw [← Nat.mul_add, ← Nat.mul_add, ← Nat.mul_add, hv]
  omega
theorem SubInv.end_ {a b out : List Bool} {i : Nat} {c : Bool} (h : SubInv a b out i c) (ha : a.length ≤ i) (hb : b.length ≤ i) (hle : val b ≤ val a) : val out = val a - val b := by
  have hs := h.sum
  rw [val_take_len a ha, val_take_len b hb] at hs
  have hlt := val_lt out
  rw [h.len] at hlt
  cases c with
  | false => simp at hs; omega
  | true => simp at hs; omega
end Bt
end Go.Proofs.Ytefkkmnhnldcbaa
