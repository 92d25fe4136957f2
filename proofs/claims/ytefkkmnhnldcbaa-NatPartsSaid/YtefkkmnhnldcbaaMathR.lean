/- Long division: taking k times a number away in place. Plain mathematics. -/
import Derived.Test.YtefkkmnhnldcbaaMathQ
namespace Go.Proofs.Ytefkkmnhnldcbaa
namespace M

/-- where k times l is taken away in place: i limbs are done -/
structure TT (l L0 L : List Nat) (o i k c b : Nat) : Prop where
  len : L.length = L0.length
  fit : Fit L
  rest : ∀ q, q < o ∨ o + i ≤ q → L.getD q 0 = L0.getD q 0
  sum : val ((L.drop o).take i) + val (l.take i) * k = val ((L0.drop o).take i) + BB ^ i * (c + b)
  carry : c < BB
  borrow : b ≤ 1
theorem TT.start {l L : List Nat} {o k : Nat} (f : Fit L) : TT l L L o 0 k 0 0 := ⟨rfl, f, fun _ _ => rfl, by simp [val], BB_pos, by omega⟩
theorem TT.step {l L0 L : List Nat} {o i k c b x y p v b' : Nat} (h : TT l L0 L o i k c b) (hi : o + i < L0.length) (hx : x = l.getD i 0) (hy : y = L.getD (o + i) 0) (fx : x < BB) (fk : k < BB) (hp : p = x * k + c) (fv : v < BB) (hb : b' ≤ 1) (hv : v + p % BB + b = y + BB * b') :
    TT l L0 (L.set (o + i) v) o (i + 1) k (p / BB) b' := by
  have hc := h.carry
  refine ⟨by simp [h.len], h.fit.set _ _ fv, fun q hq => ?_, ?_, ?_, hb⟩
  · rw [set_ne _ _ _ _ (by omega)]; exact h.rest q (by omega)
  · have hl : ((L.drop o).take i).length = i := by rw [List.length_take, List.length_drop, h.len]; omega
    rw [drop_set', take_set _ _ _ (by rw [List.length_drop, h.len]; omega), val_snoc, hl, val_take_any, val_take_any, drop_get, ← h.rest (o + i) (by omega), ← hx, ← hy]
    have e : BB * (p / BB) + p % BB = p := Nat.div_add_mod p BB
    have h2 : BB ^ (i + 1) * (p / BB + b') = BB ^ i * (BB * (p / BB) + BB * b') := by rw [Nat.pow_succ, Nat.mul_assoc, Nat.mul_add]
    have h3 : BB ^ i * v + BB ^ i * (x * k) + BB ^ i * (c + b) = BB ^ i * y + BB ^ i * (BB * (p / BB) + BB * b') := by
      rw [← Nat.mul_add, ← Nat.mul_add, ← Nat.mul_add]
      congr 1
      omega
    have := h.sum
    rw [Nat.add_mul, h2, Nat.mul_assoc]
    omega
  · refine Nat.div_lt_of_lt_mul ?_
    have h1 : x * k ≤ (BB - 1) * (BB - 1) := Nat.mul_le_mul (by omega) (by omega)
    have h2 : BB * BB = (BB - 1) * (BB - 1) + 2 * (BB - 1) + 1 := by
      obtain ⟨b, hb⟩ : ∃ b, BB = b + 1 := ⟨BB - 1, by have := BB_pos; omega⟩
      rw [hb, Nat.add_sub_cancel, Nat.add_mul, Nat.mul_add]
      omega
    omega
/-- the highest limb too, and whether it was once too often -/
structure TTEnd (l L0 L : List Nat) (o n k b : Nat) : Prop where
  len : L.length = L0.length
  fit : Fit L
  rest : ∀ q, q < o ∨ o + n + 1 ≤ q → L.getD q 0 = L0.getD q 0
  sum : val ((L.drop o).take (n + 1)) + val l * k = val ((L0.drop o).take (n + 1)) + BB ^ (n + 1) * b
theorem TT.end_ {l L0 L : List Nat} {o n k c b y v b' : Nat} (h : TT l L0 L o n k c b) (hl : l.length = n) (hi : o + n < L0.length) (hy : y = L.getD (o + n) 0) (fv : v < BB) (hv : v + c + b = y + BB * b') :
    TTEnd l L0 (L.set (o + n) v) o n k b' := by
  refine ⟨by simp [h.len], h.fit.set _ _ fv, fun q hq => ?_, ?_⟩
  · rw [set_ne _ _ _ _ (by omega)]; exact h.rest q (by omega)
  · have hl2 : ((L.drop o).take n).length = n := by rw [List.length_take, List.length_drop, h.len]; omega
    have hs := h.sum
    rw [List.take_of_length_le (l := l) (by omega)] at hs
    rw [drop_set', take_set _ _ _ (by rw [List.length_drop, h.len]; omega), val_snoc, hl2, val_take_any, drop_get, ← h.rest (o + n) (by omega), ← hy]
    have h2 : BB ^ (n + 1) * b' = BB ^ n * (BB * b') := by rw [Nat.pow_succ, Nat.mul_assoc]
    have h3 : BB ^ n * v + BB ^ n * (c + b) = BB ^ n * y + BB ^ n * (BB * b') := by
      rw [← Nat.mul_add, ← Nat.mul_add]
      congr 1
      omega
    rw [h2]
    omega
end M
end Go.Proofs.Ytefkkmnhnldcbaa
