/- Numbers to the base 2^32: how sums, differences, quotients go on limb by limb. Plain mathematics, nothing of the program. -/
import Derived.Test.YtefkkmnhnldcbaaCore
namespace Go.Proofs.Ytefkkmnhnldcbaa
namespace M

/-- where an addition stands: i limbs are done -/
structure AddInv (a b L : List Nat) (n i c : Nat) : Prop where
  len : L.length = n + 1
  fit : Fit L
  rest : ∀ j, i ≤ j → j < n → L.getD j 0 = a.getD j 0
  sum : val (L.take i) + BB ^ i * c = val (a.take i) + val (b.take i)
  carry : c ≤ 1
theorem AddInv.start {a b : List Nat} {n : Nat} (ha : a.length = n) (fa : Fit a) : AddInv a b (a ++ [0]) n 0 0 :=
  ⟨by simp [ha], fa.append (Fit.cons BB_pos Fit.nil), fun j _ hj => by simp [List.getD_eq_getElem?_getD, List.getElem?_append_left (ha ▸ hj)], by simp [val], by omega⟩
theorem AddInv.step {a b L : List Nat} {n i c x y t : Nat} (h : AddInv a b L n i c) (hi : i < n) (hx : x = a.getD i 0) (hy : y = b.getD i 0) (fx : x < BB) (fy : y < BB) (ht : t = x + y + c) :
    AddInv a b (L.set i (t % BB)) n (i + 1) (t / BB) := by
  have hc := h.carry
  refine ⟨by simp [h.len], h.fit.set _ _ (Nat.mod_lt _ BB_pos), fun j hj hn => ?_, ?_, ?_⟩
  · rw [set_ne _ _ _ _ (by omega)]; exact h.rest j (by omega) hn
  · have hl : (L.take i).length = i := by rw [List.length_take, h.len]; omega
    rw [take_set _ _ _ (by rw [h.len]; omega), val_snoc, hl, val_take_any, val_take_any, ← hx, ← hy]
    have e : BB * (t / BB) + t % BB = t := Nat.div_add_mod t BB
    have h2 : BB ^ (i + 1) * (t / BB) = BB ^ i * (BB * (t / BB)) := by rw [Nat.pow_succ, Nat.mul_assoc]
    have h3 : BB ^ i * (t % BB) + BB ^ i * (BB * (t / BB)) = BB ^ i * t := by rw [← Nat.mul_add]; congr 1; omega
    have h4 : BB ^ i * t = BB ^ i * x + BB ^ i * y + BB ^ i * c := by rw [ht, Nat.mul_add, Nat.mul_add]
    have := h.sum
    omega
  · have := BB_eq
    have : t / BB < 2 := Nat.div_lt_of_lt_mul (by omega)
    omega
/-- all is done, or what is left stays as it is -/
theorem AddInv.end_ {a b L : List Nat} {n i c : Nat} (h : AddInv a b L n i c) (ha : a.length = n) (hb : b.length ≤ n) (hi : i ≤ n) (he : i = n ∨ (b.length ≤ i ∧ c = 0)) :
    val (L.set n c) = val a + val b := by
  have hs := h.sum
  have hln : n < L.length := by rw [h.len]; omega
  have e1 : L.set n c = L.take n ++ [c] := by
    rw [← take_set L n c hln, List.take_of_length_le (by simp [h.len])]
  have hl : (L.take n).length = n := by rw [List.length_take, h.len]; omega
  rw [e1, val_snoc, hl]
  rcases he with rfl | ⟨hbi, rfl⟩
  · rw [val_take_len a (by omega), val_take_len b hb] at hs
    exact hs
  · rw [val_take_len b hbi] at hs
    have e2 : val (L.take n) = val (L.take i) + BB ^ i * val ((L.take n).drop i) := by
      have := val_append ((L.take n).take i) ((L.take n).drop i)
      rw [List.take_append_drop, List.take_take, Nat.min_eq_left hi, List.length_take, h.len, Nat.min_eq_left (by omega)] at this
      exact this
    have e3 : val a = val (a.take i) + BB ^ i * val (a.drop i) := by
      have := val_append (a.take i) (a.drop i)
      rw [List.take_append_drop, List.length_take, ha, Nat.min_eq_left hi] at this
      exact this
    have e4 : (L.take n).drop i = a.drop i := drop_eq i (by rw [hl, ha]) fun j hj => by
      rcases Nat.lt_or_ge j n with h1 | h1
      · rw [← h.rest j hj h1]; simp [List.getD_eq_getElem?_getD, h1]
      · rw [getD_ge (by omega), getD_ge (by omega)]
    rw [e2, e4, e3]
    omega
/-- where a division by one limb stands: i limbs are left -/
structure DivInv (L0 L : List Nat) (n i d r : Nat) : Prop where
  len : L.length = L0.length
  fit : Fit L
  low : ∀ q, q < i → L.getD q 0 = L0.getD q 0
  high : ∀ q, n ≤ q → L.getD q 0 = L0.getD q 0
  sum : val ((L0.take n).drop i) = d * val ((L.take n).drop i) + r
  rest : r < d
theorem drop_cons (l : List Nat) (n i : Nat) (hi : i < n) (hn : n ≤ l.length) : (l.take n).drop i = l.getD i 0 :: (l.take n).drop (i + 1) := by
  rw [List.drop_eq_getElem_cons (by rw [List.length_take]; omega), List.getElem_take, getD_lt (by omega)]
theorem DivInv.start {L : List Nat} {n d : Nat} (f : Fit L) (hn : n ≤ L.length) (hd : 0 < d) : DivInv L L n n d 0 :=
  ⟨rfl, f, fun _ _ => rfl, fun _ _ => rfl, by rw [List.drop_of_length_le (by rw [List.length_take]; omega)]; simp [val], hd⟩
theorem DivInv.step {L0 L : List Nat} {n i d r x t : Nat} (h : DivInv L0 L n (i + 1) d r) (hi : i < n) (hn : n ≤ L0.length) (hx : x = L.getD i 0) (ht : t = x + BB * r) :
    t / d < BB ∧ DivInv L0 (L.set i (t / d)) n i d (t % d) := by
  have hd : 0 < d := by have := h.rest; omega
  have fx : x < BB := by rw [hx]; exact h.fit i
  have hq : t / d < BB := by
    refine Nat.div_lt_of_lt_mul ?_
    have h1 : BB * (r + 1) ≤ BB * d := Nat.mul_le_mul_left _ h.rest
    rw [Nat.mul_add] at h1
    rw [Nat.mul_comm d BB]
    omega
  refine ⟨hq, ⟨by rw [List.length_set, h.len], h.fit.set _ _ hq, fun q hq => ?_, fun q hq => ?_, ?_, Nat.mod_lt _ hd⟩⟩
  · rw [set_ne _ _ _ _ (by omega)]; exact h.low q (by omega)
  · rw [set_ne _ _ _ _ (by omega)]; exact h.high q (by omega)
  · have hl : n ≤ L.length := by rw [h.len]; exact hn
    have e1 := drop_cons L0 n i hi hn
    have e2 := drop_cons (L.set i (t / d)) n i hi (by rw [List.length_set]; exact hl)
    rw [set_eq _ _ _ (by omega)] at e2
    have e3 : ((L.set i (t / d)).take n).drop (i + 1) = (L.take n).drop (i + 1) := by
      rw [List.take_set, List.drop_set_of_lt (by omega)]
    have hs := h.sum
    rw [e1, e2, e3, val_cons, val_cons, hs, ← h.low i (by omega), ← hx]
    have e4 : d * (t / d) + t % d = t := Nat.div_add_mod t d
    generalize val ((L.take n).drop (i + 1)) = v
    have e5 : d * (t / d + BB * v) = d * (t / d) + BB * (d * v) := by rw [Nat.mul_add, Nat.mul_left_comm]
    rw [e5, Nat.mul_add]
    omega
theorem DivInv.end_ {L0 L : List Nat} {n d r : Nat} (h : DivInv L0 L n 0 d r) : val (L.take n) = val (L0.take n) / d ∧ r = val (L0.take n) % d := by
  have hs := h.sum
  rw [List.drop_zero, List.drop_zero] at hs
  have hr := h.rest
  rw [hs]
  constructor
  · rw [Nat.mul_add_div (by omega), Nat.div_eq_of_lt hr, Nat.add_zero]
  · rw [Nat.mul_add_mod, Nat.mod_eq_of_lt hr]
end M
end Go.Proofs.Ytefkkmnhnldcbaa
