/- Numbers to the base 2^32: how sums, differences, quotients go on limb by limb. Plain mathematics, nothing of the program. -/
import Derived.Test.YtefkkmnhnldcbaaCore
namespace Go.Proofs.Ytefkkmnhnldcbaa
namespace M

/-- where an addition stands: i limbs are done -/
structure AddInv (a b L : List Nat) (n i c : Nat) : Prop where
  len : L.length = n + 1
  fit : Fit L
  rest : ∀ j, i ≤ j → j < n → L.getD j 0 = a.getD j 0
  sum : val (L.take i) + BB ^ i * c = val (a.take i) + val (b.take i)
  carry : c ≤ 1
theorem AddInv.start {a b : List Nat} {n : Nat} (ha : a.length = n) (fa : Fit a) : AddInv a b (a ++ [0]) n 0 0 :=
  ⟨by simp [ha], fa.append (Fit.cons BB_pos Fit.nil), fun j _ hj => by simp [List.getD_eq_getElem?_getD, List.getElem?_append_left (ha ▸ hj)], by simp [val], by omega⟩
theorem AddInv.step {a b L : List Nat} {n i c x y t : Nat} (h : AddInv a b L n i c) (hi : i < n) (hx : x = a.getD i 0) (hy : y = b.getD i 0) (fx : x < BB) (fy : y < BB) (ht : t = x + y + c) :
    AddInv a b (L.set i (t % BB)) n (i + 1) (t / BB) := by
  have hc := h.carry
  refine ⟨by simp [h.len], h.fit.set _ _ (Nat.mod_lt _ BB_pos), fun j hj hn => ?_, ?_, ?_⟩
  · rw [set_ne _ _ _ _ (by omega)]; exact h.rest j (by omega) hn
  · have hl : (L.take i).length = i := by rw [List.length_take, h.len]; omega
    rw [take_set _ _ _ (by rw [h.len]; omega), val_snoc, hl, val_take_any, val_take_any, ← hx, ← hy]
    have e : BB * (t / BB) + t % BB = t := Nat.div_add_mod t BB
    have h2 : BB ^ (i + 1) * (t / BB) = BB ^ i * (BB * (t / BB)) := by rw [Nat.pow_succ, Nat.mul_assoc]
    have h3 : BB ^ i * (t % BB) + BB ^ i * (BB * (t / BB)) = BB ^ i * t := by rw [← Nat.mul_add]; congr 1; omega
    have h4 : BB ^ i * t = BB ^ i * x + BB ^ i * y + BB ^ i * c := by rw [ht, Nat.mul_add, Nat.mul_add]
    have := h.sum
    omega
  · have := BB_eq
    have : t / BB < 2 := Nat.div_lt_of_lt_mul (by omega)
    omega
/-- all is done, or what is left stays as it is -/
theorem AddInv.end_ {a b L : List Nat} {n i c : Nat} (h : AddInv a b L n i c) (ha : a.length = n) (hb : b.length ≤ n) (hi : i ≤ n) (he : i = n ∨ (b.length ≤ i ∧ c = 0)) :
    val (L.set n c) = val a + val b := by
  have hs := h.sum
  have hln : n < L.length := by rw [h.len]; omega
  have e1 : L.set n c = L.take n ++ [c] := by
    rw [← take_set L n c hln, List.take_of_length_le (by simp [h.len])]
  have hl : (L.take n).length = n := by rw [List.length_take, h.len]; omega
  rw [e1, val_snoc, hl]
  rcases he with rfl | ⟨hbi, rfl⟩
  · rw [val_take_len a (by omega), val_take_len b hb] at hs
    exact hs
  · rw [val_take_len b hbi] at hs
    have e2 : val (L.take n) = val (L.take i) + BB ^ i * val ((L.take n).drop i) := by
      have := val_append ((L.take n).take i) ((L.take n).drop i)
      rw [List.take_append_drop, List.take_take, Nat.min_eq_left hi, List.length_take, h.len, Nat.min_eq_left (by omega)] at this
      exact this
    have e3 : val a = val (a.take i) + BB ^ i * val (a.drop i) := by
      have := val_append (a.take i) (a.drop i)
      rw [List.take_append_drop, List.length_take, ha, Nat.min_eq_left hi] at this
      exact this
    have e4 : (L.take n).drop i = a.drop i := drop_eq i (by rw [hl, ha]) fun j hj => by
      rcases Nat.lt_or_ge j n with h1 | h1
      · rw [← h.rest j hj h1]; simp [List.getD_eq_getElem?_getD, h1]
      · rw [getD_ge (by omega), getD_ge (by omega)]
    rw [e2, e4, e3]
    omega
/-- where a division by one limb stands: i limbs are left -/
structure DivInv (L0 L : List Nat) (n i d r : Nat) : Prop where
  len : L.length = L0.length
  fit : Fit L
  low : ∀ q, q < i → L.getD q 0 = L0.getD q 0
  high : ∀ q, n ≤ q → L.getD q 0 = L0.getD q 0
  sum : val ((L0.take n).drop i) = d * val ((L.take n).drop i) + r
  rest : r < d
theorem drop_cons (l : List Nat) (n i : Nat) (hi : i < n) (hn : n ≤ l.length) : (l.take n).drop i = l.getD i 0 :: (l.take n).drop (i + 1) := by
  rw [List.drop_eq_getElem_cons (by rw [List.length_take]; omega), List.getElem_take, getD_lt (by omega)]
theorem DivInv.start {L : List Nat} {n d : Nat} (f : Fit L) (hn : n ≤ L.length) (hd : 0 < d) : DivInv L L n n d 0 :=
  ⟨rfl, f, fun _ _ => rfl, fun _ _ => rfl, by rw [List.drop_of_length_le (by rw [List.length_take]; omega)]; simp [val], hd⟩
theorem DivInv.step {L0 L : List Nat} {n i d r x t : Nat} (h : DivInv L0 L n (i + 1) d r) (hi : i < n) (hn : n ≤ L0.length) (hx : x = L.getD i 0) (ht : t = x + BB * r) :
    t / d < BB ∧ DivInv L0 (L.set i (t / d)) n i d (t % d) := by
  have hd : 0 < d := by have := h.rest; omega
  have fx : x < BB := by rw [hx]; exact h.fit i
  have hq : t / d < BB := by
    refine Nat.div_lt_of_lt_mul ?_
    have h1 : BB * (r + 1) ≤ BB * d := Nat.mul_le_mul_left _ h.rest
    rw [Nat.mul_add] at h1
    rw [Nat.mul_comm d BB]
    omega
  refine ⟨hq, ⟨by rw [List.length_set, h.len], h.fit.set _ _ hq, fun q hq => ?_, fun q hq => ?_, ?_, Nat.mod_lt _ hd⟩⟩
  · rw [set_ne _ _ _ _ (by omega)]; exact h.low q (by omega)
  · rw [set_ne _ _ _ _ (by omega)]; exact h.high q (by omega)
  · have hl : n ≤ L.length := by rw [h.len]; exact hn
    have e1 := drop_cons L0 n i hi hn
    have e2 := drop_cons (L.set i (t / d)) n i hi (by rw [List.length_set]; exact hl)
    rw [set_eq _ _ _ (by omega)] at e2
    have e3 : ((L.set i (t / d)).take n).drop (i + 1) = (L.take n).drop (i + 1) := by
      rw [List.take_set, List.drop_set_of_lt (by omega)]
    have hs := h.sum
    rw [e1, e2, e3, val_cons, val_cons, hs, ← h.low i (by omega), ← hx]
    have e4 : d * (t / d) + t % d = t := Nat.div_add_mod t d
    generalize val ((L.take n).drop (i + 1)) = v
    have e5 : d * (t / d + BB * v) = d * (t / d) + BB * (d * v) := by rw [Nat.mul_add, Nat.mul_left_comm]
    rw [e5, Nat.mul_add]
    omega
theorem DivInv.end_ {L0 L : List Nat} {n d r : Nat} (h : DivInv L0 L n 0 d r) : val (L.take n) = val (L0.take n) / d ∧ r = val (L0.take n) % d := by
  have hs := h.sum
  rw [List.drop_zero, List.drop_zero] at hs
  have hr := h.rest
  rw [hs]
  constructor
  · rw [Nat.mul_add_div (by omega), Nat.div_eq_of_lt hr, Nat.add_zero]
  · rw [Nat.mul_add_mod, Nat.mod_eq_of_lt hr]
theorem drop_set' (L : List Nat) (o i x : Nat) : (L.set (o + i) x).drop o = (L.drop o).set i x := by
  rw [List.drop_set]
  rw [if_neg (by omega)]
  congr 1
  omega
theorem drop_get (L : List Nat) (o i : Nat) : (L.drop o).getD i 0 = L.getD (o + i) 0 := by
  simp [List.getD_eq_getElem?_getD]
/-- where k times b is added in place: i limbs are done -/
structure AT (l L0 L : List Nat) (o i k c : Nat) : Prop where
  len : L.length = L0.length
  fit : Fit L
  rest : ∀ q, q < o ∨ o + i ≤ q → L.getD q 0 = L0.getD q 0
  sum : val ((L.drop o).take i) + BB ^ i * c = val ((L0.drop o).take i) + val (l.take i) * k
  carry : c < BB
theorem AT.start {l L : List Nat} {o k : Nat} (f : Fit L) : AT l L L o 0 k 0 := ⟨rfl, f, fun _ _ => rfl, by simp [val], BB_pos⟩
theorem AT.step {l L0 L : List Nat} {o i k c x y t : Nat} (h : AT l L0 L o i k c) (hi : o + i < L0.length) (hx : x = l.getD i 0) (hy : y = L.getD (o + i) 0) (fx : x < BB) (fk : k < BB) (ht : t = x * k + y + c) :
    AT l L0 (L.set (o + i) (t % BB)) o (i + 1) k (t / BB) := by
  have fy : y < BB := by rw [hy]; exact h.fit _
  have hc := h.carry
  refine ⟨by simp [h.len], h.fit.set _ _ (Nat.mod_lt _ BB_pos), fun q hq => ?_, ?_, ?_⟩
  · rw [set_ne _ _ _ _ (by omega)]; exact h.rest q (by omega)
  · have hl : ((L.drop o).take i).length = i := by rw [List.length_take, List.length_drop, h.len]; omega
    rw [drop_set', take_set _ _ _ (by rw [List.length_drop, h.len]; omega), val_snoc, hl, val_take_any, val_take_any, drop_get, ← h.rest (o + i) (by omega), ← hx, ← hy]
    have e : BB * (t / BB) + t % BB = t := Nat.div_add_mod t BB
    have h2 : BB ^ (i + 1) * (t / BB) = BB ^ i * (BB * (t / BB)) := by rw [Nat.pow_succ, Nat.mul_assoc]
    have h3 : BB ^ i * (t % BB) + BB ^ i * (BB * (t / BB)) = BB ^ i * t := by rw [← Nat.mul_add]; congr 1; omega
    have h4 : BB ^ i * t = BB ^ i * x * k + BB ^ i * y + BB ^ i * c := by rw [ht, Nat.mul_add, Nat.mul_add, Nat.mul_assoc]
    have := h.sum
    rw [Nat.add_mul]
    omega
  · refine Nat.div_lt_of_lt_mul ?_
    have h1 : x * k ≤ (BB - 1) * (BB - 1) := Nat.mul_le_mul (by omega) (by omega)
    have h2 : BB * BB = (BB - 1) * (BB - 1) + 2 * (BB - 1) + 1 := by
      obtain ⟨b, hb⟩ : ∃ b, BB = b + 1 := ⟨BB - 1, by have := BB_pos; omega⟩
      rw [hb, Nat.add_sub_cancel, Nat.add_mul, Nat.mul_add]
      omega
    omega
theorem val_three (L : List Nat) (i m : Nat) (h : i + m ≤ L.length) : val L = val (L.take i) + BB ^ i * (val ((L.drop i).take m) + BB ^ m * val (L.drop (i + m))) := by
  have e1 := val_append (L.take i) (L.drop i)
  rw [List.take_append_drop, List.length_take, Nat.min_eq_left (by omega)] at e1
  have e2 := val_append ((L.drop i).take m) ((L.drop i).drop m)
  rw [List.take_append_drop, List.drop_drop, List.length_take, List.length_drop, Nat.min_eq_left (by omega)] at e2
  rw [e1, e2]
theorem val_zero_all {l : List Nat} (h : ∀ q, l.getD q 0 = 0) : val l = 0 := by
  have := val_zeros l 0 (fun j _ => h j)
  rw [← this]; rfl
/-- where a product stands: i limbs of a are done -/
structure MulInv (a b L : List Nat) (n m i : Nat) : Prop where
  len : L.length = n + m
  fit : Fit L
  high : ∀ q, i + m ≤ q → L.getD q 0 = 0
  sum : val L = val (a.take i) * val b
theorem MulInv.start (a b : List Nat) (n m : Nat) : MulInv a b (List.replicate (n + m) 0) n m 0 :=
  ⟨by simp, Fit.of_mem fun x hx => by rw [List.eq_of_mem_replicate hx]; exact BB_pos, fun q _ => by
    rcases Nat.lt_or_ge q (n + m) with h | h
    · rw [getD_lt (by simpa using h)]; simp
    · exact getD_ge (by simpa using h), by rw [val_replicate_zero]; simp [val]⟩
theorem MulInv.step {a b L L' : List Nat} {n m i c x : Nat} (h : MulInv a b L n m i) (hi : i < n) (hb : b.length = m) (hx : x = a.getD i 0)
    (k : AT b L L' i m x c) : MulInv a b (L'.set (i + m) c) n m (i + 1) := by
  have hl' : L'.length = n + m := by rw [k.len, h.len]
  refine ⟨by rw [List.length_set, hl'], k.fit.set _ _ k.carry, fun q hq => ?_, ?_⟩
  · rw [set_ne _ _ _ _ (by omega), k.rest q (by omega)]; exact h.high q (by omega)
  · have e1 := val_three L i m (by rw [h.len]; omega)
    have e2 := val_three (L'.set (i + m) c) i m (by rw [List.length_set, hl']; omega)
    have z1 : val (L.drop (i + m)) = 0 := val_zero_all fun q => by rw [drop_get]; exact h.high _ (by omega)
    have t1 : (L'.set (i + m) c).take i = L'.take i := by rw [List.take_set_of_le (by omega)]
    have t2 : L'.take i = L.take i := by
      refine List.ext_getElem (by simp [k.len]) fun q h1 h2 => ?_
      rw [List.getElem_take, List.getElem_take]
      rw [List.length_take] at h1 h2
      have := k.rest q (.inl (by omega))
      rwa [getD_lt (by omega), getD_lt (by omega)] at this
    have t3 : ((L'.set (i + m) c).drop i).take m = (L'.drop i).take m := by
      rw [drop_set', List.take_set_of_le (Nat.le_refl _)]
    have t4 : val ((L'.set (i + m) c).drop (i + m)) = c := by
      have := drop_set' L' (i + m) 0 c
      rw [Nat.add_zero] at this
      rw [this]
      have hd : (L'.drop (i + m)) = L'.getD (i + m) 0 :: L'.drop (i + m + 1) := by
        rw [getD_lt (by omega), List.getElem_cons_drop]
      rw [hd, List.set_cons_zero, val_cons]
      have : val (L'.drop (i + m + 1)) = 0 := val_zero_all fun q => by rw [drop_get, k.rest _ (by omega)]; exact h.high _ (by omega)
      rw [this]; simp
    rw [t1, t2, t3, t4] at e2
    rw [z1, Nat.mul_zero, Nat.add_zero] at e1
    have s1 := k.sum
    rw [List.take_of_length_le (l := b) (by omega)] at s1
    rw [e2, s1, Nat.mul_add, val_take_any, ← hx, Nat.add_mul, ← h.sum, e1]
    have : BB ^ i * (val b * x) = BB ^ i * x * val b := by rw [Nat.mul_comm (val b) x, Nat.mul_assoc]
    omega
/-- where a subtraction stands: i limbs are done -/
structure SubInv (a b L : List Nat) (n i c : Nat) : Prop where
  len : L.length = n
  fit : Fit L
  rest : ∀ j, i ≤ j → L.getD j 0 = a.getD j 0
  real : val (L.take i) + val (b.take i) = val (a.take i) + BB ^ i * c
  carry : c ≤ 1
theorem SubInv.start {a b : List Nat} {n : Nat} (ha : a.length = n) (fa : Fit a) : SubInv a b a n 0 0 :=
  ⟨ha, fa, fun _ _ => rfl, by simp [val], by omega⟩
theorem SubInv.step {a b L : List Nat} {n i c x y v c' : Nat} (h : SubInv a b L n i c) (hi : i < n) (hx : x = a.getD i 0) (hy : y = b.getD i 0) (fv : v < BB) (hc' : c' ≤ 1) (hv : v + y + c = x + BB * c') :
    SubInv a b (L.set i v) n (i + 1) c' := by
  refine ⟨by simp [h.len], h.fit.set _ _ fv, fun j hj => ?_, ?_, hc'⟩
  · rw [set_ne _ _ _ _ (by omega)]; exact h.rest j (by omega)
  · have hl : (L.take i).length = i := by rw [List.length_take, h.len]; omega
    rw [take_set _ _ _ (by rw [h.len]; omega), val_snoc, hl, val_take_any, val_take_any, ← hx, ← hy]
    have h2 : BB ^ (i + 1) * c' = BB ^ i * (BB * c') := by rw [Nat.pow_succ, Nat.mul_assoc]
    have h3 : BB ^ i * v + BB ^ i * y + BB ^ i * c = BB ^ i * x + BB ^ i * (BB * c') := by rw [← Nat.mul_add, ← Nat.mul_add, ← Nat.mul_add, hv]
    have := h.real
    omega
theorem SubInv.end_ {a b L : List Nat} {n i c : Nat} (h : SubInv a b L n i c) (ha : a.length = n) (hb : b.length ≤ n) (hi : i ≤ n) (he : i = n ∨ (b.length ≤ i ∧ c = 0)) (hle : val b ≤ val a) : val L = val a - val b := by
  have hs := h.real
  rcases he with rfl | ⟨hbi, rfl⟩
  · rw [val_take_len a (by omega), val_take_len b hb, val_take_len L (by rw [h.len]; exact Nat.le_refl _)] at hs
    have hlt := val_lt h.fit
    rw [h.len] at hlt
    have hc := h.carry
    rcases (show c = 0 ∨ c = 1 from by omega) with rfl | rfl
    · omega
    · omega
  · rw [val_take_len b hbi, Nat.mul_zero, Nat.add_zero] at hs
    have e2 : val L = val (L.take i) + BB ^ i * val (L.drop i) := by
      have := val_append (L.take i) (L.drop i)
      rw [List.take_append_drop, List.length_take, h.len, Nat.min_eq_left hi] at this
      exact this
    have e3 : val a = val (a.take i) + BB ^ i * val (a.drop i) := by
      have := val_append (a.take i) (a.drop i)
      rw [List.take_append_drop, List.length_take, ha, Nat.min_eq_left hi] at this
      exact this
    have e4 : L.drop i = a.drop i := drop_eq i (by rw [h.len, ha]) fun j hj => h.rest j hj
    rw [e2, e4, e3]
    omega
end M
end Go.Proofs.Ytefkkmnhnldcbaa
