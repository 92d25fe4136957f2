/- Long division: where it stands, step by step. Plain mathematics. -/
import Derived.Test.YtefkkmnhnldcbaaMathS
namespace Go.Proofs.Ytefkkmnhnldcbaa
namespace M

theorem val_split (L : List Nat) (i : Nat) (h : i ≤ L.length) : val L = val (L.take i) + BB ^ i * val (L.drop i) := by
  have e := val_append (L.take i) (L.drop i)
  rw [List.take_append_drop, List.length_take, Nat.min_eq_left h] at e
  exact e

structure DL (U Q : List Nat) (u0 V n s m : Nat) : Prop where
  lenU : U.length = s + n
  fitU : Fit U
  lenQ : Q.length = s
  fitQ : Fit Q
  sum : V * (BB ^ m * val (Q.drop m)) + val U = u0
  lt : val (U.drop m) < V

theorem DL.start {U : List Nat} {V n s : Nat} (hl : U.length = s + n) (hf : Fit U) (h : val (U.drop s) < V) : DL U (List.replicate s 0) (val U) V n s s :=
  ⟨hl, hf, by simp, Fit.of_mem fun x hx => by rw [List.eq_of_mem_replicate hx]; exact BB_pos, by rw [List.drop_of_length_le (by simp), val_nil]; simp, h⟩

/-- the piece from j on, n + 1 limbs long -/
theorem DL.part {U Q : List Nat} {u0 V n s j : Nat} (h : DL U Q u0 V n s (j + 1)) (hj : j < s) (hV : V < BB ^ n) :
    val ((U.drop j).take (n + 1)) < V * BB ∧ val (U.drop (j + n + 1)) = 0 ∧ val (U.drop j) = val ((U.drop j).take (n + 1)) := by
  have hl := h.lenU
  have h0 : val (U.drop (j + n + 1)) = 0 := by
    have e := val_split (U.drop (j + 1)) n (by rw [List.length_drop]; omega)
    rw [List.drop_drop, show j + 1 + n = j + n + 1 from by omega] at e
    rcases Nat.eq_zero_or_pos (val (U.drop (j + n + 1))) with h1 | h1
    · exact h1
    · exfalso
      have h2 : BB ^ n * 1 ≤ BB ^ n * val (U.drop (j + n + 1)) := Nat.mul_le_mul_left _ h1
      have := h.lt
      omega
  have e2 := val_split (U.drop j) (n + 1) (by rw [List.length_drop]; omega)
  rw [List.drop_drop, show j + (n + 1) = j + n + 1 from by omega, h0, Nat.mul_zero, Nat.add_zero] at e2
  refine ⟨?_, h0, e2⟩
  rw [← e2, List.drop_eq_getElem_cons (by omega), val_cons]
  have h3 : U[j] < BB := h.fitU.mem (List.getElem_mem _)
  have h4 : BB * (val (U.drop (j + 1)) + 1) ≤ BB * V := Nat.mul_le_mul_left _ h.lt
  rw [Nat.mul_add, Nat.mul_one, Nat.mul_comm BB V] at h4
  omega

/-- a step's end: the piece is what it was less q times V -/
structure DS (U U2 : List Nat) (V n j q : Nat) : Prop where
  len : U2.length = U.length
  fit : Fit U2
  rest : ∀ p, p < j ∨ j + n + 1 ≤ p → U2.getD p 0 = U.getD p 0
  sum : val ((U2.drop j).take (n + 1)) + q * V = val ((U.drop j).take (n + 1))
  lt : val ((U2.drop j).take (n + 1)) < V
  q_lt : q ≤ 4294967295

theorem take_eq {l m : List Nat} (i : Nat) (hl : l.length = m.length) (h : ∀ j, j < i → l.getD j 0 = m.getD j 0) : l.take i = m.take i := by
  apply List.ext_getElem?
  intro k
  rw [List.getElem?_take, List.getElem?_take]
  split
  · rename_i hk
    have := h k hk
    rcases Nat.lt_or_ge k l.length with h1 | h1
    · rw [getD_lt h1, getD_lt (by omega : k < m.length)] at this
      rw [List.getElem?_eq_getElem h1, List.getElem?_eq_getElem (by omega : k < m.length), this]
    · rw [List.getElem?_eq_none h1, List.getElem?_eq_none (by omega)]
  · rfl

theorem DL.step {U U2 Q : List Nat} {u0 V n s j q : Nat} (h : DL U Q u0 V n s (j + 1)) (hj : j < s) (hV : V < BB ^ n) (d : DS U U2 V n j q) : DL U2 (Q.set j q) u0 V n s j := by
  have hl := h.lenU
  have hq : q < BB := by rw [BB_eq]; have := d.q_lt; omega
  obtain ⟨h1, h2, h3⟩ := h.part hj hV
  have h4 : U2.drop (j + n + 1) = U.drop (j + n + 1) := drop_eq _ d.len fun p hp => d.rest p (.inr hp)
  have h5 : U2.take j = U.take j := take_eq _ d.len fun p hp => d.rest p (.inl hp)
  have h6 : val (U2.drop j) = val ((U2.drop j).take (n + 1)) := by
    have e2 := val_split (U2.drop j) (n + 1) (by rw [List.length_drop, d.len]; omega)
    rw [List.drop_drop, show j + (n + 1) = j + n + 1 from by omega, h4, h2, Nat.mul_zero, Nat.add_zero] at e2
    exact e2
  refine ⟨d.len.trans hl, d.fit, by rw [List.length_set]; exact h.lenQ, h.fitQ.set _ _ hq, ?_, by rw [h6]; exact d.lt⟩
  have e1 := val_split U j (by omega)
  have e2 := val_split U2 j (by rw [d.len]; omega)
  rw [h5, h6] at e2
  rw [h3, ← d.sum] at e1
  have e3 : (Q.set j q).drop j = q :: Q.drop (j + 1) := by
    rw [List.drop_eq_getElem_cons (by rw [List.length_set, h.lenQ]; exact hj), List.getElem_set_self, List.drop_set_of_lt (by omega)]
  have hs := h.sum
  rw [e3, val_cons, e2]
  rw [e1] at hs
  have e4 : V * (BB ^ j * (q + BB * val (Q.drop (j + 1)))) = BB ^ j * (q * V) + V * (BB ^ (j + 1) * val (Q.drop (j + 1))) := by
    rw [Nat.mul_add (BB ^ j), Nat.mul_add V, Nat.pow_succ, Nat.mul_assoc (BB ^ j) BB, Nat.mul_left_comm V, Nat.mul_comm V q]
  rw [e4, ← hs, Nat.mul_add]
  omega

/-- the guess was right -/
theorem DS.right {U U2 l : List Nat} {V n j G : Nat} (hl : val l = V) (t : TTEnd l U U2 j n G 0) (g : GA (val ((U.drop j).take (n + 1))) V G) : DS U U2 V n j G := by
  have hs := t.sum
  rw [hl, Nat.mul_zero, Nat.add_zero, Nat.mul_comm] at hs
  refine ⟨t.len, t.fit, fun p hp => t.rest p (by omega), hs, ?_, g.lt⟩
  have := g.ok
  rw [Nat.add_mul] at this
  omega

theorem TTEnd.pos {U U2 l : List Nat} {n j G : Nat} (hj : j + n < U.length) (t : TTEnd l U U2 j n G 1) : 1 ≤ G := by
  have hs := t.sum
  have hB2 : val ((U2.drop j).take (n + 1)) < BB ^ (n + 1) := by
    have := val_lt ((t.fit.drop j).take (n + 1))
    rw [List.length_take, List.length_drop, t.len, Nat.min_eq_left (by omega)] at this
    exact this
  rcases Nat.eq_zero_or_pos G with rfl | h0
  · rw [Nat.mul_zero, Nat.mul_one] at hs; omega
  · exact h0
/-- it was one too great, and is mended -/
theorem DS.mended {U U2 U3 l : List Nat} {V n j G c y : Nat} (hl : val l = V) (hn : l.length = n) (hj : j + n < U.length) (hV : V < BB ^ n) (t : TTEnd l U U2 j n G 1) (g : GA (val ((U.drop j).take (n + 1))) V G)
    (a : AT l U2 U3 j n 1 c) (hy : y = U2.getD (j + n) 0) : DS U (U3.set (j + n) 0) V n j (G - 1) ∧ y + c = BB := by
  have hs := t.sum
  rw [hl, Nat.mul_one] at hs
  have hB2 : val ((U2.drop j).take (n + 1)) < BB ^ (n + 1) := by
    have := val_lt ((t.fit.drop j).take (n + 1))
    rw [List.length_take, List.length_drop, t.len, Nat.min_eq_left (by omega)] at this
    exact this
  have hG : 1 ≤ G := by
    rcases Nat.eq_zero_or_pos G with rfl | h0
    · rw [Nat.mul_zero] at hs; omega
    · exact h0
  obtain ⟨k, rfl⟩ : ∃ k, G = k + 1 := ⟨G - 1, by omega⟩
  have hn1 := g.near
  have ho := g.ok
  rw [Nat.add_sub_cancel] at hn1 ⊢
  rw [Nat.mul_comm V, Nat.add_mul, Nat.one_mul] at hs
  have hlt : val ((U.drop j).take (n + 1)) < k * V + V := by
    rcases Nat.lt_or_ge (val ((U.drop j).take (n + 1))) (k * V + V) with h1 | h1
    · exact h1
    · omega
  have ha := a.sum
  rw [List.take_of_length_le (l := l) (by omega), hl, Nat.mul_one] at ha
  have e2 : val ((U2.drop j).take (n + 1)) = val ((U2.drop j).take n) + BB ^ n * y := by rw [val_take_any, drop_get, ← hy]
  have h3 : val ((U3.drop j).take n) < BB ^ n := by
    have := val_lt ((a.fit.drop j).take n)
    rw [List.length_take, List.length_drop, a.len, t.len, Nat.min_eq_left (by omega)] at this
    exact this
  have hp : BB ^ (n + 1) = BB ^ n * BB := Nat.pow_succ ..
  have hyc : BB ^ n * (y + c) = BB ^ n * y + BB ^ n * c := Nat.mul_add ..
  have hyB : y + c = BB := by
    rcases Nat.lt_trichotomy (y + c) BB with h4 | h4 | h4
    · exfalso
      have : BB ^ n * (y + c + 1) ≤ BB ^ n * BB := Nat.mul_le_mul_left _ h4
      rw [Nat.mul_add, Nat.mul_one] at this
      omega
    · exact h4
    · exfalso
      have : BB ^ n * (BB + 1) ≤ BB ^ n * (y + c) := Nat.mul_le_mul_left _ h4
      rw [Nat.mul_add, Nat.mul_one] at this
      omega
  rw [hyB] at hyc
  have e5 : val (((U3.set (j + n) 0).drop j).take (n + 1)) = val ((U3.drop j).take n) := by
    rw [drop_set', take_set _ _ _ (by rw [List.length_drop, a.len, t.len]; omega), val_snoc, Nat.mul_zero, Nat.add_zero]
  refine ⟨⟨by rw [List.length_set, a.len, t.len], a.fit.set _ _ BB_pos, fun p hp => ?_, ?_, ?_, by have := g.lt; omega⟩, hyB⟩
  · rw [set_ne _ _ _ _ (by omega), a.rest p (by omega)]
    exact t.rest p (by omega)
  · rw [e5]; omega
  · rw [e5]; omega
/-- the end -/
theorem DL.end_ {U Q : List Nat} {a b K V n s : Nat} (h : DL U Q (a * K) V n s 0) (hK : 0 < K) (hV : V = b * K) (hV2 : V < BB ^ n) (hn : n ≤ U.length) : val Q = a / b ∧ val (U.take n) / K = a % b := by
  have hs := h.sum
  have hl := h.lt
  rw [List.drop_zero] at hl
  rw [List.drop_zero, Nat.pow_zero, Nat.one_mul] at hs
  have e := val_split U n hn
  have h0 : val (U.take n) = val U := by
    rcases Nat.eq_zero_or_pos (val (U.drop n)) with h1 | h1
    · rw [e, h1, Nat.mul_zero, Nat.add_zero]
    · exfalso
      have : BB ^ n * 1 ≤ BB ^ n * val (U.drop n) := Nat.mul_le_mul_left _ h1
      omega
  have hVp : 0 < V := by omega
  have d1 : val Q = a * K / V := by rw [← hs, Nat.mul_add_div hVp, Nat.div_eq_of_lt hl, Nat.add_zero]
  have d2 : val U = a * K % V := by rw [← hs, Nat.mul_add_mod, Nat.mod_eq_of_lt hl]
  refine ⟨by rw [d1, hV, Nat.mul_div_mul_right _ _ hK], ?_⟩
  rw [h0, d2, hV, Nat.mul_mod_mul_right, Nat.mul_div_cancel _ hK]

/-- how the divisor is shifted -/
theorem shifted {b L : List Nat} {n K R x : Nat} (hb : b.length = n) (hL : L.length = n + 1) (fb : Fit b) (fL : Fit L) (hn : 1 ≤ n) (hx : x = b.getD (n - 1) 0) (hKR : K * R = BB) (h1 : 2147483648 ≤ x * K) (h2 : x * K ≤ 4294967295) (hs : val L = val b * K) :
    val (L.take n) = val b * K ∧ val b * K < BB ^ n ∧ 2147483648 ≤ (L.take n).getD (n - 1) 0 := by
  obtain ⟨m, rfl⟩ : ∃ m, n = m + 1 := ⟨n - 1, by omega⟩
  rw [Nat.add_sub_cancel] at hx ⊢
  have e : val b = val (b.take m) + BB ^ m * x := by rw [← val_take_len b (n := m + 1) (by omega), val_take_any, hx]
  have hbm : val (b.take m) < BB ^ m := by
    have := val_lt (fb.take m)
    rw [List.length_take, Nat.min_eq_left (by omega)] at this
    exact this
  have hxK : (x + 1) * K ≤ BB := by
    have hK : 0 < K := by
      rcases Nat.eq_zero_or_pos K with rfl | h; · omega
      · exact h
    have h3 : x < R := by
      have : K * x < K * R := by rw [hKR, Nat.mul_comm, BB_eq]; omega
      exact Nat.lt_of_mul_lt_mul_left this
    rw [← hKR, Nat.mul_comm]
    exact Nat.mul_le_mul_left _ h3
  have hlt : val b * K < BB ^ (m + 1) := by
    have h3 : val b * K < BB ^ m * (x + 1) * K := by
      refine Nat.mul_lt_mul_of_pos_right ?_ (by rcases Nat.eq_zero_or_pos K with rfl | h; · omega
                                                · exact h)
      rw [e, Nat.mul_add]
      omega
    have h4 : BB ^ m * (x + 1) * K ≤ BB ^ m * BB := by rw [Nat.mul_assoc]; exact Nat.mul_le_mul_left _ hxK
    rw [Nat.pow_succ]
    omega
  have h5 := val_split L (m + 1) (by omega)
  have h6 : val (L.drop (m + 1)) = 0 := by
    rcases Nat.eq_zero_or_pos (val (L.drop (m + 1))) with h7 | h7
    · exact h7
    · exfalso
      have : BB ^ (m + 1) * 1 ≤ BB ^ (m + 1) * val (L.drop (m + 1)) := Nat.mul_le_mul_left _ h7
      omega
  rw [h6, Nat.mul_zero, Nat.add_zero] at h5
  refine ⟨by rw [← h5]; exact hs, hlt, ?_⟩
  have h8 : (L.take (m + 1)).getD m 0 = L.getD m 0 := by simp [List.getD_eq_getElem?_getD]
  rw [h8]
  have h9 := val_take_any L m
  have h10 : val (L.take m) < BB ^ m := by
    have := val_lt (fL.take m)
    rw [List.length_take, Nat.min_eq_left (by omega)] at this
    exact this
  rcases Nat.lt_or_ge (L.getD m 0) 2147483648 with h11 | h11
  · exfalso
    have h12 : BB ^ m * (L.getD m 0 + 1) ≤ BB ^ m * (x * K) := Nat.mul_le_mul_left _ (by omega)
    rw [Nat.mul_add, Nat.mul_one, ← Nat.mul_assoc] at h12
    have h13 : BB ^ m * x * K ≤ val b * K := Nat.mul_le_mul_right _ (by omega)
    omega
  · exact h11

/-- the highest limbs of what is divided are less than the divisor -/
theorem begun {a U : List Nat} {la n s K V : Nat} (ha : a.length = la) (fa : Fit a) (hU : U.length = s + n) (hla : la + 1 = s + n) (hn : 1 ≤ n) (hs : val U = val a * K) (hK : K ≤ 2147483648) (hV : 2147483648 * BB ^ (n - 1) ≤ V) : val (U.drop s) < V := by
  obtain ⟨m, rfl⟩ : ∃ m, n = m + 1 := ⟨n - 1, by omega⟩
  rw [Nat.add_sub_cancel] at hV
  obtain rfl : la = s + m := by omega
  have e := val_split U s (by omega)
  have h1 : val a < BB ^ (s + m) := by rw [← ha]; exact val_lt fa
  have h2 : val a * K < BB ^ (s + m) * 2147483648 := by
    rcases Nat.eq_zero_or_pos K with rfl | h0
    · rw [Nat.mul_zero]; have := Nat.pow_pos (n := s + m) BB_pos; omega
    · have h3 : val a * K < BB ^ (s + m) * K := Nat.mul_lt_mul_of_pos_right h1 h0
      have h4 : BB ^ (s + m) * K ≤ BB ^ (s + m) * 2147483648 := Nat.mul_le_mul_left _ hK
      omega
  rcases Nat.lt_or_ge (val (U.drop s)) V with h5 | h5
  · exact h5
  · exfalso
    have h6 : BB ^ s * (2147483648 * BB ^ m) ≤ BB ^ s * val (U.drop s) := Nat.mul_le_mul_left _ (by omega)
    rw [Nat.pow_add, Nat.mul_assoc, Nat.mul_comm (BB ^ m)] at h2
    omega
end M
end Go.Proofs.Ytefkkmnhnldcbaa
