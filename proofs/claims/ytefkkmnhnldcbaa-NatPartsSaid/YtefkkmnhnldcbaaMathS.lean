/- Long division: what a guess knows of the two numbers. Plain mathematics. -/
import Derived.Test.YtefkkmnhnldcbaaMathR
namespace Go.Proofs.Ytefkkmnhnldcbaa
namespace M

structure GF (P V high next top p2 : Nat) : Prop where
  up : ∀ q, q * V ≤ P → q * high ≤ top
  over : ∀ g rest, g * high + rest = top → g * next > rest * BB + p2 → P < g * V
  near : ∀ g rest, 0 < g → g ≤ BB → 0 < high → g * high + rest = top → g * next ≤ rest * BB + p2 → (g - 1) * V ≤ P
  under : ∀ g rest, g ≤ BB → BB ≤ rest → g * high + rest = top → g * V ≤ P
  most : P < V * BB → top < (high + 1) * BB

theorem guess_ready {pl vl : List Nat} {n : Nat} (fp : Fit pl) (fv : Fit vl) (lp : pl.length = n + 1) (lv : vl.length = n) (hn : 2 ≤ n) :
    GF (val pl) (val vl) (vl.getD (n - 1) 0) (vl.getD (n - 2) 0) (pl.getD n 0 * BB + pl.getD (n - 1) 0) (pl.getD (n - 2) 0) := by
  obtain ⟨lo, e1, h1⟩ := val_top2 vl n lv hn
  obtain ⟨lo2, e2, h2⟩ := val_top2 pl (n + 1) lp (by omega)
  rw [show n + 1 - 1 = n from by omega, show n + 1 - 2 = n - 1 from by omega] at e2
  rw [show n + 1 - 2 = (n - 2) + 1 from by omega, val_take_any] at h2
  have b1 : lo < BB ^ (n - 2) := by
    have := val_lt (fv.take (n - 2))
    rw [List.length_take, Nat.min_eq_left (by omega)] at this
    omega
  have b2 : val (pl.take (n - 2)) < BB ^ (n - 2) := by
    have := val_lt (fp.take (n - 2))
    rw [List.length_take, Nat.min_eq_left (by omega)] at this
    omega
  have p1 : BB ^ (n - 1) = BB * BB ^ (n - 2) := by rw [show n - 1 = (n - 2) + 1 from by omega, Nat.pow_succ, Nat.mul_comm]
  have p2 : BB ^ n = BB * (BB * BB ^ (n - 2)) := by rw [← p1, ← Nat.pow_succ']; congr 1; omega
  have hV : val vl = vl.getD (n - 1) 0 * (BB * BB ^ (n - 2)) + vl.getD (n - 2) 0 * BB ^ (n - 2) + lo := by rw [e1, p1]
  have hP : val pl = (pl.getD n 0 * BB + pl.getD (n - 1) 0) * (BB * BB ^ (n - 2)) + pl.getD (n - 2) 0 * BB ^ (n - 2) + val (pl.take (n - 2)) := by
    rw [e2, h2, p1, p2, Nat.add_mul, Nat.mul_assoc (pl.getD n 0), Nat.mul_comm (BB ^ (n - 2)) (pl.getD (n - 2) 0)]
    omega
  obtain ⟨g1, g2, g3, g4⟩ := guess_facts hV hP b1 b2 (fp _) (fv _)
  refine ⟨g1, g2, g3, g4, fun h => ?_⟩
  generalize pl.getD n 0 * BB + pl.getD (n - 1) 0 = top at *
  have hn1 : vl.getD (n - 2) 0 < BB := fv _
  generalize vl.getD (n - 1) 0 = high at *
  generalize vl.getD (n - 2) 0 = next at *
  generalize BB ^ (n - 2) = E at *
  have h3 : (next + 1) * E ≤ BB * E := Nat.mul_le_mul_right _ hn1
  rw [Nat.add_mul, Nat.one_mul] at h3
  have h4 : val vl < (high + 1) * (BB * E) := by
    rw [hV, Nat.add_mul, Nat.one_mul]
    omega
  have h5 : val vl * BB ≤ (high + 1) * (BB * E) * BB := Nat.mul_le_mul_right _ (by omega)
  rcases Nat.lt_or_ge top ((high + 1) * BB) with h6 | h6
  · exact h6
  · exfalso
    have h7 : (high + 1) * BB * (BB * E) ≤ top * (BB * E) := Nat.mul_le_mul_right _ h6
    rw [show (high + 1) * BB * (BB * E) = (high + 1) * (BB * E) * BB from by rw [Nat.mul_right_comm]] at h7
    omega

/-- where a guess stands -/
structure GI (P V high top G R : Nat) : Prop where
  sum : G * high + R = top
  ok : P < (G + 1) * V
  rest : R < BB
  le : G ≤ BB + 1
theorem GI.start {P V high next top p2 : Nat} (h : GF P V high next top p2) (hh : 2147483648 ≤ high) (hb : high < BB) (hP : P < V * BB) : GI P V high top (top / high) (top % high) := by
  have hm : top % high < high := Nat.mod_lt _ (by omega)
  have hs : top / high * high + top % high = top := by rw [Nat.mul_comm]; exact Nat.div_add_mod top high
  refine ⟨hs, ?_, by omega, ?_⟩
  · rcases Nat.lt_or_ge P ((top / high + 1) * V) with h1 | h1
    · exact h1
    · have := h.up _ h1
      rw [Nat.add_mul] at this
      omega
  · have h1 := h.most hP
    have h2 : top < (BB + 2) * high := by
      rw [Nat.add_mul, Nat.mul_comm] at h1
      rw [Nat.add_mul]
      rw [M.BB_eq] at *
      omega
    have := (Nat.div_lt_iff_lt_mul (show 0 < high from by omega)).2 h2
    omega
theorem guess_big {P V G : Nat} (hP : P < V * BB) (hG : BB ≤ G) : P < G * V := by
  have : V * BB ≤ G * V := by rw [Nat.mul_comm]; exact Nat.mul_le_mul_right _ hG
  omega
theorem GI.step {P V high top G R : Nat} (h : GI P V high top G R) (hG : 0 < G) (ho : P < G * V) (hr : R + high < BB) : GI P V high top (G - 1) (R + high) := by
  obtain ⟨k, rfl⟩ : ∃ k, G = k + 1 := ⟨G - 1, by omega⟩
  have := h.sum
  rw [Nat.add_mul] at this
  exact ⟨by rw [Nat.add_sub_cancel]; omega, by rw [Nat.add_sub_cancel]; exact ho, hr, by have := h.le; omega⟩
/-- it breaks off: the guess is right -/
theorem GI.stop {P V high next top p2 G R : Nat} (h : GI P V high top G R) (f : GF P V high next top p2) (hP : P < V * BB) (hG : 0 < G) (hr : BB ≤ R + high) : G - 1 ≤ 4294967295 ∧ (G - 1) * V ≤ P := by
  obtain ⟨k, rfl⟩ : ∃ k, G = k + 1 := ⟨G - 1, by omega⟩
  have hs := h.sum
  rw [Nat.add_mul] at hs
  have hl := h.le
  rw [Nat.add_sub_cancel]
  have hk : k ≠ BB := by
    rintro rfl
    have h1 := f.most hP
    rw [Nat.add_mul, Nat.mul_comm] at h1
    omega
  refine ⟨by rw [M.BB_eq] at *; omega, f.under k (R + high) (by omega) hr (by omega)⟩
/-- the answer -/
structure GA (P V G : Nat) : Prop where
  lt : G ≤ 4294967295
  ok : P < (G + 1) * V
  near : (G - 1) * V ≤ P
theorem GI.done {P V high next top p2 G R : Nat} (h : GI P V high top G R) (f : GF P V high next top p2) (hh : 0 < high) (hG : G < BB) (hg : G * next ≤ R * BB + p2) : GA P V G := by
  refine ⟨by rw [M.BB_eq] at hG; omega, h.ok, ?_⟩
  rcases Nat.eq_zero_or_pos G with rfl | h0
  · simp
  · exact f.near G R h0 (by omega) hh h.sum hg
theorem GI.broke {P V high next top p2 G R : Nat} (h : GI P V high top G R) (f : GF P V high next top p2) (hP : P < V * BB) (hG : 0 < G) (ho : P < G * V) (hr : BB ≤ R + high) : GA P V (G - 1) := by
  obtain ⟨h1, h2⟩ := h.stop f hP hG hr
  exact ⟨h1, by rw [show G - 1 + 1 = G from by omega]; exact ho, Nat.le_trans (Nat.mul_le_mul_right _ (by omega)) h2⟩
end M
end Go.Proofs.Ytefkkmnhnldcbaa
