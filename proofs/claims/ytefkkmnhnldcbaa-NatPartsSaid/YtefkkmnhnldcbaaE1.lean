/- nat's calls by the numbers that their arguments say. -/
import Derived.Test.YtefkkmnhnldcbaaA9
import Derived.Test.YtefkkmnhnldcbaaA10
import Derived.Test.YtefkkmnhnldcbaaC1
namespace Go.Proofs.Ytefkkmnhnldcbaa
open Go.RowKit

/-- a list of limbs that says N, in any form -/
def In (w : World) (A : Option Addr) (n c N : Nat) : Prop := ∃ l, Lims w A n l ∧ M.val l = N ∧ n ≤ c ∧ c ≤ maxLen ∧ n ≤ 1000000
theorem In.below {w w' : World} {A : Option Addr} {n c N : Nat} (h : In w A n c N) (hb : Below w.heap.size w w') : In w' A n c N := by
  obtain ⟨l, h1, h2⟩ := h
  exact ⟨l, h1.below hb, h2⟩
theorem Num.inn {w : World} {v : Value} {N k : Nat} (h : Num w v N) (hN : N < M.BB ^ k) (hk : k ≤ 1000000) : ∃ A n c, v = .slice A n c ∧ In w A n c N := by
  obtain ⟨A, n, c, l, rfl, h1, h2, h3, h4, h5⟩ := h
  have : n ≤ k := M.len_le h2 h1.1 (by rw [h3]; exact hN)
  exact ⟨A, n, c, rfl, l, h1, h3, h4, h5, by omega⟩
theorem Num.cast {w : World} {v : Value} {N K : Nat} (h : Num w v N) (e : N = K) : Num w v K := by rw [← e]; exact h
theorem In.cast {w : World} {A : Option Addr} {n c N K : Nat} (h : In w A n c N) (e : N = K) : In w A n c K := by rw [← e]; exact h

theorem add_num {w : World} {A B : Option Addr} {n m c d N K : Nat} (h : In w A n c N) (k : In w B m d K) : Calls Try.prog 16 #[.slice A n c, .slice B m d] w (Gives w (N + K)) := by
  obtain ⟨l, h1, rfl, h3, h4, h5⟩ := h
  obtain ⟨l', k1, rfl, k3, k4, k5⟩ := k
  exact add_any _ _ _ _ _ _ _ _ _ h1 k1 h3 k3 h4 k4 h5 k5
theorem mul_num {w : World} {A B : Option Addr} {n m c d N K : Nat} (h : In w A n c N) (k : In w B m d K) : Calls Try.prog 18 #[.slice A n c, .slice B m d] w (Gives w (N * K)) := by
  obtain ⟨l, h1, rfl, h3, h4, h5⟩ := h
  obtain ⟨l', k1, rfl, k3, k4, k5⟩ := k
  exact mul_any _ _ _ _ _ _ _ _ _ h1 k1 h3 k3 h4 k4 h5 k5
theorem norm_num {w : World} {A : Option Addr} {n c N : Nat} (h : In w A n c N) : Calls Try.prog 14 #[.slice A n c] w (Gives w N) := by
  obtain ⟨l, h1, rfl, h3, h4, h5⟩ := h
  exact norm_any _ _ _ _ _ h1 h3 h4 h5
theorem sub_num {w : World} {A B : Option Addr} {n m c d N K : Nat} (h : In w A n c N) (k : In w B m d K) (hle : K ≤ N) : Calls Try.prog 20 #[.slice A n c, .slice B m d] w (Gives1 w (N - K)) := by
  obtain ⟨l, h1, rfl, h3, h4, h5⟩ := h
  obtain ⟨l', k1, rfl, k3, k4, k5⟩ := k
  exact sub_ok _ _ _ _ _ _ _ _ _ h1 k1 h3 k3 h4 k4 h5 hle
theorem sub_num_err {w : World} {A B : Option Addr} {n m c d N K : Nat} (h : In w A n c N) (k : In w B m d K) (hlt : N < K) : Calls Try.prog 20 #[.slice A n c, .slice B m d] w fun e w' => e = .returned (.tuple #[.slice none 0 0, .int .i64 6]) ∧ Below w.heap.size w w' := by
  obtain ⟨l, h1, rfl, h3, h4, h5⟩ := h
  obtain ⟨l', k1, rfl, k3, k4, k5⟩ := k
  exact (sub_err _ _ _ _ _ _ _ _ _ h1 k1 h3 k3 h4 k4 hlt).mono fun _ _ ⟨q1, j, q2⟩ => ⟨q1, by rw [q2]; exact below_drewN (Below.refl _ _) j⟩
theorem cmp_num {w : World} {A B : Option Addr} {n m c d N K : Nat} (h : In w A n c N) (k : In w B m d K) : Calls Try.prog 22 #[.slice A n c, .slice B m d] w fun e w' => e = .returned (.int .i64 (M.cmpI N K)) ∧ Below w.heap.size w w' := by
  obtain ⟨l, h1, rfl, h3, h4, h5⟩ := h
  obtain ⟨l', k1, rfl, k3, k4, k5⟩ := k
  exact (cmp_any _ _ _ _ _ _ _ _ _ h1 k1 h3 k3 h4 k4).mono fun _ _ ⟨q1, j, q2⟩ => ⟨q1, by rw [q2]; exact below_drewN (Below.refl _ _) j⟩
/-- Same of two numbers in their own form -/
theorem same_nn {w : World} {A B : Option Addr} {n m c d N K : Nat} (h : Num w (.slice A n c) N) (k : Num w (.slice B m d) K) (e : N = K) :
    Calls Try.prog 13 #[.slice A n c, .slice B m d] w fun e w' => e = .returned (.bool true) ∧ Below w.heap.size w w' := by
  subst e
  obtain ⟨B', m', d', l, e, h1, h2, h3, h4, h5⟩ := k
  obtain ⟨rfl, rfl, rfl⟩ : B = B' ∧ m = m' ∧ d = d' := by injection e with e1 e2 e3; exact ⟨e1, e2, e3⟩
  obtain ⟨A', n', c', e', hc⟩ := same_num (d := d) h h1 (by omega) h2 h3
  obtain ⟨rfl, rfl, rfl⟩ : A = A' ∧ n = n' ∧ c = c' := by injection e' with e1 e2 e3; exact ⟨e1, e2, e3⟩
  exact hc
theorem few_any (A B : Option Addr) (n m c d : Nat) (b : Bool) (k : Nat) (w : World) (_hk : k ≤ 1000000) (_hn : n ≤ maxLen) (_hm : m ≤ maxLen) (hb : b = (decide (n ≤ k) && decide (m ≤ k))) :
    Calls Try.prog 12 #[.slice A n c, .slice B m d, .int .i64 (k : Int)] w fun e w' => e = .returned (.bool b) ∧ w = w' := by
  unfold maxLen at _hn _hm
  subst hb
  by_cases h1 : n ≤ k
  · by_cases h2 : m ≤ k
    · rw [decide_eq_true h1, decide_eq_true h2]
      go_enter Try.func12, Try.ntmps12
      go_wp2
      go_ret
      exact ⟨by simp, rfl⟩
    · rw [decide_eq_true h1, decide_eq_false h2]
      go_enter Try.func12, Try.ntmps12
      go_wp2
      go_ret
      exact ⟨by simp, rfl⟩
  · rw [decide_eq_false h1]
    go_enter Try.func12, Try.ntmps12
    go_wp2
    go_ret
    exact ⟨rfl, rfl⟩

theorem lt_add {x y i j : Nat} (hx : x < M.BB ^ i) (hy : y < M.BB ^ j) : x + y < M.BB ^ (i + j + 1) := by
  have h1 : M.BB ^ i ≤ M.BB ^ (i + j) := Nat.pow_le_pow_right M.BB_pos (by omega)
  have h2 : M.BB ^ j ≤ M.BB ^ (i + j) := Nat.pow_le_pow_right M.BB_pos (by omega)
  rw [Nat.pow_succ]
  have h3 : M.BB ^ (i + j) * 2 ≤ M.BB ^ (i + j) * M.BB := Nat.mul_le_mul_left _ (by rw [M.BB_eq]; omega)
  omega
theorem lt_mul {x y i j : Nat} (hx : x < M.BB ^ i) (hy : y < M.BB ^ j) : x * y < M.BB ^ (i + j) := by
  rw [Nat.pow_add]
  rcases Nat.eq_zero_or_pos y with rfl | h
  · rw [Nat.mul_zero]; exact Nat.mul_pos (Nat.pow_pos M.BB_pos) (Nat.pow_pos M.BB_pos)
  · have h1 : x * y < M.BB ^ i * y := Nat.mul_lt_mul_of_pos_right hx h
    have h2 : M.BB ^ i * y ≤ M.BB ^ i * M.BB ^ j := Nat.mul_le_mul_left _ (Nat.le_of_lt hy)
    omega
theorem in_of {w : World} {A : Option Addr} {n c k : Nat} {l : List Nat} (h : Lims w A n l) (hn : n ≤ c) (hc : c ≤ maxLen) (hk : n ≤ k) (hk' : k ≤ 1000000) : In w A n c (M.val l) ∧ M.val l < M.BB ^ k := by
  refine ⟨⟨l, h, rfl, hn, hc, by omega⟩, ?_⟩
  have := M.val_lt h.2.1
  rw [h.1] at this
  exact Nat.lt_of_lt_of_le this (Nat.pow_le_pow_right M.BB_pos hk)
end Go.Proofs.Ytefkkmnhnldcbaa
