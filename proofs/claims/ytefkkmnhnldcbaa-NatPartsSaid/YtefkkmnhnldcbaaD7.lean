/- the reference's Add, Mul, Sub, Cmp by the numbers that their arguments say. -/
import Derived.Test.YtefkkmnhnldcbaaD6
import Derived.Test.YtefkkmnhnldcbaaD3
import Derived.Test.YtefkkmnhnldcbaaE1
namespace Go.Proofs.Ytefkkmnhnldcbaa
open Go.RowKit

theorem bits_num {w : World} {A : Option Addr} {n c N : Nat} (h : In w A n c N) : Calls Try.prog 38 #[.slice A n c] w (GivesB w N) := by
  obtain ⟨l, h1, rfl, h3, h4, h5⟩ := h
  exact bits_any _ _ _ _ _ h1 h5
theorem BNum.bts {w : World} {v : Value} {N k : Nat} (h : BNum w v N) (hN : N < M.BB ^ k) : ∃ A n c l, v = .slice A n c ∧ Bts w A n c l ∧ Bt.Top l ∧ Bt.val l = N ∧ n ≤ 32 * k := by
  obtain ⟨A, n, c, l, rfl, h1, h2, h3⟩ := h
  have := Bt.len_le (k := 32 * k) h2 (by rw [h3, ← Bt.pow_BB]; exact hN)
  rw [h1.1] at this
  exact ⟨A, n, c, l, rfl, h1, h2, h3, this⟩
theorem limbs_num {w : World} {v : Value} {N k : Nat} (h : BNum w v N) (hN : N < M.BB ^ k) (hk : k ≤ 30000) : ∃ A n c, v = .slice A n c ∧ Calls Try.prog 37 #[.slice A n c] w (Gives w N) := by
  obtain ⟨A, n, c, l, rfl, h1, h2, h3, h4⟩ := h.bts hN
  refine ⟨A, n, c, rfl, ?_⟩
  rw [← h3]
  exact limbs_any _ _ _ _ _ h1 (by omega)

theorem rnorm_num {w : World} {A : Option Addr} {n c N : Nat} (h : In w A n c N) (hn : n ≤ 900000) : Calls Try.prog 15 #[.slice A n c] w (Gives w N) := by
  obtain ⟨l, h1, rfl, h3, h4, h5⟩ := h
  exact rnorm_any _ _ _ _ _ h1 hn

theorem rAdd_num {w : World} {A B : Option Addr} {n m c d N K i j : Nat} (h : In w A n c N) (k : In w B m d K) (hN : N < M.BB ^ i) (hK : K < M.BB ^ j) (hi : i ≤ 5000) (hj : j ≤ 5000) :
    Calls Try.prog 17 #[.slice A n c, .slice B m d] w (Gives w (N + K)) := by
  have hS := Lib.hid (lt_add hN hK)
  have hN := Lib.hid hN
  have hK := Lib.hid hK
  go_enter Try.func17, Try.ntmps17
  go_wp2_with fail
  refine (bits_num h).mono ?_
  rintro e w1 ⟨v1, rfl, n1, b1⟩
  have k := k.below b1
  go_wp2_with fail
  refine (bits_num k).mono ?_
  rintro e w2 ⟨v2, rfl, n2, b2⟩
  obtain ⟨A1, m1, c1, l1, rfl, t1, _, e1, q1⟩ := (n1.below b2).bts hN.out
  obtain ⟨A2, m2, c2, l2, rfl, t2, _, e2, q2⟩ := n2.bts hK.out
  have HA := Lib.hid (radd_any A1 A2 m1 m2 c1 c2 l1 l2 w2 t1 t2 (by omega) (by omega))
  rw [e1, e2] at HA
  have b2 : Below w.heap.size w w2 := b1.trans (b2.mono b1.size)
  clear e1 e2 b1 n1 n2
  go_wp2_with fail
  refine HA.out.mono ?_
  rintro e w3 ⟨v3, rfl, n3, b3⟩
  have b3 : Below w.heap.size w w3 := b2.trans (b3.mono b2.size)
  obtain ⟨A3, m3, c3, rfl, L3⟩ := limbs_num n3 hS.out (by omega)
  have L3 := Lib.hid L3
  clear b2 n3
  go_wp2_with fail
  refine L3.out.mono ?_
  rintro e w4 ⟨v4, rfl, n4, b4⟩
  go_wp2_with fail
  go_ret
  exact ⟨v4, rfl, n4, b3.trans (b4.mono b3.size)⟩

theorem rMul_num {w : World} {A B : Option Addr} {n m c d N K i j : Nat} (h : In w A n c N) (k : In w B m d K) (hN : N < M.BB ^ i) (hK : K < M.BB ^ j) (hi : i ≤ 5000) (hj : j ≤ 5000) :
    Calls Try.prog 19 #[.slice A n c, .slice B m d] w (Gives w (N * K)) := by
  have hS := Lib.hid (lt_mul hN hK)
  have hN := Lib.hid hN
  have hK := Lib.hid hK
  go_enter Try.func19, Try.ntmps19
  go_wp2_with fail
  refine (bits_num h).mono ?_
  rintro e w1 ⟨v1, rfl, n1, b1⟩
  have k := k.below b1
  go_wp2_with fail
  refine (bits_num k).mono ?_
  rintro e w2 ⟨v2, rfl, n2, b2⟩
  obtain ⟨A1, m1, c1, l1, rfl, t1, _, e1, q1⟩ := (n1.below b2).bts hN.out
  obtain ⟨A2, m2, c2, l2, rfl, t2, _, e2, q2⟩ := n2.bts hK.out
  have HA := Lib.hid (rmul_any A1 A2 m1 m2 c1 c2 l1 l2 w2 t1 t2 (by omega) (by omega))
  rw [e1, e2] at HA
  have b2 : Below w.heap.size w w2 := b1.trans (b2.mono b1.size)
  clear e1 e2 b1 n1 n2
  go_wp2_with fail
  refine HA.out.mono ?_
  rintro e w3 ⟨v3, rfl, n3, b3⟩
  have b3 : Below w.heap.size w w3 := b2.trans (b3.mono b2.size)
  obtain ⟨A3, m3, c3, rfl, L3⟩ := limbs_num n3 hS.out (by omega)
  have L3 := Lib.hid L3
  clear b2 n3
  go_wp2_with fail
  refine L3.out.mono ?_
  rintro e w4 ⟨v4, rfl, n4, b4⟩
  go_wp2_with fail
  go_ret
  exact ⟨v4, rfl, n4, b3.trans (b4.mono b3.size)⟩

theorem rCmp_num {w : World} {A B : Option Addr} {n m c d N K i j : Nat} (h : In w A n c N) (k : In w B m d K) (hN : N < M.BB ^ i) (hK : K < M.BB ^ j) (hi : i ≤ 5000) (hj : j ≤ 5000) :
    Calls Try.prog 23 #[.slice A n c, .slice B m d] w fun e w' => e = .returned (.int .i64 (M.cmpI N K)) ∧ Below w.heap.size w w' := by
  have hN := Lib.hid hN
  have hK := Lib.hid hK
  obtain ⟨z, HZ⟩ : ∃ z, Hid (M.cmpI N K = z) := ⟨_, rfl⟩
  rw [HZ.out]
  go_enter Try.func23, Try.ntmps23
  go_wp2_with fail
  refine (bits_num h).mono ?_
  rintro e w1 ⟨v1, rfl, n1, b1⟩
  have k := k.below b1
  go_wp2_with fail
  refine (bits_num k).mono ?_
  rintro e w2 ⟨v2, rfl, n2, b2⟩
  obtain ⟨A1, m1, c1, l1, rfl, t1, _, e1, q1⟩ := (n1.below b2).bts hN.out
  obtain ⟨A2, m2, c2, l2, rfl, t2, _, e2, q2⟩ := n2.bts hK.out
  have HA := Lib.hid (rcmp_any A1 A2 m1 m2 c1 c2 l1 l2 w2 t1 t2 (by omega) (by omega))
  rw [e1, e2, HZ.out] at HA
  have b2 : Below w.heap.size w w2 := b1.trans (b2.mono b1.size)
  clear e1 e2 b1 n1 n2
  go_wp2_with fail
  refine HA.out.mono ?_
  rintro e w3 ⟨rfl, rfl⟩
  go_wp2_with fail
  go_ret
  exact ⟨rfl, b2⟩

theorem rSub_num {w : World} {A B : Option Addr} {n m c d N K i j : Nat} (h : In w A n c N) (k : In w B m d K) (hN : N < M.BB ^ i) (hK : K < M.BB ^ j) (hi : i ≤ 5000) (hj : j ≤ 5000) (hle : K ≤ N) :
    Calls Try.prog 21 #[.slice A n c, .slice B m d] w (Gives1 w (N - K)) := by
  have hS : Hid (N - K < M.BB ^ i) := Nat.lt_of_le_of_lt (Nat.sub_le _ _) hN
  have hN := Lib.hid hN
  have hK := Lib.hid hK
  obtain ⟨z, HZ, hz⟩ : ∃ z : Nat, Hid (M.cmpI N K = (z : Int)) ∧ True := by
    rcases Nat.lt_or_ge K N with h | h
    · exact ⟨1, M.cmpI_gt h, trivial⟩
    · obtain rfl : N = K := by omega
      exact ⟨0, M.cmpI_eq _, trivial⟩
  have HLE := Lib.hid hle
  clear hle hz
  go_enter Try.func21, Try.ntmps21
  go_wp2_with fail
  refine (bits_num h).mono ?_
  rintro e w1 ⟨v1, rfl, n1, b1⟩
  have k := k.below b1
  go_wp2_with fail
  refine (bits_num k).mono ?_
  rintro e w2 ⟨v2, rfl, n2, b2⟩
  obtain ⟨A1, m1, c1, l1, rfl, t1, p1, e1, q1⟩ := (n1.below b2).bts hN.out
  obtain ⟨A2, m2, c2, l2, rfl, t2, p2, e2, q2⟩ := n2.bts hK.out
  have HC := Lib.hid (rcmp_any A1 A2 m1 m2 c1 c2 l1 l2 w2 t1 t2 (by omega) (by omega))
  have hml : m2 ≤ m1 := by
    have h1 := Bt.len_le (k := m1) p2 (by
      rw [e2]
      refine Nat.lt_of_le_of_lt HLE.out ?_
      rw [← e1, ← t1.1]
      exact Bt.val_lt l1)
    rw [t2.1] at h1
    exact h1
  have HA := Lib.hid (rsub_any A1 A2 m1 m2 c1 c2 l1 l2 w2 t1 t2 (by omega) hml (by rw [e1, e2]; exact HLE.out))
  rw [e1, e2] at HA
  rw [e1, e2, HZ.out] at HC
  have b2 : Below w.heap.size w w2 := b1.trans (b2.mono b1.size)
  clear e1 e2 b1 n1 n2 p1 p2
  go_wp2_with fail
  refine HC.out.mono ?_
  rintro e w3 ⟨rfl, rfl⟩
  go_wp2_with fail
  refine HA.out.mono ?_
  rintro e w3 ⟨v3, rfl, n3, b3⟩
  have b3 : Below w.heap.size w w3 := b2.trans (b3.mono b2.size)
  obtain ⟨A3, m3, c3, rfl, L3⟩ := limbs_num n3 hS.out (by omega)
  have L3 := Lib.hid L3
  clear b2 n3
  go_wp2_with fail
  refine L3.out.mono ?_
  rintro e w4 ⟨v4, rfl, n4, b4⟩
  go_wp2_with fail
  go_ret2
  exact ⟨v4, rfl, n4, b3.trans (b4.mono b3.size)⟩

theorem rSub_num_err {w : World} {A B : Option Addr} {n m c d N K i j : Nat} (h : In w A n c N) (k : In w B m d K) (hN : N < M.BB ^ i) (hK : K < M.BB ^ j) (hi : i ≤ 5000) (hj : j ≤ 5000) (hlt : N < K) :
    Calls Try.prog 21 #[.slice A n c, .slice B m d] w fun e w' => e = .returned (.tuple #[.slice none 0 0, .int .i64 6]) ∧ Below w.heap.size w w' := by
  have hN := Lib.hid hN
  have hK := Lib.hid hK
  have HZ : Hid (M.cmpI N K = -1) := M.cmpI_lt hlt
  clear hlt
  go_enter Try.func21, Try.ntmps21
  go_wp2_with fail
  refine (bits_num h).mono ?_
  rintro e w1 ⟨v1, rfl, n1, b1⟩
  have k := k.below b1
  go_wp2_with fail
  refine (bits_num k).mono ?_
  rintro e w2 ⟨v2, rfl, n2, b2⟩
  obtain ⟨A1, m1, c1, l1, rfl, t1, _, e1, q1⟩ := (n1.below b2).bts hN.out
  obtain ⟨A2, m2, c2, l2, rfl, t2, _, e2, q2⟩ := n2.bts hK.out
  have HC := Lib.hid (rcmp_any A1 A2 m1 m2 c1 c2 l1 l2 w2 t1 t2 (by omega) (by omega))
  rw [e1, e2, HZ.out] at HC
  have b2 : Below w.heap.size w w2 := b1.trans (b2.mono b1.size)
  clear e1 e2 b1 n1 n2
  go_wp2_with fail
  refine HC.out.mono ?_
  rintro e w3 ⟨rfl, rfl⟩
  go_wp2_with fail
  go_ret2
  exact ⟨rfl, b2⟩
end Go.Proofs.Ytefkkmnhnldcbaa
