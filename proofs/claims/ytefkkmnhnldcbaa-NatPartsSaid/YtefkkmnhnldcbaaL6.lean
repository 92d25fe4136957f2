/- nat's DivMod by the numbers that its arguments say; NatBack: its walk. -/
import Derived.Test.YtefkkmnhnldcbaaA16
import Derived.Test.YtefkkmnhnldcbaaE2
namespace Go.Proofs.Ytefkkmnhnldcbaa
open Go.RowKit

theorem divMod_num {w : World} {A B : Option Addr} {n m c d N K : Nat} (h : In w A n c N) (k : In w B m d K) (hK : 0 < K) : Calls Try.prog 24 #[.slice A n c, .slice B m d] w (GivesTwo w (N / K) (N % K)) := by
  obtain ⟨l, h1, rfl, h3, h4, h5⟩ := h
  obtain ⟨l', k1, rfl, k3, k4, k5⟩ := k
  exact divMod_any _ _ _ _ _ _ _ _ _ ⟨h1, k1, h3, k3, h4, k4, h5, k5⟩ hK
theorem divMod_num_zero {w : World} {A B : Option Addr} {n m c d N K : Nat} (h : In w A n c N) (k : In w B m d K) (hK : K = 0) : Calls Try.prog 24 #[.slice A n c, .slice B m d] w fun e w' => e = .returned (.tuple #[.slice none 0 0, .slice none 0 0, .int .i64 7]) ∧ w = w' := by
  obtain ⟨l, h1, rfl, h3, h4, h5⟩ := h
  obtain ⟨l', k1, rfl, k3, k4, k5⟩ := k
  exact divMod_zero _ _ _ _ _ _ _ _ _ ⟨h1, k1, h3, k3, h4, k4, h5, k5⟩ hK
/-- nought has no limbs -/
theorem Num.zero {w : World} {v : Value} (h : Num w v 0) : ∃ A c, v = .slice A 0 c := by
  obtain ⟨A, n, c, l, rfl, h1, h2, h3, h4, h5⟩ := h
  have : n ≤ 0 := M.len_le h2 h1.1 (by rw [h3]; simp)
  obtain rfl : n = 0 := by omega
  exact ⟨A, c, rfl⟩

set_option maxRecDepth 100000 in
set_option maxHeartbeats 4000000 in
theorem natBack_ok (A B : Option Addr) (n m c d X : Nat) (k l : List Nat) (w : World) (ha : In w A n c (M.val k)) (hb : In w B m d (M.val l))
    (la : M.val k < M.BB ^ X) (lb : M.val l < M.BB ^ X) (hX : X ≤ 300) (h1 : n ≤ 200) (h2 : m ≤ 200) (hp : 0 < M.val l) :
    Calls Try.prog 7 #[.slice A n c, .slice B m d] w fun e w' => e = .returned (.bool true) ∧ Below w.heap.size w w' := by
  generalize M.val k = N at *
  generalize M.val l = K at *
  have HP := Lib.hid hp
  clear hp
  have LA := Lib.hid la
  have LB := Lib.hid lb
  clear la lb
  have LQ : Hid (N / K < M.BB ^ X) := Nat.lt_of_le_of_lt (Nat.div_le_self _ _) LA.out
  have LR : Hid (N % K < M.BB ^ X) := Nat.lt_trans (Nat.mod_lt _ HP.out) LB.out
  have C1 := Lib.hid fun (W : World) (A' : Option Addr) (n' c' : Nat) (q1 : In W A' n' c' N) (q2 : In W A n c N) => cmp_num q1 q2
  rw [M.cmpI_eq] at C1
  have C2 := Lib.hid fun (W : World) (A' : Option Addr) (n' c' : Nat) (q1 : In W A' n' c' (N % K)) (q2 : In W B m d K) => cmp_num q1 q2
  rw [M.cmpI_lt (Nat.mod_lt _ HP.out)] at C2
  go_enter Try.func7, Try.ntmps7
  go_wp2_with fail
  refine (awake_any _).mono ?_
  rintro e w1 ⟨rfl, b1⟩
  go_wp2_with fail
  refine (few_any _ _ _ _ _ _ true 200 _ (by omega) (by unfold maxLen; omega) (by unfold maxLen; omega) (by simp [h1, h2])).mono ?_
  rintro e w0 ⟨rfl, rfl⟩
  go_wp2_with fail
  refine (divMod_num (ha.below b1) (hb.below b1) HP.out).mono ?_
  rintro e w2 ⟨vq, vr, rfl, nq, nr, b2'⟩
  have b2 := b1.trans (b2'.mono b1.size)
  obtain ⟨Aq, qq, cq, rfl, iq⟩ := nq.inn LQ.out (by omega)
  obtain ⟨Ar, qr, cr, rfl, ir⟩ := nr.inn LR.out (by omega)
  clear b1 b2' nq nr
  go_wp2_with fail
  refine (mul_num iq (hb.below b2)).mono ?_
  rintro e w3 ⟨v3, rfl, n3, b3'⟩
  have b3 := b2.trans (b3'.mono b2.size)
  have L3 := Lib.hid (lt_mul LQ.out LB.out)
  obtain ⟨A3, q3, c3, rfl, i3⟩ := n3.inn L3.out (by omega)
  have ir3 := ir.below b3'
  clear b2 b3' n3 ir iq
  go_wp2_with fail
  refine (add_num i3 ir3).mono ?_
  rintro e w4 ⟨v4, rfl, n4, b4'⟩
  have b4 := b3.trans (b4'.mono b3.size)
  have L4 := Lib.hid (lt_add L3.out LR.out)
  obtain ⟨A4, q4, c4, rfl, i4⟩ := n4.inn L4.out (by omega)
  have i4 := i4.cast (Nat.div_add_mod' N K)
  have ir4 := ir3.below b4'
  clear b3 b4' n4 ir3 i3
  go_wp2_with fail
  refine (C1.out _ _ _ _ i4 (ha.below b4)).mono ?_
  rintro e w5 ⟨rfl, b5'⟩
  have b5 := b4.trans (b5'.mono b4.size)
  have ir5 := ir4.below b5'
  clear b4 b5' ir4 i4
  go_wp2_with fail
  refine (C2.out _ _ _ _ ir5 (hb.below b5)).mono ?_
  rintro e w6 ⟨rfl, b6'⟩
  have b6 := b5.trans (b6'.mono b5.size)
  clear b5 b6'
  go_wp2_with fail
  go_ret
  exact ⟨rfl, b6⟩

set_option maxRecDepth 100000 in
set_option maxHeartbeats 4000000 in
theorem natBack_zero (A B : Option Addr) (n m c d : Nat) (k l : List Nat) (w : World) (ha : In w A n c (M.val k)) (hb : In w B m d (M.val l))
    (h1 : n ≤ 200) (h2 : m ≤ 200) (hp : M.val l = 0) :
    Calls Try.prog 7 #[.slice A n c, .slice B m d] w fun e w' => e = .returned (.bool true) ∧ Below w.heap.size w w' := by
  generalize M.val k = N at *
  rw [hp] at hb
  clear hp
  go_enter Try.func7, Try.ntmps7
  go_wp2_with fail
  refine (awake_any _).mono ?_
  rintro e w1 ⟨rfl, b1⟩
  go_wp2_with fail
  refine (few_any _ _ _ _ _ _ true 200 _ (by omega) (by unfold maxLen; omega) (by unfold maxLen; omega) (by simp [h1, h2])).mono ?_
  rintro e w0 ⟨rfl, rfl⟩
  go_wp2_with fail
  refine (divMod_num_zero (ha.below b1) (hb.below b1) rfl).mono ?_
  rintro e w2 ⟨rfl, rfl⟩
  go_wp2_with fail
  refine (norm_num (hb.below b1)).mono ?_
  rintro e w3 ⟨v3, rfl, n3, b3'⟩
  have b3 := b1.trans (b3'.mono b1.size)
  obtain ⟨A3, c3, rfl⟩ := n3.zero
  clear b1 b3' n3
  go_wp2_with fail
  go_ret
  exact ⟨rfl, b3⟩

theorem natBack_walk (A B : Option Addr) (n m c d : Nat) (k l : List Nat) (w : World) (ha : Lims w A n k) (hb : Lims w B m l) (h1 : n ≤ c) (h2 : m ≤ d) (h4 : c ≤ maxLen) (h5 : d ≤ maxLen) :
    Calls Try.prog 7 #[.slice A n c, .slice B m d] w fun e w' => e = .returned (.bool true) ∧ Below w.heap.size w w' := by
  by_cases g : n ≤ 200 ∧ m ≤ 200
  · obtain ⟨g1, g2⟩ := g
    obtain ⟨ia, la⟩ := in_of ha h1 h4 g1 (by omega)
    obtain ⟨ib, lb⟩ := in_of hb h2 h5 g2 (by omega)
    rcases Nat.eq_zero_or_pos (M.val l) with h | h
    · exact natBack_zero A B n m c d k l w ia ib g1 g2 h
    · exact natBack_ok A B n m c d 200 k l w ia ib la lb (by omega) g1 g2 h
  · have HF := Lib.hid fun W : World => few_any A B n m c d false 200 W (by omega) (by omega) (by omega) (by
      symm; rw [Bool.and_eq_false_iff]
      by_cases g1 : n ≤ 200
      · right; exact decide_eq_false fun g2 => g ⟨g1, g2⟩
      · left; exact decide_eq_false g1)
    clear g
    go_enter Try.func7, Try.ntmps7
    go_wp2_with fail
    refine (awake_any _).mono ?_
    rintro e w1 ⟨rfl, b1⟩
    go_wp2_with fail
    refine (HF.out _).mono ?_
    rintro e w0 ⟨rfl, rfl⟩
    go_wp2_with fail
    go_ret
    exact ⟨rfl, b1⟩
end Go.Proofs.Ytefkkmnhnldcbaa
