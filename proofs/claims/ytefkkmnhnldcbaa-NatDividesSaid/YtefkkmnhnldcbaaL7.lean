/- NatDivides: its walk. -/
import Derived.Test.YtefkkmnhnldcbaaA17
import Derived.Test.YtefkkmnhnldcbaaB3
namespace Go.Proofs.Ytefkkmnhnldcbaa
open Go.RowKit

theorem text_inn {w : World} {A : Option Addr} {n c N : Nat} (h : In w A n c N) : Calls Try.prog 34 #[.slice A n c] w (GivesText w N) := by
  obtain ⟨l, h1, rfl, h3, h4, h5⟩ := h
  exact text_any _ _ _ _ _ h1 h3 h4 h5
theorem txt_one {s : List UInt8} (h : T.Txt 1 s) : s = [49] :=
  h.uniq (.inr ⟨[1], T.Fit.cons (by decide) T.Fit.nil, fun _ => by simp, by simp, by rfl, by rfl⟩)

set_option maxRecDepth 100000 in
set_option maxHeartbeats 4000000 in
theorem natDivides_zero (A B : Option Addr) (n m c d : Nat) (w : World) (ha : In w A n c 0) (hb : In w B m d 0) (h1 : n ≤ 30) (h2 : m ≤ 30) :
    Calls Try.prog 10 #[.slice A n c, .slice B m d] w fun e w' => e = .returned (.bool true) ∧ Below w.heap.size w w' := by
  have HG := Lib.hid fun (W : World) (b : Below w.heap.size w W) => gcd_any A B n m c d 0 0 0 W (ha.below b) (hb.below b) (by rw [Nat.pow_zero]; omega) (by rw [Nat.pow_zero]; omega) (by omega)
  rw [Nat.gcd_zero_left] at HG
  go_enter Try.func10, Try.ntmps10
  go_wp2_with fail
  refine (awake_any _).mono ?_
  rintro e w1 ⟨rfl, b1⟩
  go_wp2_with fail
  refine (few_any _ _ _ _ _ _ true 30 _ (by omega) (by unfold maxLen; omega) (by unfold maxLen; omega) (by simp [h1, h2])).mono ?_
  rintro e w0 ⟨rfl, rfl⟩
  go_wp2_with fail
  refine (HG.out _ b1).mono ?_
  rintro e w2 ⟨v2, rfl, n2, b2'⟩
  have b2 := b1.trans (b2'.mono b1.size)
  obtain ⟨A2, c2, rfl⟩ := n2.zero
  clear b1 b2' n2
  go_wp2_with fail
  refine (norm_num (ha.below b2)).mono ?_
  rintro e w3 ⟨v3, rfl, n3, b3'⟩
  have b3 := b2.trans (b3'.mono b2.size)
  obtain ⟨A3, c3, rfl⟩ := n3.zero
  clear b2 b3' n3
  go_wp2_with fail
  refine (norm_num (hb.below b3)).mono ?_
  rintro e w4 ⟨v4, rfl, n4, b4'⟩
  have b4 := b3.trans (b4'.mono b3.size)
  obtain ⟨A4, c4, rfl⟩ := n4.zero
  clear b3 b4' n4
  go_wp2_with fail
  go_ret
  exact ⟨rfl, b4⟩

set_option maxRecDepth 100000 in
set_option maxHeartbeats 4000000 in
theorem natDivides_ok (A B : Option Addr) (n m c d X N K : Nat) (w : World) (ha : In w A n c N) (hb : In w B m d K)
    (la : N < M.BB ^ X) (lb : K < M.BB ^ X) (hX : X ≤ 300) (h1 : n ≤ 30) (h2 : m ≤ 30) (hp : 0 < Nat.gcd N K) :
    Calls Try.prog 10 #[.slice A n c, .slice B m d] w fun e w' => e = .returned (.bool true) ∧ Below w.heap.size w w' := by
  have HG := Lib.hid fun (W : World) (b : Below w.heap.size w W) => gcd_any A B n m c d N K X W (ha.below b) (hb.below b) la lb (by omega)
  have LG : Hid (Nat.gcd N K < M.BB ^ X) := by
    refine (show _ < _ from ?_)
    rcases Nat.eq_zero_or_pos N with rfl | h
    · rw [Nat.gcd_zero_left]; exact lb
    · exact Nat.lt_of_le_of_lt (Nat.gcd_le_left K h) la
  have E1 : Hid (Nat.gcd (N / Nat.gcd N K) (K / Nat.gcd N K) = 1) := Nat.eq_of_mul_eq_mul_left hp (by rw [← Nat.gcd_mul_left, Nat.mul_div_cancel' (Nat.gcd_dvd_left N K), Nat.mul_div_cancel' (Nat.gcd_dvd_right N K), Nat.mul_one])
  have E2 : Hid (N % Nat.gcd N K = 0) := Nat.mod_eq_zero_of_dvd (Nat.gcd_dvd_left N K)
  have E3 : Hid (K % Nat.gcd N K = 0) := Nat.mod_eq_zero_of_dvd (Nat.gcd_dvd_right N K)
  generalize Nat.gcd N K = G at *
  have HP := Lib.hid hp
  have LP : Hid (N / G < M.BB ^ X) := Nat.lt_of_le_of_lt (Nat.div_le_self _ _) la
  have LQ : Hid (K / G < M.BB ^ X) := Nat.lt_of_le_of_lt (Nat.div_le_self _ _) lb
  clear hp la lb
  go_enter Try.func10, Try.ntmps10
  go_wp2_with fail
  refine (awake_any _).mono ?_
  rintro e w1 ⟨rfl, b1⟩
  go_wp2_with fail
  refine (few_any _ _ _ _ _ _ true 30 _ (by omega) (by unfold maxLen; omega) (by unfold maxLen; omega) (by simp [h1, h2])).mono ?_
  rintro e w0 ⟨rfl, rfl⟩
  go_wp2_with fail
  refine (HG.out _ b1).mono ?_
  rintro e w2 ⟨v2, rfl, n2, b2'⟩
  have b2 := b1.trans (b2'.mono b1.size)
  obtain ⟨A2, q2, c2, rfl, i2⟩ := n2.inn LG.out (by omega)
  have hq2 : ((q2 : Int) == 0) = false := by
    rcases Nat.eq_zero_or_pos q2 with h0 | h0
    · exfalso
      subst h0
      have := n2.no
      have := HP.out
      omega
    · simp; omega
  clear b1 b2' n2 HG
  go_wp2_with fail
  refine (divMod_num (ha.below b2) i2 HP.out).mono ?_
  rintro e w3 ⟨vp, vr, rfl, np, nr, b3'⟩
  have b3 := b2.trans (b3'.mono b2.size)
  have i3 := i2.below b3'
  rw [E2.out] at nr
  obtain ⟨Ar, cr, rfl⟩ := nr.zero
  clear b2 b3' nr i2
  go_wp2_with fail
  refine (divMod_num (hb.below b3) i3 HP.out).mono ?_
  rintro e w4 ⟨vq, vs, rfl, nq, ns, b4'⟩
  have b4 := b3.trans (b4'.mono b3.size)
  have np4 := np.below b4'
  rw [E3.out] at ns
  obtain ⟨As, cs, rfl⟩ := ns.zero
  obtain ⟨Ap, qp, cp, rfl, ip⟩ := np4.inn LP.out (by omega)
  obtain ⟨Aq, qq, cq, rfl, iq⟩ := nq.inn LQ.out (by omega)
  have HG2 := Lib.hid (gcd_any Ap Aq qp qq cp cq _ _ X w4 ip iq LP.out LQ.out (by omega))
  rw [E1.out] at HG2
  clear b3 b4' ns i3 np np4 nq ip iq
  go_wp2_with fail
  refine HG2.out.mono ?_
  rintro e w5 ⟨v5, rfl, n5, b5'⟩
  have b5 := b4.trans (b5'.mono b4.size)
  obtain ⟨A5, q5, c5, rfl, i5⟩ := n5.inn (k := 1) (by rw [M.BB_eq]; omega) (by omega)
  clear b4 b5' HG2 n5
  go_wp2_with fail
  refine (text_inn i5).mono ?_
  rintro e w6 ⟨s6, rfl, x6, b6'⟩
  have b6 := b5.trans (b6'.mono b5.size)
  obtain rfl := txt_one x6
  clear b5 b6' x6
  go_wp2_with fail
  go_ret
  exact ⟨by simp, b6⟩

theorem natDivides_walk (A B : Option Addr) (n m c d : Nat) (k l : List Nat) (w : World) (ha : Lims w A n k) (hb : Lims w B m l) (h1 : n ≤ c) (h2 : m ≤ d) (h4 : c ≤ maxLen) (h5 : d ≤ maxLen) :
    Calls Try.prog 10 #[.slice A n c, .slice B m d] w fun e w' => e = .returned (.bool true) ∧ Below w.heap.size w w' := by
  by_cases g : n ≤ 30 ∧ m ≤ 30
  · obtain ⟨g1, g2⟩ := g
    obtain ⟨ia, la⟩ := in_of ha h1 h4 g1 (by omega)
    obtain ⟨ib, lb⟩ := in_of hb h2 h5 g2 (by omega)
    generalize M.val k = N at *
    generalize M.val l = K at *
    rcases Nat.eq_zero_or_pos (Nat.gcd N K) with h | h
    · obtain ⟨rfl, rfl⟩ := Nat.gcd_eq_zero_iff.1 h
      exact natDivides_zero A B n m c d w ia ib g1 g2
    · exact natDivides_ok A B n m c d 30 N K w ia ib la lb (by omega) g1 g2 h
  · have HF := Lib.hid fun W : World => few_any A B n m c d false 30 W (by omega) (by omega) (by omega) (by
      symm; rw [Bool.and_eq_false_iff]
      by_cases g1 : n ≤ 30
      · right; exact decide_eq_false fun g2 => g ⟨g1, g2⟩
      · left; exact decide_eq_false g1)
    clear g
    go_enter Try.func10, Try.ntmps10
    go_wp2_with fail
    refine (awake_any _).mono ?_
    rintro e w1 ⟨rfl, b1⟩
    go_wp2_with fail
    refine (HF.out _).mono ?_
    rintro e w0 ⟨rfl, rfl⟩
    go_wp2_with fail
    go_ret
    exact ⟨rfl, b1⟩
end Go.Proofs.Ytefkkmnhnldcbaa
