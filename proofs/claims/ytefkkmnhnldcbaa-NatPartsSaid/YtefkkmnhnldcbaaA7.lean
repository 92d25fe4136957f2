/- nat: Gcd of small numbers: what it answers. -/
import Derived.Test.YtefkkmnhnldcbaaA6
namespace Go.Proofs.Ytefkkmnhnldcbaa
open Go.RowKit

set_option maxHeartbeats 1000000 in
theorem gcd_lo (A B : Option Addr) (n m c d : Nat) (k l : List Nat) (w : World) (h : Two w A B n m c d k l) (hk : M.val k ≤ 18446744073709551615) (hl : M.val l ≤ 18446744073709551615) :
    Calls Try.prog 26 #[.slice A n c, .slice B m d] w (Gives w (Nat.gcd (M.val k) (M.val l))) := by
  obtain ⟨ha, hb, hn, hm, hc, hd, hs, ht⟩ := h
  obtain ⟨x, HX⟩ : ∃ x, Hid (M.val k = x) := ⟨_, rfl⟩
  obtain ⟨y, HY⟩ : ∃ y, Hid (M.val l = y) := ⟨_, rfl⟩
  rw [HX.out, HY.out]
  rw [HX.out] at hk
  rw [HY.out] at hl
  obtain ⟨G, HG⟩ : ∃ G, Hid (Nat.gcd x y = G) := ⟨_, rfl⟩
  rw [HG.out]
  have NA := Lib.hid (norm_any A n c k w ha hn hc hs)
  rw [HX.out] at NA
  go_enter Try.func26, Try.ntmps26
  go_wp2_with fail
  refine NA.out.mono ?_
  rintro e w1 ⟨v1, rfl, ⟨A1, n1, c1, l1, rfl, g1, g2, g3, g4, g5⟩, hb1⟩
  have NB := Lib.hid (norm_any B m d l w1 (hb.below hb1) hm hd ht)
  rw [HY.out] at NB
  go_wp2_with fail
  refine NB.out.mono ?_
  rintro e w2 ⟨v2, rfl, ⟨A2, n2, c2, l2, rfl, f1, f2, f3, f4, f5⟩, hb2⟩
  have g1' := g1.below hb2
  have hb12 : Below w.heap.size w w2 := hb1.trans (hb2.mono hb1.size)
  have hn1 : n1 ≤ 2 := M.len_le g2 g1.1 (k := 2) (by rw [g3]; simp [M.BB_eq]; omega)
  have hn2 : n2 ≤ 2 := M.len_le f2 f1.1 (k := 2) (by rw [f3]; simp [M.BB_eq]; omega)
  have H3 := Lib.hid g3
  have F3 := Lib.hid f3
  have G2 := Lib.hid g2
  clear g3 f3 g2 g1
  by_cases h0 : n2 = 0
  · subst h0
    have hy : y = 0 := by rw [← F3.out, List.eq_nil_of_length_eq_zero f1.1]; rfl
    have hx : Hid (x = G) := by rw [← HG.out, hy, Nat.gcd_zero_right]; exact rfl
    clear hy
    go_wp2_with fail
    refine wp_loop_rounds 1 ?_
    rw [rounds_succ]
    go_wp2_with fail
    go_ret
    exact ⟨_, rfl, ⟨A1, n1, c1, l1, rfl, g1', G2.out, by rw [H3.out, hx.out], g4, g5⟩, hb12⟩
  · have hp : 0 < n2 := by omega
    clear h0
    have HS := Lib.hid (small_yes A1 n1 c1 l1 w2 g1' hn1)
    have HT := Lib.hid (small_yes A2 n2 c2 l2 w2 f1 hn2)
    rw [H3.out] at HS
    rw [F3.out] at HT
    have HU := Lib.hid (gcd_small x y w2 hk hl)
    rw [HG.out] at HU
    have hG : G ≤ 18446744073709551615 := by
      rw [← HG.out]
      rcases Nat.eq_zero_or_pos y with e | e
      · rw [e, Nat.gcd_zero_right]; exact hk
      · exact Nat.le_trans (Nat.gcd_le_right x e) hl
    have HO := fun w' => of_any G w' hG
    have HO := Lib.hid HO
    clear hG
    go_wp2_with fail
    refine wp_loop_rounds 1 ?_
    rw [rounds_succ]
    go_wp2_with fail
    refine HS.out.mono ?_
    rintro e w3 ⟨rfl, rfl⟩
    go_wp2_with fail
    refine HT.out.mono ?_
    rintro e w3 ⟨rfl, rfl⟩
    go_wp2_with fail
    refine HU.out.mono ?_
    rintro e w3 ⟨rfl, q, rfl⟩
    go_wp2_with fail
    refine (HO.out _).mono ?_
    rintro e w3 ⟨v, rfl, hv, hbel⟩
    go_wp2_with fail
    go_ret
    exact ⟨v, rfl, hv, hb12.trans ((below_drewN (Below.refl _ _) q).trans (hbel.mono hb12.size))⟩
end Go.Proofs.Ytefkkmnhnldcbaa
