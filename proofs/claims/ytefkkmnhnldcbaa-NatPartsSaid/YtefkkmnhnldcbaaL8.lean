/- NatParts: its walk. -/
import Derived.Test.YtefkkmnhnldcbaaD11
import Derived.Test.YtefkkmnhnldcbaaA17
import Derived.Test.YtefkkmnhnldcbaaE2
namespace Go.Proofs.Ytefkkmnhnldcbaa
open Go.RowKit

theorem divMod_zero_b {w : World} {A B : Option Addr} {n m c d N K : Nat} (h : In w A n c N) (k : In w B m d K) (hK : K = 0) : Calls Try.prog 24 #[.slice A n c, .slice B m d] w fun e w' => e = .returned (.tuple #[.slice none 0 0, .slice none 0 0, .int .i64 7]) ∧ Below w.heap.size w w' :=
  (divMod_num_zero h k hK).mono fun _ _ ⟨q1, q2⟩ => ⟨q1, by rw [← q2]; exact Below.refl _ _⟩

set_option maxRecDepth 100000 in
set_option maxHeartbeats 8000000 in
theorem natParts_ok (A B : Option Addr) (n m c d : Nat) (k l : List Nat) (w : World) (ka : Lims w A n k) (kb : Lims w B m l) (na : A = none → n = 0 ∧ c = 0) (nb : B = none → m = 0 ∧ d = 0) (ha : In w A n c (M.val k)) (hb : In w B m d (M.val l))
    (la : M.val k < M.BB ^ 24) (lb : M.val l < M.BB ^ 24) (h1 : n ≤ 24) (h2 : m ≤ 24) (hp : 0 < M.val l) :
    Calls Try.prog 4 #[.slice A n c, .slice B m d] w fun e w' => e = .returned (.bool true) ∧ Below w.heap.size w w' := by
  have lG : Nat.gcd (M.val k) (M.val l) < M.BB ^ 24 := by
    rcases Nat.eq_zero_or_pos (M.val k) with h | h
    · rw [h, Nat.gcd_zero_left]; exact lb
    · exact Nat.lt_of_le_of_lt (Nat.gcd_le_left _ h) la
  have LG := Lib.hid lG
  clear lG
  go_enter Try.func4, Try.ntmps4
  go_wp2_with fail
  refine (awake_any _).mono ?_
  rintro e w1 ⟨rfl, b1⟩
  go_wp2_with fail
  refine (few_any _ _ _ _ _ _ true 24 _ (by omega) (by unfold maxLen; omega) (by unfold maxLen; omega) (by simp [h1, h2])).mono ?_
  rintro e w0 ⟨rfl, rfl⟩
  have sa := ka.below b1
  have sb := kb.below b1
  go_wp2_with (refine appendA rfl (.const (.slice none 0 0)) (.tmp 31) rfl rfl rfl sa na (by omega) ?_; intro vx wx ox bx; have sb2 := sb.below bx; obtain ⟨Ax, qx, cx, rfl, tx, ix⟩ := ox.inn ka.2.1 (by rw [ka.1]; omega); go_wp2_with (refine appendA rfl (.const (.slice none 0 0)) (.tmp 33) rfl rfl rfl sb2 nb (by omega) ?_; intro vy wy oy by2; obtain ⟨Ay, qy, cy, rfl, ty, iy⟩ := oy.inn kb.2.1 (by rw [kb.1]; omega)))
  have tx := tx.below by2
  have ix := ix.below by2
  have b2 : Below w.heap.size w wy := (b1.trans (bx.mono b1.size)).trans (by2.mono (b1.trans (bx.mono b1.size)).size)
  clear sa sb sb2 ox oy bx by2 b1
  go_wp2_with fail
  refine (divMod_num (ha.below b2) (hb.below b2) hp).mono ?_
  rintro e w3 ⟨vs, vu, rfl, ns, nu, b3⟩
  have ix := ix.below b3
  have tx := tx.below b3
  have iy := iy.below b3
  have ty := ty.below b3
  have b3 : Below w.heap.size w w3 := b2.trans (b3.mono b2.size)
  clear b2
  have ls := Nat.lt_of_le_of_lt (Nat.div_le_self (M.val k) (M.val l)) la
  have lu := Nat.lt_trans (Nat.mod_lt (M.val k) hp) lb
  obtain ⟨As, qs, cs, rfl, is⟩ := ns.inn ls (by omega)
  obtain ⟨Au, qu, cu, rfl, iu⟩ := nu.inn lu (by omega)
  go_wp2_with fail
  refine (rDivMod_num ix iy la lb (by omega) hp).mono ?_
  rintro e w4 ⟨vt, vv, rfl, nt, nv, b4⟩
  have ix := ix.below b4
  have tx := tx.below b4
  have iy := iy.below b4
  have ty := ty.below b4
  have ns := ns.below b4
  have is := is.below b4
  have nu := nu.below b4
  have iu := iu.below b4
  have b4 : Below w.heap.size w w4 := b3.trans (b4.mono b3.size)
  clear b3
  have lt := ls
  have lv := lu
  obtain ⟨At, qt, ct, rfl, it⟩ := nt.inn lt (by omega)
  obtain ⟨Av, qv, cv, rfl, iv⟩ := nv.inn lv (by omega)
  go_wp2_with fail
  refine (same_nn ns nt rfl).mono ?_
  rintro e w5 ⟨rfl, b5⟩
  have ix := ix.below b5
  have tx := tx.below b5
  have iy := iy.below b5
  have ty := ty.below b5
  have ns := ns.below b5
  have is := is.below b5
  have nu := nu.below b5
  have iu := iu.below b5
  have nt := nt.below b5
  have it := it.below b5
  have nv := nv.below b5
  have iv := iv.below b5
  have b5 : Below w.heap.size w w5 := b4.trans (b5.mono b4.size)
  clear b4
  clear ns is ls
  clear nt it lt
  go_wp2_with fail
  refine (same_nn nu nv rfl).mono ?_
  rintro e w6 ⟨rfl, b6⟩
  have ix := ix.below b6
  have tx := tx.below b6
  have iy := iy.below b6
  have ty := ty.below b6
  have nu := nu.below b6
  have iu := iu.below b6
  have nv := nv.below b6
  have iv := iv.below b6
  have b6 : Below w.heap.size w w6 := b5.trans (b6.mono b5.size)
  clear b5
  clear nu iu lu
  clear nv iv lv
  go_wp2_with fail
  refine (gcd_any _ _ _ _ _ _ _ _ 24 _ (ha.below b6) (hb.below b6) la lb (by omega)).mono ?_
  rintro e w7 ⟨vg, rfl, ng, b7⟩
  have ix := ix.below b7
  have tx := tx.below b7
  have iy := iy.below b7
  have ty := ty.below b7
  have b7 : Below w.heap.size w w7 := b6.trans (b7.mono b6.size)
  clear b6
  have lg := LG.out
  obtain ⟨Ag, qg, cg, rfl, ig⟩ := ng.inn lg (by omega)
  go_wp2_with fail
  refine (rGcd_num ix iy la lb (by omega)).mono ?_
  rintro e w8 ⟨vh, rfl, nh, b8⟩
  have ix := ix.below b8
  have tx := tx.below b8
  have iy := iy.below b8
  have ty := ty.below b8
  have ng := ng.below b8
  have ig := ig.below b8
  have b8 : Below w.heap.size w w8 := b7.trans (b8.mono b7.size)
  clear b7
  have lh := LG.out
  obtain ⟨Ah, qh, ch, rfl, ih⟩ := nh.inn lh (by omega)
  go_wp2_with fail
  refine (same_nn ng nh rfl).mono ?_
  rintro e w9 ⟨rfl, b9⟩
  have ix := ix.below b9
  have tx := tx.below b9
  have iy := iy.below b9
  have ty := ty.below b9
  have ng := ng.below b9
  have ig := ig.below b9
  have nh := nh.below b9
  have ih := ih.below b9
  have b9 : Below w.heap.size w w9 := b8.trans (b9.mono b8.size)
  clear b8
  clear ng ig lg
  clear nh ih lh
  go_wp2_with fail
  refine (same_ll (ka.below b9) tx (by omega)).mono ?_
  rintro e w10 ⟨rfl, b10⟩
  have ix := ix.below b10
  have tx := tx.below b10
  have iy := iy.below b10
  have ty := ty.below b10
  have b10 : Below w.heap.size w w10 := b9.trans (b10.mono b9.size)
  clear b9
  go_wp2_with fail
  refine (same_ll (kb.below b10) ty (by omega)).mono ?_
  rintro e w11 ⟨rfl, b11⟩
  have ix := ix.below b11
  have tx := tx.below b11
  have iy := iy.below b11
  have ty := ty.below b11
  have b11 : Below w.heap.size w w11 := b10.trans (b11.mono b10.size)
  clear b10
  go_wp2_with fail
  go_ret
  exact ⟨by simp, b11⟩

set_option maxRecDepth 100000 in
set_option maxHeartbeats 8000000 in
theorem natParts_zero (A B : Option Addr) (n m c d : Nat) (k l : List Nat) (w : World) (ka : Lims w A n k) (kb : Lims w B m l) (na : A = none → n = 0 ∧ c = 0) (nb : B = none → m = 0 ∧ d = 0) (ha : In w A n c (M.val k)) (hb : In w B m d (M.val l))
    (la : M.val k < M.BB ^ 24) (lb : M.val l < M.BB ^ 24) (h1 : n ≤ 24) (h2 : m ≤ 24) (hp : M.val l = 0) :
    Calls Try.prog 4 #[.slice A n c, .slice B m d] w fun e w' => e = .returned (.bool true) ∧ Below w.heap.size w w' := by
  have lG : Nat.gcd (M.val k) (M.val l) < M.BB ^ 24 := by
    rcases Nat.eq_zero_or_pos (M.val k) with h | h
    · rw [h, Nat.gcd_zero_left]; exact lb
    · exact Nat.lt_of_le_of_lt (Nat.gcd_le_left _ h) la
  have LG := Lib.hid lG
  clear lG
  go_enter Try.func4, Try.ntmps4
  go_wp2_with fail
  refine (awake_any _).mono ?_
  rintro e w1 ⟨rfl, b1⟩
  go_wp2_with fail
  refine (few_any _ _ _ _ _ _ true 24 _ (by omega) (by unfold maxLen; omega) (by unfold maxLen; omega) (by simp [h1, h2])).mono ?_
  rintro e w0 ⟨rfl, rfl⟩
  have sa := ka.below b1
  have sb := kb.below b1
  go_wp2_with (refine appendA rfl (.const (.slice none 0 0)) (.tmp 31) rfl rfl rfl sa na (by omega) ?_; intro vx wx ox bx; have sb2 := sb.below bx; obtain ⟨Ax, qx, cx, rfl, tx, ix⟩ := ox.inn ka.2.1 (by rw [ka.1]; omega); go_wp2_with (refine appendA rfl (.const (.slice none 0 0)) (.tmp 33) rfl rfl rfl sb2 nb (by omega) ?_; intro vy wy oy by2; obtain ⟨Ay, qy, cy, rfl, ty, iy⟩ := oy.inn kb.2.1 (by rw [kb.1]; omega)))
  have tx := tx.below by2
  have ix := ix.below by2
  have b2 : Below w.heap.size w wy := (b1.trans (bx.mono b1.size)).trans (by2.mono (b1.trans (bx.mono b1.size)).size)
  clear sa sb sb2 ox oy bx by2 b1
  go_wp2_with fail
  refine (divMod_zero_b (ha.below b2) (hb.below b2) hp).mono ?_
  rintro e w3 ⟨rfl, b3⟩
  have ix := ix.below b3
  have tx := tx.below b3
  have iy := iy.below b3
  have ty := ty.below b3
  have b3 : Below w.heap.size w w3 := b2.trans (b3.mono b2.size)
  clear b2
  go_wp2_with fail
  refine (rDivMod_zero (A := Ax) (n := qx) (c := cx) iy hp).mono ?_
  rintro e w4 ⟨rfl, b4⟩
  have ix := ix.below b4
  have tx := tx.below b4
  have iy := iy.below b4
  have ty := ty.below b4
  have b4 : Below w.heap.size w w4 := b3.trans (b4.mono b3.size)
  clear b3
  go_wp2_with fail
  refine (same_ll (Lims.nil_ _ _) (Lims.nil_ _ _) (by omega)).mono ?_
  rintro e w5 ⟨rfl, b5⟩
  have ix := ix.below b5
  have tx := tx.below b5
  have iy := iy.below b5
  have ty := ty.below b5
  have b5 : Below w.heap.size w w5 := b4.trans (b5.mono b4.size)
  clear b4
  go_wp2_with fail
  refine (same_ll (Lims.nil_ _ _) (Lims.nil_ _ _) (by omega)).mono ?_
  rintro e w6 ⟨rfl, b6⟩
  have ix := ix.below b6
  have tx := tx.below b6
  have iy := iy.below b6
  have ty := ty.below b6
  have b6 : Below w.heap.size w w6 := b5.trans (b6.mono b5.size)
  clear b5
  go_wp2_with fail
  refine (gcd_any _ _ _ _ _ _ _ _ 24 _ (ha.below b6) (hb.below b6) la lb (by omega)).mono ?_
  rintro e w7 ⟨vg, rfl, ng, b7⟩
  have ix := ix.below b7
  have tx := tx.below b7
  have iy := iy.below b7
  have ty := ty.below b7
  have b7 : Below w.heap.size w w7 := b6.trans (b7.mono b6.size)
  clear b6
  have lg := LG.out
  obtain ⟨Ag, qg, cg, rfl, ig⟩ := ng.inn lg (by omega)
  go_wp2_with fail
  refine (rGcd_num ix iy la lb (by omega)).mono ?_
  rintro e w8 ⟨vh, rfl, nh, b8⟩
  have ix := ix.below b8
  have tx := tx.below b8
  have iy := iy.below b8
  have ty := ty.below b8
  have ng := ng.below b8
  have ig := ig.below b8
  have b8 : Below w.heap.size w w8 := b7.trans (b8.mono b7.size)
  clear b7
  have lh := LG.out
  obtain ⟨Ah, qh, ch, rfl, ih⟩ := nh.inn lh (by omega)
  go_wp2_with fail
  refine (same_nn ng nh rfl).mono ?_
  rintro e w9 ⟨rfl, b9⟩
  have ix := ix.below b9
  have tx := tx.below b9
  have iy := iy.below b9
  have ty := ty.below b9
  have ng := ng.below b9
  have ig := ig.below b9
  have nh := nh.below b9
  have ih := ih.below b9
  have b9 : Below w.heap.size w w9 := b8.trans (b9.mono b8.size)
  clear b8
  clear ng ig lg
  clear nh ih lh
  go_wp2_with fail
  refine (same_ll (ka.below b9) tx (by omega)).mono ?_
  rintro e w10 ⟨rfl, b10⟩
  have ix := ix.below b10
  have tx := tx.below b10
  have iy := iy.below b10
  have ty := ty.below b10
  have b10 : Below w.heap.size w w10 := b9.trans (b10.mono b9.size)
  clear b9
  go_wp2_with fail
  refine (same_ll (kb.below b10) ty (by omega)).mono ?_
  rintro e w11 ⟨rfl, b11⟩
  have ix := ix.below b11
  have tx := tx.below b11
  have iy := iy.below b11
  have ty := ty.below b11
  have b11 : Below w.heap.size w w11 := b10.trans (b11.mono b10.size)
  clear b10
  go_wp2_with fail
  go_ret
  exact ⟨by simp, b11⟩

theorem natParts_walk (A B : Option Addr) (n m c d : Nat) (k l : List Nat) (w : World) (ha : Lims w A n k) (hb : Lims w B m l) (na : A = none → n = 0 ∧ c = 0) (nb : B = none → m = 0 ∧ d = 0) (h1 : n ≤ c) (h2 : m ≤ d) (h4 : c ≤ maxLen) (h5 : d ≤ maxLen) :
    Calls Try.prog 4 #[.slice A n c, .slice B m d] w fun e w' => e = .returned (.bool true) ∧ Below w.heap.size w w' := by
  by_cases g : n ≤ 24 ∧ m ≤ 24
  · obtain ⟨g1, g2⟩ := g
    obtain ⟨ia, la⟩ := in_of ha h1 h4 g1 (by omega)
    obtain ⟨ib, lb⟩ := in_of hb h2 h5 g2 (by omega)
    rcases Nat.eq_zero_or_pos (M.val l) with h | h
    · exact natParts_zero A B n m c d k l w ha hb na nb ia ib la lb g1 g2 h
    · exact natParts_ok A B n m c d k l w ha hb na nb ia ib la lb g1 g2 h
  · have HF := Lib.hid fun W : World => few_any A B n m c d false 24 W (by omega) (by omega) (by omega) (by
      symm; rw [Bool.and_eq_false_iff]
      by_cases g1 : n ≤ 24
      · right; exact decide_eq_false fun g2 => g ⟨g1, g2⟩
      · left; exact decide_eq_false g1)
    clear g
    go_enter Try.func4, Try.ntmps4
    go_wp2_with fail
    refine (awake_any _).mono ?_
    rintro e w1 ⟨rfl, b1⟩
    go_wp2_with fail
    refine (HF.out _).mono ?_
    rintro e w2 ⟨rfl, rfl⟩
    go_wp2_with fail
    go_ret
    exact ⟨rfl, b1⟩
end Go.Proofs.Ytefkkmnhnldcbaa
