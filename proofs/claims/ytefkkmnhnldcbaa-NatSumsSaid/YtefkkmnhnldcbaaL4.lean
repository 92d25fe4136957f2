/- NatSums: its walk. -/
import Derived.Test.YtefkkmnhnldcbaaE2
namespace Go.Proofs.Ytefkkmnhnldcbaa
open Go.RowKit

set_option maxRecDepth 100000 in
set_option maxHeartbeats 8000000 in
theorem natSums_ok (A B : Option Addr) (n m c d : Nat) (k l : List Nat) (w : World) (ka : Lims w A n k) (kb : Lims w B m l) (na : A = none → n = 0 ∧ c = 0) (nb : B = none → m = 0 ∧ d = 0) (ha : In w A n c (M.val k)) (hb : In w B m d (M.val l))
    (la : M.val k < M.BB ^ 24) (lb : M.val l < M.BB ^ 24) (h1 : n ≤ 24) (h2 : m ≤ 24) (hle : M.val l ≤ M.val k) :
    Calls Try.prog 3 #[.slice A n c, .slice B m d] w fun e w' => e = .returned (.bool true) ∧ Below w.heap.size w w' := by
  go_enter Try.func3, Try.ntmps3
  go_wp2_with fail
  refine (awake_any _).mono ?_
  rintro e w1 ⟨rfl, b1⟩
  go_wp2_with fail
  refine (few_any _ _ _ _ _ _ true 24 _ (by omega) (by unfold maxLen; omega) (by unfold maxLen; omega) (by simp [h1, h2])).mono ?_
  rintro e w0 ⟨rfl, rfl⟩
  have sa := ka.below b1
  have sb := kb.below b1
  go_wp2_with (refine appendA rfl (.const (.slice none 0 0)) (.tmp 30) rfl rfl rfl sa na (by omega) ?_; intro vx wx ox bx; have sb2 := sb.below bx; obtain ⟨Ax, qx, cx, rfl, tx, ix⟩ := ox.inn ka.2.1 (by rw [ka.1]; omega); go_wp2_with (refine appendA rfl (.const (.slice none 0 0)) (.tmp 32) rfl rfl rfl sb2 nb (by omega) ?_; intro vy wy oy by2; obtain ⟨Ay, qy, cy, rfl, ty, iy⟩ := oy.inn kb.2.1 (by rw [kb.1]; omega)))
  have tx := tx.below by2
  have ix := ix.below by2
  have b2 : Below w.heap.size w wy := (b1.trans (bx.mono b1.size)).trans (by2.mono (b1.trans (bx.mono b1.size)).size)
  clear sa sb sb2 ox oy bx by2 b1
  go_wp2_with fail
  refine (norm_num (ha.below b2)).mono ?_
  rintro e w3 ⟨vs, rfl, ns, b3⟩
  have ix := ix.below b3
  have tx := tx.below b3
  have iy := iy.below b3
  have ty := ty.below b3
  have b3 : Below w.heap.size w w3 := b2.trans (b3.mono b2.size)
  clear b2
  have ls := la
  obtain ⟨As, qs, cs, rfl, is⟩ := ns.inn ls (by omega)
  go_wp2_with fail
  refine (rnorm_num ix (by have := tx.1; have := ka.1; omega)).mono ?_
  rintro e w4 ⟨vt, rfl, nt, b4⟩
  have ix := ix.below b4
  have tx := tx.below b4
  have iy := iy.below b4
  have ty := ty.below b4
  have ns := ns.below b4
  have is := is.below b4
  have b4 : Below w.heap.size w w4 := b3.trans (b4.mono b3.size)
  clear b3
  obtain ⟨At, qt, ct, rfl, it⟩ := nt.inn la (by omega)
  have lt := la
  go_wp2_with fail
  refine (same_nn ns nt rfl).mono ?_
  rintro e w5 ⟨rfl, b5⟩
  have ix := ix.below b5
  have tx := tx.below b5
  have iy := iy.below b5
  have ty := ty.below b5
  have ns := ns.below b5
  have is := is.below b5
  have nt := nt.below b5
  have it := it.below b5
  have b5 : Below w.heap.size w w5 := b4.trans (b5.mono b4.size)
  clear b4
  clear ns is ls
  clear nt it lt
  go_wp2_with fail
  refine (add_num (ha.below b5) (hb.below b5)).mono ?_
  rintro e w6 ⟨vs, rfl, ns, b6⟩
  have ix := ix.below b6
  have tx := tx.below b6
  have iy := iy.below b6
  have ty := ty.below b6
  have b6 : Below w.heap.size w w6 := b5.trans (b6.mono b5.size)
  clear b5
  have ls := lt_add la lb
  obtain ⟨As, qs, cs, rfl, is⟩ := ns.inn ls (by omega)
  go_wp2_with fail
  refine (rAdd_num ix iy la lb (by omega) (by omega)).mono ?_
  rintro e w7 ⟨vt, rfl, nt, b7⟩
  have ix := ix.below b7
  have tx := tx.below b7
  have iy := iy.below b7
  have ty := ty.below b7
  have ns := ns.below b7
  have is := is.below b7
  have b7 : Below w.heap.size w w7 := b6.trans (b7.mono b6.size)
  clear b6
  obtain ⟨At, qt, ct, rfl, it⟩ := nt.inn ls (by omega)
  have lt := ls
  go_wp2_with fail
  refine (same_nn ns nt rfl).mono ?_
  rintro e w8 ⟨rfl, b8⟩
  have ix := ix.below b8
  have tx := tx.below b8
  have iy := iy.below b8
  have ty := ty.below b8
  have ns := ns.below b8
  have is := is.below b8
  have nt := nt.below b8
  have it := it.below b8
  have b8 : Below w.heap.size w w8 := b7.trans (b8.mono b7.size)
  clear b7
  clear ns is ls
  clear nt it lt
  go_wp2_with fail
  refine (mul_num (ha.below b8) (hb.below b8)).mono ?_
  rintro e w9 ⟨vs, rfl, ns, b9⟩
  have ix := ix.below b9
  have tx := tx.below b9
  have iy := iy.below b9
  have ty := ty.below b9
  have b9 : Below w.heap.size w w9 := b8.trans (b9.mono b8.size)
  clear b8
  have ls := lt_mul la lb
  obtain ⟨As, qs, cs, rfl, is⟩ := ns.inn ls (by omega)
  go_wp2_with fail
  refine (rMul_num ix iy la lb (by omega) (by omega)).mono ?_
  rintro e w10 ⟨vt, rfl, nt, b10⟩
  have ix := ix.below b10
  have tx := tx.below b10
  have iy := iy.below b10
  have ty := ty.below b10
  have ns := ns.below b10
  have is := is.below b10
  have b10 : Below w.heap.size w w10 := b9.trans (b10.mono b9.size)
  clear b9
  obtain ⟨At, qt, ct, rfl, it⟩ := nt.inn ls (by omega)
  have lt := ls
  go_wp2_with fail
  refine (same_nn ns nt rfl).mono ?_
  rintro e w11 ⟨rfl, b11⟩
  have ix := ix.below b11
  have tx := tx.below b11
  have iy := iy.below b11
  have ty := ty.below b11
  have ns := ns.below b11
  have is := is.below b11
  have nt := nt.below b11
  have it := it.below b11
  have b11 : Below w.heap.size w w11 := b10.trans (b11.mono b10.size)
  clear b10
  clear ns is ls
  clear nt it lt
  have ls : M.val k - M.val l < M.BB ^ 24 := Nat.lt_of_le_of_lt (Nat.sub_le _ _) la
  go_wp2_with fail
  refine (sub_num (ha.below b11) (hb.below b11) hle).mono ?_
  rintro e w12 ⟨vs, rfl, ns, b12⟩
  have ix := ix.below b12
  have tx := tx.below b12
  have iy := iy.below b12
  have ty := ty.below b12
  have b12 : Below w.heap.size w w12 := b11.trans (b12.mono b11.size)
  clear b11
  obtain ⟨As, qs, cs, rfl, is⟩ := ns.inn ls (by omega)
  go_wp2_with fail
  refine (rSub_num ix iy la lb (by omega) (by omega) hle).mono ?_
  rintro e w13 ⟨vt, rfl, nt, b13⟩
  have ix := ix.below b13
  have tx := tx.below b13
  have iy := iy.below b13
  have ty := ty.below b13
  have ns := ns.below b13
  have is := is.below b13
  have b13 : Below w.heap.size w w13 := b12.trans (b13.mono b12.size)
  clear b12
  obtain ⟨At, qt, ct, rfl, it⟩ := nt.inn ls (by omega)
  have lt := ls
  go_wp2_with fail
  refine (same_nn ns nt rfl).mono ?_
  rintro e w14 ⟨rfl, b14⟩
  have ix := ix.below b14
  have tx := tx.below b14
  have iy := iy.below b14
  have ty := ty.below b14
  have ns := ns.below b14
  have is := is.below b14
  have nt := nt.below b14
  have it := it.below b14
  have b14 : Below w.heap.size w w14 := b13.trans (b14.mono b13.size)
  clear b13
  clear ns is ls
  clear nt it lt
  go_wp2_with fail
  refine (same_ll (ka.below b14) tx (by omega)).mono ?_
  rintro e w15 ⟨rfl, b15⟩
  have ix := ix.below b15
  have tx := tx.below b15
  have iy := iy.below b15
  have ty := ty.below b15
  have b15 : Below w.heap.size w w15 := b14.trans (b15.mono b14.size)
  clear b14
  go_wp2_with fail
  refine (same_ll (kb.below b15) ty (by omega)).mono ?_
  rintro e w16 ⟨rfl, b16⟩
  have ix := ix.below b16
  have tx := tx.below b16
  have iy := iy.below b16
  have ty := ty.below b16
  have b16 : Below w.heap.size w w16 := b15.trans (b16.mono b15.size)
  clear b15
  obtain ⟨z, Hz⟩ : ∃ z : Int, Hid (M.cmpI (M.val k) (M.val l) = z) := ⟨_, rfl⟩
  have C1 := Lib.hid (cmp_num (ha.below b16) (hb.below b16))
  rw [Hz.out] at C1
  have C2 := Lib.hid fun W (q1 : In W Ax qx cx (M.val k)) (q2 : In W Ay qy cy (M.val l)) => rCmp_num q1 q2 la lb (by omega) (by omega)
  rw [Hz.out] at C2
  go_wp2_with fail
  refine (C1.out).mono ?_
  rintro e w17 ⟨rfl, b17⟩
  have ix := ix.below b17
  have tx := tx.below b17
  have iy := iy.below b17
  have ty := ty.below b17
  have b17 : Below w.heap.size w w17 := b16.trans (b17.mono b16.size)
  clear b16
  go_wp2_with fail
  refine (C2.out _ ix iy).mono ?_
  rintro e w18 ⟨rfl, b18⟩
  have ix := ix.below b18
  have tx := tx.below b18
  have iy := iy.below b18
  have ty := ty.below b18
  have b18 : Below w.heap.size w w18 := b17.trans (b18.mono b17.size)
  clear b17
  go_wp2_with fail
  go_ret
  exact ⟨by simp, b18⟩

set_option maxRecDepth 100000 in
set_option maxHeartbeats 8000000 in
theorem natSums_err (A B : Option Addr) (n m c d : Nat) (k l : List Nat) (w : World) (ka : Lims w A n k) (kb : Lims w B m l) (na : A = none → n = 0 ∧ c = 0) (nb : B = none → m = 0 ∧ d = 0) (ha : In w A n c (M.val k)) (hb : In w B m d (M.val l))
    (la : M.val k < M.BB ^ 24) (lb : M.val l < M.BB ^ 24) (h1 : n ≤ 24) (h2 : m ≤ 24) (hlt : M.val k < M.val l) :
    Calls Try.prog 3 #[.slice A n c, .slice B m d] w fun e w' => e = .returned (.bool true) ∧ Below w.heap.size w w' := by
  go_enter Try.func3, Try.ntmps3
  go_wp2_with fail
  refine (awake_any _).mono ?_
  rintro e w1 ⟨rfl, b1⟩
  go_wp2_with fail
  refine (few_any _ _ _ _ _ _ true 24 _ (by omega) (by unfold maxLen; omega) (by unfold maxLen; omega) (by simp [h1, h2])).mono ?_
  rintro e w0 ⟨rfl, rfl⟩
  have sa := ka.below b1
  have sb := kb.below b1
  go_wp2_with (refine appendA rfl (.const (.slice none 0 0)) (.tmp 30) rfl rfl rfl sa na (by omega) ?_; intro vx wx ox bx; have sb2 := sb.below bx; obtain ⟨Ax, qx, cx, rfl, tx, ix⟩ := ox.inn ka.2.1 (by rw [ka.1]; omega); go_wp2_with (refine appendA rfl (.const (.slice none 0 0)) (.tmp 32) rfl rfl rfl sb2 nb (by omega) ?_; intro vy wy oy by2; obtain ⟨Ay, qy, cy, rfl, ty, iy⟩ := oy.inn kb.2.1 (by rw [kb.1]; omega)))
  have tx := tx.below by2
  have ix := ix.below by2
  have b2 : Below w.heap.size w wy := (b1.trans (bx.mono b1.size)).trans (by2.mono (b1.trans (bx.mono b1.size)).size)
  clear sa sb sb2 ox oy bx by2 b1
  go_wp2_with fail
  refine (norm_num (ha.below b2)).mono ?_
  rintro e w3 ⟨vs, rfl, ns, b3⟩
  have ix := ix.below b3
  have tx := tx.below b3
  have iy := iy.below b3
  have ty := ty.below b3
  have b3 : Below w.heap.size w w3 := b2.trans (b3.mono b2.size)
  clear b2
  have ls := la
  obtain ⟨As, qs, cs, rfl, is⟩ := ns.inn ls (by omega)
  go_wp2_with fail
  refine (rnorm_num ix (by have := tx.1; have := ka.1; omega)).mono ?_
  rintro e w4 ⟨vt, rfl, nt, b4⟩
  have ix := ix.below b4
  have tx := tx.below b4
  have iy := iy.below b4
  have ty := ty.below b4
  have ns := ns.below b4
  have is := is.below b4
  have b4 : Below w.heap.size w w4 := b3.trans (b4.mono b3.size)
  clear b3
  obtain ⟨At, qt, ct, rfl, it⟩ := nt.inn la (by omega)
  have lt := la
  go_wp2_with fail
  refine (same_nn ns nt rfl).mono ?_
  rintro e w5 ⟨rfl, b5⟩
  have ix := ix.below b5
  have tx := tx.below b5
  have iy := iy.below b5
  have ty := ty.below b5
  have ns := ns.below b5
  have is := is.below b5
  have nt := nt.below b5
  have it := it.below b5
  have b5 : Below w.heap.size w w5 := b4.trans (b5.mono b4.size)
  clear b4
  clear ns is ls
  clear nt it lt
  go_wp2_with fail
  refine (add_num (ha.below b5) (hb.below b5)).mono ?_
  rintro e w6 ⟨vs, rfl, ns, b6⟩
  have ix := ix.below b6
  have tx := tx.below b6
  have iy := iy.below b6
  have ty := ty.below b6
  have b6 : Below w.heap.size w w6 := b5.trans (b6.mono b5.size)
  clear b5
  have ls := lt_add la lb
  obtain ⟨As, qs, cs, rfl, is⟩ := ns.inn ls (by omega)
  go_wp2_with fail
  refine (rAdd_num ix iy la lb (by omega) (by omega)).mono ?_
  rintro e w7 ⟨vt, rfl, nt, b7⟩
  have ix := ix.below b7
  have tx := tx.below b7
  have iy := iy.below b7
  have ty := ty.below b7
  have ns := ns.below b7
  have is := is.below b7
  have b7 : Below w.heap.size w w7 := b6.trans (b7.mono b6.size)
  clear b6
  obtain ⟨At, qt, ct, rfl, it⟩ := nt.inn ls (by omega)
  have lt := ls
  go_wp2_with fail
  refine (same_nn ns nt rfl).mono ?_
  rintro e w8 ⟨rfl, b8⟩
  have ix := ix.below b8
  have tx := tx.below b8
  have iy := iy.below b8
  have ty := ty.below b8
  have ns := ns.below b8
  have is := is.below b8
  have nt := nt.below b8
  have it := it.below b8
  have b8 : Below w.heap.size w w8 := b7.trans (b8.mono b7.size)
  clear b7
  clear ns is ls
  clear nt it lt
  go_wp2_with fail
  refine (mul_num (ha.below b8) (hb.below b8)).mono ?_
  rintro e w9 ⟨vs, rfl, ns, b9⟩
  have ix := ix.below b9
  have tx := tx.below b9
  have iy := iy.below b9
  have ty := ty.below b9
  have b9 : Below w.heap.size w w9 := b8.trans (b9.mono b8.size)
  clear b8
  have ls := lt_mul la lb
  obtain ⟨As, qs, cs, rfl, is⟩ := ns.inn ls (by omega)
  go_wp2_with fail
  refine (rMul_num ix iy la lb (by omega) (by omega)).mono ?_
  rintro e w10 ⟨vt, rfl, nt, b10⟩
  have ix := ix.below b10
  have tx := tx.below b10
  have iy := iy.below b10
  have ty := ty.below b10
  have ns := ns.below b10
  have is := is.below b10
  have b10 : Below w.heap.size w w10 := b9.trans (b10.mono b9.size)
  clear b9
  obtain ⟨At, qt, ct, rfl, it⟩ := nt.inn ls (by omega)
  have lt := ls
  go_wp2_with fail
  refine (same_nn ns nt rfl).mono ?_
  rintro e w11 ⟨rfl, b11⟩
  have ix := ix.below b11
  have tx := tx.below b11
  have iy := iy.below b11
  have ty := ty.below b11
  have ns := ns.below b11
  have is := is.below b11
  have nt := nt.below b11
  have it := it.below b11
  have b11 : Below w.heap.size w w11 := b10.trans (b11.mono b10.size)
  clear b10
  clear ns is ls
  clear nt it lt
  go_wp2_with fail
  refine (sub_num_err (ha.below b11) (hb.below b11) hlt).mono ?_
  rintro e w12 ⟨rfl, b12⟩
  have ix := ix.below b12
  have tx := tx.below b12
  have iy := iy.below b12
  have ty := ty.below b12
  have b12 : Below w.heap.size w w12 := b11.trans (b12.mono b11.size)
  clear b11
  go_wp2_with fail
  refine (rSub_num_err ix iy la lb (by omega) (by omega) hlt).mono ?_
  rintro e w13 ⟨rfl, b13⟩
  have ix := ix.below b13
  have tx := tx.below b13
  have iy := iy.below b13
  have ty := ty.below b13
  have b13 : Below w.heap.size w w13 := b12.trans (b13.mono b12.size)
  clear b12
  go_wp2_with fail
  refine (same_ll (Lims.nil_ _ _) (Lims.nil_ _ _) (by omega)).mono ?_
  rintro e w14 ⟨rfl, b14⟩
  have ix := ix.below b14
  have tx := tx.below b14
  have iy := iy.below b14
  have ty := ty.below b14
  have b14 : Below w.heap.size w w14 := b13.trans (b14.mono b13.size)
  clear b13
  go_wp2_with fail
  refine (same_ll (ka.below b14) tx (by omega)).mono ?_
  rintro e w15 ⟨rfl, b15⟩
  have ix := ix.below b15
  have tx := tx.below b15
  have iy := iy.below b15
  have ty := ty.below b15
  have b15 : Below w.heap.size w w15 := b14.trans (b15.mono b14.size)
  clear b14
  go_wp2_with fail
  refine (same_ll (kb.below b15) ty (by omega)).mono ?_
  rintro e w16 ⟨rfl, b16⟩
  have ix := ix.below b16
  have tx := tx.below b16
  have iy := iy.below b16
  have ty := ty.below b16
  have b16 : Below w.heap.size w w16 := b15.trans (b16.mono b15.size)
  clear b15
  obtain ⟨z, Hz⟩ : ∃ z : Int, Hid (M.cmpI (M.val k) (M.val l) = z) := ⟨_, rfl⟩
  have C1 := Lib.hid (cmp_num (ha.below b16) (hb.below b16))
  rw [Hz.out] at C1
  have C2 := Lib.hid fun W (q1 : In W Ax qx cx (M.val k)) (q2 : In W Ay qy cy (M.val l)) => rCmp_num q1 q2 la lb (by omega) (by omega)
  rw [Hz.out] at C2
  go_wp2_with fail
  refine (C1.out).mono ?_
  rintro e w17 ⟨rfl, b17⟩
  have ix := ix.below b17
  have tx := tx.below b17
  have iy := iy.below b17
  have ty := ty.below b17
  have b17 : Below w.heap.size w w17 := b16.trans (b17.mono b16.size)
  clear b16
  go_wp2_with fail
  refine (C2.out _ ix iy).mono ?_
  rintro e w18 ⟨rfl, b18⟩
  have ix := ix.below b18
  have tx := tx.below b18
  have iy := iy.below b18
  have ty := ty.below b18
  have b18 : Below w.heap.size w w18 := b17.trans (b18.mono b17.size)
  clear b17
  go_wp2_with fail
  go_ret
  exact ⟨by simp, b18⟩

theorem natSums_walk (A B : Option Addr) (n m c d : Nat) (k l : List Nat) (w : World) (ha : Lims w A n k) (hb : Lims w B m l) (na : A = none → n = 0 ∧ c = 0) (nb : B = none → m = 0 ∧ d = 0) (h1 : n ≤ c) (h2 : m ≤ d) (h4 : c ≤ maxLen) (h5 : d ≤ maxLen) :
    Calls Try.prog 3 #[.slice A n c, .slice B m d] w fun e w' => e = .returned (.bool true) ∧ Below w.heap.size w w' := by
  by_cases g : n ≤ 24 ∧ m ≤ 24
  · obtain ⟨g1, g2⟩ := g
    obtain ⟨ia, la⟩ := in_of ha h1 h4 g1 (by omega)
    obtain ⟨ib, lb⟩ := in_of hb h2 h5 g2 (by omega)
    rcases Nat.lt_or_ge (M.val k) (M.val l) with h | h
    · exact natSums_err A B n m c d k l w ha hb na nb ia ib la lb g1 g2 h
    · exact natSums_ok A B n m c d k l w ha hb na nb ia ib la lb g1 g2 h
  · have HF := Lib.hid fun W : World => few_any A B n m c d false 24 W (by omega) (by omega) (by omega) (by
      symm; rw [Bool.and_eq_false_iff]
      by_cases g1 : n ≤ 24
      · right; exact decide_eq_false fun g2 => g ⟨g1, g2⟩
      · left; exact decide_eq_false g1)
    clear g
    go_enter Try.func3, Try.ntmps3
    go_wp2_with fail
    refine (awake_any _).mono ?_
    rintro e w1 ⟨rfl, b1⟩
    go_wp2_with fail
    refine (HF.out _).mono ?_
    rintro e w2 ⟨rfl, rfl⟩
    go_wp2_with fail
    go_ret
    exact ⟨rfl, b1⟩
end Go.Proofs.Ytefkkmnhnldcbaa
