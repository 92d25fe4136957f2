/- NatOrder: its walk. -/
import Derived.Test.YtefkkmnhnldcbaaE1
import Derived.Test.YtefkkmnhnldcbaaL1
namespace Go.Proofs.Ytefkkmnhnldcbaa
open Go.RowKit

theorem M.cmpI_neg (a b : Nat) : M.cmpI b a = -M.cmpI a b := by
  rcases Nat.lt_trichotomy a b with h | h | h
  · rw [M.cmpI_lt h, M.cmpI_gt h]; rfl
  · subst h; rw [M.cmpI_eq]; rfl
  · rw [M.cmpI_lt h, M.cmpI_gt h]
theorem M.cmpI_bd (a b : Nat) : -1 ≤ M.cmpI a b ∧ M.cmpI a b ≤ 1 := by
  unfold M.cmpI
  split
  · omega
  · split <;> omega

set_option maxRecDepth 100000 in
set_option maxHeartbeats 8000000 in
theorem natOrder_yes (A B C : Option Addr) (n m o c d e : Nat) (N K Q : Nat) (w : World) (ha : In w A n c N) (hb : In w B m d K) (hc : In w C o e Q)
    (la : N < M.BB ^ 60) (lb : K < M.BB ^ 60) (lc : Q < M.BB ^ 60) (h1 : n ≤ 60) (h2 : m ≤ 60) (h3 : o ≤ 60) :
    Calls Try.prog 8 #[.slice A n c, .slice B m d, .slice C o e] w fun e w' => e = .returned (.bool true) ∧ Below w.heap.size w w' := by
  go_enter Try.func8, Try.ntmps8
  go_wp2_with fail
  refine (awake_any _).mono ?_
  rintro e w1 ⟨rfl, b1⟩
  go_wp2_with fail
  refine (few_any _ _ _ _ _ _ true 60 _ (by omega) (by unfold maxLen; omega) (by unfold maxLen; omega) (by simp [h1, h2])).mono ?_
  rintro e w0 ⟨rfl, rfl⟩
  go_wp2_with fail
  refine (add_num (ha.below b1) (hb.below b1)).mono ?_
  rintro e w2 ⟨vs, rfl, ns, b2⟩
  have b2 : Below w.heap.size w w2 := b1.trans (b2.mono b1.size)
  clear b1
  have ls := lt_add la lb
  obtain ⟨As, qs, cs, rfl, is⟩ := ns.inn ls (by omega)
  go_wp2_with fail
  refine (sub_num is (hb.below b2) (Nat.le_add_left _ _)).mono ?_
  rintro e w3 ⟨vd, rfl, nd, b3⟩
  have ns := ns.below b3
  have is := is.below b3
  have b3 : Below w.heap.size w w3 := b2.trans (b3.mono b2.size)
  clear b2
  have nd := nd.cast (Nat.add_sub_cancel _ _)
  have ld := la
  obtain ⟨Ad, qd, cd, rfl, id⟩ := nd.inn ld (by omega)
  clear id
  clear ns is ls
  go_wp2_with fail
  refine (add_num (ha.below b3) (hb.below b3)).mono ?_
  rintro e w4 ⟨vs, rfl, ns, b4⟩
  have nd := nd.below b4
  have b4 : Below w.heap.size w w4 := b3.trans (b4.mono b3.size)
  clear b3
  have ls := lt_add la lb
  obtain ⟨As, qs, cs, rfl, is⟩ := ns.inn ls (by omega)
  go_wp2_with fail
  refine (add_num (hb.below b4) (ha.below b4)).mono ?_
  rintro e w5 ⟨vt, rfl, nt, b5⟩
  have nd := nd.below b5
  have ns := ns.below b5
  have is := is.below b5
  have b5 : Below w.heap.size w w5 := b4.trans (b5.mono b4.size)
  clear b4
  have lt := lt_add lb la
  obtain ⟨At, qt, ct, rfl, it⟩ := nt.inn lt (by omega)
  go_wp2_with fail
  refine (same_nn ns nt (Nat.add_comm _ _)).mono ?_
  rintro e w6 ⟨rfl, b6⟩
  have nd := nd.below b6
  have ns := ns.below b6
  have is := is.below b6
  have nt := nt.below b6
  have it := it.below b6
  have b6 : Below w.heap.size w w6 := b5.trans (b6.mono b5.size)
  clear b5
  clear ns is ls
  clear nt it lt
  go_wp2_with fail
  refine (add_num (ha.below b6) (hb.below b6)).mono ?_
  rintro e w7 ⟨vs, rfl, ns, b7⟩
  have nd := nd.below b7
  have b7 : Below w.heap.size w w7 := b6.trans (b7.mono b6.size)
  clear b6
  have ls := lt_add la lb
  obtain ⟨As, qs, cs, rfl, is⟩ := ns.inn ls (by omega)
  go_wp2_with fail
  refine (add_num is (hc.below b7)).mono ?_
  rintro e w8 ⟨vt, rfl, nt, b8⟩
  have nd := nd.below b8
  have ns := ns.below b8
  have is := is.below b8
  have b8 : Below w.heap.size w w8 := b7.trans (b8.mono b7.size)
  clear b7
  have lt := lt_add ls lc
  obtain ⟨At, qt, ct, rfl, it⟩ := nt.inn lt (by omega)
  go_wp2_with fail
  refine (add_num (hb.below b8) (hc.below b8)).mono ?_
  rintro e w9 ⟨vu, rfl, nu, b9⟩
  have nd := nd.below b9
  have ns := ns.below b9
  have is := is.below b9
  have nt := nt.below b9
  have it := it.below b9
  have b9 : Below w.heap.size w w9 := b8.trans (b9.mono b8.size)
  clear b8
  have lu := lt_add lb lc
  obtain ⟨Au, qu, cu, rfl, iu⟩ := nu.inn lu (by omega)
  go_wp2_with fail
  refine (add_num (ha.below b9) iu).mono ?_
  rintro e w10 ⟨vv, rfl, nv, b10⟩
  have nd := nd.below b10
  have ns := ns.below b10
  have is := is.below b10
  have nt := nt.below b10
  have it := it.below b10
  have nu := nu.below b10
  have iu := iu.below b10
  have b10 : Below w.heap.size w w10 := b9.trans (b10.mono b9.size)
  clear b9
  have lv := lt_add la lu
  obtain ⟨Av, qv, cv, rfl, iv⟩ := nv.inn lv (by omega)
  go_wp2_with fail
  refine (same_nn nt nv (Nat.add_assoc _ _ _)).mono ?_
  rintro e w11 ⟨rfl, b11⟩
  have nd := nd.below b11
  have ns := ns.below b11
  have is := is.below b11
  have nt := nt.below b11
  have it := it.below b11
  have nu := nu.below b11
  have iu := iu.below b11
  have nv := nv.below b11
  have iv := iv.below b11
  have b11 : Below w.heap.size w w11 := b10.trans (b11.mono b10.size)
  clear b10
  clear ns is ls
  clear nt it lt
  clear nu iu lu
  clear nv iv lv
  go_wp2_with fail
  refine (mul_num (ha.below b11) (hb.below b11)).mono ?_
  rintro e w12 ⟨vs, rfl, ns, b12⟩
  have nd := nd.below b12
  have b12 : Below w.heap.size w w12 := b11.trans (b12.mono b11.size)
  clear b11
  have ls := lt_mul la lb
  obtain ⟨As, qs, cs, rfl, is⟩ := ns.inn ls (by omega)
  go_wp2_with fail
  refine (mul_num (hb.below b12) (ha.below b12)).mono ?_
  rintro e w13 ⟨vt, rfl, nt, b13⟩
  have nd := nd.below b13
  have ns := ns.below b13
  have is := is.below b13
  have b13 : Below w.heap.size w w13 := b12.trans (b13.mono b12.size)
  clear b12
  have lt := lt_mul lb la
  obtain ⟨At, qt, ct, rfl, it⟩ := nt.inn lt (by omega)
  go_wp2_with fail
  refine (same_nn ns nt (Nat.mul_comm _ _)).mono ?_
  rintro e w14 ⟨rfl, b14⟩
  have nd := nd.below b14
  have ns := ns.below b14
  have is := is.below b14
  have nt := nt.below b14
  have it := it.below b14
  have b14 : Below w.heap.size w w14 := b13.trans (b14.mono b13.size)
  clear b13
  clear ns is ls
  clear nt it lt
  go_wp2_with fail
  refine (mul_num (ha.below b14) (hb.below b14)).mono ?_
  rintro e w15 ⟨vs, rfl, ns, b15⟩
  have nd := nd.below b15
  have b15 : Below w.heap.size w w15 := b14.trans (b15.mono b14.size)
  clear b14
  have ls := lt_mul la lb
  obtain ⟨As, qs, cs, rfl, is⟩ := ns.inn ls (by omega)
  go_wp2_with fail
  refine (mul_num is (hc.below b15)).mono ?_
  rintro e w16 ⟨vt, rfl, nt, b16⟩
  have nd := nd.below b16
  have ns := ns.below b16
  have is := is.below b16
  have b16 : Below w.heap.size w w16 := b15.trans (b16.mono b15.size)
  clear b15
  have lt := lt_mul ls lc
  obtain ⟨At, qt, ct, rfl, it⟩ := nt.inn lt (by omega)
  go_wp2_with fail
  refine (mul_num (hb.below b16) (hc.below b16)).mono ?_
  rintro e w17 ⟨vu, rfl, nu, b17⟩
  have nd := nd.below b17
  have ns := ns.below b17
  have is := is.below b17
  have nt := nt.below b17
  have it := it.below b17
  have b17 : Below w.heap.size w w17 := b16.trans (b17.mono b16.size)
  clear b16
  have lu := lt_mul lb lc
  obtain ⟨Au, qu, cu, rfl, iu⟩ := nu.inn lu (by omega)
  go_wp2_with fail
  refine (mul_num (ha.below b17) iu).mono ?_
  rintro e w18 ⟨vv, rfl, nv, b18⟩
  have nd := nd.below b18
  have ns := ns.below b18
  have is := is.below b18
  have nt := nt.below b18
  have it := it.below b18
  have nu := nu.below b18
  have iu := iu.below b18
  have b18 : Below w.heap.size w w18 := b17.trans (b18.mono b17.size)
  clear b17
  have lv := lt_mul la lu
  obtain ⟨Av, qv, cv, rfl, iv⟩ := nv.inn lv (by omega)
  go_wp2_with fail
  refine (same_nn nt nv (Nat.mul_assoc _ _ _)).mono ?_
  rintro e w19 ⟨rfl, b19⟩
  have nd := nd.below b19
  have ns := ns.below b19
  have is := is.below b19
  have nt := nt.below b19
  have it := it.below b19
  have nu := nu.below b19
  have iu := iu.below b19
  have nv := nv.below b19
  have iv := iv.below b19
  have b19 : Below w.heap.size w w19 := b18.trans (b19.mono b18.size)
  clear b18
  clear ns is ls
  clear nt it lt
  clear nu iu lu
  clear nv iv lv
  go_wp2_with fail
  refine (add_num (hb.below b19) (hc.below b19)).mono ?_
  rintro e w20 ⟨vs, rfl, ns, b20⟩
  have nd := nd.below b20
  have b20 : Below w.heap.size w w20 := b19.trans (b20.mono b19.size)
  clear b19
  have ls := lt_add lb lc
  obtain ⟨As, qs, cs, rfl, is⟩ := ns.inn ls (by omega)
  go_wp2_with fail
  refine (mul_num (ha.below b20) is).mono ?_
  rintro e w21 ⟨vt, rfl, nt, b21⟩
  have nd := nd.below b21
  have ns := ns.below b21
  have is := is.below b21
  have b21 : Below w.heap.size w w21 := b20.trans (b21.mono b20.size)
  clear b20
  have lt := lt_mul la ls
  obtain ⟨At, qt, ct, rfl, it⟩ := nt.inn lt (by omega)
  go_wp2_with fail
  refine (mul_num (ha.below b21) (hb.below b21)).mono ?_
  rintro e w22 ⟨vu, rfl, nu, b22⟩
  have nd := nd.below b22
  have ns := ns.below b22
  have is := is.below b22
  have nt := nt.below b22
  have it := it.below b22
  have b22 : Below w.heap.size w w22 := b21.trans (b22.mono b21.size)
  clear b21
  have lu := lt_mul la lb
  obtain ⟨Au, qu, cu, rfl, iu⟩ := nu.inn lu (by omega)
  go_wp2_with fail
  refine (mul_num (ha.below b22) (hc.below b22)).mono ?_
  rintro e w23 ⟨vv, rfl, nv, b23⟩
  have nd := nd.below b23
  have ns := ns.below b23
  have is := is.below b23
  have nt := nt.below b23
  have it := it.below b23
  have nu := nu.below b23
  have iu := iu.below b23
  have b23 : Below w.heap.size w w23 := b22.trans (b23.mono b22.size)
  clear b22
  have lv := lt_mul la lc
  obtain ⟨Av, qv, cv, rfl, iv⟩ := nv.inn lv (by omega)
  go_wp2_with fail
  refine (add_num iu iv).mono ?_
  rintro e w24 ⟨vx, rfl, nx, b24⟩
  have nd := nd.below b24
  have ns := ns.below b24
  have is := is.below b24
  have nt := nt.below b24
  have it := it.below b24
  have nu := nu.below b24
  have iu := iu.below b24
  have nv := nv.below b24
  have iv := iv.below b24
  have b24 : Below w.heap.size w w24 := b23.trans (b24.mono b23.size)
  clear b23
  have lx := lt_add lu lv
  obtain ⟨Ax, qx, cx, rfl, ix⟩ := nx.inn lx (by omega)
  go_wp2_with fail
  refine (same_nn nt nx (Nat.mul_add _ _ _)).mono ?_
  rintro e w25 ⟨rfl, b25⟩
  have nd := nd.below b25
  have ns := ns.below b25
  have is := is.below b25
  have nt := nt.below b25
  have it := it.below b25
  have nu := nu.below b25
  have iu := iu.below b25
  have nv := nv.below b25
  have iv := iv.below b25
  have nx := nx.below b25
  have ix := ix.below b25
  have b25 : Below w.heap.size w w25 := b24.trans (b25.mono b24.size)
  clear b24
  clear ns is ls
  clear nt it lt
  clear nu iu lu
  clear nv iv lv
  clear nx ix lx
  go_wp2_with fail
  refine (norm_num (ha.below b25)).mono ?_
  rintro e w26 ⟨vs, rfl, ns, b26⟩
  have nd := nd.below b26
  have b26 : Below w.heap.size w w26 := b25.trans (b26.mono b25.size)
  clear b25
  have ls := la
  obtain ⟨As, qs, cs, rfl, is⟩ := ns.inn ls (by omega)
  go_wp2_with fail
  refine (same_nn nd ns rfl).mono ?_
  rintro e w27 ⟨rfl, b27⟩
  have nd := nd.below b27
  have ns := ns.below b27
  have is := is.below b27
  have b27 : Below w.heap.size w w27 := b26.trans (b27.mono b26.size)
  clear b26
  clear ns is ls nd ld
  obtain ⟨z, Hz⟩ : ∃ z : Int, Hid (M.cmpI N K = z) := ⟨_, rfl⟩
  have Hz2 : Hid (M.cmpI K N = -z) := by rw [← Hz.out]; exact M.cmpI_neg N K
  have C1 := Lib.hid fun W (q : Below w.heap.size w W) => cmp_num (ha.below q) (hb.below q)
  have C2 := Lib.hid fun W (q : Below w.heap.size w W) => cmp_num (hb.below q) (ha.below q)
  rw [Hz.out] at C1
  rw [Hz2.out] at C2
  have hz1 : -1 ≤ z ∧ z ≤ 1 := by rw [← Hz.out]; exact M.cmpI_bd N K
  go_wp2_with fail
  refine (C1.out _ b27).mono ?_
  rintro e w28 ⟨rfl, b28⟩
  have b28 : Below w.heap.size w w28 := b27.trans (b28.mono b27.size)
  clear b27
  go_wp2_with fail
  refine (C2.out _ b28).mono ?_
  rintro e w29 ⟨rfl, b29⟩
  have b29 : Below w.heap.size w w29 := b28.trans (b29.mono b28.size)
  clear b28
  have hzz : - -z = z := by omega
  go_wp2_with fail
  go_ret
  exact ⟨by simp, b29⟩

theorem natOrder_walk (A B C : Option Addr) (n m o c d e : Nat) (k l q : List Nat) (w : World) (ha : Lims w A n k) (hb : Lims w B m l) (hc : Lims w C o q) (h1 : n ≤ c) (h2 : m ≤ d) (h3 : o ≤ e) (h4 : c ≤ maxLen) (h5 : d ≤ maxLen) (h6 : e ≤ maxLen) :
    Calls Try.prog 8 #[.slice A n c, .slice B m d, .slice C o e] w fun e w' => e = .returned (.bool true) ∧ Below w.heap.size w w' := by
  by_cases g : n ≤ 60 ∧ m ≤ 60 ∧ o ≤ 60
  · obtain ⟨g1, g2, g3⟩ := g
    obtain ⟨ia, la⟩ := in_of ha h1 h4 g1 (by omega)
    obtain ⟨ib, lb⟩ := in_of hb h2 h5 g2 (by omega)
    obtain ⟨ic, lc⟩ := in_of hc h3 h6 g3 (by omega)
    exact natOrder_yes A B C n m o c d e _ _ _ w ia ib ic la lb lc g1 g2 g3
  · have ho : o ≤ 9223372036854775807 := Nat.le_trans h3 h6
    obtain ⟨b, hbv⟩ : ∃ b, Hid (b = (decide (n ≤ 60) && decide (m ≤ 60))) := ⟨_, rfl⟩
    have HF := Lib.hid fun W : World => few_any A B n m c d b 60 W (by omega) (by omega) (by omega) hbv.out
    have hcase : b = false ∨ (b = true ∧ 60 < o) := by
      cases hb2 : b with
      | false => exact .inl rfl
      | true =>
        have := hbv.out
        rw [hb2] at this
        simp at this
        exact .inr ⟨rfl, by omega⟩
    clear g
    rcases hcase with rfl | ⟨rfl, ho6⟩
    all_goals
      go_enter Try.func8, Try.ntmps8
      go_wp2_with fail
      refine (awake_any _).mono ?_
      rintro e w1 ⟨rfl, b1⟩
      go_wp2_with fail
      refine (HF.out _).mono ?_
      rintro e w2 ⟨rfl, rfl⟩
      go_wp2_with fail
      go_ret
      exact ⟨rfl, b1⟩
end Go.Proofs.Ytefkkmnhnldcbaa
