/- the reference's DivMod, not by nought: what it answers. -/
import Derived.Test.YtiehkciofggonaaW19
namespace Go.Proofs.Ytiehkciofggonaa
open Go.RowKit

set_option maxRecDepth 100000 in
set_option maxHeartbeats 16000000 in
theorem rdivMod_w (ga : Bool) (Aa : Option Addr) (na ca : Nat) (gb : Bool) (Ab : Option Addr) (nb cb : Nat) (x y : Int) (X : Nat) (w : World) (ha : WIn w ga Aa na ca x) (hb : WIn w gb Ab nb cb y) (la : Hid (x.natAbs < M.BB ^ X)) (lb : Hid (y.natAbs < M.BB ^ X)) (hX : X ≤ 400) (hy : y ≠ 0) :
    Calls Try.prog 27 #[.agg #[.bool ga, .slice Aa na ca], .agg #[.bool gb, .slice Ab nb cb]] w (WTwo w (x / y) (x % y)) := by
  obtain ⟨b, hgh1⟩ : ∃ b : Bool, (ga != gb) = b := ⟨_, rfl⟩
  have hgh2 : (!(ga == gb)) = b := by rw [← hgh1]; rfl
  obtain ⟨Q, HQ⟩ : ∃ Q, Hid (x.natAbs / y.natAbs = Q) := ⟨_, rfl⟩
  have hdiv := Z.refdiv ga gb x y ha.2 hb.2 hy
  rw [hgh1, HQ.out] at hdiv
  replace hdiv := Lib.hid hdiv
  have hy0 : Hid (0 < y.natAbs) := show 0 < y.natAbs by omega
  clear hy
  have LQ : Hid (Q < M.BB ^ X) := by
    have : x.natAbs / y.natAbs < M.BB ^ X := Nat.lt_of_le_of_lt (Nat.div_le_self _ _) la.out
    rw [HQ.out] at this
    exact this
  have LQ1 : Hid (Q + 1 < M.BB ^ (X + 1)) := lt_moreZ LQ.out
  have lj : Hid ((Z.sg b Q).natAbs < M.BB ^ X) := show (Z.sg b Q).natAbs < M.BB ^ X by rw [Z.sg_abs]; exact LQ.out
  have lj1 : Hid ((Z.sg b (Q + 1)).natAbs < M.BB ^ (X + 1)) := show (Z.sg b (Q + 1)).natAbs < M.BB ^ (X + 1) by rw [Z.sg_abs]; exact LQ1.out
  obtain ⟨t, HT⟩ : ∃ t, Hid (Z.sgn (x - Z.sg b Q * y) = t) := ⟨_, rfl⟩
  go_enter Try.func27, Try.ntmps27
  obtain ⟨bl, Bap, Bbp, Bpp, Bsp⟩ := loc4 w ga Aa na ca gb Ab nb cb
  have Ba : BoxZ _ _ ga Aa na ca x := ⟨Bap, ha.below bl⟩
  clear Bap
  have Bb : BoxZ _ _ gb Ab nb cb y := ⟨Bbp, hb.below bl⟩
  clear Bbp
  have Bp : BoxZ _ _ false none 0 0 0 := ⟨Bpp, win_nil _⟩
  clear Bpp
  have Bs : BoxZ _ _ false none 0 0 0 := ⟨Bsp, win_nil _⟩
  clear Bsp
  obtain ⟨a0, a1, a2, a3'⟩ := Ba.box
  obtain ⟨b0, b1, b2, b3'⟩ := Bb.box
  obtain ⟨p0, p1, p2, p3'⟩ := Bp.box
  obtain ⟨s0, s1, s2, s3'⟩ := Bs.box
  go_wp2_with fail
  clear a0 a1 a2 a3' b0 b1 b2 b3' p0 p1 p2 p3' s0 s1 s2 s3'
  refine (rDivMod_num Ba.num.1 Bb.num.1 la.out lb.out (by omega) hy0.out).mono ?_
  rintro e w1 ⟨u1, u2, rfl, k1, k2, b1⟩
  replace Ba := Ba.below b1
  replace Bb := Bb.below b1
  replace Bp := Bp.below b1
  replace Bs := Bs.below b1
  replace bl := bl.trans (b1.mono bl.size)
  clear b1
  rw [HQ.out] at k1
  obtain ⟨Aq, nq, cq, rfl, iq, zq⟩ := k1.inn_le LQ.out (by omega)
  have Nq : WNum w1 (.agg #[.bool false, .slice Aq nq cq]) (Q : Int) := ⟨_, by rw [decide_eq_false (show ¬ (Q : Int) < 0 by omega)], k1⟩
  clear k1 k2 iq
  obtain ⟨a0, a1, a2, a3'⟩ := Ba.box
  obtain ⟨b0, b1, b2, b3'⟩ := Bb.box
  obtain ⟨p0, p1, p2, p3'⟩ := Bp.box
  obtain ⟨s0, s1, s2, s3'⟩ := Bs.box
  go_wp2_with fail
  clear a0 a1 a2 a3' b0 b1 b2 b3' p0 p1 p2 p3' s0 s1 s2 s3'
  refine (rnorm_w b Aq nq cq _ _ (win_sg b (inn_of Nq (by omega))) zq).mono ?_
  rintro e w2 ⟨vj, rfl, mj, b2⟩
  replace Ba := Ba.below b2
  replace Bb := Bb.below b2
  replace Bp := Bp.below b2
  replace Bs := Bs.below b2
  replace Nq := Nq.below b2
  replace bl := bl.trans (b2.mono bl.size)
  clear b2
  obtain ⟨gj, Aj, nj, cj, rfl, ij, Nj, zj⟩ := mj.open_le lj.out (by omega)
  clear mj
  obtain ⟨a0, a1, a2, a3'⟩ := Ba.box
  obtain ⟨b0, b1, b2, b3'⟩ := Bb.box
  obtain ⟨p0, p1, p2, p3'⟩ := Bp.box
  obtain ⟨s0, s1, s2, s3'⟩ := Bs.box
  go_upto_region 5 with fail
  clear a0 a1 a2 a3' b0 b1 b2 b3' p0 p1 p2 p3' s0 s1 s2 s3'
  obtain ⟨ex, Bjp⟩ := loc1 w2 gj Aj nj cj
  have qj := Lib.hid Bs.box.lt
  replace Ba := Ba.below ex
  replace Bb := Bb.below ex
  replace Bp := Bp.below ex
  replace Bs := Bs.below ex
  replace Nq := Nq.below ex
  replace ij := ij.below ex
  replace Nj := Nj.below ex
  replace bl := bl.trans (ex.mono bl.size)
  have Bj : BoxZ _ _ gj Aj nj cj (Z.sg b Q) := ⟨Bjp, ij⟩
  clear Bjp ij
  clear ex
  have K1 := Lib.hid fun (W : World) (q : W.cell? ⟨w.heap.size, 0, none⟩ = some (.bool ga) ∧ W.cell? ⟨w.heap.size, 1, none⟩ = some (.slice Aa na ca) ∧ W.cell? ⟨w.heap.size + 1, 0, none⟩ = some (.bool gb) ∧ W.cell? ⟨w.heap.size + 1, 1, none⟩ = some (.slice Ab nb cb) ∧ W.cell? ⟨w.heap.size + 2, 0, none⟩ = some (.bool false) ∧ W.cell? ⟨w.heap.size + 2, 1, none⟩ = some (.slice none 0 0) ∧ W.cell? ⟨w.heap.size + 3, 0, none⟩ = some (.bool false) ∧ W.cell? ⟨w.heap.size + 3, 1, none⟩ = some (.slice none 0 0) ∧ W.cell? ⟨w2.heap.size, 0, none⟩ = some (.bool gj) ∧ W.cell? ⟨w2.heap.size, 1, none⟩ = some (.slice Aj nj cj) ∧ HL w [⟨w.heap.size, ga, Aa, na, ca, x⟩, ⟨w.heap.size + 1, gb, Ab, nb, cb, y⟩, ⟨w.heap.size + 2, false, none, 0, 0, 0⟩, ⟨w.heap.size + 3, false, none, 0, 0, 0⟩, ⟨w2.heap.size, gj, Aj, nj, cj, Z.sg b Q⟩] [⟨w2.heap.size, gj, Aj, nj, cj, Z.sg b Q⟩, ⟨0, false, Aq, nq, cq, (Q : Int)⟩] W)  => rmul_w _ _ _ _ _ _ _ _ X X _ _ W (q.2.2.2.2.2.2.2.2.2.2.1 _ (.tail _ (.tail _ (.tail _ (.tail _ (.head _)))))).num (q.2.2.2.2.2.2.2.2.2.2.1 _ (.tail _ (.head _))).num lj.out lb.out (by omega) (by omega)
  have lm := Lib.hid (lt_mulZ lj.out lb.out)
  have K2 := Lib.hid fun (W : World) (q : W.cell? ⟨w.heap.size, 0, none⟩ = some (.bool ga) ∧ W.cell? ⟨w.heap.size, 1, none⟩ = some (.slice Aa na ca) ∧ W.cell? ⟨w.heap.size + 1, 0, none⟩ = some (.bool gb) ∧ W.cell? ⟨w.heap.size + 1, 1, none⟩ = some (.slice Ab nb cb) ∧ W.cell? ⟨w.heap.size + 2, 0, none⟩ = some (.bool false) ∧ W.cell? ⟨w.heap.size + 2, 1, none⟩ = some (.slice none 0 0) ∧ W.cell? ⟨w.heap.size + 3, 0, none⟩ = some (.bool false) ∧ W.cell? ⟨w.heap.size + 3, 1, none⟩ = some (.slice none 0 0) ∧ W.cell? ⟨w2.heap.size, 0, none⟩ = some (.bool gj) ∧ W.cell? ⟨w2.heap.size, 1, none⟩ = some (.slice Aj nj cj) ∧ HL w [⟨w.heap.size, ga, Aa, na, ca, x⟩, ⟨w.heap.size + 1, gb, Ab, nb, cb, y⟩, ⟨w.heap.size + 2, false, none, 0, 0, 0⟩, ⟨w.heap.size + 3, false, none, 0, 0, 0⟩, ⟨w2.heap.size, gj, Aj, nj, cj, Z.sg b Q⟩] [⟨w2.heap.size, gj, Aj, nj, cj, Z.sg b Q⟩, ⟨0, false, Aq, nq, cq, (Q : Int)⟩] W) (gm : Bool) (Am : Option Addr) (nm cm : Nat) (im : WIn W gm Am nm cm (Z.sg b Q * y)) (Nm : WNum W (.agg #[.bool gm, .slice Am nm cm]) (Z.sg b Q * y)) (zm : nm ≤ 900000) => rsub_w _ _ _ _ _ _ _ _ X (X + X) _ _ W (q.2.2.2.2.2.2.2.2.2.2.1 _ (.head _)).num im la.out lm.out (by omega) (by omega) zm
  have lo := Lib.hid (lt_subZ la.out lm.out)
  have LT := Lib.hid Bj.box.lt
  have HS := Lib.hid (start5 Ba Bb Bp Bs Bj (bl := bl) (M := [⟨w2.heap.size, gj, Aj, nj, cj, Z.sg b Q⟩, ⟨0, false, Aq, nq, cq, (Q : Int)⟩]) (hM := (own2 Nj Nq)))
  clear Ba Bb Bp Bs Bj Nj Nq bl
  go_cut [11] (fun s9 wx4 => ∃ (p9 : Nat) (g9 : Bool) (A9 : Option Addr) (n9 c9 : Nat), s9 = .pointer (some ⟨p9, 0, none⟩) ∧ w2.heap.size < p9 ∧ BoxZ wx4 p9 g9 A9 n9 c9 (x - Z.sg b Q * y) ∧ WNum wx4 (.agg #[.bool g9, .slice A9 n9 c9]) (x - Z.sg b Q * y) ∧ n9 ≤ 900000 ∧ HL w [⟨w.heap.size, ga, Aa, na, ca, x⟩, ⟨w.heap.size + 1, gb, Ab, nb, cb, y⟩, ⟨w.heap.size + 2, false, none, 0, 0, 0⟩, ⟨w.heap.size + 3, false, none, 0, 0, 0⟩, ⟨w2.heap.size, gj, Aj, nj, cj, Z.sg b Q⟩] [⟨w2.heap.size, gj, Aj, nj, cj, Z.sg b Q⟩, ⟨0, false, Aq, nq, cq, (Q : Int)⟩] wx4)
  case first =>
    go_region_held3 (fun w' => w'.cell? ⟨w.heap.size, 0, none⟩ = some (.bool ga) ∧ w'.cell? ⟨w.heap.size, 1, none⟩ = some (.slice Aa na ca) ∧ w'.cell? ⟨w.heap.size + 1, 0, none⟩ = some (.bool gb) ∧ w'.cell? ⟨w.heap.size + 1, 1, none⟩ = some (.slice Ab nb cb) ∧ w'.cell? ⟨w.heap.size + 2, 0, none⟩ = some (.bool false) ∧ w'.cell? ⟨w.heap.size + 2, 1, none⟩ = some (.slice none 0 0) ∧ w'.cell? ⟨w.heap.size + 3, 0, none⟩ = some (.bool false) ∧ w'.cell? ⟨w.heap.size + 3, 1, none⟩ = some (.slice none 0 0) ∧ w'.cell? ⟨w2.heap.size, 0, none⟩ = some (.bool gj) ∧ w'.cell? ⟨w2.heap.size, 1, none⟩ = some (.slice Aj nj cj) ∧ HL w [⟨w.heap.size, ga, Aa, na, ca, x⟩, ⟨w.heap.size + 1, gb, Ab, nb, cb, y⟩, ⟨w.heap.size + 2, false, none, 0, 0, 0⟩, ⟨w.heap.size + 3, false, none, 0, 0, 0⟩, ⟨w2.heap.size, gj, Aj, nj, cj, Z.sg b Q⟩] [⟨w2.heap.size, gj, Aj, nj, cj, Z.sg b Q⟩, ⟨0, false, Aq, nq, cq, (Q : Int)⟩] w')
      (first | exact keepZ5 (by assumption) (by assumption) | exact HS.out | exact keepZ5 ((Below.refl _ _).alloc (Nat.le_refl _) _) (by assumption) | exact keepR5 rm.1 ⟨(by have h99 := rm.2; have h49 := qj.out; omega), (by have h99 := rm.2; have h49 := qj.out; omega), (by have h99 := rm.2; have h49 := qj.out; omega), (by have h99 := rm.2; have h49 := qj.out; omega), (by have h99 := rm.2; have h49 := qj.out; omega)⟩ (by have h99 := rm.2; have h49 := qj.out; omega) (by assumption) | exact keepA5 ⟨(by have h99 := Nat.lt_of_lt_of_le LT.out (Nat.le_trans b3.size b4.size); have h49 := qj.out; omega), (by have h99 := Nat.lt_of_lt_of_le LT.out (Nat.le_trans b3.size b4.size); have h49 := qj.out; omega), (by have h99 := Nat.lt_of_lt_of_le LT.out (Nat.le_trans b3.size b4.size); have h49 := qj.out; omega), (by have h99 := Nat.lt_of_lt_of_le LT.out (Nat.le_trans b3.size b4.size); have h49 := qj.out; omega), (by have h99 := Nat.lt_of_lt_of_le LT.out (Nat.le_trans b3.size b4.size); have h49 := qj.out; omega)⟩ (by have h99 := Nat.lt_of_lt_of_le LT.out (Nat.le_trans b3.size b4.size); have h49 := qj.out; omega) (by assumption))
      (first | (go_at_call 21; (with_reducible refine (K1.out _ ?_ ).mono ?_); assumption; rintro e w3 ⟨vm, rfl, mm, b3⟩; obtain ⟨gm, Am, nm, cm, rfl, im, Nm, zm⟩ := mm.open_le lm.out (by omega); clear mm; (first | have rm := rm_at (w2.heap.size + 1) b3 LT.out (by simp) | have rm := rm_atd (w2.heap.size + 1) b3 LT.out (by simp) | skip)) | (go_at_call 19; (with_reducible refine (K2.out _ ?_ _ _ _ _ ?_ ?_ ?_).mono ?_); assumption; (first | exact im | exact im.below ((Below.refl _ _).alloc (Nat.le_refl _) _)); (first | exact Nm | exact Nm.below ((Below.refl _ _).alloc (Nat.le_refl _) _)); exact zm; rintro e w4 ⟨vo, rfl, mo, b4⟩; (first | replace im := im.below b4 | replace im := (im.below ((Below.refl _ _).alloc (Nat.le_refl _) _)).below b4); (first | replace Nm := Nm.below b4 | replace Nm := (Nm.below ((Below.refl _ _).alloc (Nat.le_refl _) _)).below b4); obtain ⟨go, Ao, no, co, rfl, io, No, zo⟩ := mo.open_le lo.out (by omega); clear mo; (first | have rm := rm_below rm b4 | have rm := rm_new b4 (Nat.lt_of_lt_of_le LT.out b3.size) | skip); (try (obtain ⟨⟨xr, yr, zr, qr, ⟨f0, f1, f2, f3⟩⟩, _⟩ := id rm; have f4 := f3 0; have f5 := f3 1))))
    all_goals
      rename_i hh
      go_wp2_with fail
      go_meet
      first
      | exact ⟨_, _, _, _, _, rfl, rm.2, ⟨box_own rm.1, win_room io rm.1⟩, wnum_room No rm.1, zo, hh.2.2.2.2.2.2.2.2.2.2⟩
      | exact ⟨_, _, _, _, _, rfl, Nat.lt_of_lt_of_le LT.out (Nat.le_trans b3.size b4.size), ⟨Box.new _ _ _ _ _, io.below ((Below.refl _ _).alloc (Nat.le_refl _) _)⟩, No.below ((Below.refl _ _).alloc (Nat.le_refl _) _), zo, hh.2.2.2.2.2.2.2.2.2.2⟩
  case rest =>
    clear HS LT K1 K2 lm
    obtain ⟨po, go, Ao, no, co, rfl, qo, Bo, No, zo, hh⟩ := hcut
    have qo := Lib.hid qo
    have Ba : BoxZ _ (w.heap.size) ga Aa na ca (x) := hh.1 _ (.head _)
    have Bb : BoxZ _ (w.heap.size + 1) gb Ab nb cb (y) := hh.1 _ (.tail _ (.head _))
    have Bp : BoxZ _ (w.heap.size + 2) false none 0 0 (0) := hh.1 _ (.tail _ (.tail _ (.head _)))
    have Bs : BoxZ _ (w.heap.size + 3) false none 0 0 (0) := hh.1 _ (.tail _ (.tail _ (.tail _ (.head _))))
    have Bj : BoxZ _ (w2.heap.size) gj Aj nj cj (Z.sg b Q) := hh.1 _ (.tail _ (.tail _ (.tail _ (.tail _ (.head _)))))
    have Nj : WNum _ (.agg #[.bool gj, .slice Aj nj cj]) (Z.sg b Q) := hh.2.1 _ (.head _)
    have Nq : WNum _ (.agg #[.bool false, .slice Aq nq cq]) ((Q : Int)) := hh.2.1 _ (.tail _ (.head _))
    have bl := hh.2.2
    clear hh
    have HSG := Lib.hid fun (W : World) (g8 : Bool) (A8 : Option Addr) (n8 c8 : Nat) (q : WIn W g8 A8 n8 c8 (x - Z.sg b Q * y)) (hn : n8 ≤ 900000) => rsign_w g8 A8 n8 c8 _ W q hn
    rw [HT.out] at HSG
    by_cases ht : t < 0
    · obtain ⟨a0, a1, a2, a3'⟩ := Ba.box
      obtain ⟨b0, b1, b2, b3'⟩ := Bb.box
      obtain ⟨p0, p1, p2, p3'⟩ := Bp.box
      obtain ⟨s0, s1, s2, s3'⟩ := Bs.box
      obtain ⟨j0, j1, j2, j3'⟩ := Bj.box
      obtain ⟨o0, o1, o2, o3'⟩ := Bo.box
      go_wp2_with fail
      clear a0 a1 a2 a3' b0 b1 b2 b3' p0 p1 p2 p3' s0 s1 s2 s3' j0 j1 j2 j3' o0 o1 o2 o3'
      refine (HSG.out _ _ _ _ _ Bo.num zo).mono ?_
      rintro e w5 ⟨rfl, b5⟩
      replace Ba := Ba.below b5
      replace Bb := Bb.below b5
      replace Bp := Bp.below b5
      replace Bs := Bs.below b5
      replace Bj := Bj.below b5
      replace Nj := Nj.below b5
      replace Bo := Bo.below b5
      replace No := No.below b5
      replace Nq := Nq.below b5
      replace bl := bl.trans (b5.mono bl.size)
      clear b5
      clear HSG
      have hx : Z.sg b (Q + 1) = x / y := hdiv.out.2 ((Z.sgn_lt _).1 (by rw [HT.out]; exact ht))
      have hr : x - Z.sg b (Q + 1) * y = x % y := Z.mod_of hx
      replace hx := Lib.hid hx
      replace hr := Lib.hid hr
      obtain ⟨a0, a1, a2, a3'⟩ := Ba.box
      obtain ⟨b0, b1, b2, b3'⟩ := Bb.box
      obtain ⟨p0, p1, p2, p3'⟩ := Bp.box
      obtain ⟨s0, s1, s2, s3'⟩ := Bs.box
      obtain ⟨j0, j1, j2, j3'⟩ := Bj.box
      obtain ⟨o0, o1, o2, o3'⟩ := Bo.box
      go_wp2_with fail
      clear a0 a1 a2 a3' b0 b1 b2 b3' p0 p1 p2 p3' s0 s1 s2 s3' j0 j1 j2 j3' o0 o1 o2 o3'
      have rm : Room (w5.drew.alloc (.cells #[.int .u32 1] 57)) (w2.heap.size) := (Room.drew (show Room w5 (w2.heap.size) from ⟨_, _, _, _, Bj.box⟩)).below ((Below.refl _ _).alloc (Nat.le_refl _) (.cells #[.int .u32 1] 57)) Bj.box.lt
      have KA := Lib.hid (rAdd_num (i := X) (j := 1) ((inn_of Nq (by omega)).below ((Below.refl w5.heap.size w5).drew.alloc (Nat.le_refl _) (.cells #[.int .u32 1] 57))) (in_one w5.drew) LQ.out (by rw [Nat.pow_one, M.BB_eq]; omega) (by omega) (by omega))
      have HS := Lib.hid (start5 Ba Bb Bp Bs Bo (bl := bl) (M := [⟨po, go, Ao, no, co, x - Z.sg b Q * y⟩, ⟨0, false, Aq, nq, cq, (Q : Int)⟩]) (hM := (own2 No Nq)))
      clear Ba Bb Bp Bs Bj Bo Nj No Nq bl
      go_region_held3 (fun w' => w'.cell? ⟨w.heap.size, 0, none⟩ = some (.bool ga) ∧ w'.cell? ⟨w.heap.size, 1, none⟩ = some (.slice Aa na ca) ∧ w'.cell? ⟨w.heap.size + 1, 0, none⟩ = some (.bool gb) ∧ w'.cell? ⟨w.heap.size + 1, 1, none⟩ = some (.slice Ab nb cb) ∧ w'.cell? ⟨w.heap.size + 2, 0, none⟩ = some (.bool false) ∧ w'.cell? ⟨w.heap.size + 2, 1, none⟩ = some (.slice none 0 0) ∧ w'.cell? ⟨w.heap.size + 3, 0, none⟩ = some (.bool false) ∧ w'.cell? ⟨w.heap.size + 3, 1, none⟩ = some (.slice none 0 0) ∧ w'.cell? ⟨po, 0, none⟩ = some (.bool go) ∧ w'.cell? ⟨po, 1, none⟩ = some (.slice Ao no co) ∧ HL w [⟨w.heap.size, ga, Aa, na, ca, x⟩, ⟨w.heap.size + 1, gb, Ab, nb, cb, y⟩, ⟨w.heap.size + 2, false, none, 0, 0, 0⟩, ⟨w.heap.size + 3, false, none, 0, 0, 0⟩, ⟨po, go, Ao, no, co, x - Z.sg b Q * y⟩] [⟨po, go, Ao, no, co, x - Z.sg b Q * y⟩, ⟨0, false, Aq, nq, cq, (Q : Int)⟩] w')
        (first | exact keepZ5 (by assumption) (by assumption) | exact HS.out | exact keepZ5 ((Below.refl _ _).alloc (Nat.le_refl _) _) (by assumption) | exact keepR5 rm ⟨(by have h49 := qj.out; have h59 := qo.out; omega), (by have h49 := qj.out; have h59 := qo.out; omega), (by have h49 := qj.out; have h59 := qo.out; omega), (by have h49 := qj.out; have h59 := qo.out; omega), (by have h49 := qj.out; have h59 := qo.out; omega)⟩ (by have h49 := qj.out; have h59 := qo.out; omega) (by assumption))
        (first | (go_at_call 44; refine KA.out.mono ?_; rintro e w6 ⟨v9, rfl, k9, b6⟩; replace rm := rm.below b6 rm.lt; obtain ⟨A9, n9, c9, rfl, i9, z9⟩ := k9.inn_le LQ1.out (by omega)) | (go_at_call 13; refine (rnorm_w b A9 n9 c9 _ _ (win_sg b i9) z9).mono ?_; rintro e w7 ⟨vk, rfl, mk, b7⟩; replace rm := rm.below b7 rm.lt; obtain ⟨gk, Ak, nk, ck, rfl, ik, Nk, zk⟩ := mk.open_le lj1.out (by omega); obtain ⟨xr, yr, zr, qr, ⟨f0, f1, f2, f3⟩⟩ := id rm; have f4 := f3 0; have f5 := f3 1))
      rename_i hh
      have hh := hh.2.2.2.2.2.2.2.2.2.2
      have Ba : BoxZ _ (w.heap.size) ga Aa na ca (x) := hh.1 _ (.head _)
      have Bb : BoxZ _ (w.heap.size + 1) gb Ab nb cb (y) := hh.1 _ (.tail _ (.head _))
      have Bp : BoxZ _ (w.heap.size + 2) false none 0 0 (0) := hh.1 _ (.tail _ (.tail _ (.head _)))
      have Bs : BoxZ _ (w.heap.size + 3) false none 0 0 (0) := hh.1 _ (.tail _ (.tail _ (.tail _ (.head _))))
      have Bo : BoxZ _ (po) go Ao no co (x - Z.sg b Q * y) := hh.1 _ (.tail _ (.tail _ (.tail _ (.tail _ (.head _)))))
      have No : WNum _ (.agg #[.bool go, .slice Ao no co]) (x - Z.sg b Q * y) := hh.2.1 _ (.head _)
      have Nq : WNum _ (.agg #[.bool false, .slice Aq nq cq]) ((Q : Int)) := hh.2.1 _ (.tail _ (.head _))
      have bl := hh.2.2
      clear hh
      have Bj : BoxZ (World.room w7 (w2.heap.size) (.bool gk) (.slice Ak nk ck)) (w2.heap.size) gk Ak nk ck (Z.sg b (Q + 1)) := ⟨box_own rm, win_room ik rm⟩
      have Nj := wnum_room (x := .bool gk) (u := .slice Ak nk ck) Nk rm
      clear rm f0 f1 f2 f3 f4 f5 HS KA ik Nk i9 z9
      obtain ⟨a0, a1, a2, a3'⟩ := Ba.box
      obtain ⟨b0, b1, b2, b3'⟩ := Bb.box
      obtain ⟨p0, p1, p2, p3'⟩ := Bp.box
      obtain ⟨s0, s1, s2, s3'⟩ := Bs.box
      obtain ⟨j0, j1, j2, j3'⟩ := Bj.box
      obtain ⟨o0, o1, o2, o3'⟩ := Bo.box
      go_wp2_with fail
      clear a0 a1 a2 a3' b0 b1 b2 b3' p0 p1 p2 p3' s0 s1 s2 s3' j0 j1 j2 j3' o0 o1 o2 o3'
      have K3 := Lib.hid fun (W : World) (q : W.cell? ⟨w.heap.size, 0, none⟩ = some (.bool ga) ∧ W.cell? ⟨w.heap.size, 1, none⟩ = some (.slice Aa na ca) ∧ W.cell? ⟨w.heap.size + 1, 0, none⟩ = some (.bool gb) ∧ W.cell? ⟨w.heap.size + 1, 1, none⟩ = some (.slice Ab nb cb) ∧ W.cell? ⟨w.heap.size + 2, 0, none⟩ = some (.bool false) ∧ W.cell? ⟨w.heap.size + 2, 1, none⟩ = some (.slice none 0 0) ∧ W.cell? ⟨w.heap.size + 3, 0, none⟩ = some (.bool false) ∧ W.cell? ⟨w.heap.size + 3, 1, none⟩ = some (.slice none 0 0) ∧ W.cell? ⟨w2.heap.size, 0, none⟩ = some (.bool gk) ∧ W.cell? ⟨w2.heap.size, 1, none⟩ = some (.slice Ak nk ck) ∧ HL w [⟨w.heap.size, ga, Aa, na, ca, x⟩, ⟨w.heap.size + 1, gb, Ab, nb, cb, y⟩, ⟨w.heap.size + 2, false, none, 0, 0, 0⟩, ⟨w.heap.size + 3, false, none, 0, 0, 0⟩, ⟨w2.heap.size, gk, Ak, nk, ck, Z.sg b (Q + 1)⟩] [⟨w2.heap.size, gk, Ak, nk, ck, Z.sg b (Q + 1)⟩, ⟨0, false, Aq, nq, cq, (Q : Int)⟩] W)  => rmul_w _ _ _ _ _ _ _ _ (X + 1) X _ _ W (q.2.2.2.2.2.2.2.2.2.2.1 _ (.tail _ (.tail _ (.tail _ (.tail _ (.head _)))))).num (q.2.2.2.2.2.2.2.2.2.2.1 _ (.tail _ (.head _))).num lj1.out lb.out (by omega) (by omega)
      have lm := Lib.hid (lt_mulZ lj1.out lb.out)
      have K4 := Lib.hid fun (W : World) (q : W.cell? ⟨w.heap.size, 0, none⟩ = some (.bool ga) ∧ W.cell? ⟨w.heap.size, 1, none⟩ = some (.slice Aa na ca) ∧ W.cell? ⟨w.heap.size + 1, 0, none⟩ = some (.bool gb) ∧ W.cell? ⟨w.heap.size + 1, 1, none⟩ = some (.slice Ab nb cb) ∧ W.cell? ⟨w.heap.size + 2, 0, none⟩ = some (.bool false) ∧ W.cell? ⟨w.heap.size + 2, 1, none⟩ = some (.slice none 0 0) ∧ W.cell? ⟨w.heap.size + 3, 0, none⟩ = some (.bool false) ∧ W.cell? ⟨w.heap.size + 3, 1, none⟩ = some (.slice none 0 0) ∧ W.cell? ⟨w2.heap.size, 0, none⟩ = some (.bool gk) ∧ W.cell? ⟨w2.heap.size, 1, none⟩ = some (.slice Ak nk ck) ∧ HL w [⟨w.heap.size, ga, Aa, na, ca, x⟩, ⟨w.heap.size + 1, gb, Ab, nb, cb, y⟩, ⟨w.heap.size + 2, false, none, 0, 0, 0⟩, ⟨w.heap.size + 3, false, none, 0, 0, 0⟩, ⟨w2.heap.size, gk, Ak, nk, ck, Z.sg b (Q + 1)⟩] [⟨w2.heap.size, gk, Ak, nk, ck, Z.sg b (Q + 1)⟩, ⟨0, false, Aq, nq, cq, (Q : Int)⟩] W) (gm : Bool) (Am : Option Addr) (nm cm : Nat) (im : WIn W gm Am nm cm (Z.sg b (Q + 1) * y)) (Nm : WNum W (.agg #[.bool gm, .slice Am nm cm]) (Z.sg b (Q + 1) * y)) (zm : nm ≤ 900000) => rsub_w _ _ _ _ _ _ _ _ X (X + 1 + X) _ _ W (q.2.2.2.2.2.2.2.2.2.2.1 _ (.head _)).num im la.out lm.out (by omega) (by omega) zm
      have lr := Lib.hid (lt_subZ la.out lm.out)
      have rm : Room _ (po) := Room.drew ⟨_, _, _, _, Bo.box⟩
      have HS := Lib.hid (start5 Ba Bb Bp Bs Bj (bl := bl) (M := [⟨w2.heap.size, gk, Ak, nk, ck, Z.sg b (Q + 1)⟩, ⟨0, false, Aq, nq, cq, (Q : Int)⟩]) (hM := (own2 Nj Nq)))
      clear Ba Bb Bp Bs Bj Bo Nj No Nq bl
      go_region_held3 (fun w' => w'.cell? ⟨w.heap.size, 0, none⟩ = some (.bool ga) ∧ w'.cell? ⟨w.heap.size, 1, none⟩ = some (.slice Aa na ca) ∧ w'.cell? ⟨w.heap.size + 1, 0, none⟩ = some (.bool gb) ∧ w'.cell? ⟨w.heap.size + 1, 1, none⟩ = some (.slice Ab nb cb) ∧ w'.cell? ⟨w.heap.size + 2, 0, none⟩ = some (.bool false) ∧ w'.cell? ⟨w.heap.size + 2, 1, none⟩ = some (.slice none 0 0) ∧ w'.cell? ⟨w.heap.size + 3, 0, none⟩ = some (.bool false) ∧ w'.cell? ⟨w.heap.size + 3, 1, none⟩ = some (.slice none 0 0) ∧ w'.cell? ⟨w2.heap.size, 0, none⟩ = some (.bool gk) ∧ w'.cell? ⟨w2.heap.size, 1, none⟩ = some (.slice Ak nk ck) ∧ HL w [⟨w.heap.size, ga, Aa, na, ca, x⟩, ⟨w.heap.size + 1, gb, Ab, nb, cb, y⟩, ⟨w.heap.size + 2, false, none, 0, 0, 0⟩, ⟨w.heap.size + 3, false, none, 0, 0, 0⟩, ⟨w2.heap.size, gk, Ak, nk, ck, Z.sg b (Q + 1)⟩] [⟨w2.heap.size, gk, Ak, nk, ck, Z.sg b (Q + 1)⟩, ⟨0, false, Aq, nq, cq, (Q : Int)⟩] w')
        (first | exact keepZ5 (by assumption) (by assumption) | exact HS.out | exact keepZ5 ((Below.refl _ _).alloc (Nat.le_refl _) _) (by assumption) | exact keepR5 rm ⟨(by have h49 := qj.out; have h59 := qo.out; omega), (by have h49 := qj.out; have h59 := qo.out; omega), (by have h49 := qj.out; have h59 := qo.out; omega), (by have h49 := qj.out; have h59 := qo.out; omega), (by have h49 := qj.out; have h59 := qo.out; omega)⟩ (by have h49 := qj.out; have h59 := qo.out; omega) (by assumption))
        (first | (go_at_call 21; (with_reducible refine (K3.out _ ?_ ).mono ?_); assumption; rintro e w8 ⟨vm, rfl, mm, b8⟩; obtain ⟨gm, Am, nm, cm, rfl, im, Nm, zm⟩ := mm.open_le lm.out (by omega); clear mm; replace rm := rm.below b8 rm.lt) | (go_at_call 19; (with_reducible refine (K4.out _ ?_ _ _ _ _ ?_ ?_ ?_).mono ?_); assumption; (first | exact im | exact im.below ((Below.refl _ _).alloc (Nat.le_refl _) _)); (first | exact Nm | exact Nm.below ((Below.refl _ _).alloc (Nat.le_refl _) _)); exact zm; rintro e w9 ⟨vr, rfl, mr, b9⟩; (first | replace im := im.below b9 | replace im := (im.below ((Below.refl _ _).alloc (Nat.le_refl _) _)).below b9); (first | replace Nm := Nm.below b9 | replace Nm := (Nm.below ((Below.refl _ _).alloc (Nat.le_refl _) _)).below b9); obtain ⟨gr, Ar, nr, cr, rfl, ir, Nr, zr⟩ := mr.open_le lr.out (by omega); clear mr; replace rm := rm.below b9 rm.lt; obtain ⟨xr, yr, zr, qr, ⟨f0, f1, f2, f3⟩⟩ := id rm; have f4 := f3 0; have f5 := f3 1))
      rename_i hh
      have hh := hh.2.2.2.2.2.2.2.2.2.2
      have Ba : BoxZ _ (w.heap.size) ga Aa na ca (x) := hh.1 _ (.head _)
      have Bb : BoxZ _ (w.heap.size + 1) gb Ab nb cb (y) := hh.1 _ (.tail _ (.head _))
      have Bp : BoxZ _ (w.heap.size + 2) false none 0 0 (0) := hh.1 _ (.tail _ (.tail _ (.head _)))
      have Bs : BoxZ _ (w.heap.size + 3) false none 0 0 (0) := hh.1 _ (.tail _ (.tail _ (.tail _ (.head _))))
      have Bj : BoxZ _ (w2.heap.size) gk Ak nk ck (Z.sg b (Q + 1)) := hh.1 _ (.tail _ (.tail _ (.tail _ (.tail _ (.head _)))))
      have Nj : WNum _ (.agg #[.bool gk, .slice Ak nk ck]) (Z.sg b (Q + 1)) := hh.2.1 _ (.head _)
      have Nq : WNum _ (.agg #[.bool false, .slice Aq nq cq]) ((Q : Int)) := hh.2.1 _ (.tail _ (.head _))
      have bl := hh.2.2
      clear hh
      have Bo : BoxZ (World.room w9 (po) (.bool gr) (.slice Ar nr cr)) (po) gr Ar nr cr (x - Z.sg b (Q + 1) * y) := ⟨box_own rm, win_room ir rm⟩
      have No := wnum_room (x := .bool gr) (u := .slice Ar nr cr) Nr rm
      clear rm f0 f1 f2 f3 f4 f5 HS K3 K4 im Nm ir Nr lm
      have lo := lr
      obtain ⟨a0, a1, a2, a3'⟩ := Ba.box
      obtain ⟨b0, b1, b2, b3'⟩ := Bb.box
      obtain ⟨p0, p1, p2, p3'⟩ := Bp.box
      obtain ⟨s0, s1, s2, s3'⟩ := Bs.box
      obtain ⟨j0, j1, j2, j3'⟩ := Bj.box
      obtain ⟨o0, o1, o2, o3'⟩ := Bo.box
      go_wp2_with fail
      clear a0 a1 a2 a3' b0 b1 b2 b3' p0 p1 p2 p3' s0 s1 s2 s3' j0 j1 j2 j3' o0 o1 o2 o3'
      have rp : Room _ (w.heap.size + 2) := ⟨_, _, _, _, Bp.box⟩
      have rs : Room _ (w.heap.size + 3) := ⟨_, _, _, _, Bs.box⟩
      have hend := Lib.hid (two_own (w := w) Nj No ⟨_, _, _, _, Bp.box⟩ ⟨_, _, _, _, Bs.box⟩ bl (by omega) (by omega))
      have hcl := Lib.hid (two_cells (x := gk) (A := Ak) (n := nk) (c := ck) (x' := gr) (B := Ar) (m := nr) (d := cr) (R := w.heap.size + 2) (R2 := w.heap.size + 3) ⟨_, _, _, _, Bp.box⟩ ⟨_, _, _, _, Bs.box⟩ (by omega))
      have hcm := Lib.hid (two_cells' (x := gk) (A := Ak) (n := nk) (c := ck) (x' := gr) (B := Ar) (m := nr) (d := cr) (R := w.heap.size + 2) (R2 := w.heap.size + 3) ⟨_, _, _, _, Bp.box⟩ ⟨_, _, _, _, Bs.box⟩ (by omega))
      have HS := Lib.hid (start2 Bj Bo (bl := bl) (M := []) (hM := (fun _ h => absurd h (by simp))))
      have hl0 : HL w [⟨w2.heap.size, gk, Ak, nk, ck, Z.sg b (Q + 1)⟩, ⟨po, gr, Ar, nr, cr, x - Z.sg b (Q + 1) * y⟩] [] _ := ⟨cons_of (P := fun x : Loc => BoxZ _ x.b x.g x.A x.n x.c x.z) Bj (cons_of (P := fun x : Loc => BoxZ _ x.b x.g x.A x.n x.c x.z) Bo (fun _ h => absurd h (by simp))), fun _ h => absurd h (by simp), bl⟩
      have np : ∀ (l9 : Loc), l9 ∈ ([⟨w2.heap.size, gk, Ak, nk, ck, Z.sg b (Q + 1)⟩, ⟨po, gr, Ar, nr, cr, x - Z.sg b (Q + 1) * y⟩] : List Loc) → l9.b ≠ w.heap.size + 2 := cons_of (P := fun x : Loc => x.b ≠ w.heap.size + 2) (show w2.heap.size ≠ w.heap.size + 2 by have h0 := qj.out; have h1 := qo.out; omega) (cons_of (P := fun x : Loc => x.b ≠ w.heap.size + 2) (show po ≠ w.heap.size + 2 by have h0 := qj.out; have h1 := qo.out; omega) (fun _ h => absurd h (by simp)))
      have ep : w.heap.size ≤ w.heap.size + 2 := by omega
      have ns : ∀ (l9 : Loc), l9 ∈ ([⟨w2.heap.size, gk, Ak, nk, ck, Z.sg b (Q + 1)⟩, ⟨po, gr, Ar, nr, cr, x - Z.sg b (Q + 1) * y⟩] : List Loc) → l9.b ≠ w.heap.size + 3 := cons_of (P := fun x : Loc => x.b ≠ w.heap.size + 3) (show w2.heap.size ≠ w.heap.size + 3 by have h0 := qj.out; have h1 := qo.out; omega) (cons_of (P := fun x : Loc => x.b ≠ w.heap.size + 3) (show po ≠ w.heap.size + 3 by have h0 := qj.out; have h1 := qo.out; omega) (fun _ h => absurd h (by simp)))
      have es : w.heap.size ≤ w.heap.size + 3 := by omega
      have HP := Lib.hid (cells2 (hl0.room (x := .bool gk) (u := .slice Ak nk ck) rp np ep).drew)
      have HQ := Lib.hid (cells2 (hl0.room (x := .bool gr) (u := .slice Ar nr cr) rs ns es).drew)
      have HPQ := Lib.hid (cells2 ((hl0.room (x := .bool gk) (u := .slice Ak nk ck) rp np ep).room (x := .bool gr) (u := .slice Ar nr cr) (room_room (x := gk) (A := Ak) (n := nk) (c := ck) rs rp) ns es).drew)
      have HQP := Lib.hid (cells2 ((hl0.room (x := .bool gr) (u := .slice Ar nr cr) rs ns es).room (x := .bool gk) (u := .slice Ak nk ck) (room_room (x := gr) (A := Ar) (n := nr) (c := cr) rp rs) np ep).drew)
      clear hl0 np ns ep es rp rs
      obtain ⟨p0, p1, p2, p3'⟩ := Bp.box
      obtain ⟨s0, s1, s2, s3'⟩ := Bs.box
      have p3 := p3' 0
      have p4 := p3' 1
      have s3 := s3' 0
      have s4 := s3' 1
      clear Ba Bb Bp Bs Bj Bo Nj No bl p3' s3'
      go_region_held3 (fun w' => w'.cell? ⟨w2.heap.size, 0, none⟩ = some (.bool gk) ∧ w'.cell? ⟨w2.heap.size, 1, none⟩ = some (.slice Ak nk ck) ∧ w'.cell? ⟨po, 0, none⟩ = some (.bool gr) ∧ w'.cell? ⟨po, 1, none⟩ = some (.slice Ar nr cr) ∧ HL w [⟨w2.heap.size, gk, Ak, nk, ck, Z.sg b (Q + 1)⟩, ⟨po, gr, Ar, nr, cr, x - Z.sg b (Q + 1) * y⟩] [] w')
        (first | with_reducible exact HS.out | with_reducible exact HP.out | with_reducible exact HQ.out | with_reducible exact HPQ.out | with_reducible exact HQP.out)
        (fail)
      all_goals
        first
        | (obtain ⟨k0, k1, k2, k3⟩ := hcl.out; unfold World.room at k0 k1 k2 k3; (go_wp2_with fail); exact bodyPost_ret (v := .tuple #[.agg #[.bool gk, .slice Ak nk ck], .agg #[.bool gr, .slice Ar nr cr], .int .i64 0]) (by simp [results, Try.results27, go_sem, k0, k1, k2, k3]) rfl (by have := hend.out.1.drew; rw [hr.out, hx.out] at this; exact this))
        | (obtain ⟨k0, k1, k2, k3⟩ := hcm.out; unfold World.room at k0 k1 k2 k3; (go_wp2_with fail); exact bodyPost_ret (v := .tuple #[.agg #[.bool gk, .slice Ak nk ck], .agg #[.bool gr, .slice Ar nr cr], .int .i64 0]) (by simp [results, Try.results27, go_sem, k0, k1, k2, k3]) rfl (by have := hend.out.2.drew; rw [hr.out, hx.out] at this; exact this))
    · obtain ⟨a0, a1, a2, a3'⟩ := Ba.box
      obtain ⟨b0, b1, b2, b3'⟩ := Bb.box
      obtain ⟨p0, p1, p2, p3'⟩ := Bp.box
      obtain ⟨s0, s1, s2, s3'⟩ := Bs.box
      obtain ⟨j0, j1, j2, j3'⟩ := Bj.box
      obtain ⟨o0, o1, o2, o3'⟩ := Bo.box
      go_wp2_with fail
      clear a0 a1 a2 a3' b0 b1 b2 b3' p0 p1 p2 p3' s0 s1 s2 s3' j0 j1 j2 j3' o0 o1 o2 o3'
      refine (HSG.out _ _ _ _ _ Bo.num zo).mono ?_
      rintro e w5 ⟨rfl, b5⟩
      replace Ba := Ba.below b5
      replace Bb := Bb.below b5
      replace Bp := Bp.below b5
      replace Bs := Bs.below b5
      replace Bj := Bj.below b5
      replace Nj := Nj.below b5
      replace Bo := Bo.below b5
      replace No := No.below b5
      replace Nq := Nq.below b5
      replace bl := bl.trans (b5.mono bl.size)
      clear b5
      clear HSG
      have hx : Z.sg b Q = x / y := hdiv.out.1 (by have h1 := Z.sgn_lt (x - Z.sg b Q * y); rw [HT.out] at h1; omega)
      have hr : x - Z.sg b Q * y = x % y := Z.mod_of hx
      replace hx := Lib.hid hx
      replace hr := Lib.hid hr
      obtain ⟨a0, a1, a2, a3'⟩ := Ba.box
      obtain ⟨b0, b1, b2, b3'⟩ := Bb.box
      obtain ⟨p0, p1, p2, p3'⟩ := Bp.box
      obtain ⟨s0, s1, s2, s3'⟩ := Bs.box
      obtain ⟨j0, j1, j2, j3'⟩ := Bj.box
      obtain ⟨o0, o1, o2, o3'⟩ := Bo.box
      go_wp2_with fail
      clear a0 a1 a2 a3' b0 b1 b2 b3' p0 p1 p2 p3' s0 s1 s2 s3' j0 j1 j2 j3' o0 o1 o2 o3'
      have rp : Room _ (w.heap.size + 2) := ⟨_, _, _, _, Bp.box⟩
      have rs : Room _ (w.heap.size + 3) := ⟨_, _, _, _, Bs.box⟩
      have hend := Lib.hid (two_own (w := w) Nj No ⟨_, _, _, _, Bp.box⟩ ⟨_, _, _, _, Bs.box⟩ bl (by omega) (by omega))
      have hcl := Lib.hid (two_cells (x := gj) (A := Aj) (n := nj) (c := cj) (x' := go) (B := Ao) (m := no) (d := co) (R := w.heap.size + 2) (R2 := w.heap.size + 3) ⟨_, _, _, _, Bp.box⟩ ⟨_, _, _, _, Bs.box⟩ (by omega))
      have hcm := Lib.hid (two_cells' (x := gj) (A := Aj) (n := nj) (c := cj) (x' := go) (B := Ao) (m := no) (d := co) (R := w.heap.size + 2) (R2 := w.heap.size + 3) ⟨_, _, _, _, Bp.box⟩ ⟨_, _, _, _, Bs.box⟩ (by omega))
      have HS := Lib.hid (start2 Bj Bo (bl := bl) (M := []) (hM := (fun _ h => absurd h (by simp))))
      have hl0 : HL w [⟨w2.heap.size, gj, Aj, nj, cj, Z.sg b Q⟩, ⟨po, go, Ao, no, co, x - Z.sg b Q * y⟩] [] _ := ⟨cons_of (P := fun x : Loc => BoxZ _ x.b x.g x.A x.n x.c x.z) Bj (cons_of (P := fun x : Loc => BoxZ _ x.b x.g x.A x.n x.c x.z) Bo (fun _ h => absurd h (by simp))), fun _ h => absurd h (by simp), bl⟩
      have np : ∀ (l9 : Loc), l9 ∈ ([⟨w2.heap.size, gj, Aj, nj, cj, Z.sg b Q⟩, ⟨po, go, Ao, no, co, x - Z.sg b Q * y⟩] : List Loc) → l9.b ≠ w.heap.size + 2 := cons_of (P := fun x : Loc => x.b ≠ w.heap.size + 2) (show w2.heap.size ≠ w.heap.size + 2 by have h0 := qj.out; have h1 := qo.out; omega) (cons_of (P := fun x : Loc => x.b ≠ w.heap.size + 2) (show po ≠ w.heap.size + 2 by have h0 := qj.out; have h1 := qo.out; omega) (fun _ h => absurd h (by simp)))
      have ep : w.heap.size ≤ w.heap.size + 2 := by omega
      have ns : ∀ (l9 : Loc), l9 ∈ ([⟨w2.heap.size, gj, Aj, nj, cj, Z.sg b Q⟩, ⟨po, go, Ao, no, co, x - Z.sg b Q * y⟩] : List Loc) → l9.b ≠ w.heap.size + 3 := cons_of (P := fun x : Loc => x.b ≠ w.heap.size + 3) (show w2.heap.size ≠ w.heap.size + 3 by have h0 := qj.out; have h1 := qo.out; omega) (cons_of (P := fun x : Loc => x.b ≠ w.heap.size + 3) (show po ≠ w.heap.size + 3 by have h0 := qj.out; have h1 := qo.out; omega) (fun _ h => absurd h (by simp)))
      have es : w.heap.size ≤ w.heap.size + 3 := by omega
      have HP := Lib.hid (cells2 (hl0.room (x := .bool gj) (u := .slice Aj nj cj) rp np ep).drew)
      have HQ := Lib.hid (cells2 (hl0.room (x := .bool go) (u := .slice Ao no co) rs ns es).drew)
      have HPQ := Lib.hid (cells2 ((hl0.room (x := .bool gj) (u := .slice Aj nj cj) rp np ep).room (x := .bool go) (u := .slice Ao no co) (room_room (x := gj) (A := Aj) (n := nj) (c := cj) rs rp) ns es).drew)
      have HQP := Lib.hid (cells2 ((hl0.room (x := .bool go) (u := .slice Ao no co) rs ns es).room (x := .bool gj) (u := .slice Aj nj cj) (room_room (x := go) (A := Ao) (n := no) (c := co) rp rs) np ep).drew)
      clear hl0 np ns ep es rp rs
      obtain ⟨p0, p1, p2, p3'⟩ := Bp.box
      obtain ⟨s0, s1, s2, s3'⟩ := Bs.box
      have p3 := p3' 0
      have p4 := p3' 1
      have s3 := s3' 0
      have s4 := s3' 1
      clear Ba Bb Bp Bs Bj Bo Nj No bl p3' s3'
      go_region_held3 (fun w' => w'.cell? ⟨w2.heap.size, 0, none⟩ = some (.bool gj) ∧ w'.cell? ⟨w2.heap.size, 1, none⟩ = some (.slice Aj nj cj) ∧ w'.cell? ⟨po, 0, none⟩ = some (.bool go) ∧ w'.cell? ⟨po, 1, none⟩ = some (.slice Ao no co) ∧ HL w [⟨w2.heap.size, gj, Aj, nj, cj, Z.sg b Q⟩, ⟨po, go, Ao, no, co, x - Z.sg b Q * y⟩] [] w')
        (first | with_reducible exact HS.out | with_reducible exact HP.out | with_reducible exact HQ.out | with_reducible exact HPQ.out | with_reducible exact HQP.out)
        (fail)
      all_goals
        first
        | (obtain ⟨k0, k1, k2, k3⟩ := hcl.out; unfold World.room at k0 k1 k2 k3; (go_wp2_with fail); exact bodyPost_ret (v := .tuple #[.agg #[.bool gj, .slice Aj nj cj], .agg #[.bool go, .slice Ao no co], .int .i64 0]) (by simp [results, Try.results27, go_sem, k0, k1, k2, k3]) rfl (by have := hend.out.1.drew; rw [hr.out, hx.out] at this; exact this))
        | (obtain ⟨k0, k1, k2, k3⟩ := hcm.out; unfold World.room at k0 k1 k2 k3; (go_wp2_with fail); exact bodyPost_ret (v := .tuple #[.agg #[.bool gj, .slice Aj nj cj], .agg #[.bool go, .slice Ao no co], .int .i64 0]) (by simp [results, Try.results27, go_sem, k0, k1, k2, k3]) rfl (by have := hend.out.2.drew; rw [hr.out, hx.out] at this; exact this))
end Go.Proofs.Ytiehkciofggonaa
