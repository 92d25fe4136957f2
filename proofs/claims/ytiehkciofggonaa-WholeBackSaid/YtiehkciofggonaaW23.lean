/- WholeBack: its walk. -/
import Derived.Test.YtiehkciofggonaaW18
namespace Go.Proofs.Ytiehkciofggonaa
open Go.RowKit

theorem Z.back (x y : Int) : Z.sgn (x / y * y + x % y - x) = 0 := by
  rw [Int.mul_comm, Int.mul_ediv_add_emod, Int.sub_self]
  rfl

set_option maxRecDepth 100000 in
set_option maxHeartbeats 32000000 in
theorem wholeBack_neg (ga : Bool) (Aa : Option Addr) (na ca : Nat) (gb : Bool) (Ab : Option Addr) (nb cb : Nat) (x y : Int) (X : Nat) (w : World) (ha : WIn w ga Aa na ca x) (hb : WIn w gb Ab nb cb y) (la : Hid (x.natAbs < M.BB ^ X)) (lb : Hid (y.natAbs < M.BB ^ X)) (hX : X ≤ 100) (h1 : na ≤ 60) (h2 : nb ≤ 60) (hy : y < 0) :
    Calls Try.prog 6 #[.agg #[.bool ga, .slice Aa na ca], .agg #[.bool gb, .slice Ab nb cb]] w fun e w' => e = .returned (.bool true) ∧ Below w.heap.size w w' := by
  have HY := Lib.hid (show y ≠ 0 by omega)
  have LQ := Lib.hid (lt_divZ la.out HY.out)
  have LR := Lib.hid (lt_modZ (z := x) lb.out HY.out)
  have LF := Lib.hid (lt_flZ la.out HY.out)
  have HSB := Lib.hid fun (W : World) (q : WIn W gb Ab nb cb y) => sign_w gb Ab nb cb y W q
  rw [Z.sgn_neg hy] at HSB
  obtain ⟨sr, HSR⟩ : ∃ sr, Hid (Z.sgn (x % y) = sr) := ⟨_, rfl⟩
  obtain ⟨so, HSO⟩ : ∃ so, Hid (Z.sgn (-(x - Z.fl x y * y)) = so) := ⟨_, rfl⟩
  have hm0 := Int.emod_nonneg x HY.out
  have hm1 := Int.emod_lt x HY.out
  have hf := Z.fl_rest x y HY.out
  have hsr : Hid (0 ≤ sr) := show 0 ≤ sr by have := (Z.sgn_lt (x % y)); rw [HSR.out] at this; omega
  have hso : Hid (0 ≤ so) := show 0 ≤ so by have h1 := (Z.sgn_lt (-(x - Z.fl x y * y))); rw [HSO.out] at h1; have := hf.1 hy; omega
  have e1 : Z.sgn (x % y - (-y)) = -1 := Z.sgn_neg (by omega)
  have e2 : Z.sgn (-(x - Z.fl x y * y) - (-y)) = -1 := Z.sgn_neg (by have := hf.1 hy; omega)
  have C1 := Lib.hid fun (W : World) (g : Bool) (A : Option Addr) (n c : Nat) (g' : Bool) (A' : Option Addr) (n' c' : Nat) (q1 : WIn W g A n c (x / y * y + x % y)) (q2 : WIn W g' A' n' c' x) => cmp_w _ _ _ _ _ _ _ _ _ _ W q1 q2
  have C2 := Lib.hid fun (W : World) (g : Bool) (A : Option Addr) (n c : Nat) (q1 : WIn W g A n c (x % y)) => sign_w _ _ _ _ _ W q1
  have C3 := Lib.hid fun (W : World) (g : Bool) (A : Option Addr) (n c : Nat) (g' : Bool) (A' : Option Addr) (n' c' : Nat) (q1 : WIn W g A n c (x % y)) (q2 : WIn W g' A' n' c' (-y)) => cmp_w _ _ _ _ _ _ _ _ _ _ W q1 q2
  have C4 := Lib.hid fun (W : World) (g : Bool) (A : Option Addr) (n c : Nat) (q1 : WIn W g A n c (-(x - Z.fl x y * y))) => sign_w _ _ _ _ _ W q1
  have C5 := Lib.hid fun (W : World) (g : Bool) (A : Option Addr) (n c : Nat) (g' : Bool) (A' : Option Addr) (n' c' : Nat) (q1 : WIn W g A n c (-(x - Z.fl x y * y))) (q2 : WIn W g' A' n' c' (-y)) => cmp_w _ _ _ _ _ _ _ _ _ _ W q1 q2
  rw [Z.back] at C1
  rw [HSR.out] at C2
  rw [e1] at C3
  rw [HSO.out] at C4
  rw [e2] at C5
  clear hm0 hm1 hf e1 e2 hy
  go_enter Try.func6, Try.ntmps6
  obtain ⟨bl, Bap, Bbp⟩ := loc2 w ga Aa na ca gb Ab nb cb
  have Ba : BoxZ _ _ ga Aa na ca x := ⟨Bap, ha.below bl⟩
  clear Bap
  have Bb : BoxZ _ _ gb Ab nb cb y := ⟨Bbp, hb.below bl⟩
  clear Bbp
  obtain ⟨a0, a1, a2, a3'⟩ := Ba.box
  obtain ⟨b0, b1, b2, b3'⟩ := Bb.box
  go_wp2_with fail
  clear a0 a1 a2 a3' b0 b1 b2 b3'
  refine (awake_w _).mono ?_
  rintro e w1 ⟨rfl, b1⟩
  replace Ba := Ba.below b1
  replace Bb := Bb.below b1
  replace bl := bl.trans (b1.mono bl.size)
  clear b1
  obtain ⟨a0, a1, a2, a3'⟩ := Ba.box
  obtain ⟨b0, b1, b2, b3'⟩ := Bb.box
  go_wp2_with fail
  clear a0 a1 a2 a3' b0 b1 b2 b3'
  refine (few_w _ _ _ _ _ _ _ _ true 60 _ (by omega) (by unfold maxLen; omega) (by unfold maxLen; omega) (by simp [h1, h2])).mono ?_
  rintro e w2 ⟨rfl, b2⟩
  replace Ba := Ba.below b2
  replace Bb := Bb.below b2
  replace bl := bl.trans (b2.mono bl.size)
  clear b2
  obtain ⟨a0, a1, a2, a3'⟩ := Ba.box
  obtain ⟨b0, b1, b2, b3'⟩ := Bb.box
  go_wp2_with fail
  clear a0 a1 a2 a3' b0 b1 b2 b3'
  refine (divMod_w _ _ _ _ _ _ _ _ _ _ _ Ba.num Bb.num HY.out).mono ?_
  rintro e w3 ⟨vq, vv, rfl, mq, mv, b3⟩
  replace Ba := Ba.below b3
  replace Bb := Bb.below b3
  replace bl := bl.trans (b3.mono bl.size)
  clear b3
  obtain ⟨gq, Aq, nq, cq, rfl, iq, Nq⟩ := mq.open LQ.out (by omega)
  clear mq
  obtain ⟨gv, Av, nv, cv, rfl, iv, Nv⟩ := mv.open LR.out (by omega)
  clear mv
  obtain ⟨a0, a1, a2, a3'⟩ := Ba.box
  obtain ⟨b0, b1, b2, b3'⟩ := Bb.box
  go_wp2_with fail
  clear a0 a1 a2 a3' b0 b1 b2 b3'
  obtain ⟨ex, Bqp, Bvp⟩ := loc2 w3 gq Aq nq cq gv Av nv cv
  have qq := Lib.hid Bb.box.lt
  have qv := Lib.hid Bb.box.lt
  replace Ba := Ba.below ex
  replace Bb := Bb.below ex
  replace iq := iq.below ex
  replace Nq := Nq.below ex
  replace iv := iv.below ex
  replace Nv := Nv.below ex
  replace bl := bl.trans (ex.mono bl.size)
  have Bq : BoxZ _ _ gq Aq nq cq (x / y) := ⟨Bqp, iq⟩
  clear Bqp iq
  have Bv : BoxZ _ _ gv Av nv cv (x % y) := ⟨Bvp, iv⟩
  clear Bvp iv
  clear ex
  refine (floor_w _ _ _ _ _ _ _ _ _ _ _ Ba.num Bb.num HY.out).mono ?_
  rintro e w4 ⟨vu, rfl, mu, b4⟩
  replace Ba := Ba.below b4
  replace Bb := Bb.below b4
  replace Bq := Bq.below b4
  replace Nq := Nq.below b4
  replace Bv := Bv.below b4
  replace Nv := Nv.below b4
  replace bl := bl.trans (b4.mono bl.size)
  clear b4
  obtain ⟨gu, Au, nu, cu, rfl, iu, Nu⟩ := mu.open LF.out (by omega)
  clear mu
  obtain ⟨a0, a1, a2, a3'⟩ := Ba.box
  obtain ⟨b0, b1, b2, b3'⟩ := Bb.box
  obtain ⟨q0, q1, q2, q3'⟩ := Bq.box
  obtain ⟨v0, v1, v2, v3'⟩ := Bv.box
  go_wp2_with fail
  clear a0 a1 a2 a3' b0 b1 b2 b3' q0 q1 q2 q3' v0 v1 v2 v3'
  obtain ⟨ex, Bup, Bdp⟩ := loc2 w4 gu Au nu cu gb Ab nb cb
  have qu := Lib.hid Bv.box.lt
  have qd := Lib.hid Bv.box.lt
  replace Ba := Ba.below ex
  replace Bb := Bb.below ex
  replace Bq := Bq.below ex
  replace Nq := Nq.below ex
  replace Bv := Bv.below ex
  replace Nv := Nv.below ex
  replace iu := iu.below ex
  replace Nu := Nu.below ex
  replace bl := bl.trans (ex.mono bl.size)
  have Bu : BoxZ _ _ gu Au nu cu (Z.fl x y) := ⟨Bup, iu⟩
  clear Bup iu
  have Bd : BoxZ _ _ gb Ab nb cb (y) := ⟨Bdp, Bb.num⟩
  clear Bdp
  clear ex
  refine (HSB.out _ Bb.num).mono ?_
  rintro e w5 ⟨rfl, b5⟩
  replace Ba := Ba.below b5
  replace Bb := Bb.below b5
  replace Bq := Bq.below b5
  replace Nq := Nq.below b5
  replace Bv := Bv.below b5
  replace Nv := Nv.below b5
  replace Bu := Bu.below b5
  replace Nu := Nu.below b5
  replace Bd := Bd.below b5
  replace bl := bl.trans (b5.mono bl.size)
  clear b5
  obtain ⟨a0, a1, a2, a3'⟩ := Ba.box
  obtain ⟨b0, b1, b2, b3'⟩ := Bb.box
  obtain ⟨q0, q1, q2, q3'⟩ := Bq.box
  obtain ⟨v0, v1, v2, v3'⟩ := Bv.box
  obtain ⟨u0, u1, u2, u3'⟩ := Bu.box
  obtain ⟨d0, d1, d2, d3'⟩ := Bd.box
  go_wp2_with fail
  clear a0 a1 a2 a3' b0 b1 b2 b3' q0 q1 q2 q3' v0 v1 v2 v3' u0 u1 u2 u3' d0 d1 d2 d3'
  refine (neg_w _ _ _ _ _ _ Bb.num).mono ?_
  rintro e w6 ⟨vh, rfl, mh, b6⟩
  replace Ba := Ba.below b6
  replace Bb := Bb.below b6
  replace Bq := Bq.below b6
  replace Nq := Nq.below b6
  replace Bv := Bv.below b6
  replace Nv := Nv.below b6
  replace Bu := Bu.below b6
  replace Nu := Nu.below b6
  replace Bd := Bd.below b6
  replace bl := bl.trans (b6.mono bl.size)
  clear b6
  have lh := Lib.hid (lt_negZ lb.out)
  obtain ⟨gh, Ah, nh, ch, rfl, ih, Nh⟩ := mh.open lh.out (by omega)
  clear mh
  obtain ⟨a0, a1, a2, a3'⟩ := Ba.box
  obtain ⟨b0, b1, b2, b3'⟩ := Bb.box
  obtain ⟨q0, q1, q2, q3'⟩ := Bq.box
  obtain ⟨v0, v1, v2, v3'⟩ := Bv.box
  obtain ⟨u0, u1, u2, u3'⟩ := Bu.box
  obtain ⟨d0, d1, d2, d3'⟩ := Bd.box
  have d3 := d3' 0
  have d4 := d3' 1
  go_upto_region 12 with fail
  clear a0 a1 a2 a3' b0 b1 b2 b3' q0 q1 q2 q3' v0 v1 v2 v3' u0 u1 u2 u3' d0 d1 d2 d3' d3 d4
  have rm : Room w6 (w4.heap.size + 1) := ⟨_, _, _, _, Bd.box⟩
  replace Ba := Ba.room (x := .bool gh) (u := .slice Ah nh ch) rm (by have h29 := qq.out; have h39 := qv.out; have h49 := qu.out; have h59 := qd.out; omega)
  replace Bb := Bb.room (x := .bool gh) (u := .slice Ah nh ch) rm (by have h29 := qq.out; have h39 := qv.out; have h49 := qu.out; have h59 := qd.out; omega)
  replace Bq := Bq.room (x := .bool gh) (u := .slice Ah nh ch) rm (by have h29 := qq.out; have h39 := qv.out; have h49 := qu.out; have h59 := qd.out; omega)
  replace Bv := Bv.room (x := .bool gh) (u := .slice Ah nh ch) rm (by have h29 := qq.out; have h39 := qv.out; have h49 := qu.out; have h59 := qd.out; omega)
  replace Bu := Bu.room (x := .bool gh) (u := .slice Ah nh ch) rm (by have h29 := qq.out; have h39 := qv.out; have h49 := qu.out; have h59 := qd.out; omega)
  replace Nq := wnum_room (x := .bool gh) (u := .slice Ah nh ch) Nq rm
  replace Nv := wnum_room (x := .bool gh) (u := .slice Ah nh ch) Nv rm
  replace Nu := wnum_room (x := .bool gh) (u := .slice Ah nh ch) Nu rm
  replace bl := below_room bl (R := w4.heap.size + 1) (by have h29 := qq.out; have h39 := qv.out; have h49 := qu.out; have h59 := qd.out; omega) (.bool gh) (.slice Ah nh ch)
  replace Bd : BoxZ (World.room w6 (w4.heap.size + 1) (.bool gh) (.slice Ah nh ch)) (w4.heap.size + 1) gh Ah nh ch (-y) := ⟨box_own rm, win_room ih rm⟩
  have Nd := wnum_room (x := .bool gh) (u := .slice Ah nh ch) Nh rm
  clear rm ih Nh
  unfold World.room at Ba Bb Bq Bv Bu Nq Nv Nu bl Bd Nd
  generalize ((w6.setCell ⟨w4.heap.size + 1, 0, none⟩ (.bool gh)).setCell ⟨w4.heap.size + 1, 1, none⟩ (.slice Ah nh ch)) = w7 at *
  have K1 := Lib.hid fun (W : World) (q : W.cell? ⟨w.heap.size, 0, none⟩ = some (.bool ga) ∧ W.cell? ⟨w.heap.size, 1, none⟩ = some (.slice Aa na ca) ∧ W.cell? ⟨w.heap.size + 1, 0, none⟩ = some (.bool gb) ∧ W.cell? ⟨w.heap.size + 1, 1, none⟩ = some (.slice Ab nb cb) ∧ W.cell? ⟨w3.heap.size, 0, none⟩ = some (.bool gq) ∧ W.cell? ⟨w3.heap.size, 1, none⟩ = some (.slice Aq nq cq) ∧ W.cell? ⟨w3.heap.size + 1, 0, none⟩ = some (.bool gv) ∧ W.cell? ⟨w3.heap.size + 1, 1, none⟩ = some (.slice Av nv cv) ∧ W.cell? ⟨w4.heap.size, 0, none⟩ = some (.bool gu) ∧ W.cell? ⟨w4.heap.size, 1, none⟩ = some (.slice Au nu cu) ∧ W.cell? ⟨w4.heap.size + 1, 0, none⟩ = some (.bool gh) ∧ W.cell? ⟨w4.heap.size + 1, 1, none⟩ = some (.slice Ah nh ch) ∧ HL w [⟨w.heap.size, ga, Aa, na, ca, x⟩, ⟨w.heap.size + 1, gb, Ab, nb, cb, y⟩, ⟨w3.heap.size, gq, Aq, nq, cq, x / y⟩, ⟨w3.heap.size + 1, gv, Av, nv, cv, x % y⟩, ⟨w4.heap.size, gu, Au, nu, cu, Z.fl x y⟩, ⟨w4.heap.size + 1, gh, Ah, nh, ch, -y⟩] [⟨w3.heap.size, gq, Aq, nq, cq, x / y⟩, ⟨w3.heap.size + 1, gv, Av, nv, cv, x % y⟩, ⟨w4.heap.size, gu, Au, nu, cu, Z.fl x y⟩, ⟨w4.heap.size + 1, gh, Ah, nh, ch, -y⟩] W)  => mul_w _ _ _ _ _ _ _ _ _ _ W (q.2.2.2.2.2.2.2.2.2.2.2.2.1 _ (.tail _ (.tail _ (.tail _ (.tail _ (.head _)))))).num (q.2.2.2.2.2.2.2.2.2.2.2.2.1 _ (.tail _ (.head _))).num
  have lm := Lib.hid (lt_mulZ LF.out lb.out)
  have K2 := Lib.hid fun (W : World) (q : W.cell? ⟨w.heap.size, 0, none⟩ = some (.bool ga) ∧ W.cell? ⟨w.heap.size, 1, none⟩ = some (.slice Aa na ca) ∧ W.cell? ⟨w.heap.size + 1, 0, none⟩ = some (.bool gb) ∧ W.cell? ⟨w.heap.size + 1, 1, none⟩ = some (.slice Ab nb cb) ∧ W.cell? ⟨w3.heap.size, 0, none⟩ = some (.bool gq) ∧ W.cell? ⟨w3.heap.size, 1, none⟩ = some (.slice Aq nq cq) ∧ W.cell? ⟨w3.heap.size + 1, 0, none⟩ = some (.bool gv) ∧ W.cell? ⟨w3.heap.size + 1, 1, none⟩ = some (.slice Av nv cv) ∧ W.cell? ⟨w4.heap.size, 0, none⟩ = some (.bool gu) ∧ W.cell? ⟨w4.heap.size, 1, none⟩ = some (.slice Au nu cu) ∧ W.cell? ⟨w4.heap.size + 1, 0, none⟩ = some (.bool gh) ∧ W.cell? ⟨w4.heap.size + 1, 1, none⟩ = some (.slice Ah nh ch) ∧ HL w [⟨w.heap.size, ga, Aa, na, ca, x⟩, ⟨w.heap.size + 1, gb, Ab, nb, cb, y⟩, ⟨w3.heap.size, gq, Aq, nq, cq, x / y⟩, ⟨w3.heap.size + 1, gv, Av, nv, cv, x % y⟩, ⟨w4.heap.size, gu, Au, nu, cu, Z.fl x y⟩, ⟨w4.heap.size + 1, gh, Ah, nh, ch, -y⟩] [⟨w3.heap.size, gq, Aq, nq, cq, x / y⟩, ⟨w3.heap.size + 1, gv, Av, nv, cv, x % y⟩, ⟨w4.heap.size, gu, Au, nu, cu, Z.fl x y⟩, ⟨w4.heap.size + 1, gh, Ah, nh, ch, -y⟩] W) (gm : Bool) (Am : Option Addr) (nm cm : Nat) (im : WIn W gm Am nm cm (Z.fl x y * y)) (Nm : WNum W (.agg #[.bool gm, .slice Am nm cm]) (Z.fl x y * y)) => sub_w _ _ _ _ _ _ _ _ _ _ W (q.2.2.2.2.2.2.2.2.2.2.2.2.1 _ (.head _)).num im
  have lo := Lib.hid (lt_subZ la.out lm.out)
  have LT := Lib.hid Bd.box.lt
  have HS := Lib.hid (start6 Ba Bb Bq Bv Bu Bd (bl := bl) (M := [⟨w3.heap.size, gq, Aq, nq, cq, x / y⟩, ⟨w3.heap.size + 1, gv, Av, nv, cv, x % y⟩, ⟨w4.heap.size, gu, Au, nu, cu, Z.fl x y⟩, ⟨w4.heap.size + 1, gh, Ah, nh, ch, -y⟩]) (hM := (own4 Nq Nv Nu Nd)))
  clear Ba Bb Bq Bv Bu Bd Nq Nv Nu Nd bl
  go_cut [13] (fun s9 wx9 => ∃ (p9 : Nat) (g9 : Bool) (A9 : Option Addr) (n9 c9 : Nat), s9 = .pointer (some ⟨p9, 0, none⟩) ∧ w4.heap.size + 1 < p9 ∧ BoxZ wx9 p9 g9 A9 n9 c9 (x - Z.fl x y * y) ∧ WNum wx9 (.agg #[.bool g9, .slice A9 n9 c9]) (x - Z.fl x y * y) ∧ HL w [⟨w.heap.size, ga, Aa, na, ca, x⟩, ⟨w.heap.size + 1, gb, Ab, nb, cb, y⟩, ⟨w3.heap.size, gq, Aq, nq, cq, x / y⟩, ⟨w3.heap.size + 1, gv, Av, nv, cv, x % y⟩, ⟨w4.heap.size, gu, Au, nu, cu, Z.fl x y⟩, ⟨w4.heap.size + 1, gh, Ah, nh, ch, -y⟩] [⟨w3.heap.size, gq, Aq, nq, cq, x / y⟩, ⟨w3.heap.size + 1, gv, Av, nv, cv, x % y⟩, ⟨w4.heap.size, gu, Au, nu, cu, Z.fl x y⟩, ⟨w4.heap.size + 1, gh, Ah, nh, ch, -y⟩] wx9)
  case first =>
    go_region_held3 (fun w' => w'.cell? ⟨w.heap.size, 0, none⟩ = some (.bool ga) ∧ w'.cell? ⟨w.heap.size, 1, none⟩ = some (.slice Aa na ca) ∧ w'.cell? ⟨w.heap.size + 1, 0, none⟩ = some (.bool gb) ∧ w'.cell? ⟨w.heap.size + 1, 1, none⟩ = some (.slice Ab nb cb) ∧ w'.cell? ⟨w3.heap.size, 0, none⟩ = some (.bool gq) ∧ w'.cell? ⟨w3.heap.size, 1, none⟩ = some (.slice Aq nq cq) ∧ w'.cell? ⟨w3.heap.size + 1, 0, none⟩ = some (.bool gv) ∧ w'.cell? ⟨w3.heap.size + 1, 1, none⟩ = some (.slice Av nv cv) ∧ w'.cell? ⟨w4.heap.size, 0, none⟩ = some (.bool gu) ∧ w'.cell? ⟨w4.heap.size, 1, none⟩ = some (.slice Au nu cu) ∧ w'.cell? ⟨w4.heap.size + 1, 0, none⟩ = some (.bool gh) ∧ w'.cell? ⟨w4.heap.size + 1, 1, none⟩ = some (.slice Ah nh ch) ∧ HL w [⟨w.heap.size, ga, Aa, na, ca, x⟩, ⟨w.heap.size + 1, gb, Ab, nb, cb, y⟩, ⟨w3.heap.size, gq, Aq, nq, cq, x / y⟩, ⟨w3.heap.size + 1, gv, Av, nv, cv, x % y⟩, ⟨w4.heap.size, gu, Au, nu, cu, Z.fl x y⟩, ⟨w4.heap.size + 1, gh, Ah, nh, ch, -y⟩] [⟨w3.heap.size, gq, Aq, nq, cq, x / y⟩, ⟨w3.heap.size + 1, gv, Av, nv, cv, x % y⟩, ⟨w4.heap.size, gu, Au, nu, cu, Z.fl x y⟩, ⟨w4.heap.size + 1, gh, Ah, nh, ch, -y⟩] w')
      (first | with_reducible exact keepZ6 (by assumption) (by assumption) | with_reducible exact HS.out | with_reducible exact keepZ6 ((Below.refl _ _).alloc (Nat.le_refl _) _) (by assumption) | exact keepR6 rm.1 ⟨(by have h99 := rm.2; have h29 := qq.out; have h39 := qv.out; have h49 := qu.out; have h59 := qd.out; omega), (by have h99 := rm.2; have h29 := qq.out; have h39 := qv.out; have h49 := qu.out; have h59 := qd.out; omega), (by have h99 := rm.2; have h29 := qq.out; have h39 := qv.out; have h49 := qu.out; have h59 := qd.out; omega), (by have h99 := rm.2; have h29 := qq.out; have h39 := qv.out; have h49 := qu.out; have h59 := qd.out; omega), (by have h99 := rm.2; have h29 := qq.out; have h39 := qv.out; have h49 := qu.out; have h59 := qd.out; omega), (by have h99 := rm.2; have h29 := qq.out; have h39 := qv.out; have h49 := qu.out; have h59 := qd.out; omega)⟩ (by have h99 := rm.2; have h29 := qq.out; have h39 := qv.out; have h49 := qu.out; have h59 := qd.out; omega) (by assumption) | exact keepA6 ⟨(by have h99 := Nat.lt_of_lt_of_le LT.out (Nat.le_trans b8.size b9.size); have h29 := qq.out; have h39 := qv.out; have h49 := qu.out; have h59 := qd.out; omega), (by have h99 := Nat.lt_of_lt_of_le LT.out (Nat.le_trans b8.size b9.size); have h29 := qq.out; have h39 := qv.out; have h49 := qu.out; have h59 := qd.out; omega), (by have h99 := Nat.lt_of_lt_of_le LT.out (Nat.le_trans b8.size b9.size); have h29 := qq.out; have h39 := qv.out; have h49 := qu.out; have h59 := qd.out; omega), (by have h99 := Nat.lt_of_lt_of_le LT.out (Nat.le_trans b8.size b9.size); have h29 := qq.out; have h39 := qv.out; have h49 := qu.out; have h59 := qd.out; omega), (by have h99 := Nat.lt_of_lt_of_le LT.out (Nat.le_trans b8.size b9.size); have h29 := qq.out; have h39 := qv.out; have h49 := qu.out; have h59 := qd.out; omega), (by have h99 := Nat.lt_of_lt_of_le LT.out (Nat.le_trans b8.size b9.size); have h29 := qq.out; have h39 := qv.out; have h49 := qu.out; have h59 := qd.out; omega)⟩ (by have h99 := Nat.lt_of_lt_of_le LT.out (Nat.le_trans b8.size b9.size); have h29 := qq.out; have h39 := qv.out; have h49 := qu.out; have h59 := qd.out; omega) (by assumption))
      (first | (go_at_call 20; (with_reducible refine (K1.out _ ?_ ).mono ?_); assumption; rintro e w8 ⟨vm, rfl, mm, b8⟩; obtain ⟨gm, Am, nm, cm, rfl, im, Nm⟩ := mm.open lm.out (by omega); clear mm; (first | have rm := rm_at (w7.heap.size) b8 LT.out (by simp) | have rm := rm_atd (w7.heap.size) b8 LT.out (by simp) | skip)) | (go_at_call 18; (with_reducible refine (K2.out _ ?_ _ _ _ _ ?_ ?_).mono ?_); assumption; (first | exact im | exact im.below ((Below.refl _ _).alloc (Nat.le_refl _) _)); (first | exact Nm | exact Nm.below ((Below.refl _ _).alloc (Nat.le_refl _) _)); rintro e w9 ⟨vo, rfl, mo, b9⟩; (first | replace im := im.below b9 | replace im := (im.below ((Below.refl _ _).alloc (Nat.le_refl _) _)).below b9); (first | replace Nm := Nm.below b9 | replace Nm := (Nm.below ((Below.refl _ _).alloc (Nat.le_refl _) _)).below b9); obtain ⟨go, Ao, no, co, rfl, io, No⟩ := mo.open lo.out (by omega); clear mo; (first | have rm := rm_below rm b9 | have rm := rm_new b9 (Nat.lt_of_lt_of_le LT.out b8.size) | skip); (try (obtain ⟨⟨xr, yr, zr, qr, ⟨f0, f1, f2, f3⟩⟩, _⟩ := id rm; have f4 := f3 0; have f5 := f3 1))))
    all_goals
      rename_i hh
      go_wp2_with fail
      go_meet
      first
      | exact ⟨_, _, _, _, _, rfl, rm.2, ⟨box_own rm.1, win_room io rm.1⟩, wnum_room No rm.1, hh.2.2.2.2.2.2.2.2.2.2.2.2⟩
      | exact ⟨_, _, _, _, _, rfl, Nat.lt_of_lt_of_le LT.out (Nat.le_trans b8.size b9.size), ⟨Box.new _ _ _ _ _, io.below ((Below.refl _ _).alloc (Nat.le_refl _) _)⟩, No.below ((Below.refl _ _).alloc (Nat.le_refl _) _), hh.2.2.2.2.2.2.2.2.2.2.2.2⟩
  case rest =>
    clear HS LT K1 K2 lm
    obtain ⟨po, go, Ao, no, co, rfl, qo, Bo, No, hh⟩ := hcut
    have qo := Lib.hid qo
    have Ba : BoxZ _ (w.heap.size) ga Aa na ca (x) := hh.1 _ (.head _)
    have Bb : BoxZ _ (w.heap.size + 1) gb Ab nb cb (y) := hh.1 _ (.tail _ (.head _))
    have Bq : BoxZ _ (w3.heap.size) gq Aq nq cq (x / y) := hh.1 _ (.tail _ (.tail _ (.head _)))
    have Bv : BoxZ _ (w3.heap.size + 1) gv Av nv cv (x % y) := hh.1 _ (.tail _ (.tail _ (.tail _ (.head _))))
    have Bu : BoxZ _ (w4.heap.size) gu Au nu cu (Z.fl x y) := hh.1 _ (.tail _ (.tail _ (.tail _ (.tail _ (.head _)))))
    have Bd : BoxZ _ (w4.heap.size + 1) gh Ah nh ch (-y) := hh.1 _ (.tail _ (.tail _ (.tail _ (.tail _ (.tail _ (.head _))))))
    have Nq : WNum _ (.agg #[.bool gq, .slice Aq nq cq]) (x / y) := hh.2.1 _ (.head _)
    have Nv : WNum _ (.agg #[.bool gv, .slice Av nv cv]) (x % y) := hh.2.1 _ (.tail _ (.head _))
    have Nu : WNum _ (.agg #[.bool gu, .slice Au nu cu]) (Z.fl x y) := hh.2.1 _ (.tail _ (.tail _ (.head _)))
    have Nd : WNum _ (.agg #[.bool gh, .slice Ah nh ch]) (-y) := hh.2.1 _ (.tail _ (.tail _ (.tail _ (.head _))))
    have bl := hh.2.2
    clear hh
    obtain ⟨a0, a1, a2, a3'⟩ := Ba.box
    obtain ⟨b0, b1, b2, b3'⟩ := Bb.box
    obtain ⟨q0, q1, q2, q3'⟩ := Bq.box
    obtain ⟨v0, v1, v2, v3'⟩ := Bv.box
    obtain ⟨u0, u1, u2, u3'⟩ := Bu.box
    obtain ⟨d0, d1, d2, d3'⟩ := Bd.box
    obtain ⟨o0, o1, o2, o3'⟩ := Bo.box
    go_wp2_with fail
    clear a0 a1 a2 a3' b0 b1 b2 b3' q0 q1 q2 q3' v0 v1 v2 v3' u0 u1 u2 u3' d0 d1 d2 d3' o0 o1 o2 o3'
    refine (HSB.out _ Bb.num).mono ?_
    rintro e w10 ⟨rfl, b10⟩
    replace Ba := Ba.below b10
    replace Bb := Bb.below b10
    replace Bq := Bq.below b10
    replace Nq := Nq.below b10
    replace Bv := Bv.below b10
    replace Nv := Nv.below b10
    replace Bu := Bu.below b10
    replace Nu := Nu.below b10
    replace Bd := Bd.below b10
    replace Nd := Nd.below b10
    replace Bo := Bo.below b10
    replace No := No.below b10
    replace bl := bl.trans (b10.mono bl.size)
    clear b10
    obtain ⟨a0, a1, a2, a3'⟩ := Ba.box
    obtain ⟨b0, b1, b2, b3'⟩ := Bb.box
    obtain ⟨q0, q1, q2, q3'⟩ := Bq.box
    obtain ⟨v0, v1, v2, v3'⟩ := Bv.box
    obtain ⟨u0, u1, u2, u3'⟩ := Bu.box
    obtain ⟨d0, d1, d2, d3'⟩ := Bd.box
    obtain ⟨o0, o1, o2, o3'⟩ := Bo.box
    go_wp2_with fail
    clear a0 a1 a2 a3' b0 b1 b2 b3' q0 q1 q2 q3' v0 v1 v2 v3' u0 u1 u2 u3' d0 d1 d2 d3' o0 o1 o2 o3'
    refine (neg_w _ _ _ _ _ _ Bo.num).mono ?_
    rintro e w11 ⟨vk, rfl, mk, b11⟩
    replace Ba := Ba.below b11
    replace Bb := Bb.below b11
    replace Bq := Bq.below b11
    replace Nq := Nq.below b11
    replace Bv := Bv.below b11
    replace Nv := Nv.below b11
    replace Bu := Bu.below b11
    replace Nu := Nu.below b11
    replace Bd := Bd.below b11
    replace Nd := Nd.below b11
    replace Bo := Bo.below b11
    replace No := No.below b11
    replace bl := bl.trans (b11.mono bl.size)
    clear b11
    have lk := Lib.hid (lt_negZ lo.out)
    obtain ⟨gk, Ak, nk, ck, rfl, ik, Nk⟩ := mk.open lk.out (by omega)
    clear mk
    obtain ⟨a0, a1, a2, a3'⟩ := Ba.box
    obtain ⟨b0, b1, b2, b3'⟩ := Bb.box
    obtain ⟨q0, q1, q2, q3'⟩ := Bq.box
    obtain ⟨v0, v1, v2, v3'⟩ := Bv.box
    obtain ⟨u0, u1, u2, u3'⟩ := Bu.box
    obtain ⟨d0, d1, d2, d3'⟩ := Bd.box
    obtain ⟨o0, o1, o2, o3'⟩ := Bo.box
    have o3 := o3' 0
    have o4 := o3' 1
    go_upto_region 15 with fail
    clear a0 a1 a2 a3' b0 b1 b2 b3' q0 q1 q2 q3' v0 v1 v2 v3' u0 u1 u2 u3' d0 d1 d2 d3' o0 o1 o2 o3' o3 o4
    have rm : Room w11 (po) := ⟨_, _, _, _, Bo.box⟩
    replace Ba := Ba.room (x := .bool gk) (u := .slice Ak nk ck) rm (by have h29 := qq.out; have h39 := qv.out; have h49 := qu.out; have h59 := qd.out; have h69 := qo.out; omega)
    replace Bb := Bb.room (x := .bool gk) (u := .slice Ak nk ck) rm (by have h29 := qq.out; have h39 := qv.out; have h49 := qu.out; have h59 := qd.out; have h69 := qo.out; omega)
    replace Bq := Bq.room (x := .bool gk) (u := .slice Ak nk ck) rm (by have h29 := qq.out; have h39 := qv.out; have h49 := qu.out; have h59 := qd.out; have h69 := qo.out; omega)
    replace Bv := Bv.room (x := .bool gk) (u := .slice Ak nk ck) rm (by have h29 := qq.out; have h39 := qv.out; have h49 := qu.out; have h59 := qd.out; have h69 := qo.out; omega)
    replace Bu := Bu.room (x := .bool gk) (u := .slice Ak nk ck) rm (by have h29 := qq.out; have h39 := qv.out; have h49 := qu.out; have h59 := qd.out; have h69 := qo.out; omega)
    replace Bd := Bd.room (x := .bool gk) (u := .slice Ak nk ck) rm (by have h29 := qq.out; have h39 := qv.out; have h49 := qu.out; have h59 := qd.out; have h69 := qo.out; omega)
    replace Nq := wnum_room (x := .bool gk) (u := .slice Ak nk ck) Nq rm
    replace Nv := wnum_room (x := .bool gk) (u := .slice Ak nk ck) Nv rm
    replace Nu := wnum_room (x := .bool gk) (u := .slice Ak nk ck) Nu rm
    replace Nd := wnum_room (x := .bool gk) (u := .slice Ak nk ck) Nd rm
    replace bl := below_room bl (R := po) (by have h29 := qq.out; have h39 := qv.out; have h49 := qu.out; have h59 := qd.out; have h69 := qo.out; omega) (.bool gk) (.slice Ak nk ck)
    replace Bo : BoxZ (World.room w11 (po) (.bool gk) (.slice Ak nk ck)) (po) gk Ak nk ck (-(x - Z.fl x y * y)) := ⟨box_own rm, win_room ik rm⟩
    clear No
    have No := wnum_room (x := .bool gk) (u := .slice Ak nk ck) Nk rm
    clear rm ik Nk
    unfold World.room at Ba Bb Bq Bv Bu Bd Nq Nv Nu Nd bl Bo No
    generalize ((w11.setCell ⟨po, 0, none⟩ (.bool gk)).setCell ⟨po, 1, none⟩ (.slice Ak nk ck)) = w12 at *
    obtain ⟨a0, a1, a2, a3'⟩ := Ba.box
    obtain ⟨b0, b1, b2, b3'⟩ := Bb.box
    obtain ⟨q0, q1, q2, q3'⟩ := Bq.box
    obtain ⟨v0, v1, v2, v3'⟩ := Bv.box
    obtain ⟨u0, u1, u2, u3'⟩ := Bu.box
    obtain ⟨d0, d1, d2, d3'⟩ := Bd.box
    obtain ⟨o0, o1, o2, o3'⟩ := Bo.box
    go_wp2_with fail
    clear a0 a1 a2 a3' b0 b1 b2 b3' q0 q1 q2 q3' v0 v1 v2 v3' u0 u1 u2 u3' d0 d1 d2 d3' o0 o1 o2 o3'
    have K3 := Lib.hid fun (W : World) (q : W.cell? ⟨w.heap.size, 0, none⟩ = some (.bool ga) ∧ W.cell? ⟨w.heap.size, 1, none⟩ = some (.slice Aa na ca) ∧ W.cell? ⟨w.heap.size + 1, 0, none⟩ = some (.bool gb) ∧ W.cell? ⟨w.heap.size + 1, 1, none⟩ = some (.slice Ab nb cb) ∧ W.cell? ⟨w3.heap.size, 0, none⟩ = some (.bool gq) ∧ W.cell? ⟨w3.heap.size, 1, none⟩ = some (.slice Aq nq cq) ∧ W.cell? ⟨w3.heap.size + 1, 0, none⟩ = some (.bool gv) ∧ W.cell? ⟨w3.heap.size + 1, 1, none⟩ = some (.slice Av nv cv) ∧ W.cell? ⟨w4.heap.size, 0, none⟩ = some (.bool gu) ∧ W.cell? ⟨w4.heap.size, 1, none⟩ = some (.slice Au nu cu) ∧ W.cell? ⟨w4.heap.size + 1, 0, none⟩ = some (.bool gh) ∧ W.cell? ⟨w4.heap.size + 1, 1, none⟩ = some (.slice Ah nh ch) ∧ W.cell? ⟨po, 0, none⟩ = some (.bool gk) ∧ W.cell? ⟨po, 1, none⟩ = some (.slice Ak nk ck) ∧ HL w [⟨w.heap.size, ga, Aa, na, ca, x⟩, ⟨w.heap.size + 1, gb, Ab, nb, cb, y⟩, ⟨w3.heap.size, gq, Aq, nq, cq, x / y⟩, ⟨w3.heap.size + 1, gv, Av, nv, cv, x % y⟩, ⟨w4.heap.size, gu, Au, nu, cu, Z.fl x y⟩, ⟨w4.heap.size + 1, gh, Ah, nh, ch, -y⟩, ⟨po, gk, Ak, nk, ck, -(x - Z.fl x y * y)⟩] [⟨w3.heap.size, gq, Aq, nq, cq, x / y⟩, ⟨w3.heap.size + 1, gv, Av, nv, cv, x % y⟩, ⟨w4.heap.size, gu, Au, nu, cu, Z.fl x y⟩, ⟨w4.heap.size + 1, gh, Ah, nh, ch, -y⟩, ⟨po, gk, Ak, nk, ck, -(x - Z.fl x y * y)⟩] W)  => mul_w _ _ _ _ _ _ _ _ _ _ W (q.2.2.2.2.2.2.2.2.2.2.2.2.2.2.1 _ (.tail _ (.tail _ (.head _)))).num (q.2.2.2.2.2.2.2.2.2.2.2.2.2.2.1 _ (.tail _ (.head _))).num
    have lm := Lib.hid (lt_mulZ LQ.out lb.out)
    have K4 := Lib.hid fun (W : World) (q : W.cell? ⟨w.heap.size, 0, none⟩ = some (.bool ga) ∧ W.cell? ⟨w.heap.size, 1, none⟩ = some (.slice Aa na ca) ∧ W.cell? ⟨w.heap.size + 1, 0, none⟩ = some (.bool gb) ∧ W.cell? ⟨w.heap.size + 1, 1, none⟩ = some (.slice Ab nb cb) ∧ W.cell? ⟨w3.heap.size, 0, none⟩ = some (.bool gq) ∧ W.cell? ⟨w3.heap.size, 1, none⟩ = some (.slice Aq nq cq) ∧ W.cell? ⟨w3.heap.size + 1, 0, none⟩ = some (.bool gv) ∧ W.cell? ⟨w3.heap.size + 1, 1, none⟩ = some (.slice Av nv cv) ∧ W.cell? ⟨w4.heap.size, 0, none⟩ = some (.bool gu) ∧ W.cell? ⟨w4.heap.size, 1, none⟩ = some (.slice Au nu cu) ∧ W.cell? ⟨w4.heap.size + 1, 0, none⟩ = some (.bool gh) ∧ W.cell? ⟨w4.heap.size + 1, 1, none⟩ = some (.slice Ah nh ch) ∧ W.cell? ⟨po, 0, none⟩ = some (.bool gk) ∧ W.cell? ⟨po, 1, none⟩ = some (.slice Ak nk ck) ∧ HL w [⟨w.heap.size, ga, Aa, na, ca, x⟩, ⟨w.heap.size + 1, gb, Ab, nb, cb, y⟩, ⟨w3.heap.size, gq, Aq, nq, cq, x / y⟩, ⟨w3.heap.size + 1, gv, Av, nv, cv, x % y⟩, ⟨w4.heap.size, gu, Au, nu, cu, Z.fl x y⟩, ⟨w4.heap.size + 1, gh, Ah, nh, ch, -y⟩, ⟨po, gk, Ak, nk, ck, -(x - Z.fl x y * y)⟩] [⟨w3.heap.size, gq, Aq, nq, cq, x / y⟩, ⟨w3.heap.size + 1, gv, Av, nv, cv, x % y⟩, ⟨w4.heap.size, gu, Au, nu, cu, Z.fl x y⟩, ⟨w4.heap.size + 1, gh, Ah, nh, ch, -y⟩, ⟨po, gk, Ak, nk, ck, -(x - Z.fl x y * y)⟩] W) (gm : Bool) (Am : Option Addr) (nm cm : Nat) (im : WIn W gm Am nm cm (x / y * y)) (Nm : WNum W (.agg #[.bool gm, .slice Am nm cm]) (x / y * y)) => add_w _ _ _ _ _ _ _ _ _ _ W im (q.2.2.2.2.2.2.2.2.2.2.2.2.2.2.1 _ (.tail _ (.tail _ (.tail _ (.head _))))).num
    have ls := Lib.hid (lt_addZ lm.out LR.out)
    have K5 := Lib.hid fun (W : World) (q : W.cell? ⟨w.heap.size, 0, none⟩ = some (.bool ga) ∧ W.cell? ⟨w.heap.size, 1, none⟩ = some (.slice Aa na ca) ∧ W.cell? ⟨w.heap.size + 1, 0, none⟩ = some (.bool gb) ∧ W.cell? ⟨w.heap.size + 1, 1, none⟩ = some (.slice Ab nb cb) ∧ W.cell? ⟨w3.heap.size, 0, none⟩ = some (.bool gq) ∧ W.cell? ⟨w3.heap.size, 1, none⟩ = some (.slice Aq nq cq) ∧ W.cell? ⟨w3.heap.size + 1, 0, none⟩ = some (.bool gv) ∧ W.cell? ⟨w3.heap.size + 1, 1, none⟩ = some (.slice Av nv cv) ∧ W.cell? ⟨w4.heap.size, 0, none⟩ = some (.bool gu) ∧ W.cell? ⟨w4.heap.size, 1, none⟩ = some (.slice Au nu cu) ∧ W.cell? ⟨w4.heap.size + 1, 0, none⟩ = some (.bool gh) ∧ W.cell? ⟨w4.heap.size + 1, 1, none⟩ = some (.slice Ah nh ch) ∧ W.cell? ⟨po, 0, none⟩ = some (.bool gk) ∧ W.cell? ⟨po, 1, none⟩ = some (.slice Ak nk ck) ∧ HL w [⟨w.heap.size, ga, Aa, na, ca, x⟩, ⟨w.heap.size + 1, gb, Ab, nb, cb, y⟩, ⟨w3.heap.size, gq, Aq, nq, cq, x / y⟩, ⟨w3.heap.size + 1, gv, Av, nv, cv, x % y⟩, ⟨w4.heap.size, gu, Au, nu, cu, Z.fl x y⟩, ⟨w4.heap.size + 1, gh, Ah, nh, ch, -y⟩, ⟨po, gk, Ak, nk, ck, -(x - Z.fl x y * y)⟩] [⟨w3.heap.size, gq, Aq, nq, cq, x / y⟩, ⟨w3.heap.size + 1, gv, Av, nv, cv, x % y⟩, ⟨w4.heap.size, gu, Au, nu, cu, Z.fl x y⟩, ⟨w4.heap.size + 1, gh, Ah, nh, ch, -y⟩, ⟨po, gk, Ak, nk, ck, -(x - Z.fl x y * y)⟩] W) (gs : Bool) (As : Option Addr) (ns cs : Nat) (is : WIn W gs As ns cs (x / y * y + x % y)) (Ns : WNum W (.agg #[.bool gs, .slice As ns cs]) (x / y * y + x % y)) => C1.out W _ _ _ _ _ _ _ _ is (q.2.2.2.2.2.2.2.2.2.2.2.2.2.2.1 _ (.head _)).num
    have K6 := Lib.hid fun (W : World) (q : W.cell? ⟨w.heap.size, 0, none⟩ = some (.bool ga) ∧ W.cell? ⟨w.heap.size, 1, none⟩ = some (.slice Aa na ca) ∧ W.cell? ⟨w.heap.size + 1, 0, none⟩ = some (.bool gb) ∧ W.cell? ⟨w.heap.size + 1, 1, none⟩ = some (.slice Ab nb cb) ∧ W.cell? ⟨w3.heap.size, 0, none⟩ = some (.bool gq) ∧ W.cell? ⟨w3.heap.size, 1, none⟩ = some (.slice Aq nq cq) ∧ W.cell? ⟨w3.heap.size + 1, 0, none⟩ = some (.bool gv) ∧ W.cell? ⟨w3.heap.size + 1, 1, none⟩ = some (.slice Av nv cv) ∧ W.cell? ⟨w4.heap.size, 0, none⟩ = some (.bool gu) ∧ W.cell? ⟨w4.heap.size, 1, none⟩ = some (.slice Au nu cu) ∧ W.cell? ⟨w4.heap.size + 1, 0, none⟩ = some (.bool gh) ∧ W.cell? ⟨w4.heap.size + 1, 1, none⟩ = some (.slice Ah nh ch) ∧ W.cell? ⟨po, 0, none⟩ = some (.bool gk) ∧ W.cell? ⟨po, 1, none⟩ = some (.slice Ak nk ck) ∧ HL w [⟨w.heap.size, ga, Aa, na, ca, x⟩, ⟨w.heap.size + 1, gb, Ab, nb, cb, y⟩, ⟨w3.heap.size, gq, Aq, nq, cq, x / y⟩, ⟨w3.heap.size + 1, gv, Av, nv, cv, x % y⟩, ⟨w4.heap.size, gu, Au, nu, cu, Z.fl x y⟩, ⟨w4.heap.size + 1, gh, Ah, nh, ch, -y⟩, ⟨po, gk, Ak, nk, ck, -(x - Z.fl x y * y)⟩] [⟨w3.heap.size, gq, Aq, nq, cq, x / y⟩, ⟨w3.heap.size + 1, gv, Av, nv, cv, x % y⟩, ⟨w4.heap.size, gu, Au, nu, cu, Z.fl x y⟩, ⟨w4.heap.size + 1, gh, Ah, nh, ch, -y⟩, ⟨po, gk, Ak, nk, ck, -(x - Z.fl x y * y)⟩] W)  => C2.out W _ _ _ _ (q.2.2.2.2.2.2.2.2.2.2.2.2.2.2.1 _ (.tail _ (.tail _ (.tail _ (.head _))))).num
    have K7 := Lib.hid fun (W : World) (q : W.cell? ⟨w.heap.size, 0, none⟩ = some (.bool ga) ∧ W.cell? ⟨w.heap.size, 1, none⟩ = some (.slice Aa na ca) ∧ W.cell? ⟨w.heap.size + 1, 0, none⟩ = some (.bool gb) ∧ W.cell? ⟨w.heap.size + 1, 1, none⟩ = some (.slice Ab nb cb) ∧ W.cell? ⟨w3.heap.size, 0, none⟩ = some (.bool gq) ∧ W.cell? ⟨w3.heap.size, 1, none⟩ = some (.slice Aq nq cq) ∧ W.cell? ⟨w3.heap.size + 1, 0, none⟩ = some (.bool gv) ∧ W.cell? ⟨w3.heap.size + 1, 1, none⟩ = some (.slice Av nv cv) ∧ W.cell? ⟨w4.heap.size, 0, none⟩ = some (.bool gu) ∧ W.cell? ⟨w4.heap.size, 1, none⟩ = some (.slice Au nu cu) ∧ W.cell? ⟨w4.heap.size + 1, 0, none⟩ = some (.bool gh) ∧ W.cell? ⟨w4.heap.size + 1, 1, none⟩ = some (.slice Ah nh ch) ∧ W.cell? ⟨po, 0, none⟩ = some (.bool gk) ∧ W.cell? ⟨po, 1, none⟩ = some (.slice Ak nk ck) ∧ HL w [⟨w.heap.size, ga, Aa, na, ca, x⟩, ⟨w.heap.size + 1, gb, Ab, nb, cb, y⟩, ⟨w3.heap.size, gq, Aq, nq, cq, x / y⟩, ⟨w3.heap.size + 1, gv, Av, nv, cv, x % y⟩, ⟨w4.heap.size, gu, Au, nu, cu, Z.fl x y⟩, ⟨w4.heap.size + 1, gh, Ah, nh, ch, -y⟩, ⟨po, gk, Ak, nk, ck, -(x - Z.fl x y * y)⟩] [⟨w3.heap.size, gq, Aq, nq, cq, x / y⟩, ⟨w3.heap.size + 1, gv, Av, nv, cv, x % y⟩, ⟨w4.heap.size, gu, Au, nu, cu, Z.fl x y⟩, ⟨w4.heap.size + 1, gh, Ah, nh, ch, -y⟩, ⟨po, gk, Ak, nk, ck, -(x - Z.fl x y * y)⟩] W)  => C3.out W _ _ _ _ _ _ _ _ (q.2.2.2.2.2.2.2.2.2.2.2.2.2.2.1 _ (.tail _ (.tail _ (.tail _ (.head _))))).num (q.2.2.2.2.2.2.2.2.2.2.2.2.2.2.1 _ (.tail _ (.tail _ (.tail _ (.tail _ (.tail _ (.head _))))))).num
    have K8 := Lib.hid fun (W : World) (q : W.cell? ⟨w.heap.size, 0, none⟩ = some (.bool ga) ∧ W.cell? ⟨w.heap.size, 1, none⟩ = some (.slice Aa na ca) ∧ W.cell? ⟨w.heap.size + 1, 0, none⟩ = some (.bool gb) ∧ W.cell? ⟨w.heap.size + 1, 1, none⟩ = some (.slice Ab nb cb) ∧ W.cell? ⟨w3.heap.size, 0, none⟩ = some (.bool gq) ∧ W.cell? ⟨w3.heap.size, 1, none⟩ = some (.slice Aq nq cq) ∧ W.cell? ⟨w3.heap.size + 1, 0, none⟩ = some (.bool gv) ∧ W.cell? ⟨w3.heap.size + 1, 1, none⟩ = some (.slice Av nv cv) ∧ W.cell? ⟨w4.heap.size, 0, none⟩ = some (.bool gu) ∧ W.cell? ⟨w4.heap.size, 1, none⟩ = some (.slice Au nu cu) ∧ W.cell? ⟨w4.heap.size + 1, 0, none⟩ = some (.bool gh) ∧ W.cell? ⟨w4.heap.size + 1, 1, none⟩ = some (.slice Ah nh ch) ∧ W.cell? ⟨po, 0, none⟩ = some (.bool gk) ∧ W.cell? ⟨po, 1, none⟩ = some (.slice Ak nk ck) ∧ HL w [⟨w.heap.size, ga, Aa, na, ca, x⟩, ⟨w.heap.size + 1, gb, Ab, nb, cb, y⟩, ⟨w3.heap.size, gq, Aq, nq, cq, x / y⟩, ⟨w3.heap.size + 1, gv, Av, nv, cv, x % y⟩, ⟨w4.heap.size, gu, Au, nu, cu, Z.fl x y⟩, ⟨w4.heap.size + 1, gh, Ah, nh, ch, -y⟩, ⟨po, gk, Ak, nk, ck, -(x - Z.fl x y * y)⟩] [⟨w3.heap.size, gq, Aq, nq, cq, x / y⟩, ⟨w3.heap.size + 1, gv, Av, nv, cv, x % y⟩, ⟨w4.heap.size, gu, Au, nu, cu, Z.fl x y⟩, ⟨w4.heap.size + 1, gh, Ah, nh, ch, -y⟩, ⟨po, gk, Ak, nk, ck, -(x - Z.fl x y * y)⟩] W)  => C4.out W _ _ _ _ (q.2.2.2.2.2.2.2.2.2.2.2.2.2.2.1 _ (.tail _ (.tail _ (.tail _ (.tail _ (.tail _ (.tail _ (.head _)))))))).num
    have K9 := Lib.hid fun (W : World) (q : W.cell? ⟨w.heap.size, 0, none⟩ = some (.bool ga) ∧ W.cell? ⟨w.heap.size, 1, none⟩ = some (.slice Aa na ca) ∧ W.cell? ⟨w.heap.size + 1, 0, none⟩ = some (.bool gb) ∧ W.cell? ⟨w.heap.size + 1, 1, none⟩ = some (.slice Ab nb cb) ∧ W.cell? ⟨w3.heap.size, 0, none⟩ = some (.bool gq) ∧ W.cell? ⟨w3.heap.size, 1, none⟩ = some (.slice Aq nq cq) ∧ W.cell? ⟨w3.heap.size + 1, 0, none⟩ = some (.bool gv) ∧ W.cell? ⟨w3.heap.size + 1, 1, none⟩ = some (.slice Av nv cv) ∧ W.cell? ⟨w4.heap.size, 0, none⟩ = some (.bool gu) ∧ W.cell? ⟨w4.heap.size, 1, none⟩ = some (.slice Au nu cu) ∧ W.cell? ⟨w4.heap.size + 1, 0, none⟩ = some (.bool gh) ∧ W.cell? ⟨w4.heap.size + 1, 1, none⟩ = some (.slice Ah nh ch) ∧ W.cell? ⟨po, 0, none⟩ = some (.bool gk) ∧ W.cell? ⟨po, 1, none⟩ = some (.slice Ak nk ck) ∧ HL w [⟨w.heap.size, ga, Aa, na, ca, x⟩, ⟨w.heap.size + 1, gb, Ab, nb, cb, y⟩, ⟨w3.heap.size, gq, Aq, nq, cq, x / y⟩, ⟨w3.heap.size + 1, gv, Av, nv, cv, x % y⟩, ⟨w4.heap.size, gu, Au, nu, cu, Z.fl x y⟩, ⟨w4.heap.size + 1, gh, Ah, nh, ch, -y⟩, ⟨po, gk, Ak, nk, ck, -(x - Z.fl x y * y)⟩] [⟨w3.heap.size, gq, Aq, nq, cq, x / y⟩, ⟨w3.heap.size + 1, gv, Av, nv, cv, x % y⟩, ⟨w4.heap.size, gu, Au, nu, cu, Z.fl x y⟩, ⟨w4.heap.size + 1, gh, Ah, nh, ch, -y⟩, ⟨po, gk, Ak, nk, ck, -(x - Z.fl x y * y)⟩] W)  => C5.out W _ _ _ _ _ _ _ _ (q.2.2.2.2.2.2.2.2.2.2.2.2.2.2.1 _ (.tail _ (.tail _ (.tail _ (.tail _ (.tail _ (.tail _ (.head _)))))))).num (q.2.2.2.2.2.2.2.2.2.2.2.2.2.2.1 _ (.tail _ (.tail _ (.tail _ (.tail _ (.tail _ (.head _))))))).num
    have HS := Lib.hid (start7 Ba Bb Bq Bv Bu Bd Bo (bl := bl) (M := [⟨w3.heap.size, gq, Aq, nq, cq, x / y⟩, ⟨w3.heap.size + 1, gv, Av, nv, cv, x % y⟩, ⟨w4.heap.size, gu, Au, nu, cu, Z.fl x y⟩, ⟨w4.heap.size + 1, gh, Ah, nh, ch, -y⟩, ⟨po, gk, Ak, nk, ck, -(x - Z.fl x y * y)⟩]) (hM := (own5 Nq Nv Nu Nd No)))
    clear Ba Bb Bq Bv Bu Bd Bo Nq Nv Nu Nd No bl
    have hsr1 := hsr.out
    have hso1 := hso.out
    go_region_held3 (fun w' => w'.cell? ⟨w.heap.size, 0, none⟩ = some (.bool ga) ∧ w'.cell? ⟨w.heap.size, 1, none⟩ = some (.slice Aa na ca) ∧ w'.cell? ⟨w.heap.size + 1, 0, none⟩ = some (.bool gb) ∧ w'.cell? ⟨w.heap.size + 1, 1, none⟩ = some (.slice Ab nb cb) ∧ w'.cell? ⟨w3.heap.size, 0, none⟩ = some (.bool gq) ∧ w'.cell? ⟨w3.heap.size, 1, none⟩ = some (.slice Aq nq cq) ∧ w'.cell? ⟨w3.heap.size + 1, 0, none⟩ = some (.bool gv) ∧ w'.cell? ⟨w3.heap.size + 1, 1, none⟩ = some (.slice Av nv cv) ∧ w'.cell? ⟨w4.heap.size, 0, none⟩ = some (.bool gu) ∧ w'.cell? ⟨w4.heap.size, 1, none⟩ = some (.slice Au nu cu) ∧ w'.cell? ⟨w4.heap.size + 1, 0, none⟩ = some (.bool gh) ∧ w'.cell? ⟨w4.heap.size + 1, 1, none⟩ = some (.slice Ah nh ch) ∧ w'.cell? ⟨po, 0, none⟩ = some (.bool gk) ∧ w'.cell? ⟨po, 1, none⟩ = some (.slice Ak nk ck) ∧ HL w [⟨w.heap.size, ga, Aa, na, ca, x⟩, ⟨w.heap.size + 1, gb, Ab, nb, cb, y⟩, ⟨w3.heap.size, gq, Aq, nq, cq, x / y⟩, ⟨w3.heap.size + 1, gv, Av, nv, cv, x % y⟩, ⟨w4.heap.size, gu, Au, nu, cu, Z.fl x y⟩, ⟨w4.heap.size + 1, gh, Ah, nh, ch, -y⟩, ⟨po, gk, Ak, nk, ck, -(x - Z.fl x y * y)⟩] [⟨w3.heap.size, gq, Aq, nq, cq, x / y⟩, ⟨w3.heap.size + 1, gv, Av, nv, cv, x % y⟩, ⟨w4.heap.size, gu, Au, nu, cu, Z.fl x y⟩, ⟨w4.heap.size + 1, gh, Ah, nh, ch, -y⟩, ⟨po, gk, Ak, nk, ck, -(x - Z.fl x y * y)⟩] w')
      (first | exact keepZ7 (by assumption) (by assumption) | exact HS.out)
      (first | (go_at_call 20; (with_reducible refine (K3.out _ ?_ ).mono ?_); assumption; rintro e w13 ⟨vm, rfl, mm, b13⟩; obtain ⟨gm, Am, nm, cm, rfl, im, Nm⟩ := mm.open lm.out (by omega); clear mm) | (go_at_call 16; (with_reducible refine (K4.out _ ?_ _ _ _ _ ?_ ?_).mono ?_); assumption; exact im; exact Nm; rintro e w14 ⟨vs, rfl, ms, b14⟩; replace im := im.below b14; replace Nm := Nm.below b14; obtain ⟨gs, As, ns, cs, rfl, is, Ns⟩ := ms.open ls.out (by omega); clear ms) | (go_at_call 22; (with_reducible refine (K5.out _ ?_ _ _ _ _ ?_ ?_).mono ?_); assumption; exact is; exact Ns; rintro e w15 ⟨rfl, b15⟩; replace im := im.below b15; replace Nm := Nm.below b15; replace is := is.below b15; replace Ns := Ns.below b15) | (go_at_call 24; (with_reducible refine (K6.out _ ?_ ).mono ?_); assumption; rintro e w16 ⟨rfl, b16⟩; replace im := im.below b16; replace Nm := Nm.below b16; replace is := is.below b16; replace Ns := Ns.below b16) | (go_at_call 22; (with_reducible refine (K7.out _ ?_ ).mono ?_); assumption; rintro e w17 ⟨rfl, b17⟩; replace im := im.below b17; replace Nm := Nm.below b17; replace is := is.below b17; replace Ns := Ns.below b17) | (go_at_call 24; (with_reducible refine (K8.out _ ?_ ).mono ?_); assumption; rintro e w18 ⟨rfl, b18⟩; replace im := im.below b18; replace Nm := Nm.below b18; replace is := is.below b18; replace Ns := Ns.below b18) | (go_at_call 22; (with_reducible refine (K9.out _ ?_ ).mono ?_); assumption; rintro e w19 ⟨rfl, b19⟩; replace im := im.below b19; replace Nm := Nm.below b19; replace is := is.below b19; replace Ns := Ns.below b19))
    rename_i hh
    have hh := hh.2.2.2.2.2.2.2.2.2.2.2.2.2.2
    have Ba : BoxZ w19 (w.heap.size) ga Aa na ca (x) := hh.1 _ (.head _)
    have Bb : BoxZ w19 (w.heap.size + 1) gb Ab nb cb (y) := hh.1 _ (.tail _ (.head _))
    have Bq : BoxZ w19 (w3.heap.size) gq Aq nq cq (x / y) := hh.1 _ (.tail _ (.tail _ (.head _)))
    have Bv : BoxZ w19 (w3.heap.size + 1) gv Av nv cv (x % y) := hh.1 _ (.tail _ (.tail _ (.tail _ (.head _))))
    have Bu : BoxZ w19 (w4.heap.size) gu Au nu cu (Z.fl x y) := hh.1 _ (.tail _ (.tail _ (.tail _ (.tail _ (.head _)))))
    have Bd : BoxZ w19 (w4.heap.size + 1) gh Ah nh ch (-y) := hh.1 _ (.tail _ (.tail _ (.tail _ (.tail _ (.tail _ (.head _))))))
    have Bo : BoxZ w19 (po) gk Ak nk ck (-(x - Z.fl x y * y)) := hh.1 _ (.tail _ (.tail _ (.tail _ (.tail _ (.tail _ (.tail _ (.head _)))))))
    have Nq : WNum w19 (.agg #[.bool gq, .slice Aq nq cq]) (x / y) := hh.2.1 _ (.head _)
    have Nv : WNum w19 (.agg #[.bool gv, .slice Av nv cv]) (x % y) := hh.2.1 _ (.tail _ (.head _))
    have Nu : WNum w19 (.agg #[.bool gu, .slice Au nu cu]) (Z.fl x y) := hh.2.1 _ (.tail _ (.tail _ (.head _)))
    have Nd : WNum w19 (.agg #[.bool gh, .slice Ah nh ch]) (-y) := hh.2.1 _ (.tail _ (.tail _ (.tail _ (.head _))))
    have No : WNum w19 (.agg #[.bool gk, .slice Ak nk ck]) (-(x - Z.fl x y * y)) := hh.2.1 _ (.tail _ (.tail _ (.tail _ (.tail _ (.head _)))))
    have bl := hh.2.2
    clear hh HS K3 K4 K5 K6 K7 K8 K9
    clear im Nm lm is Ns ls
    go_wp2_with fail
    go_ret
    exact ⟨by simp, bl⟩

set_option maxRecDepth 100000 in
set_option maxHeartbeats 32000000 in
theorem wholeBack_pos (ga : Bool) (Aa : Option Addr) (na ca : Nat) (gb : Bool) (Ab : Option Addr) (nb cb : Nat) (x y : Int) (X : Nat) (w : World) (ha : WIn w ga Aa na ca x) (hb : WIn w gb Ab nb cb y) (la : Hid (x.natAbs < M.BB ^ X)) (lb : Hid (y.natAbs < M.BB ^ X)) (hX : X ≤ 100) (h1 : na ≤ 60) (h2 : nb ≤ 60) (hy : 0 < y) :
    Calls Try.prog 6 #[.agg #[.bool ga, .slice Aa na ca], .agg #[.bool gb, .slice Ab nb cb]] w fun e w' => e = .returned (.bool true) ∧ Below w.heap.size w w' := by
  have HY := Lib.hid (show y ≠ 0 by omega)
  have LQ := Lib.hid (lt_divZ la.out HY.out)
  have LR := Lib.hid (lt_modZ (z := x) lb.out HY.out)
  have LF := Lib.hid (lt_flZ la.out HY.out)
  have HSB := Lib.hid fun (W : World) (q : WIn W gb Ab nb cb y) => sign_w gb Ab nb cb y W q
  rw [Z.sgn_pos hy] at HSB
  obtain ⟨sr, HSR⟩ : ∃ sr, Hid (Z.sgn (x % y) = sr) := ⟨_, rfl⟩
  obtain ⟨so, HSO⟩ : ∃ so, Hid (Z.sgn (x - Z.fl x y * y) = so) := ⟨_, rfl⟩
  have hm0 := Int.emod_nonneg x HY.out
  have hm1 := Int.emod_lt x HY.out
  have hf := Z.fl_rest x y HY.out
  have hsr : Hid (0 ≤ sr) := show 0 ≤ sr by have := (Z.sgn_lt (x % y)); rw [HSR.out] at this; omega
  have hso : Hid (0 ≤ so) := show 0 ≤ so by have h1 := (Z.sgn_lt (x - Z.fl x y * y)); rw [HSO.out] at h1; have := hf.2 hy; omega
  have e1 : Z.sgn (x % y - (y)) = -1 := Z.sgn_neg (by omega)
  have e2 : Z.sgn (x - Z.fl x y * y - (y)) = -1 := Z.sgn_neg (by have := hf.2 hy; omega)
  have C1 := Lib.hid fun (W : World) (g : Bool) (A : Option Addr) (n c : Nat) (g' : Bool) (A' : Option Addr) (n' c' : Nat) (q1 : WIn W g A n c (x / y * y + x % y)) (q2 : WIn W g' A' n' c' x) => cmp_w _ _ _ _ _ _ _ _ _ _ W q1 q2
  have C2 := Lib.hid fun (W : World) (g : Bool) (A : Option Addr) (n c : Nat) (q1 : WIn W g A n c (x % y)) => sign_w _ _ _ _ _ W q1
  have C3 := Lib.hid fun (W : World) (g : Bool) (A : Option Addr) (n c : Nat) (g' : Bool) (A' : Option Addr) (n' c' : Nat) (q1 : WIn W g A n c (x % y)) (q2 : WIn W g' A' n' c' (y)) => cmp_w _ _ _ _ _ _ _ _ _ _ W q1 q2
  have C4 := Lib.hid fun (W : World) (g : Bool) (A : Option Addr) (n c : Nat) (q1 : WIn W g A n c (x - Z.fl x y * y)) => sign_w _ _ _ _ _ W q1
  have C5 := Lib.hid fun (W : World) (g : Bool) (A : Option Addr) (n c : Nat) (g' : Bool) (A' : Option Addr) (n' c' : Nat) (q1 : WIn W g A n c (x - Z.fl x y * y)) (q2 : WIn W g' A' n' c' (y)) => cmp_w _ _ _ _ _ _ _ _ _ _ W q1 q2
  rw [Z.back] at C1
  rw [HSR.out] at C2
  rw [e1] at C3
  rw [HSO.out] at C4
  rw [e2] at C5
  clear hm0 hm1 hf e1 e2 hy
  go_enter Try.func6, Try.ntmps6
  obtain ⟨bl, Bap, Bbp⟩ := loc2 w ga Aa na ca gb Ab nb cb
  have Ba : BoxZ _ _ ga Aa na ca x := ⟨Bap, ha.below bl⟩
  clear Bap
  have Bb : BoxZ _ _ gb Ab nb cb y := ⟨Bbp, hb.below bl⟩
  clear Bbp
  obtain ⟨a0, a1, a2, a3'⟩ := Ba.box
  obtain ⟨b0, b1, b2, b3'⟩ := Bb.box
  go_wp2_with fail
  clear a0 a1 a2 a3' b0 b1 b2 b3'
  refine (awake_w _).mono ?_
  rintro e w1 ⟨rfl, b1⟩
  replace Ba := Ba.below b1
  replace Bb := Bb.below b1
  replace bl := bl.trans (b1.mono bl.size)
  clear b1
  obtain ⟨a0, a1, a2, a3'⟩ := Ba.box
  obtain ⟨b0, b1, b2, b3'⟩ := Bb.box
  go_wp2_with fail
  clear a0 a1 a2 a3' b0 b1 b2 b3'
  refine (few_w _ _ _ _ _ _ _ _ true 60 _ (by omega) (by unfold maxLen; omega) (by unfold maxLen; omega) (by simp [h1, h2])).mono ?_
  rintro e w2 ⟨rfl, b2⟩
  replace Ba := Ba.below b2
  replace Bb := Bb.below b2
  replace bl := bl.trans (b2.mono bl.size)
  clear b2
  obtain ⟨a0, a1, a2, a3'⟩ := Ba.box
  obtain ⟨b0, b1, b2, b3'⟩ := Bb.box
  go_wp2_with fail
  clear a0 a1 a2 a3' b0 b1 b2 b3'
  refine (divMod_w _ _ _ _ _ _ _ _ _ _ _ Ba.num Bb.num HY.out).mono ?_
  rintro e w3 ⟨vq, vv, rfl, mq, mv, b3⟩
  replace Ba := Ba.below b3
  replace Bb := Bb.below b3
  replace bl := bl.trans (b3.mono bl.size)
  clear b3
  obtain ⟨gq, Aq, nq, cq, rfl, iq, Nq⟩ := mq.open LQ.out (by omega)
  clear mq
  obtain ⟨gv, Av, nv, cv, rfl, iv, Nv⟩ := mv.open LR.out (by omega)
  clear mv
  obtain ⟨a0, a1, a2, a3'⟩ := Ba.box
  obtain ⟨b0, b1, b2, b3'⟩ := Bb.box
  go_wp2_with fail
  clear a0 a1 a2 a3' b0 b1 b2 b3'
  obtain ⟨ex, Bqp, Bvp⟩ := loc2 w3 gq Aq nq cq gv Av nv cv
  have qq := Lib.hid Bb.box.lt
  have qv := Lib.hid Bb.box.lt
  replace Ba := Ba.below ex
  replace Bb := Bb.below ex
  replace iq := iq.below ex
  replace Nq := Nq.below ex
  replace iv := iv.below ex
  replace Nv := Nv.below ex
  replace bl := bl.trans (ex.mono bl.size)
  have Bq : BoxZ _ _ gq Aq nq cq (x / y) := ⟨Bqp, iq⟩
  clear Bqp iq
  have Bv : BoxZ _ _ gv Av nv cv (x % y) := ⟨Bvp, iv⟩
  clear Bvp iv
  clear ex
  refine (floor_w _ _ _ _ _ _ _ _ _ _ _ Ba.num Bb.num HY.out).mono ?_
  rintro e w4 ⟨vu, rfl, mu, b4⟩
  replace Ba := Ba.below b4
  replace Bb := Bb.below b4
  replace Bq := Bq.below b4
  replace Nq := Nq.below b4
  replace Bv := Bv.below b4
  replace Nv := Nv.below b4
  replace bl := bl.trans (b4.mono bl.size)
  clear b4
  obtain ⟨gu, Au, nu, cu, rfl, iu, Nu⟩ := mu.open LF.out (by omega)
  clear mu
  obtain ⟨a0, a1, a2, a3'⟩ := Ba.box
  obtain ⟨b0, b1, b2, b3'⟩ := Bb.box
  obtain ⟨q0, q1, q2, q3'⟩ := Bq.box
  obtain ⟨v0, v1, v2, v3'⟩ := Bv.box
  go_wp2_with fail
  clear a0 a1 a2 a3' b0 b1 b2 b3' q0 q1 q2 q3' v0 v1 v2 v3'
  obtain ⟨ex, Bup, Bdp⟩ := loc2 w4 gu Au nu cu gb Ab nb cb
  have qu := Lib.hid Bv.box.lt
  have qd := Lib.hid Bv.box.lt
  replace Ba := Ba.below ex
  replace Bb := Bb.below ex
  replace Bq := Bq.below ex
  replace Nq := Nq.below ex
  replace Bv := Bv.below ex
  replace Nv := Nv.below ex
  replace iu := iu.below ex
  replace Nu := Nu.below ex
  replace bl := bl.trans (ex.mono bl.size)
  have Bu : BoxZ _ _ gu Au nu cu (Z.fl x y) := ⟨Bup, iu⟩
  clear Bup iu
  have Bd : BoxZ _ _ gb Ab nb cb (y) := ⟨Bdp, Bb.num⟩
  clear Bdp
  clear ex
  refine (HSB.out _ Bb.num).mono ?_
  rintro e w5 ⟨rfl, b5⟩
  replace Ba := Ba.below b5
  replace Bb := Bb.below b5
  replace Bq := Bq.below b5
  replace Nq := Nq.below b5
  replace Bv := Bv.below b5
  replace Nv := Nv.below b5
  replace Bu := Bu.below b5
  replace Nu := Nu.below b5
  replace Bd := Bd.below b5
  replace bl := bl.trans (b5.mono bl.size)
  clear b5
  obtain ⟨a0, a1, a2, a3'⟩ := Ba.box
  obtain ⟨b0, b1, b2, b3'⟩ := Bb.box
  obtain ⟨q0, q1, q2, q3'⟩ := Bq.box
  obtain ⟨v0, v1, v2, v3'⟩ := Bv.box
  obtain ⟨u0, u1, u2, u3'⟩ := Bu.box
  obtain ⟨d0, d1, d2, d3'⟩ := Bd.box
  go_upto_region 12 with fail
  clear a0 a1 a2 a3' b0 b1 b2 b3' q0 q1 q2 q3' v0 v1 v2 v3' u0 u1 u2 u3' d0 d1 d2 d3'
  have K1 := Lib.hid fun (W : World) (q : W.cell? ⟨w.heap.size, 0, none⟩ = some (.bool ga) ∧ W.cell? ⟨w.heap.size, 1, none⟩ = some (.slice Aa na ca) ∧ W.cell? ⟨w.heap.size + 1, 0, none⟩ = some (.bool gb) ∧ W.cell? ⟨w.heap.size + 1, 1, none⟩ = some (.slice Ab nb cb) ∧ W.cell? ⟨w3.heap.size, 0, none⟩ = some (.bool gq) ∧ W.cell? ⟨w3.heap.size, 1, none⟩ = some (.slice Aq nq cq) ∧ W.cell? ⟨w3.heap.size + 1, 0, none⟩ = some (.bool gv) ∧ W.cell? ⟨w3.heap.size + 1, 1, none⟩ = some (.slice Av nv cv) ∧ W.cell? ⟨w4.heap.size, 0, none⟩ = some (.bool gu) ∧ W.cell? ⟨w4.heap.size, 1, none⟩ = some (.slice Au nu cu) ∧ W.cell? ⟨w4.heap.size + 1, 0, none⟩ = some (.bool gb) ∧ W.cell? ⟨w4.heap.size + 1, 1, none⟩ = some (.slice Ab nb cb) ∧ HL w [⟨w.heap.size, ga, Aa, na, ca, x⟩, ⟨w.heap.size + 1, gb, Ab, nb, cb, y⟩, ⟨w3.heap.size, gq, Aq, nq, cq, x / y⟩, ⟨w3.heap.size + 1, gv, Av, nv, cv, x % y⟩, ⟨w4.heap.size, gu, Au, nu, cu, Z.fl x y⟩, ⟨w4.heap.size + 1, gb, Ab, nb, cb, y⟩] [⟨w3.heap.size, gq, Aq, nq, cq, x / y⟩, ⟨w3.heap.size + 1, gv, Av, nv, cv, x % y⟩, ⟨w4.heap.size, gu, Au, nu, cu, Z.fl x y⟩] W)  => mul_w _ _ _ _ _ _ _ _ _ _ W (q.2.2.2.2.2.2.2.2.2.2.2.2.1 _ (.tail _ (.tail _ (.tail _ (.tail _ (.head _)))))).num (q.2.2.2.2.2.2.2.2.2.2.2.2.1 _ (.tail _ (.head _))).num
  have lm := Lib.hid (lt_mulZ LF.out lb.out)
  have K2 := Lib.hid fun (W : World) (q : W.cell? ⟨w.heap.size, 0, none⟩ = some (.bool ga) ∧ W.cell? ⟨w.heap.size, 1, none⟩ = some (.slice Aa na ca) ∧ W.cell? ⟨w.heap.size + 1, 0, none⟩ = some (.bool gb) ∧ W.cell? ⟨w.heap.size + 1, 1, none⟩ = some (.slice Ab nb cb) ∧ W.cell? ⟨w3.heap.size, 0, none⟩ = some (.bool gq) ∧ W.cell? ⟨w3.heap.size, 1, none⟩ = some (.slice Aq nq cq) ∧ W.cell? ⟨w3.heap.size + 1, 0, none⟩ = some (.bool gv) ∧ W.cell? ⟨w3.heap.size + 1, 1, none⟩ = some (.slice Av nv cv) ∧ W.cell? ⟨w4.heap.size, 0, none⟩ = some (.bool gu) ∧ W.cell? ⟨w4.heap.size, 1, none⟩ = some (.slice Au nu cu) ∧ W.cell? ⟨w4.heap.size + 1, 0, none⟩ = some (.bool gb) ∧ W.cell? ⟨w4.heap.size + 1, 1, none⟩ = some (.slice Ab nb cb) ∧ HL w [⟨w.heap.size, ga, Aa, na, ca, x⟩, ⟨w.heap.size + 1, gb, Ab, nb, cb, y⟩, ⟨w3.heap.size, gq, Aq, nq, cq, x / y⟩, ⟨w3.heap.size + 1, gv, Av, nv, cv, x % y⟩, ⟨w4.heap.size, gu, Au, nu, cu, Z.fl x y⟩, ⟨w4.heap.size + 1, gb, Ab, nb, cb, y⟩] [⟨w3.heap.size, gq, Aq, nq, cq, x / y⟩, ⟨w3.heap.size + 1, gv, Av, nv, cv, x % y⟩, ⟨w4.heap.size, gu, Au, nu, cu, Z.fl x y⟩] W) (gm : Bool) (Am : Option Addr) (nm cm : Nat) (im : WIn W gm Am nm cm (Z.fl x y * y)) (Nm : WNum W (.agg #[.bool gm, .slice Am nm cm]) (Z.fl x y * y)) => sub_w _ _ _ _ _ _ _ _ _ _ W (q.2.2.2.2.2.2.2.2.2.2.2.2.1 _ (.head _)).num im
  have lo := Lib.hid (lt_subZ la.out lm.out)
  have LT := Lib.hid Bd.box.lt
  have HS := Lib.hid (start6 Ba Bb Bq Bv Bu Bd (bl := bl) (M := [⟨w3.heap.size, gq, Aq, nq, cq, x / y⟩, ⟨w3.heap.size + 1, gv, Av, nv, cv, x % y⟩, ⟨w4.heap.size, gu, Au, nu, cu, Z.fl x y⟩]) (hM := (own3 Nq Nv Nu)))
  clear Ba Bb Bq Bv Bu Bd Nq Nv Nu bl
  go_cut [13] (fun s9 wx7 => ∃ (p9 : Nat) (g9 : Bool) (A9 : Option Addr) (n9 c9 : Nat), s9 = .pointer (some ⟨p9, 0, none⟩) ∧ w4.heap.size + 1 < p9 ∧ BoxZ wx7 p9 g9 A9 n9 c9 (x - Z.fl x y * y) ∧ WNum wx7 (.agg #[.bool g9, .slice A9 n9 c9]) (x - Z.fl x y * y) ∧ HL w [⟨w.heap.size, ga, Aa, na, ca, x⟩, ⟨w.heap.size + 1, gb, Ab, nb, cb, y⟩, ⟨w3.heap.size, gq, Aq, nq, cq, x / y⟩, ⟨w3.heap.size + 1, gv, Av, nv, cv, x % y⟩, ⟨w4.heap.size, gu, Au, nu, cu, Z.fl x y⟩, ⟨w4.heap.size + 1, gb, Ab, nb, cb, y⟩] [⟨w3.heap.size, gq, Aq, nq, cq, x / y⟩, ⟨w3.heap.size + 1, gv, Av, nv, cv, x % y⟩, ⟨w4.heap.size, gu, Au, nu, cu, Z.fl x y⟩] wx7)
  case first =>
    go_region_held3 (fun w' => w'.cell? ⟨w.heap.size, 0, none⟩ = some (.bool ga) ∧ w'.cell? ⟨w.heap.size, 1, none⟩ = some (.slice Aa na ca) ∧ w'.cell? ⟨w.heap.size + 1, 0, none⟩ = some (.bool gb) ∧ w'.cell? ⟨w.heap.size + 1, 1, none⟩ = some (.slice Ab nb cb) ∧ w'.cell? ⟨w3.heap.size, 0, none⟩ = some (.bool gq) ∧ w'.cell? ⟨w3.heap.size, 1, none⟩ = some (.slice Aq nq cq) ∧ w'.cell? ⟨w3.heap.size + 1, 0, none⟩ = some (.bool gv) ∧ w'.cell? ⟨w3.heap.size + 1, 1, none⟩ = some (.slice Av nv cv) ∧ w'.cell? ⟨w4.heap.size, 0, none⟩ = some (.bool gu) ∧ w'.cell? ⟨w4.heap.size, 1, none⟩ = some (.slice Au nu cu) ∧ w'.cell? ⟨w4.heap.size + 1, 0, none⟩ = some (.bool gb) ∧ w'.cell? ⟨w4.heap.size + 1, 1, none⟩ = some (.slice Ab nb cb) ∧ HL w [⟨w.heap.size, ga, Aa, na, ca, x⟩, ⟨w.heap.size + 1, gb, Ab, nb, cb, y⟩, ⟨w3.heap.size, gq, Aq, nq, cq, x / y⟩, ⟨w3.heap.size + 1, gv, Av, nv, cv, x % y⟩, ⟨w4.heap.size, gu, Au, nu, cu, Z.fl x y⟩, ⟨w4.heap.size + 1, gb, Ab, nb, cb, y⟩] [⟨w3.heap.size, gq, Aq, nq, cq, x / y⟩, ⟨w3.heap.size + 1, gv, Av, nv, cv, x % y⟩, ⟨w4.heap.size, gu, Au, nu, cu, Z.fl x y⟩] w')
      (first | with_reducible exact keepZ6 (by assumption) (by assumption) | with_reducible exact HS.out | with_reducible exact keepZ6 ((Below.refl _ _).alloc (Nat.le_refl _) _) (by assumption) | exact keepR6 rm.1 ⟨(by have h99 := rm.2; have h29 := qq.out; have h39 := qv.out; have h49 := qu.out; have h59 := qd.out; omega), (by have h99 := rm.2; have h29 := qq.out; have h39 := qv.out; have h49 := qu.out; have h59 := qd.out; omega), (by have h99 := rm.2; have h29 := qq.out; have h39 := qv.out; have h49 := qu.out; have h59 := qd.out; omega), (by have h99 := rm.2; have h29 := qq.out; have h39 := qv.out; have h49 := qu.out; have h59 := qd.out; omega), (by have h99 := rm.2; have h29 := qq.out; have h39 := qv.out; have h49 := qu.out; have h59 := qd.out; omega), (by have h99 := rm.2; have h29 := qq.out; have h39 := qv.out; have h49 := qu.out; have h59 := qd.out; omega)⟩ (by have h99 := rm.2; have h29 := qq.out; have h39 := qv.out; have h49 := qu.out; have h59 := qd.out; omega) (by assumption) | exact keepA6 ⟨(by have h99 := Nat.lt_of_lt_of_le LT.out (Nat.le_trans b6.size b7.size); have h29 := qq.out; have h39 := qv.out; have h49 := qu.out; have h59 := qd.out; omega), (by have h99 := Nat.lt_of_lt_of_le LT.out (Nat.le_trans b6.size b7.size); have h29 := qq.out; have h39 := qv.out; have h49 := qu.out; have h59 := qd.out; omega), (by have h99 := Nat.lt_of_lt_of_le LT.out (Nat.le_trans b6.size b7.size); have h29 := qq.out; have h39 := qv.out; have h49 := qu.out; have h59 := qd.out; omega), (by have h99 := Nat.lt_of_lt_of_le LT.out (Nat.le_trans b6.size b7.size); have h29 := qq.out; have h39 := qv.out; have h49 := qu.out; have h59 := qd.out; omega), (by have h99 := Nat.lt_of_lt_of_le LT.out (Nat.le_trans b6.size b7.size); have h29 := qq.out; have h39 := qv.out; have h49 := qu.out; have h59 := qd.out; omega), (by have h99 := Nat.lt_of_lt_of_le LT.out (Nat.le_trans b6.size b7.size); have h29 := qq.out; have h39 := qv.out; have h49 := qu.out; have h59 := qd.out; omega)⟩ (by have h99 := Nat.lt_of_lt_of_le LT.out (Nat.le_trans b6.size b7.size); have h29 := qq.out; have h39 := qv.out; have h49 := qu.out; have h59 := qd.out; omega) (by assumption))
      (first | (go_at_call 20; (with_reducible refine (K1.out _ ?_ ).mono ?_); assumption; rintro e w6 ⟨vm, rfl, mm, b6⟩; obtain ⟨gm, Am, nm, cm, rfl, im, Nm⟩ := mm.open lm.out (by omega); clear mm; (first | have rm := rm_at (w5.heap.size) b6 LT.out (by simp) | have rm := rm_atd (w5.heap.size) b6 LT.out (by simp) | skip)) | (go_at_call 18; (with_reducible refine (K2.out _ ?_ _ _ _ _ ?_ ?_).mono ?_); assumption; (first | exact im | exact im.below ((Below.refl _ _).alloc (Nat.le_refl _) _)); (first | exact Nm | exact Nm.below ((Below.refl _ _).alloc (Nat.le_refl _) _)); rintro e w7 ⟨vo, rfl, mo, b7⟩; (first | replace im := im.below b7 | replace im := (im.below ((Below.refl _ _).alloc (Nat.le_refl _) _)).below b7); (first | replace Nm := Nm.below b7 | replace Nm := (Nm.below ((Below.refl _ _).alloc (Nat.le_refl _) _)).below b7); obtain ⟨go, Ao, no, co, rfl, io, No⟩ := mo.open lo.out (by omega); clear mo; (first | have rm := rm_below rm b7 | have rm := rm_new b7 (Nat.lt_of_lt_of_le LT.out b6.size) | skip); (try (obtain ⟨⟨xr, yr, zr, qr, ⟨f0, f1, f2, f3⟩⟩, _⟩ := id rm; have f4 := f3 0; have f5 := f3 1))))
    all_goals
      rename_i hh
      go_wp2_with fail
      go_meet
      first
      | exact ⟨_, _, _, _, _, rfl, rm.2, ⟨box_own rm.1, win_room io rm.1⟩, wnum_room No rm.1, hh.2.2.2.2.2.2.2.2.2.2.2.2⟩
      | exact ⟨_, _, _, _, _, rfl, Nat.lt_of_lt_of_le LT.out (Nat.le_trans b6.size b7.size), ⟨Box.new _ _ _ _ _, io.below ((Below.refl _ _).alloc (Nat.le_refl _) _)⟩, No.below ((Below.refl _ _).alloc (Nat.le_refl _) _), hh.2.2.2.2.2.2.2.2.2.2.2.2⟩
  case rest =>
    clear HS LT K1 K2 lm
    obtain ⟨po, go, Ao, no, co, rfl, qo, Bo, No, hh⟩ := hcut
    have qo := Lib.hid qo
    have Ba : BoxZ _ (w.heap.size) ga Aa na ca (x) := hh.1 _ (.head _)
    have Bb : BoxZ _ (w.heap.size + 1) gb Ab nb cb (y) := hh.1 _ (.tail _ (.head _))
    have Bq : BoxZ _ (w3.heap.size) gq Aq nq cq (x / y) := hh.1 _ (.tail _ (.tail _ (.head _)))
    have Bv : BoxZ _ (w3.heap.size + 1) gv Av nv cv (x % y) := hh.1 _ (.tail _ (.tail _ (.tail _ (.head _))))
    have Bu : BoxZ _ (w4.heap.size) gu Au nu cu (Z.fl x y) := hh.1 _ (.tail _ (.tail _ (.tail _ (.tail _ (.head _)))))
    have Bd : BoxZ _ (w4.heap.size + 1) gb Ab nb cb (y) := hh.1 _ (.tail _ (.tail _ (.tail _ (.tail _ (.tail _ (.head _))))))
    have Nq : WNum _ (.agg #[.bool gq, .slice Aq nq cq]) (x / y) := hh.2.1 _ (.head _)
    have Nv : WNum _ (.agg #[.bool gv, .slice Av nv cv]) (x % y) := hh.2.1 _ (.tail _ (.head _))
    have Nu : WNum _ (.agg #[.bool gu, .slice Au nu cu]) (Z.fl x y) := hh.2.1 _ (.tail _ (.tail _ (.head _)))
    have bl := hh.2.2
    clear hh
    obtain ⟨a0, a1, a2, a3'⟩ := Ba.box
    obtain ⟨b0, b1, b2, b3'⟩ := Bb.box
    obtain ⟨q0, q1, q2, q3'⟩ := Bq.box
    obtain ⟨v0, v1, v2, v3'⟩ := Bv.box
    obtain ⟨u0, u1, u2, u3'⟩ := Bu.box
    obtain ⟨d0, d1, d2, d3'⟩ := Bd.box
    obtain ⟨o0, o1, o2, o3'⟩ := Bo.box
    go_wp2_with fail
    clear a0 a1 a2 a3' b0 b1 b2 b3' q0 q1 q2 q3' v0 v1 v2 v3' u0 u1 u2 u3' d0 d1 d2 d3' o0 o1 o2 o3'
    refine (HSB.out _ Bb.num).mono ?_
    rintro e w8 ⟨rfl, b8⟩
    replace Ba := Ba.below b8
    replace Bb := Bb.below b8
    replace Bq := Bq.below b8
    replace Nq := Nq.below b8
    replace Bv := Bv.below b8
    replace Nv := Nv.below b8
    replace Bu := Bu.below b8
    replace Nu := Nu.below b8
    replace Bd := Bd.below b8
    replace Bo := Bo.below b8
    replace No := No.below b8
    replace bl := bl.trans (b8.mono bl.size)
    clear b8
    obtain ⟨a0, a1, a2, a3'⟩ := Ba.box
    obtain ⟨b0, b1, b2, b3'⟩ := Bb.box
    obtain ⟨q0, q1, q2, q3'⟩ := Bq.box
    obtain ⟨v0, v1, v2, v3'⟩ := Bv.box
    obtain ⟨u0, u1, u2, u3'⟩ := Bu.box
    obtain ⟨d0, d1, d2, d3'⟩ := Bd.box
    obtain ⟨o0, o1, o2, o3'⟩ := Bo.box
    go_wp2_with fail
    clear a0 a1 a2 a3' b0 b1 b2 b3' q0 q1 q2 q3' v0 v1 v2 v3' u0 u1 u2 u3' d0 d1 d2 d3' o0 o1 o2 o3'
    have K3 := Lib.hid fun (W : World) (q : W.cell? ⟨w.heap.size, 0, none⟩ = some (.bool ga) ∧ W.cell? ⟨w.heap.size, 1, none⟩ = some (.slice Aa na ca) ∧ W.cell? ⟨w.heap.size + 1, 0, none⟩ = some (.bool gb) ∧ W.cell? ⟨w.heap.size + 1, 1, none⟩ = some (.slice Ab nb cb) ∧ W.cell? ⟨w3.heap.size, 0, none⟩ = some (.bool gq) ∧ W.cell? ⟨w3.heap.size, 1, none⟩ = some (.slice Aq nq cq) ∧ W.cell? ⟨w3.heap.size + 1, 0, none⟩ = some (.bool gv) ∧ W.cell? ⟨w3.heap.size + 1, 1, none⟩ = some (.slice Av nv cv) ∧ W.cell? ⟨w4.heap.size, 0, none⟩ = some (.bool gu) ∧ W.cell? ⟨w4.heap.size, 1, none⟩ = some (.slice Au nu cu) ∧ W.cell? ⟨w4.heap.size + 1, 0, none⟩ = some (.bool gb) ∧ W.cell? ⟨w4.heap.size + 1, 1, none⟩ = some (.slice Ab nb cb) ∧ W.cell? ⟨po, 0, none⟩ = some (.bool go) ∧ W.cell? ⟨po, 1, none⟩ = some (.slice Ao no co) ∧ HL w [⟨w.heap.size, ga, Aa, na, ca, x⟩, ⟨w.heap.size + 1, gb, Ab, nb, cb, y⟩, ⟨w3.heap.size, gq, Aq, nq, cq, x / y⟩, ⟨w3.heap.size + 1, gv, Av, nv, cv, x % y⟩, ⟨w4.heap.size, gu, Au, nu, cu, Z.fl x y⟩, ⟨w4.heap.size + 1, gb, Ab, nb, cb, y⟩, ⟨po, go, Ao, no, co, x - Z.fl x y * y⟩] [⟨w3.heap.size, gq, Aq, nq, cq, x / y⟩, ⟨w3.heap.size + 1, gv, Av, nv, cv, x % y⟩, ⟨w4.heap.size, gu, Au, nu, cu, Z.fl x y⟩, ⟨po, go, Ao, no, co, x - Z.fl x y * y⟩] W)  => mul_w _ _ _ _ _ _ _ _ _ _ W (q.2.2.2.2.2.2.2.2.2.2.2.2.2.2.1 _ (.tail _ (.tail _ (.head _)))).num (q.2.2.2.2.2.2.2.2.2.2.2.2.2.2.1 _ (.tail _ (.head _))).num
    have lm := Lib.hid (lt_mulZ LQ.out lb.out)
    have K4 := Lib.hid fun (W : World) (q : W.cell? ⟨w.heap.size, 0, none⟩ = some (.bool ga) ∧ W.cell? ⟨w.heap.size, 1, none⟩ = some (.slice Aa na ca) ∧ W.cell? ⟨w.heap.size + 1, 0, none⟩ = some (.bool gb) ∧ W.cell? ⟨w.heap.size + 1, 1, none⟩ = some (.slice Ab nb cb) ∧ W.cell? ⟨w3.heap.size, 0, none⟩ = some (.bool gq) ∧ W.cell? ⟨w3.heap.size, 1, none⟩ = some (.slice Aq nq cq) ∧ W.cell? ⟨w3.heap.size + 1, 0, none⟩ = some (.bool gv) ∧ W.cell? ⟨w3.heap.size + 1, 1, none⟩ = some (.slice Av nv cv) ∧ W.cell? ⟨w4.heap.size, 0, none⟩ = some (.bool gu) ∧ W.cell? ⟨w4.heap.size, 1, none⟩ = some (.slice Au nu cu) ∧ W.cell? ⟨w4.heap.size + 1, 0, none⟩ = some (.bool gb) ∧ W.cell? ⟨w4.heap.size + 1, 1, none⟩ = some (.slice Ab nb cb) ∧ W.cell? ⟨po, 0, none⟩ = some (.bool go) ∧ W.cell? ⟨po, 1, none⟩ = some (.slice Ao no co) ∧ HL w [⟨w.heap.size, ga, Aa, na, ca, x⟩, ⟨w.heap.size + 1, gb, Ab, nb, cb, y⟩, ⟨w3.heap.size, gq, Aq, nq, cq, x / y⟩, ⟨w3.heap.size + 1, gv, Av, nv, cv, x % y⟩, ⟨w4.heap.size, gu, Au, nu, cu, Z.fl x y⟩, ⟨w4.heap.size + 1, gb, Ab, nb, cb, y⟩, ⟨po, go, Ao, no, co, x - Z.fl x y * y⟩] [⟨w3.heap.size, gq, Aq, nq, cq, x / y⟩, ⟨w3.heap.size + 1, gv, Av, nv, cv, x % y⟩, ⟨w4.heap.size, gu, Au, nu, cu, Z.fl x y⟩, ⟨po, go, Ao, no, co, x - Z.fl x y * y⟩] W) (gm : Bool) (Am : Option Addr) (nm cm : Nat) (im : WIn W gm Am nm cm (x / y * y)) (Nm : WNum W (.agg #[.bool gm, .slice Am nm cm]) (x / y * y)) => add_w _ _ _ _ _ _ _ _ _ _ W im (q.2.2.2.2.2.2.2.2.2.2.2.2.2.2.1 _ (.tail _ (.tail _ (.tail _ (.head _))))).num
    have ls := Lib.hid (lt_addZ lm.out LR.out)
    have K5 := Lib.hid fun (W : World) (q : W.cell? ⟨w.heap.size, 0, none⟩ = some (.bool ga) ∧ W.cell? ⟨w.heap.size, 1, none⟩ = some (.slice Aa na ca) ∧ W.cell? ⟨w.heap.size + 1, 0, none⟩ = some (.bool gb) ∧ W.cell? ⟨w.heap.size + 1, 1, none⟩ = some (.slice Ab nb cb) ∧ W.cell? ⟨w3.heap.size, 0, none⟩ = some (.bool gq) ∧ W.cell? ⟨w3.heap.size, 1, none⟩ = some (.slice Aq nq cq) ∧ W.cell? ⟨w3.heap.size + 1, 0, none⟩ = some (.bool gv) ∧ W.cell? ⟨w3.heap.size + 1, 1, none⟩ = some (.slice Av nv cv) ∧ W.cell? ⟨w4.heap.size, 0, none⟩ = some (.bool gu) ∧ W.cell? ⟨w4.heap.size, 1, none⟩ = some (.slice Au nu cu) ∧ W.cell? ⟨w4.heap.size + 1, 0, none⟩ = some (.bool gb) ∧ W.cell? ⟨w4.heap.size + 1, 1, none⟩ = some (.slice Ab nb cb) ∧ W.cell? ⟨po, 0, none⟩ = some (.bool go) ∧ W.cell? ⟨po, 1, none⟩ = some (.slice Ao no co) ∧ HL w [⟨w.heap.size, ga, Aa, na, ca, x⟩, ⟨w.heap.size + 1, gb, Ab, nb, cb, y⟩, ⟨w3.heap.size, gq, Aq, nq, cq, x / y⟩, ⟨w3.heap.size + 1, gv, Av, nv, cv, x % y⟩, ⟨w4.heap.size, gu, Au, nu, cu, Z.fl x y⟩, ⟨w4.heap.size + 1, gb, Ab, nb, cb, y⟩, ⟨po, go, Ao, no, co, x - Z.fl x y * y⟩] [⟨w3.heap.size, gq, Aq, nq, cq, x / y⟩, ⟨w3.heap.size + 1, gv, Av, nv, cv, x % y⟩, ⟨w4.heap.size, gu, Au, nu, cu, Z.fl x y⟩, ⟨po, go, Ao, no, co, x - Z.fl x y * y⟩] W) (gs : Bool) (As : Option Addr) (ns cs : Nat) (is : WIn W gs As ns cs (x / y * y + x % y)) (Ns : WNum W (.agg #[.bool gs, .slice As ns cs]) (x / y * y + x % y)) => C1.out W _ _ _ _ _ _ _ _ is (q.2.2.2.2.2.2.2.2.2.2.2.2.2.2.1 _ (.head _)).num
    have K6 := Lib.hid fun (W : World) (q : W.cell? ⟨w.heap.size, 0, none⟩ = some (.bool ga) ∧ W.cell? ⟨w.heap.size, 1, none⟩ = some (.slice Aa na ca) ∧ W.cell? ⟨w.heap.size + 1, 0, none⟩ = some (.bool gb) ∧ W.cell? ⟨w.heap.size + 1, 1, none⟩ = some (.slice Ab nb cb) ∧ W.cell? ⟨w3.heap.size, 0, none⟩ = some (.bool gq) ∧ W.cell? ⟨w3.heap.size, 1, none⟩ = some (.slice Aq nq cq) ∧ W.cell? ⟨w3.heap.size + 1, 0, none⟩ = some (.bool gv) ∧ W.cell? ⟨w3.heap.size + 1, 1, none⟩ = some (.slice Av nv cv) ∧ W.cell? ⟨w4.heap.size, 0, none⟩ = some (.bool gu) ∧ W.cell? ⟨w4.heap.size, 1, none⟩ = some (.slice Au nu cu) ∧ W.cell? ⟨w4.heap.size + 1, 0, none⟩ = some (.bool gb) ∧ W.cell? ⟨w4.heap.size + 1, 1, none⟩ = some (.slice Ab nb cb) ∧ W.cell? ⟨po, 0, none⟩ = some (.bool go) ∧ W.cell? ⟨po, 1, none⟩ = some (.slice Ao no co) ∧ HL w [⟨w.heap.size, ga, Aa, na, ca, x⟩, ⟨w.heap.size + 1, gb, Ab, nb, cb, y⟩, ⟨w3.heap.size, gq, Aq, nq, cq, x / y⟩, ⟨w3.heap.size + 1, gv, Av, nv, cv, x % y⟩, ⟨w4.heap.size, gu, Au, nu, cu, Z.fl x y⟩, ⟨w4.heap.size + 1, gb, Ab, nb, cb, y⟩, ⟨po, go, Ao, no, co, x - Z.fl x y * y⟩] [⟨w3.heap.size, gq, Aq, nq, cq, x / y⟩, ⟨w3.heap.size + 1, gv, Av, nv, cv, x % y⟩, ⟨w4.heap.size, gu, Au, nu, cu, Z.fl x y⟩, ⟨po, go, Ao, no, co, x - Z.fl x y * y⟩] W)  => C2.out W _ _ _ _ (q.2.2.2.2.2.2.2.2.2.2.2.2.2.2.1 _ (.tail _ (.tail _ (.tail _ (.head _))))).num
    have K7 := Lib.hid fun (W : World) (q : W.cell? ⟨w.heap.size, 0, none⟩ = some (.bool ga) ∧ W.cell? ⟨w.heap.size, 1, none⟩ = some (.slice Aa na ca) ∧ W.cell? ⟨w.heap.size + 1, 0, none⟩ = some (.bool gb) ∧ W.cell? ⟨w.heap.size + 1, 1, none⟩ = some (.slice Ab nb cb) ∧ W.cell? ⟨w3.heap.size, 0, none⟩ = some (.bool gq) ∧ W.cell? ⟨w3.heap.size, 1, none⟩ = some (.slice Aq nq cq) ∧ W.cell? ⟨w3.heap.size + 1, 0, none⟩ = some (.bool gv) ∧ W.cell? ⟨w3.heap.size + 1, 1, none⟩ = some (.slice Av nv cv) ∧ W.cell? ⟨w4.heap.size, 0, none⟩ = some (.bool gu) ∧ W.cell? ⟨w4.heap.size, 1, none⟩ = some (.slice Au nu cu) ∧ W.cell? ⟨w4.heap.size + 1, 0, none⟩ = some (.bool gb) ∧ W.cell? ⟨w4.heap.size + 1, 1, none⟩ = some (.slice Ab nb cb) ∧ W.cell? ⟨po, 0, none⟩ = some (.bool go) ∧ W.cell? ⟨po, 1, none⟩ = some (.slice Ao no co) ∧ HL w [⟨w.heap.size, ga, Aa, na, ca, x⟩, ⟨w.heap.size + 1, gb, Ab, nb, cb, y⟩, ⟨w3.heap.size, gq, Aq, nq, cq, x / y⟩, ⟨w3.heap.size + 1, gv, Av, nv, cv, x % y⟩, ⟨w4.heap.size, gu, Au, nu, cu, Z.fl x y⟩, ⟨w4.heap.size + 1, gb, Ab, nb, cb, y⟩, ⟨po, go, Ao, no, co, x - Z.fl x y * y⟩] [⟨w3.heap.size, gq, Aq, nq, cq, x / y⟩, ⟨w3.heap.size + 1, gv, Av, nv, cv, x % y⟩, ⟨w4.heap.size, gu, Au, nu, cu, Z.fl x y⟩, ⟨po, go, Ao, no, co, x - Z.fl x y * y⟩] W)  => C3.out W _ _ _ _ _ _ _ _ (q.2.2.2.2.2.2.2.2.2.2.2.2.2.2.1 _ (.tail _ (.tail _ (.tail _ (.head _))))).num (q.2.2.2.2.2.2.2.2.2.2.2.2.2.2.1 _ (.tail _ (.tail _ (.tail _ (.tail _ (.tail _ (.head _))))))).num
    have K8 := Lib.hid fun (W : World) (q : W.cell? ⟨w.heap.size, 0, none⟩ = some (.bool ga) ∧ W.cell? ⟨w.heap.size, 1, none⟩ = some (.slice Aa na ca) ∧ W.cell? ⟨w.heap.size + 1, 0, none⟩ = some (.bool gb) ∧ W.cell? ⟨w.heap.size + 1, 1, none⟩ = some (.slice Ab nb cb) ∧ W.cell? ⟨w3.heap.size, 0, none⟩ = some (.bool gq) ∧ W.cell? ⟨w3.heap.size, 1, none⟩ = some (.slice Aq nq cq) ∧ W.cell? ⟨w3.heap.size + 1, 0, none⟩ = some (.bool gv) ∧ W.cell? ⟨w3.heap.size + 1, 1, none⟩ = some (.slice Av nv cv) ∧ W.cell? ⟨w4.heap.size, 0, none⟩ = some (.bool gu) ∧ W.cell? ⟨w4.heap.size, 1, none⟩ = some (.slice Au nu cu) ∧ W.cell? ⟨w4.heap.size + 1, 0, none⟩ = some (.bool gb) ∧ W.cell? ⟨w4.heap.size + 1, 1, none⟩ = some (.slice Ab nb cb) ∧ W.cell? ⟨po, 0, none⟩ = some (.bool go) ∧ W.cell? ⟨po, 1, none⟩ = some (.slice Ao no co) ∧ HL w [⟨w.heap.size, ga, Aa, na, ca, x⟩, ⟨w.heap.size + 1, gb, Ab, nb, cb, y⟩, ⟨w3.heap.size, gq, Aq, nq, cq, x / y⟩, ⟨w3.heap.size + 1, gv, Av, nv, cv, x % y⟩, ⟨w4.heap.size, gu, Au, nu, cu, Z.fl x y⟩, ⟨w4.heap.size + 1, gb, Ab, nb, cb, y⟩, ⟨po, go, Ao, no, co, x - Z.fl x y * y⟩] [⟨w3.heap.size, gq, Aq, nq, cq, x / y⟩, ⟨w3.heap.size + 1, gv, Av, nv, cv, x % y⟩, ⟨w4.heap.size, gu, Au, nu, cu, Z.fl x y⟩, ⟨po, go, Ao, no, co, x - Z.fl x y * y⟩] W)  => C4.out W _ _ _ _ (q.2.2.2.2.2.2.2.2.2.2.2.2.2.2.1 _ (.tail _ (.tail _ (.tail _ (.tail _ (.tail _ (.tail _ (.head _)))))))).num
    have K9 := Lib.hid fun (W : World) (q : W.cell? ⟨w.heap.size, 0, none⟩ = some (.bool ga) ∧ W.cell? ⟨w.heap.size, 1, none⟩ = some (.slice Aa na ca) ∧ W.cell? ⟨w.heap.size + 1, 0, none⟩ = some (.bool gb) ∧ W.cell? ⟨w.heap.size + 1, 1, none⟩ = some (.slice Ab nb cb) ∧ W.cell? ⟨w3.heap.size, 0, none⟩ = some (.bool gq) ∧ W.cell? ⟨w3.heap.size, 1, none⟩ = some (.slice Aq nq cq) ∧ W.cell? ⟨w3.heap.size + 1, 0, none⟩ = some (.bool gv) ∧ W.cell? ⟨w3.heap.size + 1, 1, none⟩ = some (.slice Av nv cv) ∧ W.cell? ⟨w4.heap.size, 0, none⟩ = some (.bool gu) ∧ W.cell? ⟨w4.heap.size, 1, none⟩ = some (.slice Au nu cu) ∧ W.cell? ⟨w4.heap.size + 1, 0, none⟩ = some (.bool gb) ∧ W.cell? ⟨w4.heap.size + 1, 1, none⟩ = some (.slice Ab nb cb) ∧ W.cell? ⟨po, 0, none⟩ = some (.bool go) ∧ W.cell? ⟨po, 1, none⟩ = some (.slice Ao no co) ∧ HL w [⟨w.heap.size, ga, Aa, na, ca, x⟩, ⟨w.heap.size + 1, gb, Ab, nb, cb, y⟩, ⟨w3.heap.size, gq, Aq, nq, cq, x / y⟩, ⟨w3.heap.size + 1, gv, Av, nv, cv, x % y⟩, ⟨w4.heap.size, gu, Au, nu, cu, Z.fl x y⟩, ⟨w4.heap.size + 1, gb, Ab, nb, cb, y⟩, ⟨po, go, Ao, no, co, x - Z.fl x y * y⟩] [⟨w3.heap.size, gq, Aq, nq, cq, x / y⟩, ⟨w3.heap.size + 1, gv, Av, nv, cv, x % y⟩, ⟨w4.heap.size, gu, Au, nu, cu, Z.fl x y⟩, ⟨po, go, Ao, no, co, x - Z.fl x y * y⟩] W)  => C5.out W _ _ _ _ _ _ _ _ (q.2.2.2.2.2.2.2.2.2.2.2.2.2.2.1 _ (.tail _ (.tail _ (.tail _ (.tail _ (.tail _ (.tail _ (.head _)))))))).num (q.2.2.2.2.2.2.2.2.2.2.2.2.2.2.1 _ (.tail _ (.tail _ (.tail _ (.tail _ (.tail _ (.head _))))))).num
    have HS := Lib.hid (start7 Ba Bb Bq Bv Bu Bd Bo (bl := bl) (M := [⟨w3.heap.size, gq, Aq, nq, cq, x / y⟩, ⟨w3.heap.size + 1, gv, Av, nv, cv, x % y⟩, ⟨w4.heap.size, gu, Au, nu, cu, Z.fl x y⟩, ⟨po, go, Ao, no, co, x - Z.fl x y * y⟩]) (hM := (own4 Nq Nv Nu No)))
    clear Ba Bb Bq Bv Bu Bd Bo Nq Nv Nu No bl
    have hsr1 := hsr.out
    have hso1 := hso.out
    go_region_held3 (fun w' => w'.cell? ⟨w.heap.size, 0, none⟩ = some (.bool ga) ∧ w'.cell? ⟨w.heap.size, 1, none⟩ = some (.slice Aa na ca) ∧ w'.cell? ⟨w.heap.size + 1, 0, none⟩ = some (.bool gb) ∧ w'.cell? ⟨w.heap.size + 1, 1, none⟩ = some (.slice Ab nb cb) ∧ w'.cell? ⟨w3.heap.size, 0, none⟩ = some (.bool gq) ∧ w'.cell? ⟨w3.heap.size, 1, none⟩ = some (.slice Aq nq cq) ∧ w'.cell? ⟨w3.heap.size + 1, 0, none⟩ = some (.bool gv) ∧ w'.cell? ⟨w3.heap.size + 1, 1, none⟩ = some (.slice Av nv cv) ∧ w'.cell? ⟨w4.heap.size, 0, none⟩ = some (.bool gu) ∧ w'.cell? ⟨w4.heap.size, 1, none⟩ = some (.slice Au nu cu) ∧ w'.cell? ⟨w4.heap.size + 1, 0, none⟩ = some (.bool gb) ∧ w'.cell? ⟨w4.heap.size + 1, 1, none⟩ = some (.slice Ab nb cb) ∧ w'.cell? ⟨po, 0, none⟩ = some (.bool go) ∧ w'.cell? ⟨po, 1, none⟩ = some (.slice Ao no co) ∧ HL w [⟨w.heap.size, ga, Aa, na, ca, x⟩, ⟨w.heap.size + 1, gb, Ab, nb, cb, y⟩, ⟨w3.heap.size, gq, Aq, nq, cq, x / y⟩, ⟨w3.heap.size + 1, gv, Av, nv, cv, x % y⟩, ⟨w4.heap.size, gu, Au, nu, cu, Z.fl x y⟩, ⟨w4.heap.size + 1, gb, Ab, nb, cb, y⟩, ⟨po, go, Ao, no, co, x - Z.fl x y * y⟩] [⟨w3.heap.size, gq, Aq, nq, cq, x / y⟩, ⟨w3.heap.size + 1, gv, Av, nv, cv, x % y⟩, ⟨w4.heap.size, gu, Au, nu, cu, Z.fl x y⟩, ⟨po, go, Ao, no, co, x - Z.fl x y * y⟩] w')
      (first | exact keepZ7 (by assumption) (by assumption) | exact HS.out)
      (first | (go_at_call 20; (with_reducible refine (K3.out _ ?_ ).mono ?_); assumption; rintro e w9 ⟨vm, rfl, mm, b9⟩; obtain ⟨gm, Am, nm, cm, rfl, im, Nm⟩ := mm.open lm.out (by omega); clear mm) | (go_at_call 16; (with_reducible refine (K4.out _ ?_ _ _ _ _ ?_ ?_).mono ?_); assumption; exact im; exact Nm; rintro e w10 ⟨vs, rfl, ms, b10⟩; replace im := im.below b10; replace Nm := Nm.below b10; obtain ⟨gs, As, ns, cs, rfl, is, Ns⟩ := ms.open ls.out (by omega); clear ms) | (go_at_call 22; (with_reducible refine (K5.out _ ?_ _ _ _ _ ?_ ?_).mono ?_); assumption; exact is; exact Ns; rintro e w11 ⟨rfl, b11⟩; replace im := im.below b11; replace Nm := Nm.below b11; replace is := is.below b11; replace Ns := Ns.below b11) | (go_at_call 24; (with_reducible refine (K6.out _ ?_ ).mono ?_); assumption; rintro e w12 ⟨rfl, b12⟩; replace im := im.below b12; replace Nm := Nm.below b12; replace is := is.below b12; replace Ns := Ns.below b12) | (go_at_call 22; (with_reducible refine (K7.out _ ?_ ).mono ?_); assumption; rintro e w13 ⟨rfl, b13⟩; replace im := im.below b13; replace Nm := Nm.below b13; replace is := is.below b13; replace Ns := Ns.below b13) | (go_at_call 24; (with_reducible refine (K8.out _ ?_ ).mono ?_); assumption; rintro e w14 ⟨rfl, b14⟩; replace im := im.below b14; replace Nm := Nm.below b14; replace is := is.below b14; replace Ns := Ns.below b14) | (go_at_call 22; (with_reducible refine (K9.out _ ?_ ).mono ?_); assumption; rintro e w15 ⟨rfl, b15⟩; replace im := im.below b15; replace Nm := Nm.below b15; replace is := is.below b15; replace Ns := Ns.below b15))
    rename_i hh
    have hh := hh.2.2.2.2.2.2.2.2.2.2.2.2.2.2
    have Ba : BoxZ w15 (w.heap.size) ga Aa na ca (x) := hh.1 _ (.head _)
    have Bb : BoxZ w15 (w.heap.size + 1) gb Ab nb cb (y) := hh.1 _ (.tail _ (.head _))
    have Bq : BoxZ w15 (w3.heap.size) gq Aq nq cq (x / y) := hh.1 _ (.tail _ (.tail _ (.head _)))
    have Bv : BoxZ w15 (w3.heap.size + 1) gv Av nv cv (x % y) := hh.1 _ (.tail _ (.tail _ (.tail _ (.head _))))
    have Bu : BoxZ w15 (w4.heap.size) gu Au nu cu (Z.fl x y) := hh.1 _ (.tail _ (.tail _ (.tail _ (.tail _ (.head _)))))
    have Bd : BoxZ w15 (w4.heap.size + 1) gb Ab nb cb (y) := hh.1 _ (.tail _ (.tail _ (.tail _ (.tail _ (.tail _ (.head _))))))
    have Bo : BoxZ w15 (po) go Ao no co (x - Z.fl x y * y) := hh.1 _ (.tail _ (.tail _ (.tail _ (.tail _ (.tail _ (.tail _ (.head _)))))))
    have Nq : WNum w15 (.agg #[.bool gq, .slice Aq nq cq]) (x / y) := hh.2.1 _ (.head _)
    have Nv : WNum w15 (.agg #[.bool gv, .slice Av nv cv]) (x % y) := hh.2.1 _ (.tail _ (.head _))
    have Nu : WNum w15 (.agg #[.bool gu, .slice Au nu cu]) (Z.fl x y) := hh.2.1 _ (.tail _ (.tail _ (.head _)))
    have No : WNum w15 (.agg #[.bool go, .slice Ao no co]) (x - Z.fl x y * y) := hh.2.1 _ (.tail _ (.tail _ (.tail _ (.head _))))
    have bl := hh.2.2
    clear hh HS K3 K4 K5 K6 K7 K8 K9
    clear im Nm lm is Ns ls
    go_wp2_with fail
    go_ret
    exact ⟨by simp, bl⟩

set_option maxRecDepth 100000 in
set_option maxHeartbeats 16000000 in
theorem wholeBack_zero (ga : Bool) (Aa : Option Addr) (na ca : Nat) (gb : Bool) (Ab : Option Addr) (nb cb : Nat) (x y : Int) (w : World) (ha : WIn w ga Aa na ca x) (hb : WIn w gb Ab nb cb y) (h1 : na ≤ 60) (h2 : nb ≤ 60) (hy : y = 0) :
    Calls Try.prog 6 #[.agg #[.bool ga, .slice Aa na ca], .agg #[.bool gb, .slice Ab nb cb]] w fun e w' => e = .returned (.bool true) ∧ Below w.heap.size w w' := by
  have HY := Lib.hid hy
  have HSB := Lib.hid fun (W : World) (q : WIn W gb Ab nb cb y) => sign_w gb Ab nb cb y W q
  rw [show Z.sgn y = 0 by rw [hy]; rfl] at HSB
  clear hy
  go_enter Try.func6, Try.ntmps6
  obtain ⟨bl, Bap, Bbp⟩ := loc2 w ga Aa na ca gb Ab nb cb
  have Ba : BoxZ _ _ ga Aa na ca x := ⟨Bap, ha.below bl⟩
  clear Bap
  have Bb : BoxZ _ _ gb Ab nb cb y := ⟨Bbp, hb.below bl⟩
  clear Bbp
  obtain ⟨a0, a1, a2, a3'⟩ := Ba.box
  obtain ⟨b0, b1, b2, b3'⟩ := Bb.box
  go_wp2_with fail
  clear a0 a1 a2 a3' b0 b1 b2 b3'
  refine (awake_w _).mono ?_
  rintro e w1 ⟨rfl, b1⟩
  replace Ba := Ba.below b1
  replace Bb := Bb.below b1
  replace bl := bl.trans (b1.mono bl.size)
  clear b1
  obtain ⟨a0, a1, a2, a3'⟩ := Ba.box
  obtain ⟨b0, b1, b2, b3'⟩ := Bb.box
  go_wp2_with fail
  clear a0 a1 a2 a3' b0 b1 b2 b3'
  refine (few_w _ _ _ _ _ _ _ _ true 60 _ (by omega) (by unfold maxLen; omega) (by unfold maxLen; omega) (by simp [h1, h2])).mono ?_
  rintro e w2 ⟨rfl, b2⟩
  replace Ba := Ba.below b2
  replace Bb := Bb.below b2
  replace bl := bl.trans (b2.mono bl.size)
  clear b2
  obtain ⟨a0, a1, a2, a3'⟩ := Ba.box
  obtain ⟨b0, b1, b2, b3'⟩ := Bb.box
  go_wp2_with fail
  clear a0 a1 a2 a3' b0 b1 b2 b3'
  refine (divMod_w_zero _ _ _ _ _ _ _ _ _ _ _ Ba.num Bb.num HY.out).mono ?_
  rintro e w3 ⟨rfl, b3⟩
  replace Ba := Ba.below b3
  replace Bb := Bb.below b3
  replace bl := bl.trans (b3.mono bl.size)
  clear b3
  have iq := win_nil w3
  have Nq := wnum_nil w3
  have ir := win_nil w3
  have Nr := wnum_nil w3
  obtain ⟨a0, a1, a2, a3'⟩ := Ba.box
  obtain ⟨b0, b1, b2, b3'⟩ := Bb.box
  go_wp2_with fail
  clear a0 a1 a2 a3' b0 b1 b2 b3'
  obtain ⟨ex, Bqp, Brp⟩ := loc2 w3 false none 0 0 false none 0 0
  replace Ba := Ba.below ex
  replace Bb := Bb.below ex
  replace iq := iq.below ex
  replace Nq := Nq.below ex
  replace ir := ir.below ex
  replace Nr := Nr.below ex
  replace bl := bl.trans (ex.mono bl.size)
  have Bq : BoxZ _ _ false none 0 0 (0) := ⟨Bqp, iq⟩
  clear Bqp iq
  have Br : BoxZ _ _ false none 0 0 (0) := ⟨Brp, ir⟩
  clear Brp ir
  clear ex
  refine (floor_w_zero _ _ _ _ _ _ _ _ _ _ _ Ba.num Bb.num HY.out).mono ?_
  rintro e w4 ⟨rfl, b4⟩
  replace Ba := Ba.below b4
  replace Bb := Bb.below b4
  replace Bq := Bq.below b4
  replace Nq := Nq.below b4
  replace Br := Br.below b4
  replace Nr := Nr.below b4
  replace bl := bl.trans (b4.mono bl.size)
  clear b4
  have iu := win_nil w4
  have Nu := wnum_nil w4
  obtain ⟨a0, a1, a2, a3'⟩ := Ba.box
  obtain ⟨b0, b1, b2, b3'⟩ := Bb.box
  obtain ⟨q0, q1, q2, q3'⟩ := Bq.box
  obtain ⟨r0, r1, r2, r3'⟩ := Br.box
  go_wp2_with fail
  clear a0 a1 a2 a3' b0 b1 b2 b3' q0 q1 q2 q3' r0 r1 r2 r3'
  obtain ⟨ex, Bup⟩ := loc1 w4 false none 0 0
  replace Ba := Ba.below ex
  replace Bb := Bb.below ex
  replace Bq := Bq.below ex
  replace Nq := Nq.below ex
  replace Br := Br.below ex
  replace Nr := Nr.below ex
  replace iu := iu.below ex
  replace Nu := Nu.below ex
  replace bl := bl.trans (ex.mono bl.size)
  have Bu : BoxZ _ _ false none 0 0 (0) := ⟨Bup, iu⟩
  clear Bup iu
  clear ex
  refine (HSB.out _ Bb.num).mono ?_
  rintro e w5 ⟨rfl, b5⟩
  replace Ba := Ba.below b5
  replace Bb := Bb.below b5
  replace Bq := Bq.below b5
  replace Nq := Nq.below b5
  replace Br := Br.below b5
  replace Nr := Nr.below b5
  replace Bu := Bu.below b5
  replace Nu := Nu.below b5
  replace bl := bl.trans (b5.mono bl.size)
  clear b5
  go_wp2_with fail
  go_ret
  exact ⟨by simp, bl⟩
end Go.Proofs.Ytiehkciofggonaa
