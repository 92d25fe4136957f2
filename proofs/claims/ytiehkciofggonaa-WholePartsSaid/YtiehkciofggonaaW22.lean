/- WholeParts: its walk. -/
import Derived.Test.YtiehkciofggonaaW21
namespace Go.Proofs.Ytiehkciofggonaa
open Go.RowKit

set_option maxRecDepth 100000 in
set_option maxHeartbeats 16000000 in
theorem wholeParts_yes (ga : Bool) (Aa : Option Addr) (na ca : Nat) (gb : Bool) (Ab : Option Addr) (nb cb : Nat) (x y : Int) (X : Nat) (w : World) (ha : WIn w ga Aa na ca x) (hb : WIn w gb Ab nb cb y) (la : Hid (x.natAbs < M.BB ^ X)) (lb : Hid (y.natAbs < M.BB ^ X)) (hX : X ≤ 100) (h1 : na ≤ 16) (h2 : nb ≤ 16) (hy : y ≠ 0) :
    Calls Try.prog 4 #[.agg #[.bool ga, .slice Aa na ca], .agg #[.bool gb, .slice Ab nb cb]] w fun e w' => e = .returned (.bool true) ∧ Below w.heap.size w w' := by
  have HY := Lib.hid hy
  have LQ := Lib.hid (lt_divZ la.out hy)
  have LR := Lib.hid (lt_modZ (z := x) lb.out hy)
  have LF := Lib.hid (lt_flZ la.out hy)
  clear hy
  go_enter Try.func4, Try.ntmps4
  obtain ⟨bl, Bap, Bbp⟩ := loc2 w ga Aa na ca gb Ab nb cb
  have Ba : BoxZ _ _ ga Aa na ca x := ⟨Bap, ha.below bl⟩
  clear Bap
  have Bb : BoxZ _ _ gb Ab nb cb y := ⟨Bbp, hb.below bl⟩
  clear Bbp
  obtain ⟨a0, a1, a2, a3'⟩ := Ba.box
  obtain ⟨b0, b1, b2, b3'⟩ := Bb.box
  go_wp2_with fail
  clear a0 a1 a2 a3' b0 b1 b2 b3'
  refine (awake_w _).mono ?_
  rintro e w1 ⟨rfl, b1⟩
  replace Ba := Ba.below b1
  replace Bb := Bb.below b1
  replace bl := bl.trans (b1.mono bl.size)
  clear b1
  obtain ⟨a0, a1, a2, a3'⟩ := Ba.box
  obtain ⟨b0, b1, b2, b3'⟩ := Bb.box
  go_wp2_with fail
  clear a0 a1 a2 a3' b0 b1 b2 b3'
  refine (few_w _ _ _ _ _ _ _ _ true 16 _ (by omega) (by unfold maxLen; omega) (by unfold maxLen; omega) (by simp [h1, h2])).mono ?_
  rintro e w2 ⟨rfl, b2⟩
  replace Ba := Ba.below b2
  replace Bb := Bb.below b2
  replace bl := bl.trans (b2.mono bl.size)
  clear b2
  obtain ⟨a0, a1, a2, a3'⟩ := Ba.box
  obtain ⟨b0, b1, b2, b3'⟩ := Bb.box
  go_wp2_with fail
  clear a0 a1 a2 a3' b0 b1 b2 b3'
  refine (divMod_w _ _ _ _ _ _ _ _ _ _ _ Ba.num Bb.num HY.out).mono ?_
  rintro e w3 ⟨vq, vr, rfl, mq, mr, b3⟩
  replace Ba := Ba.below b3
  replace Bb := Bb.below b3
  replace bl := bl.trans (b3.mono bl.size)
  clear b3
  obtain ⟨gq, Aq, nq, cq, rfl, iq, Nq⟩ := mq.open LQ.out (by omega)
  clear mq
  obtain ⟨gr, Ar, nr, cr, rfl, ir, Nr⟩ := mr.open LR.out (by omega)
  clear mr
  obtain ⟨a0, a1, a2, a3'⟩ := Ba.box
  obtain ⟨b0, b1, b2, b3'⟩ := Bb.box
  go_wp2_with fail
  clear a0 a1 a2 a3' b0 b1 b2 b3'
  obtain ⟨ex, Bqp, Brp⟩ := loc2 w3 gq Aq nq cq gr Ar nr cr
  replace Ba := Ba.below ex
  replace Bb := Bb.below ex
  replace iq := iq.below ex
  replace Nq := Nq.below ex
  replace ir := ir.below ex
  replace Nr := Nr.below ex
  replace bl := bl.trans (ex.mono bl.size)
  have Bq : BoxZ _ _ gq Aq nq cq (x / y) := ⟨Bqp, iq⟩
  clear Bqp iq
  have Br : BoxZ _ _ gr Ar nr cr (x % y) := ⟨Brp, ir⟩
  clear Brp ir
  clear ex
  refine (rdivMod_w _ _ _ _ _ _ _ _ x y X _ Ba.num Bb.num la lb (by omega) HY.out).mono ?_
  rintro e w4 ⟨vs, vt, rfl, ms, mt, b4⟩
  replace Ba := Ba.below b4
  replace Bb := Bb.below b4
  replace Bq := Bq.below b4
  replace Nq := Nq.below b4
  replace Br := Br.below b4
  replace Nr := Nr.below b4
  replace bl := bl.trans (b4.mono bl.size)
  clear b4
  obtain ⟨gs, As, ns, cs, rfl, is, Ns⟩ := ms.open LQ.out (by omega)
  clear ms
  obtain ⟨gt, At, nt, ct, rfl, it, Nt⟩ := mt.open LR.out (by omega)
  clear mt
  obtain ⟨a0, a1, a2, a3'⟩ := Ba.box
  obtain ⟨b0, b1, b2, b3'⟩ := Bb.box
  obtain ⟨q0, q1, q2, q3'⟩ := Bq.box
  obtain ⟨r0, r1, r2, r3'⟩ := Br.box
  go_wp2_with fail
  clear a0 a1 a2 a3' b0 b1 b2 b3' q0 q1 q2 q3' r0 r1 r2 r3'
  obtain ⟨ex, Bsp, Btp⟩ := loc2 w4 gs As ns cs gt At nt ct
  replace Ba := Ba.below ex
  replace Bb := Bb.below ex
  replace Bq := Bq.below ex
  replace Nq := Nq.below ex
  replace Br := Br.below ex
  replace Nr := Nr.below ex
  replace is := is.below ex
  replace Ns := Ns.below ex
  replace it := it.below ex
  replace Nt := Nt.below ex
  replace bl := bl.trans (ex.mono bl.size)
  have Bs : BoxZ _ _ gs As ns cs (x / y) := ⟨Bsp, is⟩
  clear Bsp is
  have Bt : BoxZ _ _ gt At nt ct (x % y) := ⟨Btp, it⟩
  clear Btp it
  clear ex
  refine (floor_w _ _ _ _ _ _ _ _ _ _ _ Ba.num Bb.num HY.out).mono ?_
  rintro e w5 ⟨vu, rfl, mu, b5⟩
  replace Ba := Ba.below b5
  replace Bb := Bb.below b5
  replace Bq := Bq.below b5
  replace Nq := Nq.below b5
  replace Br := Br.below b5
  replace Nr := Nr.below b5
  replace Bs := Bs.below b5
  replace Ns := Ns.below b5
  replace Bt := Bt.below b5
  replace Nt := Nt.below b5
  replace bl := bl.trans (b5.mono bl.size)
  clear b5
  obtain ⟨gu, Au, nu, cu, rfl, iu, Nu⟩ := mu.open LF.out (by omega)
  clear mu
  obtain ⟨a0, a1, a2, a3'⟩ := Ba.box
  obtain ⟨b0, b1, b2, b3'⟩ := Bb.box
  obtain ⟨q0, q1, q2, q3'⟩ := Bq.box
  obtain ⟨r0, r1, r2, r3'⟩ := Br.box
  obtain ⟨s0, s1, s2, s3'⟩ := Bs.box
  obtain ⟨t0, t1, t2, t3'⟩ := Bt.box
  go_wp2_with fail
  clear a0 a1 a2 a3' b0 b1 b2 b3' q0 q1 q2 q3' r0 r1 r2 r3' s0 s1 s2 s3' t0 t1 t2 t3'
  obtain ⟨ex, Bup⟩ := loc1 w5 gu Au nu cu
  replace Ba := Ba.below ex
  replace Bb := Bb.below ex
  replace Bq := Bq.below ex
  replace Nq := Nq.below ex
  replace Br := Br.below ex
  replace Nr := Nr.below ex
  replace Bs := Bs.below ex
  replace Ns := Ns.below ex
  replace Bt := Bt.below ex
  replace Nt := Nt.below ex
  replace iu := iu.below ex
  replace Nu := Nu.below ex
  replace bl := bl.trans (ex.mono bl.size)
  have Bu : BoxZ _ _ gu Au nu cu (Z.fl x y) := ⟨Bup, iu⟩
  clear Bup iu
  clear ex
  refine (rfloor_w _ _ _ _ _ _ _ _ x y X _ Ba.num Bb.num la lb (by omega) (by omega) (by omega) HY.out).mono ?_
  rintro e w6 ⟨vv, rfl, mv, b6⟩
  replace Ba := Ba.below b6
  replace Bb := Bb.below b6
  replace Bq := Bq.below b6
  replace Nq := Nq.below b6
  replace Br := Br.below b6
  replace Nr := Nr.below b6
  replace Bs := Bs.below b6
  replace Ns := Ns.below b6
  replace Bt := Bt.below b6
  replace Nt := Nt.below b6
  replace Bu := Bu.below b6
  replace Nu := Nu.below b6
  replace bl := bl.trans (b6.mono bl.size)
  clear b6
  obtain ⟨gv, Av, nv, cv, rfl, iv, Nv⟩ := mv.open LF.out (by omega)
  clear mv
  obtain ⟨a0, a1, a2, a3'⟩ := Ba.box
  obtain ⟨b0, b1, b2, b3'⟩ := Bb.box
  obtain ⟨q0, q1, q2, q3'⟩ := Bq.box
  obtain ⟨r0, r1, r2, r3'⟩ := Br.box
  obtain ⟨s0, s1, s2, s3'⟩ := Bs.box
  obtain ⟨t0, t1, t2, t3'⟩ := Bt.box
  obtain ⟨u0, u1, u2, u3'⟩ := Bu.box
  go_wp2_with fail
  clear a0 a1 a2 a3' b0 b1 b2 b3' q0 q1 q2 q3' r0 r1 r2 r3' s0 s1 s2 s3' t0 t1 t2 t3' u0 u1 u2 u3'
  obtain ⟨ex, Bvp⟩ := loc1 w6 gv Av nv cv
  replace Ba := Ba.below ex
  replace Bb := Bb.below ex
  replace Bq := Bq.below ex
  replace Nq := Nq.below ex
  replace Br := Br.below ex
  replace Nr := Nr.below ex
  replace Bs := Bs.below ex
  replace Ns := Ns.below ex
  replace Bt := Bt.below ex
  replace Nt := Nt.below ex
  replace Bu := Bu.below ex
  replace Nu := Nu.below ex
  replace iv := iv.below ex
  replace Nv := Nv.below ex
  replace bl := bl.trans (ex.mono bl.size)
  have Bv : BoxZ _ _ gv Av nv cv (Z.fl x y) := ⟨Bvp, iv⟩
  clear Bvp iv
  clear ex
  refine (same_w Nq Ns rfl).mono ?_
  rintro e w7 ⟨rfl, b7⟩
  replace Ba := Ba.below b7
  replace Bb := Bb.below b7
  replace Bq := Bq.below b7
  replace Nq := Nq.below b7
  replace Br := Br.below b7
  replace Nr := Nr.below b7
  replace Bs := Bs.below b7
  replace Ns := Ns.below b7
  replace Bt := Bt.below b7
  replace Nt := Nt.below b7
  replace Bu := Bu.below b7
  replace Nu := Nu.below b7
  replace Bv := Bv.below b7
  replace Nv := Nv.below b7
  replace bl := bl.trans (b7.mono bl.size)
  clear b7
  obtain ⟨a0, a1, a2, a3'⟩ := Ba.box
  obtain ⟨b0, b1, b2, b3'⟩ := Bb.box
  obtain ⟨q0, q1, q2, q3'⟩ := Bq.box
  obtain ⟨r0, r1, r2, r3'⟩ := Br.box
  obtain ⟨s0, s1, s2, s3'⟩ := Bs.box
  obtain ⟨t0, t1, t2, t3'⟩ := Bt.box
  obtain ⟨u0, u1, u2, u3'⟩ := Bu.box
  obtain ⟨v0, v1, v2, v3'⟩ := Bv.box
  go_wp2_with fail
  clear a0 a1 a2 a3' b0 b1 b2 b3' q0 q1 q2 q3' r0 r1 r2 r3' s0 s1 s2 s3' t0 t1 t2 t3' u0 u1 u2 u3' v0 v1 v2 v3'
  refine (same_w Nr Nt rfl).mono ?_
  rintro e w8 ⟨rfl, b8⟩
  replace Ba := Ba.below b8
  replace Bb := Bb.below b8
  replace Bq := Bq.below b8
  replace Nq := Nq.below b8
  replace Br := Br.below b8
  replace Nr := Nr.below b8
  replace Bs := Bs.below b8
  replace Ns := Ns.below b8
  replace Bt := Bt.below b8
  replace Nt := Nt.below b8
  replace Bu := Bu.below b8
  replace Nu := Nu.below b8
  replace Bv := Bv.below b8
  replace Nv := Nv.below b8
  replace bl := bl.trans (b8.mono bl.size)
  clear b8
  obtain ⟨a0, a1, a2, a3'⟩ := Ba.box
  obtain ⟨b0, b1, b2, b3'⟩ := Bb.box
  obtain ⟨q0, q1, q2, q3'⟩ := Bq.box
  obtain ⟨r0, r1, r2, r3'⟩ := Br.box
  obtain ⟨s0, s1, s2, s3'⟩ := Bs.box
  obtain ⟨t0, t1, t2, t3'⟩ := Bt.box
  obtain ⟨u0, u1, u2, u3'⟩ := Bu.box
  obtain ⟨v0, v1, v2, v3'⟩ := Bv.box
  go_wp2_with fail
  clear a0 a1 a2 a3' b0 b1 b2 b3' q0 q1 q2 q3' r0 r1 r2 r3' s0 s1 s2 s3' t0 t1 t2 t3' u0 u1 u2 u3' v0 v1 v2 v3'
  refine (same_w Nu Nv rfl).mono ?_
  rintro e w9 ⟨rfl, b9⟩
  replace Ba := Ba.below b9
  replace Bb := Bb.below b9
  replace Bq := Bq.below b9
  replace Nq := Nq.below b9
  replace Br := Br.below b9
  replace Nr := Nr.below b9
  replace Bs := Bs.below b9
  replace Ns := Ns.below b9
  replace Bt := Bt.below b9
  replace Nt := Nt.below b9
  replace Bu := Bu.below b9
  replace Nu := Nu.below b9
  replace Bv := Bv.below b9
  replace Nv := Nv.below b9
  replace bl := bl.trans (b9.mono bl.size)
  clear b9
  go_wp2_with fail
  go_ret
  exact ⟨by simp, bl⟩

set_option maxRecDepth 100000 in
set_option maxHeartbeats 16000000 in
theorem wholeParts_zero (ga : Bool) (Aa : Option Addr) (na ca : Nat) (gb : Bool) (Ab : Option Addr) (nb cb : Nat) (x y : Int) (w : World) (ha : WIn w ga Aa na ca x) (hb : WIn w gb Ab nb cb y) (h1 : na ≤ 16) (h2 : nb ≤ 16) (hy : y = 0) :
    Calls Try.prog 4 #[.agg #[.bool ga, .slice Aa na ca], .agg #[.bool gb, .slice Ab nb cb]] w fun e w' => e = .returned (.bool true) ∧ Below w.heap.size w w' := by
  have HY := Lib.hid hy
  clear hy
  go_enter Try.func4, Try.ntmps4
  obtain ⟨bl, Bap, Bbp⟩ := loc2 w ga Aa na ca gb Ab nb cb
  have Ba : BoxZ _ _ ga Aa na ca x := ⟨Bap, ha.below bl⟩
  clear Bap
  have Bb : BoxZ _ _ gb Ab nb cb y := ⟨Bbp, hb.below bl⟩
  clear Bbp
  obtain ⟨a0, a1, a2, a3'⟩ := Ba.box
  obtain ⟨b0, b1, b2, b3'⟩ := Bb.box
  go_wp2_with fail
  clear a0 a1 a2 a3' b0 b1 b2 b3'
  refine (awake_w _).mono ?_
  rintro e w1 ⟨rfl, b1⟩
  replace Ba := Ba.below b1
  replace Bb := Bb.below b1
  replace bl := bl.trans (b1.mono bl.size)
  clear b1
  obtain ⟨a0, a1, a2, a3'⟩ := Ba.box
  obtain ⟨b0, b1, b2, b3'⟩ := Bb.box
  go_wp2_with fail
  clear a0 a1 a2 a3' b0 b1 b2 b3'
  refine (few_w _ _ _ _ _ _ _ _ true 16 _ (by omega) (by unfold maxLen; omega) (by unfold maxLen; omega) (by simp [h1, h2])).mono ?_
  rintro e w2 ⟨rfl, b2⟩
  replace Ba := Ba.below b2
  replace Bb := Bb.below b2
  replace bl := bl.trans (b2.mono bl.size)
  clear b2
  obtain ⟨a0, a1, a2, a3'⟩ := Ba.box
  obtain ⟨b0, b1, b2, b3'⟩ := Bb.box
  go_wp2_with fail
  clear a0 a1 a2 a3' b0 b1 b2 b3'
  refine (divMod_w_zero _ _ _ _ _ _ _ _ _ _ _ Ba.num Bb.num HY.out).mono ?_
  rintro e w3 ⟨rfl, b3⟩
  replace Ba := Ba.below b3
  replace Bb := Bb.below b3
  replace bl := bl.trans (b3.mono bl.size)
  clear b3
  have iq := win_nil w3
  have Nq := wnum_nil w3
  have ir := win_nil w3
  have Nr := wnum_nil w3
  obtain ⟨a0, a1, a2, a3'⟩ := Ba.box
  obtain ⟨b0, b1, b2, b3'⟩ := Bb.box
  go_wp2_with fail
  clear a0 a1 a2 a3' b0 b1 b2 b3'
  obtain ⟨ex, Bqp, Brp⟩ := loc2 w3 false none 0 0 false none 0 0
  replace Ba := Ba.below ex
  replace Bb := Bb.below ex
  replace iq := iq.below ex
  replace Nq := Nq.below ex
  replace ir := ir.below ex
  replace Nr := Nr.below ex
  replace bl := bl.trans (ex.mono bl.size)
  have Bq : BoxZ _ _ false none 0 0 (0) := ⟨Bqp, iq⟩
  clear Bqp iq
  have Br : BoxZ _ _ false none 0 0 (0) := ⟨Brp, ir⟩
  clear Brp ir
  clear ex
  refine (rdivMod_w_zero _ _ _ _ _ _ _ _ x y _ Ba.num Bb.num HY.out).mono ?_
  rintro e w4 ⟨rfl, b4⟩
  replace Ba := Ba.below b4
  replace Bb := Bb.below b4
  replace Bq := Bq.below b4
  replace Nq := Nq.below b4
  replace Br := Br.below b4
  replace Nr := Nr.below b4
  replace bl := bl.trans (b4.mono bl.size)
  clear b4
  have is := win_nil w4
  have Ns := wnum_nil w4
  have it := win_nil w4
  have Nt := wnum_nil w4
  obtain ⟨a0, a1, a2, a3'⟩ := Ba.box
  obtain ⟨b0, b1, b2, b3'⟩ := Bb.box
  obtain ⟨q0, q1, q2, q3'⟩ := Bq.box
  obtain ⟨r0, r1, r2, r3'⟩ := Br.box
  go_wp2_with fail
  clear a0 a1 a2 a3' b0 b1 b2 b3' q0 q1 q2 q3' r0 r1 r2 r3'
  obtain ⟨ex, Bsp, Btp⟩ := loc2 w4 false none 0 0 false none 0 0
  replace Ba := Ba.below ex
  replace Bb := Bb.below ex
  replace Bq := Bq.below ex
  replace Nq := Nq.below ex
  replace Br := Br.below ex
  replace Nr := Nr.below ex
  replace is := is.below ex
  replace Ns := Ns.below ex
  replace it := it.below ex
  replace Nt := Nt.below ex
  replace bl := bl.trans (ex.mono bl.size)
  have Bs : BoxZ _ _ false none 0 0 (0) := ⟨Bsp, is⟩
  clear Bsp is
  have Bt : BoxZ _ _ false none 0 0 (0) := ⟨Btp, it⟩
  clear Btp it
  clear ex
  refine (floor_w_zero _ _ _ _ _ _ _ _ _ _ _ Ba.num Bb.num HY.out).mono ?_
  rintro e w5 ⟨rfl, b5⟩
  replace Ba := Ba.below b5
  replace Bb := Bb.below b5
  replace Bq := Bq.below b5
  replace Nq := Nq.below b5
  replace Br := Br.below b5
  replace Nr := Nr.below b5
  replace Bs := Bs.below b5
  replace Ns := Ns.below b5
  replace Bt := Bt.below b5
  replace Nt := Nt.below b5
  replace bl := bl.trans (b5.mono bl.size)
  clear b5
  have iu := win_nil w5
  have Nu := wnum_nil w5
  obtain ⟨a0, a1, a2, a3'⟩ := Ba.box
  obtain ⟨b0, b1, b2, b3'⟩ := Bb.box
  obtain ⟨q0, q1, q2, q3'⟩ := Bq.box
  obtain ⟨r0, r1, r2, r3'⟩ := Br.box
  obtain ⟨s0, s1, s2, s3'⟩ := Bs.box
  obtain ⟨t0, t1, t2, t3'⟩ := Bt.box
  go_wp2_with fail
  clear a0 a1 a2 a3' b0 b1 b2 b3' q0 q1 q2 q3' r0 r1 r2 r3' s0 s1 s2 s3' t0 t1 t2 t3'
  obtain ⟨ex, Bup⟩ := loc1 w5 false none 0 0
  replace Ba := Ba.below ex
  replace Bb := Bb.below ex
  replace Bq := Bq.below ex
  replace Nq := Nq.below ex
  replace Br := Br.below ex
  replace Nr := Nr.below ex
  replace Bs := Bs.below ex
  replace Ns := Ns.below ex
  replace Bt := Bt.below ex
  replace Nt := Nt.below ex
  replace iu := iu.below ex
  replace Nu := Nu.below ex
  replace bl := bl.trans (ex.mono bl.size)
  have Bu : BoxZ _ _ false none 0 0 (0) := ⟨Bup, iu⟩
  clear Bup iu
  clear ex
  refine (rfloor_w_zero _ _ _ _ _ _ _ _ x y _ Ba.num Bb.num (by omega) HY.out).mono ?_
  rintro e w6 ⟨rfl, b6⟩
  replace Ba := Ba.below b6
  replace Bb := Bb.below b6
  replace Bq := Bq.below b6
  replace Nq := Nq.below b6
  replace Br := Br.below b6
  replace Nr := Nr.below b6
  replace Bs := Bs.below b6
  replace Ns := Ns.below b6
  replace Bt := Bt.below b6
  replace Nt := Nt.below b6
  replace Bu := Bu.below b6
  replace Nu := Nu.below b6
  replace bl := bl.trans (b6.mono bl.size)
  clear b6
  have iv := win_nil w6
  have Nv := wnum_nil w6
  obtain ⟨a0, a1, a2, a3'⟩ := Ba.box
  obtain ⟨b0, b1, b2, b3'⟩ := Bb.box
  obtain ⟨q0, q1, q2, q3'⟩ := Bq.box
  obtain ⟨r0, r1, r2, r3'⟩ := Br.box
  obtain ⟨s0, s1, s2, s3'⟩ := Bs.box
  obtain ⟨t0, t1, t2, t3'⟩ := Bt.box
  obtain ⟨u0, u1, u2, u3'⟩ := Bu.box
  go_wp2_with fail
  clear a0 a1 a2 a3' b0 b1 b2 b3' q0 q1 q2 q3' r0 r1 r2 r3' s0 s1 s2 s3' t0 t1 t2 t3' u0 u1 u2 u3'
  obtain ⟨ex, Bvp⟩ := loc1 w6 false none 0 0
  replace Ba := Ba.below ex
  replace Bb := Bb.below ex
  replace Bq := Bq.below ex
  replace Nq := Nq.below ex
  replace Br := Br.below ex
  replace Nr := Nr.below ex
  replace Bs := Bs.below ex
  replace Ns := Ns.below ex
  replace Bt := Bt.below ex
  replace Nt := Nt.below ex
  replace Bu := Bu.below ex
  replace Nu := Nu.below ex
  replace iv := iv.below ex
  replace Nv := Nv.below ex
  replace bl := bl.trans (ex.mono bl.size)
  have Bv : BoxZ _ _ false none 0 0 (0) := ⟨Bvp, iv⟩
  clear Bvp iv
  clear ex
  refine (same_w Nq Ns rfl).mono ?_
  rintro e w7 ⟨rfl, b7⟩
  replace Ba := Ba.below b7
  replace Bb := Bb.below b7
  replace Bq := Bq.below b7
  replace Nq := Nq.below b7
  replace Br := Br.below b7
  replace Nr := Nr.below b7
  replace Bs := Bs.below b7
  replace Ns := Ns.below b7
  replace Bt := Bt.below b7
  replace Nt := Nt.below b7
  replace Bu := Bu.below b7
  replace Nu := Nu.below b7
  replace Bv := Bv.below b7
  replace Nv := Nv.below b7
  replace bl := bl.trans (b7.mono bl.size)
  clear b7
  obtain ⟨a0, a1, a2, a3'⟩ := Ba.box
  obtain ⟨b0, b1, b2, b3'⟩ := Bb.box
  obtain ⟨q0, q1, q2, q3'⟩ := Bq.box
  obtain ⟨r0, r1, r2, r3'⟩ := Br.box
  obtain ⟨s0, s1, s2, s3'⟩ := Bs.box
  obtain ⟨t0, t1, t2, t3'⟩ := Bt.box
  obtain ⟨u0, u1, u2, u3'⟩ := Bu.box
  obtain ⟨v0, v1, v2, v3'⟩ := Bv.box
  go_wp2_with fail
  clear a0 a1 a2 a3' b0 b1 b2 b3' q0 q1 q2 q3' r0 r1 r2 r3' s0 s1 s2 s3' t0 t1 t2 t3' u0 u1 u2 u3' v0 v1 v2 v3'
  refine (same_w Nr Nt rfl).mono ?_
  rintro e w8 ⟨rfl, b8⟩
  replace Ba := Ba.below b8
  replace Bb := Bb.below b8
  replace Bq := Bq.below b8
  replace Nq := Nq.below b8
  replace Br := Br.below b8
  replace Nr := Nr.below b8
  replace Bs := Bs.below b8
  replace Ns := Ns.below b8
  replace Bt := Bt.below b8
  replace Nt := Nt.below b8
  replace Bu := Bu.below b8
  replace Nu := Nu.below b8
  replace Bv := Bv.below b8
  replace Nv := Nv.below b8
  replace bl := bl.trans (b8.mono bl.size)
  clear b8
  obtain ⟨a0, a1, a2, a3'⟩ := Ba.box
  obtain ⟨b0, b1, b2, b3'⟩ := Bb.box
  obtain ⟨q0, q1, q2, q3'⟩ := Bq.box
  obtain ⟨r0, r1, r2, r3'⟩ := Br.box
  obtain ⟨s0, s1, s2, s3'⟩ := Bs.box
  obtain ⟨t0, t1, t2, t3'⟩ := Bt.box
  obtain ⟨u0, u1, u2, u3'⟩ := Bu.box
  obtain ⟨v0, v1, v2, v3'⟩ := Bv.box
  go_wp2_with fail
  clear a0 a1 a2 a3' b0 b1 b2 b3' q0 q1 q2 q3' r0 r1 r2 r3' s0 s1 s2 s3' t0 t1 t2 t3' u0 u1 u2 u3' v0 v1 v2 v3'
  refine (same_w Nu Nv rfl).mono ?_
  rintro e w9 ⟨rfl, b9⟩
  replace Ba := Ba.below b9
  replace Bb := Bb.below b9
  replace Bq := Bq.below b9
  replace Nq := Nq.below b9
  replace Br := Br.below b9
  replace Nr := Nr.below b9
  replace Bs := Bs.below b9
  replace Ns := Ns.below b9
  replace Bt := Bt.below b9
  replace Nt := Nt.below b9
  replace Bu := Bu.below b9
  replace Nu := Nu.below b9
  replace Bv := Bv.below b9
  replace Nv := Nv.below b9
  replace bl := bl.trans (b9.mono bl.size)
  clear b9
  go_wp2_with fail
  go_ret
  exact ⟨by simp, bl⟩
end Go.Proofs.Ytiehkciofggonaa
