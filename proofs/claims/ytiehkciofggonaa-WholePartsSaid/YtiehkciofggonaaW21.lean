/- the reference's Floor: what it answers. -/
import Derived.Test.YtiehkciofggonaaW20
import Derived.Test.YtiehkciofggonaaW11
namespace Go.Proofs.Ytiehkciofggonaa
open Go.RowKit

theorem one_own {w W : World} {R : Nat} {z : Int} {g : Bool} {A : Option Addr} {n c : Nat} (h1 : WNum W (.agg #[.bool g, .slice A n c]) z) (r : Room W R) (hb : Below w.heap.size w W) (hR : w.heap.size ≤ R) :
    WOne w z (.returned (.tuple #[.agg #[.bool g, .slice A n c], .int .i64 0])) (World.room W R (.bool g) (.slice A n c)) :=
  ⟨_, rfl, wnum_room h1 r, below_room hb hR _ _⟩
theorem rfloor_w_zero (ga : Bool) (Aa : Option Addr) (na ca : Nat) (gb : Bool) (Ab : Option Addr) (nb cb : Nat) (x y : Int) (w : World) (ha : WIn w ga Aa na ca x) (hb : WIn w gb Ab nb cb y) (hm : nb ≤ 900000) (hy : y = 0) :
    Calls Try.prog 29 #[.agg #[.bool ga, .slice Aa na ca], .agg #[.bool gb, .slice Ab nb cb]] w fun e w' => e = .returned (.tuple #[.agg #[.bool false, .slice none 0 0], .int .i64 7]) ∧ Below w.heap.size w w' := by
  have HS := Lib.hid fun (W : World) (q : WIn W gb Ab nb cb y) => rsign_w gb Ab nb cb y W q hm
  rw [show Z.sgn y = 0 by rw [hy]; rfl] at HS
  go_enter Try.func29, Try.ntmps29
  obtain ⟨bl, Bap, Bbp, Bpp⟩ := loc3 w ga Aa na ca gb Ab nb cb false none 0 0
  have Ba : BoxZ _ _ ga Aa na ca x := ⟨Bap, ha.below bl⟩
  clear Bap
  have Bb : BoxZ _ _ gb Ab nb cb y := ⟨Bbp, hb.below bl⟩
  clear Bbp
  have Bp : BoxZ _ _ false none 0 0 0 := ⟨Bpp, win_nil _⟩
  clear Bpp
  obtain ⟨a0, a1, a2, a3'⟩ := Ba.box
  obtain ⟨b0, b1, b2, b3'⟩ := Bb.box
  obtain ⟨p0, p1, p2, p3'⟩ := Bp.box
  go_wp2_with fail
  clear a0 a1 a2 a3' b0 b1 b2 b3' p0 p1 p2 p3'
  refine (HS.out _ Bb.num).mono ?_
  rintro e w1 ⟨rfl, b1⟩
  replace Ba := Ba.below b1
  replace Bb := Bb.below b1
  replace Bp := Bp.below b1
  replace bl := bl.trans (b1.mono bl.size)
  clear b1
  have r1 : Room _ (w.heap.size + 2) := ⟨_, _, _, _, Bp.box⟩
  obtain ⟨k0, k1, _⟩ := room_cells (x := .bool false) (u := .slice none 0 0) r1
  unfold World.room at k0 k1
  have bl2 := below_room bl (R := w.heap.size + 2) (by omega) (.bool false) (.slice none 0 0)
  obtain ⟨xr, yr, zr, qr, ⟨f0, f1, f2, f3⟩⟩ := r1
  have f4 := f3 0
  have f5 := f3 1
  clear f3
  go_wp2_with fail
  exact bodyPost_ret (v := .tuple #[.agg #[.bool false, .slice none 0 0], .int .i64 7]) (by simp [results, Try.results29, go_sem, k0, k1]) rfl ⟨rfl, bl2⟩

set_option maxRecDepth 100000 in
set_option maxHeartbeats 16000000 in
theorem rfloor_w (ga : Bool) (Aa : Option Addr) (na ca : Nat) (gb : Bool) (Ab : Option Addr) (nb cb : Nat) (x y : Int) (X : Nat) (w : World) (ha : WIn w ga Aa na ca x) (hb : WIn w gb Ab nb cb y) (la : Hid (x.natAbs < M.BB ^ X)) (lb : Hid (y.natAbs < M.BB ^ X)) (hX : X ≤ 400) (hn : na ≤ 900000) (hm : nb ≤ 900000) (hy : y ≠ 0) :
    Calls Try.prog 29 #[.agg #[.bool ga, .slice Aa na ca], .agg #[.bool gb, .slice Ab nb cb]] w (WOne w (Z.fl x y)) := by
  obtain ⟨t, HT⟩ : ∃ t, Hid (Z.sgn y = t) := ⟨_, rfl⟩
  have HS := Lib.hid fun (W : World) (q : WIn W gb Ab nb cb y) => rsign_w gb Ab nb cb y W q hm
  rw [HT.out] at HS
  have ht0 : t ≠ 0 := fun e => hy ((Z.sgn_eq y).1 (HT.out.trans e))
  have hn := Lib.hid hn
  have hm := Lib.hid hm
  replace hy := Lib.hid hy
  have lfl : Hid ((Z.fl x y).natAbs < M.BB ^ (X + 1)) := lt_flZ la.out hy.out
  by_cases ht : t < 0
  · go_enter Try.func29, Try.ntmps29
    obtain ⟨bl, Bap, Bbp, Bpp⟩ := loc3 w ga Aa na ca gb Ab nb cb false none 0 0
    have Ba : BoxZ _ _ ga Aa na ca x := ⟨Bap, ha.below bl⟩
    clear Bap
    have Bb : BoxZ _ _ gb Ab nb cb y := ⟨Bbp, hb.below bl⟩
    clear Bbp
    have Bp : BoxZ _ _ false none 0 0 0 := ⟨Bpp, win_nil _⟩
    clear Bpp
    obtain ⟨a0, a1, a2, a3'⟩ := Ba.box
    obtain ⟨b0, b1, b2, b3'⟩ := Bb.box
    obtain ⟨p0, p1, p2, p3'⟩ := Bp.box
    go_wp2_with fail
    clear a0 a1 a2 a3' b0 b1 b2 b3' p0 p1 p2 p3'
    refine (HS.out _ Bb.num).mono ?_
    rintro e w1 ⟨rfl, b1⟩
    replace Ba := Ba.below b1
    replace Bb := Bb.below b1
    replace Bp := Bp.below b1
    replace bl := bl.trans (b1.mono bl.size)
    clear b1
    obtain ⟨a0, a1, a2, a3'⟩ := Ba.box
    obtain ⟨b0, b1, b2, b3'⟩ := Bb.box
    obtain ⟨p0, p1, p2, p3'⟩ := Bp.box
    go_wp2_with fail
    clear a0 a1 a2 a3' b0 b1 b2 b3' p0 p1 p2 p3'
    obtain ⟨ex, Bjp, Bkp⟩ := loc2 w1 ga Aa na ca gb Ab nb cb
    have qj := Lib.hid Bp.box.lt
    have qk := Lib.hid Bp.box.lt
    replace Ba := Ba.below ex
    replace Bb := Bb.below ex
    replace Bp := Bp.below ex
    replace bl := bl.trans (ex.mono bl.size)
    have Bj : BoxZ _ _ ga Aa na ca (x) := ⟨Bjp, Ba.num⟩
    clear Bjp
    have Bk : BoxZ _ _ gb Ab nb cb (y) := ⟨Bkp, Bb.num⟩
    clear Bkp
    clear ex
    refine (HS.out _ Bb.num).mono ?_
    rintro e w2 ⟨rfl, b2⟩
    replace Ba := Ba.below b2
    replace Bb := Bb.below b2
    replace Bp := Bp.below b2
    replace Bj := Bj.below b2
    replace Bk := Bk.below b2
    replace bl := bl.trans (b2.mono bl.size)
    clear b2
    clear HS
    obtain ⟨a0, a1, a2, a3'⟩ := Ba.box
    obtain ⟨b0, b1, b2, b3'⟩ := Bb.box
    obtain ⟨p0, p1, p2, p3'⟩ := Bp.box
    obtain ⟨j0, j1, j2, j3'⟩ := Bj.box
    obtain ⟨k0, k1, k2, k3'⟩ := Bk.box
    go_wp2_with fail
    clear a0 a1 a2 a3' b0 b1 b2 b3' p0 p1 p2 p3' j0 j1 j2 j3' k0 k1 k2 k3'
    refine (rneg_w _ _ _ _ _ _ Ba.num hn.out).mono ?_
    rintro e w3 ⟨vr, rfl, mr, b3⟩
    replace Ba := Ba.below b3
    replace Bb := Bb.below b3
    replace Bp := Bp.below b3
    replace Bj := Bj.below b3
    replace Bk := Bk.below b3
    replace bl := bl.trans (b3.mono bl.size)
    clear b3
    have lr := Lib.hid (lt_negZ la.out)
    obtain ⟨gr, Ar, nr, cr, rfl, ir, Nr, zr⟩ := mr.open_le lr.out (by omega)
    clear mr
    obtain ⟨a0, a1, a2, a3'⟩ := Ba.box
    obtain ⟨b0, b1, b2, b3'⟩ := Bb.box
    obtain ⟨p0, p1, p2, p3'⟩ := Bp.box
    obtain ⟨j0, j1, j2, j3'⟩ := Bj.box
    obtain ⟨k0, k1, k2, k3'⟩ := Bk.box
    have j3 := j3' 0
    have j4 := j3' 1
    go_upto_region 7 with fail
    clear a0 a1 a2 a3' b0 b1 b2 b3' p0 p1 p2 p3' j0 j1 j2 j3' k0 k1 k2 k3' j3 j4
    have rm : Room w3 (w1.heap.size) := ⟨_, _, _, _, Bj.box⟩
    replace Ba := Ba.room (x := .bool gr) (u := .slice Ar nr cr) rm (by have h39 := qj.out; have h49 := qk.out; omega)
    replace Bb := Bb.room (x := .bool gr) (u := .slice Ar nr cr) rm (by have h39 := qj.out; have h49 := qk.out; omega)
    replace Bp := Bp.room (x := .bool gr) (u := .slice Ar nr cr) rm (by have h39 := qj.out; have h49 := qk.out; omega)
    replace Bk := Bk.room (x := .bool gr) (u := .slice Ar nr cr) rm (by have h39 := qj.out; have h49 := qk.out; omega)
    replace bl := below_room bl (R := w1.heap.size) (by have h39 := qj.out; have h49 := qk.out; omega) (.bool gr) (.slice Ar nr cr)
    replace Bj : BoxZ (World.room w3 (w1.heap.size) (.bool gr) (.slice Ar nr cr)) (w1.heap.size) gr Ar nr cr (-x) := ⟨box_own rm, win_room ir rm⟩
    have Nj := wnum_room (x := .bool gr) (u := .slice Ar nr cr) Nr rm
    clear rm ir Nr
    unfold World.room at Ba Bb Bp Bk bl Bj Nj
    generalize ((w3.setCell ⟨w1.heap.size, 0, none⟩ (.bool gr)).setCell ⟨w1.heap.size, 1, none⟩ (.slice Ar nr cr)) = w4 at *
    obtain ⟨a0, a1, a2, a3'⟩ := Ba.box
    obtain ⟨b0, b1, b2, b3'⟩ := Bb.box
    obtain ⟨p0, p1, p2, p3'⟩ := Bp.box
    obtain ⟨j0, j1, j2, j3'⟩ := Bj.box
    obtain ⟨k0, k1, k2, k3'⟩ := Bk.box
    go_wp2_with fail
    clear a0 a1 a2 a3' b0 b1 b2 b3' p0 p1 p2 p3' j0 j1 j2 j3' k0 k1 k2 k3'
    refine (rneg_w _ _ _ _ _ _ Bb.num hm.out).mono ?_
    rintro e w5 ⟨vt, rfl, mt, b5⟩
    replace Ba := Ba.below b5
    replace Bb := Bb.below b5
    replace Bp := Bp.below b5
    replace Bj := Bj.below b5
    replace Nj := Nj.below b5
    replace Bk := Bk.below b5
    replace bl := bl.trans (b5.mono bl.size)
    clear b5
    have lt := Lib.hid (lt_negZ lb.out)
    obtain ⟨gt, At, nt, ct, rfl, it, Nt, zt⟩ := mt.open_le lt.out (by omega)
    clear mt
    obtain ⟨a0, a1, a2, a3'⟩ := Ba.box
    obtain ⟨b0, b1, b2, b3'⟩ := Bb.box
    obtain ⟨p0, p1, p2, p3'⟩ := Bp.box
    obtain ⟨j0, j1, j2, j3'⟩ := Bj.box
    obtain ⟨k0, k1, k2, k3'⟩ := Bk.box
    have k3 := k3' 0
    have k4 := k3' 1
    go_upto_region 8 with fail
    clear a0 a1 a2 a3' b0 b1 b2 b3' p0 p1 p2 p3' j0 j1 j2 j3' k0 k1 k2 k3' k3 k4
    have rm : Room w5 (w1.heap.size + 1) := ⟨_, _, _, _, Bk.box⟩
    replace Ba := Ba.room (x := .bool gt) (u := .slice At nt ct) rm (by have h39 := qj.out; have h49 := qk.out; omega)
    replace Bb := Bb.room (x := .bool gt) (u := .slice At nt ct) rm (by have h39 := qj.out; have h49 := qk.out; omega)
    replace Bp := Bp.room (x := .bool gt) (u := .slice At nt ct) rm (by have h39 := qj.out; have h49 := qk.out; omega)
    replace Bj := Bj.room (x := .bool gt) (u := .slice At nt ct) rm (by have h39 := qj.out; have h49 := qk.out; omega)
    replace Nj := wnum_room (x := .bool gt) (u := .slice At nt ct) Nj rm
    replace bl := below_room bl (R := w1.heap.size + 1) (by have h39 := qj.out; have h49 := qk.out; omega) (.bool gt) (.slice At nt ct)
    replace Bk : BoxZ (World.room w5 (w1.heap.size + 1) (.bool gt) (.slice At nt ct)) (w1.heap.size + 1) gt At nt ct (-y) := ⟨box_own rm, win_room it rm⟩
    have Nk := wnum_room (x := .bool gt) (u := .slice At nt ct) Nt rm
    clear rm it Nt
    unfold World.room at Ba Bb Bp Bj Nj bl Bk Nk
    generalize ((w5.setCell ⟨w1.heap.size + 1, 0, none⟩ (.bool gt)).setCell ⟨w1.heap.size + 1, 1, none⟩ (.slice At nt ct)) = w6 at *
    have HE : Hid ((-x) / (-y) = Z.fl x y) := show (-x) / (-y) = Z.fl x y by rw [Z.fl_eq, if_pos ((Z.sgn_lt y).1 (by rw [HT.out]; exact ht))]
    obtain ⟨a0, a1, a2, a3'⟩ := Ba.box
    obtain ⟨b0, b1, b2, b3'⟩ := Bb.box
    obtain ⟨p0, p1, p2, p3'⟩ := Bp.box
    obtain ⟨j0, j1, j2, j3'⟩ := Bj.box
    obtain ⟨k0, k1, k2, k3'⟩ := Bk.box
    go_wp2_with fail
    clear a0 a1 a2 a3' b0 b1 b2 b3' p0 p1 p2 p3' j0 j1 j2 j3' k0 k1 k2 k3'
    refine (rdivMod_w _ _ _ _ _ _ _ _ (-x) (-y) X _ Bj.num Bk.num (lt_negZ la.out) (lt_negZ lb.out) (by omega) (by have := hy.out; omega)).mono ?_
    rintro e w7 ⟨vu, vs, rfl, mu, ms, b7⟩
    replace Ba := Ba.below b7
    replace Bb := Bb.below b7
    replace Bp := Bp.below b7
    replace Bj := Bj.below b7
    replace Nj := Nj.below b7
    replace Bk := Bk.below b7
    replace Nk := Nk.below b7
    replace bl := bl.trans (b7.mono bl.size)
    clear b7
    rw [HE.out] at mu
    obtain ⟨gu, Au, nu, cu, rfl, _, Nu, _⟩ := mu.open_le lfl.out (by omega)
    obtain ⟨gs, As, ns, cs, rfl, _, _⟩ := ms.form
    clear mu ms
    clear Ba Bb Bj Bk Nj Nk
    go_upto_region 9 with fail
    obtain ⟨ex, Bu, _⟩ := loc2 w7 gu Au nu cu gs As ns cs
    replace Bp := Bp.below ex
    replace Nu := Nu.below ex
    replace bl := bl.trans (ex.mono bl.size)
    clear ex
    generalize ((w7.alloc (.cells #[.bool gu, .slice Au nu cu] 24)).alloc (.cells #[.bool gs, .slice As ns cs] 24)) = w99 at *
    have r1 : Room w99 (w.heap.size + 2) := ⟨_, _, _, _, Bp.box⟩
    have hend := Lib.hid (one_own (w := w) Nu r1 bl (by omega))
    obtain ⟨k0, k1, _⟩ := room_cells (x := .bool gu) (u := .slice Au nu cu) r1
    unfold World.room at k0 k1
    obtain ⟨p0, p1, p2, p3'⟩ := Bp.box
    have p3 := p3' 0
    have p4 := p3' 1
    obtain ⟨u0, u1, u2, _⟩ := Bu
    clear Bp bl r1 Nu
    go_wp2_with fail
    exact bodyPost_ret (v := .tuple #[.agg #[.bool gu, .slice Au nu cu], .int .i64 0]) (by simp [results, Try.results29, go_sem, k0, k1]) rfl hend.out
  · go_enter Try.func29, Try.ntmps29
    obtain ⟨bl, Bap, Bbp, Bpp⟩ := loc3 w ga Aa na ca gb Ab nb cb false none 0 0
    have Ba : BoxZ _ _ ga Aa na ca x := ⟨Bap, ha.below bl⟩
    clear Bap
    have Bb : BoxZ _ _ gb Ab nb cb y := ⟨Bbp, hb.below bl⟩
    clear Bbp
    have Bp : BoxZ _ _ false none 0 0 0 := ⟨Bpp, win_nil _⟩
    clear Bpp
    obtain ⟨a0, a1, a2, a3'⟩ := Ba.box
    obtain ⟨b0, b1, b2, b3'⟩ := Bb.box
    obtain ⟨p0, p1, p2, p3'⟩ := Bp.box
    go_wp2_with fail
    clear a0 a1 a2 a3' b0 b1 b2 b3' p0 p1 p2 p3'
    refine (HS.out _ Bb.num).mono ?_
    rintro e w1 ⟨rfl, b1⟩
    replace Ba := Ba.below b1
    replace Bb := Bb.below b1
    replace Bp := Bp.below b1
    replace bl := bl.trans (b1.mono bl.size)
    clear b1
    obtain ⟨a0, a1, a2, a3'⟩ := Ba.box
    obtain ⟨b0, b1, b2, b3'⟩ := Bb.box
    obtain ⟨p0, p1, p2, p3'⟩ := Bp.box
    go_wp2_with fail
    clear a0 a1 a2 a3' b0 b1 b2 b3' p0 p1 p2 p3'
    obtain ⟨ex, Bjp, Bkp⟩ := loc2 w1 ga Aa na ca gb Ab nb cb
    have qj := Lib.hid Bp.box.lt
    have qk := Lib.hid Bp.box.lt
    replace Ba := Ba.below ex
    replace Bb := Bb.below ex
    replace Bp := Bp.below ex
    replace bl := bl.trans (ex.mono bl.size)
    have Bj : BoxZ _ _ ga Aa na ca (x) := ⟨Bjp, Ba.num⟩
    clear Bjp
    have Bk : BoxZ _ _ gb Ab nb cb (y) := ⟨Bkp, Bb.num⟩
    clear Bkp
    clear ex
    refine (HS.out _ Bb.num).mono ?_
    rintro e w2 ⟨rfl, b2⟩
    replace Ba := Ba.below b2
    replace Bb := Bb.below b2
    replace Bp := Bp.below b2
    replace Bj := Bj.below b2
    replace Bk := Bk.below b2
    replace bl := bl.trans (b2.mono bl.size)
    clear b2
    clear HS
    have HE : Hid (x / y = Z.fl x y) := show x / y = Z.fl x y by rw [Z.fl_eq, if_neg (fun h => absurd ((Z.sgn_lt y).2 h) (by rw [HT.out]; omega))]
    obtain ⟨a0, a1, a2, a3'⟩ := Ba.box
    obtain ⟨b0, b1, b2, b3'⟩ := Bb.box
    obtain ⟨p0, p1, p2, p3'⟩ := Bp.box
    obtain ⟨j0, j1, j2, j3'⟩ := Bj.box
    obtain ⟨k0, k1, k2, k3'⟩ := Bk.box
    go_wp2_with fail
    clear a0 a1 a2 a3' b0 b1 b2 b3' p0 p1 p2 p3' j0 j1 j2 j3' k0 k1 k2 k3'
    refine (rdivMod_w _ _ _ _ _ _ _ _ x y X _ Bj.num Bk.num la lb (by omega) hy.out).mono ?_
    rintro e w3 ⟨vu, vs, rfl, mu, ms, b3⟩
    replace Ba := Ba.below b3
    replace Bb := Bb.below b3
    replace Bp := Bp.below b3
    replace Bj := Bj.below b3
    replace Bk := Bk.below b3
    replace bl := bl.trans (b3.mono bl.size)
    clear b3
    rw [HE.out] at mu
    obtain ⟨gu, Au, nu, cu, rfl, _, Nu, _⟩ := mu.open_le lfl.out (by omega)
    obtain ⟨gs, As, ns, cs, rfl, _, _⟩ := ms.form
    clear mu ms
    clear Ba Bb Bj Bk
    go_upto_region 9 with fail
    obtain ⟨ex, Bu, _⟩ := loc2 w3 gu Au nu cu gs As ns cs
    replace Bp := Bp.below ex
    replace Nu := Nu.below ex
    replace bl := bl.trans (ex.mono bl.size)
    clear ex
    generalize ((w3.alloc (.cells #[.bool gu, .slice Au nu cu] 24)).alloc (.cells #[.bool gs, .slice As ns cs] 24)) = w99 at *
    have r1 : Room w99 (w.heap.size + 2) := ⟨_, _, _, _, Bp.box⟩
    have hend := Lib.hid (one_own (w := w) Nu r1 bl (by omega))
    obtain ⟨k0, k1, _⟩ := room_cells (x := .bool gu) (u := .slice Au nu cu) r1
    unfold World.room at k0 k1
    obtain ⟨p0, p1, p2, p3'⟩ := Bp.box
    have p3 := p3' 0
    have p4 := p3' 1
    obtain ⟨u0, u1, u2, _⟩ := Bu
    clear Bp bl r1 Nu
    go_wp2_with fail
    exact bodyPost_ret (v := .tuple #[.agg #[.bool gu, .slice Au nu cu], .int .i64 0]) (by simp [results, Try.results29, go_sem, k0, k1]) rfl hend.out
end Go.Proofs.Ytiehkciofggonaa
