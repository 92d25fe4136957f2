/- WholeSums: its walk. -/
import Derived.Test.YtiehkciofggonaaW13
namespace Go.Proofs.Ytiehkciofggonaa
open Go.RowKit

set_option maxRecDepth 100000 in
set_option maxHeartbeats 16000000 in
theorem wholeSums_yes (ga : Bool) (Aa : Option Addr) (na ca : Nat) (gb : Bool) (Ab : Option Addr) (nb cb : Nat) (x y : Int) (X : Nat) (w : World) (ha : WIn w ga Aa na ca x) (hb : WIn w gb Ab nb cb y) (la : Hid (x.natAbs < M.BB ^ X)) (lb : Hid (y.natAbs < M.BB ^ X)) (hX : X ≤ 100) (h1 : na ≤ 16) (h2 : nb ≤ 16) :
    Calls Try.prog 3 #[.agg #[.bool ga, .slice Aa na ca], .agg #[.bool gb, .slice Ab nb cb]] w fun e w' => e = .returned (.bool true) ∧ Below w.heap.size w w' := by
  have H1 := Lib.hid h1
  have H2 := Lib.hid h2
  obtain ⟨t, HT⟩ : ∃ t, Hid (Z.sgn (x - y) = t) := ⟨_, rfl⟩
  obtain ⟨s, HZ⟩ : ∃ s, Hid (Z.sgn x = s) := ⟨_, rfl⟩
  have C1 := Lib.hid fun (W : World) (q1 : WIn W ga Aa na ca x) (q2 : WIn W gb Ab nb cb y) => cmp_w _ _ _ _ _ _ _ _ _ _ W q1 q2
  have C2 := Lib.hid fun (W : World) (q1 : WIn W ga Aa na ca x) (q2 : WIn W gb Ab nb cb y) => rcmp_w _ _ _ _ _ _ _ _ X X _ _ W q1 q2 la.out lb.out (by omega) (by omega) (by omega)
  have C3 := Lib.hid fun (W : World) (q1 : WIn W ga Aa na ca x) => sign_w _ _ _ _ _ W q1
  have C4 := Lib.hid fun (W : World) (q1 : WIn W ga Aa na ca x) => rsign_w _ _ _ _ _ W q1 (by omega)
  rw [HT.out] at C1 C2
  rw [HZ.out] at C3 C4
  go_enter Try.func3, Try.ntmps3
  obtain ⟨bl, Bap, Bbp⟩ := loc2 w ga Aa na ca gb Ab nb cb
  have Ba : BoxZ _ _ ga Aa na ca x := ⟨Bap, ha.below bl⟩
  clear Bap
  have Bb : BoxZ _ _ gb Ab nb cb y := ⟨Bbp, hb.below bl⟩
  clear Bbp
  obtain ⟨a0, a1, a2, a3'⟩ := Ba.box
  obtain ⟨b0, b1, b2, b3'⟩ := Bb.box
  go_wp2_with fail
  clear a0 a1 a2 a3' b0 b1 b2 b3'
  refine (awake_w _).mono ?_
  rintro e w1 ⟨rfl, b1⟩
  replace Ba := Ba.below b1
  replace Bb := Bb.below b1
  replace bl := bl.trans (b1.mono bl.size)
  clear b1
  obtain ⟨a0, a1, a2, a3'⟩ := Ba.box
  obtain ⟨b0, b1, b2, b3'⟩ := Bb.box
  go_wp2_with fail
  clear a0 a1 a2 a3' b0 b1 b2 b3'
  refine (few_w _ _ _ _ _ _ _ _ true 16 _ (by omega) (by unfold maxLen; omega) (by unfold maxLen; omega) (by simp [h1, h2])).mono ?_
  rintro e w2 ⟨rfl, b2⟩
  replace Ba := Ba.below b2
  replace Bb := Bb.below b2
  replace bl := bl.trans (b2.mono bl.size)
  clear b2
  obtain ⟨a0, a1, a2, a3'⟩ := Ba.box
  obtain ⟨b0, b1, b2, b3'⟩ := Bb.box
  go_wp2_with fail
  clear a0 a1 a2 a3' b0 b1 b2 b3'
  have K1 := Lib.hid fun (W : World) (q : W.cell? ⟨w.heap.size, 0, none⟩ = some (.bool ga) ∧ W.cell? ⟨w.heap.size, 1, none⟩ = some (.slice Aa na ca) ∧ W.cell? ⟨w.heap.size + 1, 0, none⟩ = some (.bool gb) ∧ W.cell? ⟨w.heap.size + 1, 1, none⟩ = some (.slice Ab nb cb) ∧ HL w [⟨w.heap.size, ga, Aa, na, ca, x⟩, ⟨w.heap.size + 1, gb, Ab, nb, cb, y⟩] [] W)  => norm_w _ _ _ _ _ W (q.2.2.2.2.1 _ (.head _)).num
  have lr := Lib.hid (la.out)
  have K2 := Lib.hid fun (W : World) (q : W.cell? ⟨w.heap.size, 0, none⟩ = some (.bool ga) ∧ W.cell? ⟨w.heap.size, 1, none⟩ = some (.slice Aa na ca) ∧ W.cell? ⟨w.heap.size + 1, 0, none⟩ = some (.bool gb) ∧ W.cell? ⟨w.heap.size + 1, 1, none⟩ = some (.slice Ab nb cb) ∧ HL w [⟨w.heap.size, ga, Aa, na, ca, x⟩, ⟨w.heap.size + 1, gb, Ab, nb, cb, y⟩] [] W)  => rnorm_w _ _ _ _ _ W (q.2.2.2.2.1 _ (.head _)).num (Nat.le_trans H1.out (by omega))
  have ls := Lib.hid (la.out)
  have K3 := Lib.hid fun (W : World) (q : W.cell? ⟨w.heap.size, 0, none⟩ = some (.bool ga) ∧ W.cell? ⟨w.heap.size, 1, none⟩ = some (.slice Aa na ca) ∧ W.cell? ⟨w.heap.size + 1, 0, none⟩ = some (.bool gb) ∧ W.cell? ⟨w.heap.size + 1, 1, none⟩ = some (.slice Ab nb cb) ∧ HL w [⟨w.heap.size, ga, Aa, na, ca, x⟩, ⟨w.heap.size + 1, gb, Ab, nb, cb, y⟩] [] W) (gr : Bool) (Ar : Option Addr) (nr cr : Nat) (ir : WIn W gr Ar nr cr (x)) (Nr : WNum W (.agg #[.bool gr, .slice Ar nr cr]) (x)) (gs : Bool) (As : Option Addr) (ns cs : Nat) (is : WIn W gs As ns cs (x)) (Ns : WNum W (.agg #[.bool gs, .slice As ns cs]) (x)) => same_w Nr Ns rfl
  have HS := Lib.hid (start2 Ba Bb (bl := bl) (M := []) (hM := (fun _ h => absurd h (by simp))))
  clear Ba Bb bl
  go_region_held3 (fun w' => w'.cell? ⟨w.heap.size, 0, none⟩ = some (.bool ga) ∧ w'.cell? ⟨w.heap.size, 1, none⟩ = some (.slice Aa na ca) ∧ w'.cell? ⟨w.heap.size + 1, 0, none⟩ = some (.bool gb) ∧ w'.cell? ⟨w.heap.size + 1, 1, none⟩ = some (.slice Ab nb cb) ∧ HL w [⟨w.heap.size, ga, Aa, na, ca, x⟩, ⟨w.heap.size + 1, gb, Ab, nb, cb, y⟩] [] w')
    (first | exact keepZ2 (by assumption) (by assumption) | exact HS.out)
    (first | (go_at_call 12; (with_reducible refine (K1.out _ ?_ ).mono ?_); assumption; rintro e w3 ⟨vr, rfl, mr, b3⟩; obtain ⟨gr, Ar, nr, cr, rfl, ir, Nr⟩ := mr.open lr.out (by omega); clear mr) | (go_at_call 13; (with_reducible refine (K2.out _ ?_ ).mono ?_); assumption; rintro e w4 ⟨vs, rfl, ms, b4⟩; replace ir := ir.below b4; replace Nr := Nr.below b4; obtain ⟨gs, As, ns, cs, rfl, is, Ns⟩ := ms.open ls.out (by omega); clear ms) | (go_at_call 11; (with_reducible refine (K3.out _ ?_ _ _ _ _ ?_ ?_ _ _ _ _ ?_ ?_).mono ?_); assumption; exact ir; exact Nr; exact is; exact Ns; rintro e w5 ⟨rfl, b5⟩; replace ir := ir.below b5; replace Nr := Nr.below b5; replace is := is.below b5; replace Ns := Ns.below b5))
  rename_i hh
  have hh := hh.2.2.2.2
  have Ba : BoxZ w5 (w.heap.size) ga Aa na ca (x) := hh.1 _ (.head _)
  have Bb : BoxZ w5 (w.heap.size + 1) gb Ab nb cb (y) := hh.1 _ (.tail _ (.head _))
  have bl := hh.2.2
  clear hh HS K1 K2 K3
  clear ir Nr lr is Ns ls
  obtain ⟨a0, a1, a2, a3'⟩ := Ba.box
  obtain ⟨b0, b1, b2, b3'⟩ := Bb.box
  go_wp2_with fail
  clear a0 a1 a2 a3' b0 b1 b2 b3'
  have K4 := Lib.hid fun (W : World) (q : W.cell? ⟨w.heap.size, 0, none⟩ = some (.bool ga) ∧ W.cell? ⟨w.heap.size, 1, none⟩ = some (.slice Aa na ca) ∧ W.cell? ⟨w.heap.size + 1, 0, none⟩ = some (.bool gb) ∧ W.cell? ⟨w.heap.size + 1, 1, none⟩ = some (.slice Ab nb cb) ∧ HL w [⟨w.heap.size, ga, Aa, na, ca, x⟩, ⟨w.heap.size + 1, gb, Ab, nb, cb, y⟩] [] W)  => neg_w _ _ _ _ _ W (q.2.2.2.2.1 _ (.head _)).num
  have lr := Lib.hid (lt_negZ la.out)
  have K5 := Lib.hid fun (W : World) (q : W.cell? ⟨w.heap.size, 0, none⟩ = some (.bool ga) ∧ W.cell? ⟨w.heap.size, 1, none⟩ = some (.slice Aa na ca) ∧ W.cell? ⟨w.heap.size + 1, 0, none⟩ = some (.bool gb) ∧ W.cell? ⟨w.heap.size + 1, 1, none⟩ = some (.slice Ab nb cb) ∧ HL w [⟨w.heap.size, ga, Aa, na, ca, x⟩, ⟨w.heap.size + 1, gb, Ab, nb, cb, y⟩] [] W)  => rneg_w _ _ _ _ _ W (q.2.2.2.2.1 _ (.head _)).num (Nat.le_trans H1.out (by omega))
  have ls := Lib.hid (lt_negZ la.out)
  have K6 := Lib.hid fun (W : World) (q : W.cell? ⟨w.heap.size, 0, none⟩ = some (.bool ga) ∧ W.cell? ⟨w.heap.size, 1, none⟩ = some (.slice Aa na ca) ∧ W.cell? ⟨w.heap.size + 1, 0, none⟩ = some (.bool gb) ∧ W.cell? ⟨w.heap.size + 1, 1, none⟩ = some (.slice Ab nb cb) ∧ HL w [⟨w.heap.size, ga, Aa, na, ca, x⟩, ⟨w.heap.size + 1, gb, Ab, nb, cb, y⟩] [] W) (gr : Bool) (Ar : Option Addr) (nr cr : Nat) (ir : WIn W gr Ar nr cr (-x)) (Nr : WNum W (.agg #[.bool gr, .slice Ar nr cr]) (-x)) (gs : Bool) (As : Option Addr) (ns cs : Nat) (is : WIn W gs As ns cs (-x)) (Ns : WNum W (.agg #[.bool gs, .slice As ns cs]) (-x)) => same_w Nr Ns rfl
  have HS := Lib.hid (start2 Ba Bb (bl := bl) (M := []) (hM := (fun _ h => absurd h (by simp))))
  clear Ba Bb bl
  go_region_held3 (fun w' => w'.cell? ⟨w.heap.size, 0, none⟩ = some (.bool ga) ∧ w'.cell? ⟨w.heap.size, 1, none⟩ = some (.slice Aa na ca) ∧ w'.cell? ⟨w.heap.size + 1, 0, none⟩ = some (.bool gb) ∧ w'.cell? ⟨w.heap.size + 1, 1, none⟩ = some (.slice Ab nb cb) ∧ HL w [⟨w.heap.size, ga, Aa, na, ca, x⟩, ⟨w.heap.size + 1, gb, Ab, nb, cb, y⟩] [] w')
    (first | exact keepZ2 (by assumption) (by assumption) | exact HS.out)
    (first | (go_at_call 14; (with_reducible refine (K4.out _ ?_ ).mono ?_); assumption; rintro e w6 ⟨vr, rfl, mr, b6⟩; obtain ⟨gr, Ar, nr, cr, rfl, ir, Nr⟩ := mr.open lr.out (by omega); clear mr) | (go_at_call 15; (with_reducible refine (K5.out _ ?_ ).mono ?_); assumption; rintro e w7 ⟨vs, rfl, ms, b7⟩; replace ir := ir.below b7; replace Nr := Nr.below b7; obtain ⟨gs, As, ns, cs, rfl, is, Ns⟩ := ms.open ls.out (by omega); clear ms) | (go_at_call 11; (with_reducible refine (K6.out _ ?_ _ _ _ _ ?_ ?_ _ _ _ _ ?_ ?_).mono ?_); assumption; exact ir; exact Nr; exact is; exact Ns; rintro e w8 ⟨rfl, b8⟩; replace ir := ir.below b8; replace Nr := Nr.below b8; replace is := is.below b8; replace Ns := Ns.below b8))
  rename_i hh
  have hh := hh.2.2.2.2
  have Ba : BoxZ w8 (w.heap.size) ga Aa na ca (x) := hh.1 _ (.head _)
  have Bb : BoxZ w8 (w.heap.size + 1) gb Ab nb cb (y) := hh.1 _ (.tail _ (.head _))
  have bl := hh.2.2
  clear hh HS K4 K5 K6
  clear ir Nr lr is Ns ls
  obtain ⟨a0, a1, a2, a3'⟩ := Ba.box
  obtain ⟨b0, b1, b2, b3'⟩ := Bb.box
  go_wp2_with fail
  clear a0 a1 a2 a3' b0 b1 b2 b3'
  have K7 := Lib.hid fun (W : World) (q : W.cell? ⟨w.heap.size, 0, none⟩ = some (.bool ga) ∧ W.cell? ⟨w.heap.size, 1, none⟩ = some (.slice Aa na ca) ∧ W.cell? ⟨w.heap.size + 1, 0, none⟩ = some (.bool gb) ∧ W.cell? ⟨w.heap.size + 1, 1, none⟩ = some (.slice Ab nb cb) ∧ HL w [⟨w.heap.size, ga, Aa, na, ca, x⟩, ⟨w.heap.size + 1, gb, Ab, nb, cb, y⟩] [] W)  => add_w _ _ _ _ _ _ _ _ _ _ W (q.2.2.2.2.1 _ (.head _)).num (q.2.2.2.2.1 _ (.tail _ (.head _))).num
  have lr := Lib.hid (lt_addZ la.out lb.out)
  have K8 := Lib.hid fun (W : World) (q : W.cell? ⟨w.heap.size, 0, none⟩ = some (.bool ga) ∧ W.cell? ⟨w.heap.size, 1, none⟩ = some (.slice Aa na ca) ∧ W.cell? ⟨w.heap.size + 1, 0, none⟩ = some (.bool gb) ∧ W.cell? ⟨w.heap.size + 1, 1, none⟩ = some (.slice Ab nb cb) ∧ HL w [⟨w.heap.size, ga, Aa, na, ca, x⟩, ⟨w.heap.size + 1, gb, Ab, nb, cb, y⟩] [] W)  => radd_w _ _ _ _ _ _ _ _ X X _ _ W (q.2.2.2.2.1 _ (.head _)).num (q.2.2.2.2.1 _ (.tail _ (.head _))).num la.out lb.out (by omega) (by omega)
  have ls := Lib.hid (lt_addZ la.out lb.out)
  have K9 := Lib.hid fun (W : World) (q : W.cell? ⟨w.heap.size, 0, none⟩ = some (.bool ga) ∧ W.cell? ⟨w.heap.size, 1, none⟩ = some (.slice Aa na ca) ∧ W.cell? ⟨w.heap.size + 1, 0, none⟩ = some (.bool gb) ∧ W.cell? ⟨w.heap.size + 1, 1, none⟩ = some (.slice Ab nb cb) ∧ HL w [⟨w.heap.size, ga, Aa, na, ca, x⟩, ⟨w.heap.size + 1, gb, Ab, nb, cb, y⟩] [] W) (gr : Bool) (Ar : Option Addr) (nr cr : Nat) (ir : WIn W gr Ar nr cr (x + y)) (Nr : WNum W (.agg #[.bool gr, .slice Ar nr cr]) (x + y)) (gs : Bool) (As : Option Addr) (ns cs : Nat) (is : WIn W gs As ns cs (x + y)) (Ns : WNum W (.agg #[.bool gs, .slice As ns cs]) (x + y)) => same_w Nr Ns rfl
  have HS := Lib.hid (start2 Ba Bb (bl := bl) (M := []) (hM := (fun _ h => absurd h (by simp))))
  clear Ba Bb bl
  go_region_held3 (fun w' => w'.cell? ⟨w.heap.size, 0, none⟩ = some (.bool ga) ∧ w'.cell? ⟨w.heap.size, 1, none⟩ = some (.slice Aa na ca) ∧ w'.cell? ⟨w.heap.size + 1, 0, none⟩ = some (.bool gb) ∧ w'.cell? ⟨w.heap.size + 1, 1, none⟩ = some (.slice Ab nb cb) ∧ HL w [⟨w.heap.size, ga, Aa, na, ca, x⟩, ⟨w.heap.size + 1, gb, Ab, nb, cb, y⟩] [] w')
    (first | exact keepZ2 (by assumption) (by assumption) | exact HS.out)
    (first | (go_at_call 16; (with_reducible refine (K7.out _ ?_ ).mono ?_); assumption; rintro e w9 ⟨vr, rfl, mr, b9⟩; obtain ⟨gr, Ar, nr, cr, rfl, ir, Nr⟩ := mr.open lr.out (by omega); clear mr) | (go_at_call 17; (with_reducible refine (K8.out _ ?_ ).mono ?_); assumption; rintro e w10 ⟨vs, rfl, ms, b10⟩; replace ir := ir.below b10; replace Nr := Nr.below b10; obtain ⟨gs, As, ns, cs, rfl, is, Ns⟩ := ms.open ls.out (by omega); clear ms) | (go_at_call 11; (with_reducible refine (K9.out _ ?_ _ _ _ _ ?_ ?_ _ _ _ _ ?_ ?_).mono ?_); assumption; exact ir; exact Nr; exact is; exact Ns; rintro e w11 ⟨rfl, b11⟩; replace ir := ir.below b11; replace Nr := Nr.below b11; replace is := is.below b11; replace Ns := Ns.below b11))
  rename_i hh
  have hh := hh.2.2.2.2
  have Ba : BoxZ w11 (w.heap.size) ga Aa na ca (x) := hh.1 _ (.head _)
  have Bb : BoxZ w11 (w.heap.size + 1) gb Ab nb cb (y) := hh.1 _ (.tail _ (.head _))
  have bl := hh.2.2
  clear hh HS K7 K8 K9
  clear ir Nr lr is Ns ls
  obtain ⟨a0, a1, a2, a3'⟩ := Ba.box
  obtain ⟨b0, b1, b2, b3'⟩ := Bb.box
  go_wp2_with fail
  clear a0 a1 a2 a3' b0 b1 b2 b3'
  have K10 := Lib.hid fun (W : World) (q : W.cell? ⟨w.heap.size, 0, none⟩ = some (.bool ga) ∧ W.cell? ⟨w.heap.size, 1, none⟩ = some (.slice Aa na ca) ∧ W.cell? ⟨w.heap.size + 1, 0, none⟩ = some (.bool gb) ∧ W.cell? ⟨w.heap.size + 1, 1, none⟩ = some (.slice Ab nb cb) ∧ HL w [⟨w.heap.size, ga, Aa, na, ca, x⟩, ⟨w.heap.size + 1, gb, Ab, nb, cb, y⟩] [] W)  => sub_w _ _ _ _ _ _ _ _ _ _ W (q.2.2.2.2.1 _ (.head _)).num (q.2.2.2.2.1 _ (.tail _ (.head _))).num
  have lr := Lib.hid (lt_subZ la.out lb.out)
  have K11 := Lib.hid fun (W : World) (q : W.cell? ⟨w.heap.size, 0, none⟩ = some (.bool ga) ∧ W.cell? ⟨w.heap.size, 1, none⟩ = some (.slice Aa na ca) ∧ W.cell? ⟨w.heap.size + 1, 0, none⟩ = some (.bool gb) ∧ W.cell? ⟨w.heap.size + 1, 1, none⟩ = some (.slice Ab nb cb) ∧ HL w [⟨w.heap.size, ga, Aa, na, ca, x⟩, ⟨w.heap.size + 1, gb, Ab, nb, cb, y⟩] [] W)  => rsub_w _ _ _ _ _ _ _ _ X X _ _ W (q.2.2.2.2.1 _ (.head _)).num (q.2.2.2.2.1 _ (.tail _ (.head _))).num la.out lb.out (by omega) (by omega) (Nat.le_trans H2.out (by omega))
  have ls := Lib.hid (lt_subZ la.out lb.out)
  have K12 := Lib.hid fun (W : World) (q : W.cell? ⟨w.heap.size, 0, none⟩ = some (.bool ga) ∧ W.cell? ⟨w.heap.size, 1, none⟩ = some (.slice Aa na ca) ∧ W.cell? ⟨w.heap.size + 1, 0, none⟩ = some (.bool gb) ∧ W.cell? ⟨w.heap.size + 1, 1, none⟩ = some (.slice Ab nb cb) ∧ HL w [⟨w.heap.size, ga, Aa, na, ca, x⟩, ⟨w.heap.size + 1, gb, Ab, nb, cb, y⟩] [] W) (gr : Bool) (Ar : Option Addr) (nr cr : Nat) (ir : WIn W gr Ar nr cr (x - y)) (Nr : WNum W (.agg #[.bool gr, .slice Ar nr cr]) (x - y)) (gs : Bool) (As : Option Addr) (ns cs : Nat) (is : WIn W gs As ns cs (x - y)) (Ns : WNum W (.agg #[.bool gs, .slice As ns cs]) (x - y)) => same_w Nr Ns rfl
  have HS := Lib.hid (start2 Ba Bb (bl := bl) (M := []) (hM := (fun _ h => absurd h (by simp))))
  clear Ba Bb bl
  go_region_held3 (fun w' => w'.cell? ⟨w.heap.size, 0, none⟩ = some (.bool ga) ∧ w'.cell? ⟨w.heap.size, 1, none⟩ = some (.slice Aa na ca) ∧ w'.cell? ⟨w.heap.size + 1, 0, none⟩ = some (.bool gb) ∧ w'.cell? ⟨w.heap.size + 1, 1, none⟩ = some (.slice Ab nb cb) ∧ HL w [⟨w.heap.size, ga, Aa, na, ca, x⟩, ⟨w.heap.size + 1, gb, Ab, nb, cb, y⟩] [] w')
    (first | exact keepZ2 (by assumption) (by assumption) | exact HS.out)
    (first | (go_at_call 18; (with_reducible refine (K10.out _ ?_ ).mono ?_); assumption; rintro e w12 ⟨vr, rfl, mr, b12⟩; obtain ⟨gr, Ar, nr, cr, rfl, ir, Nr⟩ := mr.open lr.out (by omega); clear mr) | (go_at_call 19; (with_reducible refine (K11.out _ ?_ ).mono ?_); assumption; rintro e w13 ⟨vs, rfl, ms, b13⟩; replace ir := ir.below b13; replace Nr := Nr.below b13; obtain ⟨gs, As, ns, cs, rfl, is, Ns⟩ := ms.open ls.out (by omega); clear ms) | (go_at_call 11; (with_reducible refine (K12.out _ ?_ _ _ _ _ ?_ ?_ _ _ _ _ ?_ ?_).mono ?_); assumption; exact ir; exact Nr; exact is; exact Ns; rintro e w14 ⟨rfl, b14⟩; replace ir := ir.below b14; replace Nr := Nr.below b14; replace is := is.below b14; replace Ns := Ns.below b14))
  rename_i hh
  have hh := hh.2.2.2.2
  have Ba : BoxZ w14 (w.heap.size) ga Aa na ca (x) := hh.1 _ (.head _)
  have Bb : BoxZ w14 (w.heap.size + 1) gb Ab nb cb (y) := hh.1 _ (.tail _ (.head _))
  have bl := hh.2.2
  clear hh HS K10 K11 K12
  clear ir Nr lr is Ns ls
  obtain ⟨a0, a1, a2, a3'⟩ := Ba.box
  obtain ⟨b0, b1, b2, b3'⟩ := Bb.box
  go_wp2_with fail
  clear a0 a1 a2 a3' b0 b1 b2 b3'
  have K13 := Lib.hid fun (W : World) (q : W.cell? ⟨w.heap.size, 0, none⟩ = some (.bool ga) ∧ W.cell? ⟨w.heap.size, 1, none⟩ = some (.slice Aa na ca) ∧ W.cell? ⟨w.heap.size + 1, 0, none⟩ = some (.bool gb) ∧ W.cell? ⟨w.heap.size + 1, 1, none⟩ = some (.slice Ab nb cb) ∧ HL w [⟨w.heap.size, ga, Aa, na, ca, x⟩, ⟨w.heap.size + 1, gb, Ab, nb, cb, y⟩] [] W)  => mul_w _ _ _ _ _ _ _ _ _ _ W (q.2.2.2.2.1 _ (.head _)).num (q.2.2.2.2.1 _ (.tail _ (.head _))).num
  have lr := Lib.hid (lt_mulZ la.out lb.out)
  have K14 := Lib.hid fun (W : World) (q : W.cell? ⟨w.heap.size, 0, none⟩ = some (.bool ga) ∧ W.cell? ⟨w.heap.size, 1, none⟩ = some (.slice Aa na ca) ∧ W.cell? ⟨w.heap.size + 1, 0, none⟩ = some (.bool gb) ∧ W.cell? ⟨w.heap.size + 1, 1, none⟩ = some (.slice Ab nb cb) ∧ HL w [⟨w.heap.size, ga, Aa, na, ca, x⟩, ⟨w.heap.size + 1, gb, Ab, nb, cb, y⟩] [] W)  => rmul_w _ _ _ _ _ _ _ _ X X _ _ W (q.2.2.2.2.1 _ (.head _)).num (q.2.2.2.2.1 _ (.tail _ (.head _))).num la.out lb.out (by omega) (by omega)
  have ls := Lib.hid (lt_mulZ la.out lb.out)
  have K15 := Lib.hid fun (W : World) (q : W.cell? ⟨w.heap.size, 0, none⟩ = some (.bool ga) ∧ W.cell? ⟨w.heap.size, 1, none⟩ = some (.slice Aa na ca) ∧ W.cell? ⟨w.heap.size + 1, 0, none⟩ = some (.bool gb) ∧ W.cell? ⟨w.heap.size + 1, 1, none⟩ = some (.slice Ab nb cb) ∧ HL w [⟨w.heap.size, ga, Aa, na, ca, x⟩, ⟨w.heap.size + 1, gb, Ab, nb, cb, y⟩] [] W) (gr : Bool) (Ar : Option Addr) (nr cr : Nat) (ir : WIn W gr Ar nr cr (x * y)) (Nr : WNum W (.agg #[.bool gr, .slice Ar nr cr]) (x * y)) (gs : Bool) (As : Option Addr) (ns cs : Nat) (is : WIn W gs As ns cs (x * y)) (Ns : WNum W (.agg #[.bool gs, .slice As ns cs]) (x * y)) => same_w Nr Ns rfl
  have HS := Lib.hid (start2 Ba Bb (bl := bl) (M := []) (hM := (fun _ h => absurd h (by simp))))
  clear Ba Bb bl
  go_region_held3 (fun w' => w'.cell? ⟨w.heap.size, 0, none⟩ = some (.bool ga) ∧ w'.cell? ⟨w.heap.size, 1, none⟩ = some (.slice Aa na ca) ∧ w'.cell? ⟨w.heap.size + 1, 0, none⟩ = some (.bool gb) ∧ w'.cell? ⟨w.heap.size + 1, 1, none⟩ = some (.slice Ab nb cb) ∧ HL w [⟨w.heap.size, ga, Aa, na, ca, x⟩, ⟨w.heap.size + 1, gb, Ab, nb, cb, y⟩] [] w')
    (first | exact keepZ2 (by assumption) (by assumption) | exact HS.out)
    (first | (go_at_call 20; (with_reducible refine (K13.out _ ?_ ).mono ?_); assumption; rintro e w15 ⟨vr, rfl, mr, b15⟩; obtain ⟨gr, Ar, nr, cr, rfl, ir, Nr⟩ := mr.open lr.out (by omega); clear mr) | (go_at_call 21; (with_reducible refine (K14.out _ ?_ ).mono ?_); assumption; rintro e w16 ⟨vs, rfl, ms, b16⟩; replace ir := ir.below b16; replace Nr := Nr.below b16; obtain ⟨gs, As, ns, cs, rfl, is, Ns⟩ := ms.open ls.out (by omega); clear ms) | (go_at_call 11; (with_reducible refine (K15.out _ ?_ _ _ _ _ ?_ ?_ _ _ _ _ ?_ ?_).mono ?_); assumption; exact ir; exact Nr; exact is; exact Ns; rintro e w17 ⟨rfl, b17⟩; replace ir := ir.below b17; replace Nr := Nr.below b17; replace is := is.below b17; replace Ns := Ns.below b17))
  rename_i hh
  have hh := hh.2.2.2.2
  have Ba : BoxZ w17 (w.heap.size) ga Aa na ca (x) := hh.1 _ (.head _)
  have Bb : BoxZ w17 (w.heap.size + 1) gb Ab nb cb (y) := hh.1 _ (.tail _ (.head _))
  have bl := hh.2.2
  clear hh HS K13 K14 K15
  clear ir Nr lr is Ns ls
  obtain ⟨a0, a1, a2, a3'⟩ := Ba.box
  obtain ⟨b0, b1, b2, b3'⟩ := Bb.box
  go_wp2_with fail
  clear a0 a1 a2 a3' b0 b1 b2 b3'
  have K16 := Lib.hid fun (W : World) (q : W.cell? ⟨w.heap.size, 0, none⟩ = some (.bool ga) ∧ W.cell? ⟨w.heap.size, 1, none⟩ = some (.slice Aa na ca) ∧ W.cell? ⟨w.heap.size + 1, 0, none⟩ = some (.bool gb) ∧ W.cell? ⟨w.heap.size + 1, 1, none⟩ = some (.slice Ab nb cb) ∧ HL w [⟨w.heap.size, ga, Aa, na, ca, x⟩, ⟨w.heap.size + 1, gb, Ab, nb, cb, y⟩] [] W)  => C1.out W (q.2.2.2.2.1 _ (.head _)).num (q.2.2.2.2.1 _ (.tail _ (.head _))).num
  have K17 := Lib.hid fun (W : World) (q : W.cell? ⟨w.heap.size, 0, none⟩ = some (.bool ga) ∧ W.cell? ⟨w.heap.size, 1, none⟩ = some (.slice Aa na ca) ∧ W.cell? ⟨w.heap.size + 1, 0, none⟩ = some (.bool gb) ∧ W.cell? ⟨w.heap.size + 1, 1, none⟩ = some (.slice Ab nb cb) ∧ HL w [⟨w.heap.size, ga, Aa, na, ca, x⟩, ⟨w.heap.size + 1, gb, Ab, nb, cb, y⟩] [] W)  => C2.out W (q.2.2.2.2.1 _ (.head _)).num (q.2.2.2.2.1 _ (.tail _ (.head _))).num
  have K18 := Lib.hid fun (W : World) (q : W.cell? ⟨w.heap.size, 0, none⟩ = some (.bool ga) ∧ W.cell? ⟨w.heap.size, 1, none⟩ = some (.slice Aa na ca) ∧ W.cell? ⟨w.heap.size + 1, 0, none⟩ = some (.bool gb) ∧ W.cell? ⟨w.heap.size + 1, 1, none⟩ = some (.slice Ab nb cb) ∧ HL w [⟨w.heap.size, ga, Aa, na, ca, x⟩, ⟨w.heap.size + 1, gb, Ab, nb, cb, y⟩] [] W)  => C3.out W (q.2.2.2.2.1 _ (.head _)).num
  have K19 := Lib.hid fun (W : World) (q : W.cell? ⟨w.heap.size, 0, none⟩ = some (.bool ga) ∧ W.cell? ⟨w.heap.size, 1, none⟩ = some (.slice Aa na ca) ∧ W.cell? ⟨w.heap.size + 1, 0, none⟩ = some (.bool gb) ∧ W.cell? ⟨w.heap.size + 1, 1, none⟩ = some (.slice Ab nb cb) ∧ HL w [⟨w.heap.size, ga, Aa, na, ca, x⟩, ⟨w.heap.size + 1, gb, Ab, nb, cb, y⟩] [] W)  => C4.out W (q.2.2.2.2.1 _ (.head _)).num
  have HS := Lib.hid (start2 Ba Bb (bl := bl) (M := []) (hM := (fun _ h => absurd h (by simp))))
  clear Ba Bb bl
  go_region_held3 (fun w' => w'.cell? ⟨w.heap.size, 0, none⟩ = some (.bool ga) ∧ w'.cell? ⟨w.heap.size, 1, none⟩ = some (.slice Aa na ca) ∧ w'.cell? ⟨w.heap.size + 1, 0, none⟩ = some (.bool gb) ∧ w'.cell? ⟨w.heap.size + 1, 1, none⟩ = some (.slice Ab nb cb) ∧ HL w [⟨w.heap.size, ga, Aa, na, ca, x⟩, ⟨w.heap.size + 1, gb, Ab, nb, cb, y⟩] [] w')
    (first | exact keepZ2 (by assumption) (by assumption) | exact HS.out)
    (first | (go_at_call 22; (with_reducible refine (K16.out _ ?_ ).mono ?_); assumption; rintro e w18 ⟨rfl, b18⟩) | (go_at_call 23; (with_reducible refine (K17.out _ ?_ ).mono ?_); assumption; rintro e w19 ⟨rfl, b19⟩) | (go_at_call 24; (with_reducible refine (K18.out _ ?_ ).mono ?_); assumption; rintro e w20 ⟨rfl, b20⟩) | (go_at_call 25; (with_reducible refine (K19.out _ ?_ ).mono ?_); assumption; rintro e w21 ⟨rfl, b21⟩))
  rename_i hh
  have hh := hh.2.2.2.2
  have Ba : BoxZ w21 (w.heap.size) ga Aa na ca (x) := hh.1 _ (.head _)
  have Bb : BoxZ w21 (w.heap.size + 1) gb Ab nb cb (y) := hh.1 _ (.tail _ (.head _))
  have bl := hh.2.2
  clear hh HS K16 K17 K18 K19
  go_wp2_with fail
  go_ret
  exact ⟨by simp, bl⟩
end Go.Proofs.Ytiehkciofggonaa
