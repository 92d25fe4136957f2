/- WholeOrder: its walk. -/
import Derived.Test.YtiehkciofggonaaGW
namespace Go.Proofs.Ytiehkciofggonaa
open Go.RowKit

theorem loc3 (w : World) (g : Bool) (A : Option Addr) (n c : Nat) (h : Bool) (B : Option Addr) (m d : Nat) (i : Bool) (C : Option Addr) (o e : Nat) :
    Below w.heap.size w (((w.alloc (.cells #[.bool g, .slice A n c] 24)).alloc (.cells #[.bool h, .slice B m d] 24)).alloc (.cells #[.bool i, .slice C o e] 24)) ∧ Box (((w.alloc (.cells #[.bool g, .slice A n c] 24)).alloc (.cells #[.bool h, .slice B m d] 24)).alloc (.cells #[.bool i, .slice C o e] 24)) w.heap.size g A n c ∧
    Box (((w.alloc (.cells #[.bool g, .slice A n c] 24)).alloc (.cells #[.bool h, .slice B m d] 24)).alloc (.cells #[.bool i, .slice C o e] 24)) (w.heap.size + 1) h B m d ∧ Box (((w.alloc (.cells #[.bool g, .slice A n c] 24)).alloc (.cells #[.bool h, .slice B m d] 24)).alloc (.cells #[.bool i, .slice C o e] 24)) (w.heap.size + 2) i C o e := by
  have q := (Held2.zero w g h A B n c m d).below ((Below.refl _ _).alloc (Nat.le_refl _) (.cells #[.bool i, .slice C o e] 24))
  have r := Box.new ((w.alloc (.cells #[.bool g, .slice A n c] 24)).alloc (.cells #[.bool h, .slice B m d] 24)) i C o e
  exact ⟨q.bel, q.box, q.box2, by simpa using r⟩
theorem WNum.zero {w : World} {v : Value} (h : WNum w v 0) : ∃ A c, v = .agg #[.bool false, .slice A 0 c] := by
  obtain ⟨u, rfl, h⟩ := h
  obtain ⟨A, c, rfl⟩ := Num.zero h
  exact ⟨A, c, rfl⟩


set_option maxRecDepth 100000 in
set_option maxHeartbeats 16000000 in
theorem wholeOrder_yes (ga : Bool) (Aa : Option Addr) (na ca : Nat) (gb : Bool) (Ab : Option Addr) (nb cb : Nat) (gc : Bool) (Ac : Option Addr) (nc cc : Nat) (x y v : Int) (X : Nat) (w : World) (ha : WIn w ga Aa na ca x) (hb : WIn w gb Ab nb cb y) (hc : WIn w gc Ac nc cc v) (la : Hid (x.natAbs < M.BB ^ X)) (lb : Hid (y.natAbs < M.BB ^ X)) (lc : Hid (v.natAbs < M.BB ^ X)) (hX : X ≤ 100) (h1 : na ≤ 40) (h2 : nb ≤ 40) (h3 : nc ≤ 40) :
    Calls Try.prog 7 #[.agg #[.bool ga, .slice Aa na ca], .agg #[.bool gb, .slice Ab nb cb], .agg #[.bool gc, .slice Ac nc cc]] w fun e w' => e = .returned (.bool true) ∧ Below w.heap.size w w' := by
  have HE1 : Hid (x + y + v = y + (v + x)) := show x + y + v = y + (v + x) by omega
  have HE2 : Hid (x * y * v = y * (v * x)) := show x * y * v = y * (v * x) by rw [← Int.mul_assoc y, Int.mul_comm (y * v), Int.mul_assoc]
  have HE3 : Hid (x * (y - v) = x * y - x * v) := Int.mul_sub x y v
  obtain ⟨t, HT⟩ : ∃ t, Hid (Z.sgn (x - y) = t) := ⟨_, rfl⟩
  have HT2 : Hid (Z.sgn (y - x) = -t) := by rw [← HT.out, Z.sgn_sub y x]; exact rfl
  have htb := Z.sgn_bd (x - y)
  rw [HT.out] at htb
  have hw1 : Hid (IntKind.i64.wrap (- -t) = t) := show IntKind.i64.wrap (- -t) = t by rw [Int.neg_neg]; exact IntWalk.i64_in _ (by omega)
  have hw2 : Hid (IntKind.i64.wrap t = t) := IntWalk.i64_in _ (by omega)
  clear htb
  have C1 := Lib.hid fun (W : World) (q1 : WIn W ga Aa na ca x) (q2 : WIn W gb Ab nb cb y) => cmp_w _ _ _ _ _ _ _ _ _ _ W q1 q2
  have C2 := Lib.hid fun (W : World) (q1 : WIn W gb Ab nb cb y) (q2 : WIn W ga Aa na ca x) => cmp_w _ _ _ _ _ _ _ _ _ _ W q1 q2
  rw [HT.out] at C1
  rw [HT2.out] at C2
  have HE4 : Hid (x + y - y = x) := show x + y - y = x by omega
  go_enter Try.func7, Try.ntmps7
  obtain ⟨bl, Bap, Bbp, Bcp⟩ := loc3 w ga Aa na ca gb Ab nb cb gc Ac nc cc
  have Ba : BoxZ _ _ ga Aa na ca x := ⟨Bap, ha.below bl⟩
  clear Bap
  have Bb : BoxZ _ _ gb Ab nb cb y := ⟨Bbp, hb.below bl⟩
  clear Bbp
  have Bc : BoxZ _ _ gc Ac nc cc v := ⟨Bcp, hc.below bl⟩
  clear Bcp
  obtain ⟨a0, a1, a2, a3'⟩ := Ba.box
  obtain ⟨b0, b1, b2, b3'⟩ := Bb.box
  obtain ⟨c0, c1, c2, c3'⟩ := Bc.box
  go_wp2_with fail
  clear a0 a1 a2 a3' b0 b1 b2 b3' c0 c1 c2 c3'
  refine (awake_w _).mono ?_
  rintro e w1 ⟨rfl, b1⟩
  replace Ba := Ba.below b1
  replace Bb := Bb.below b1
  replace Bc := Bc.below b1
  replace bl := bl.trans (b1.mono bl.size)
  clear b1
  obtain ⟨a0, a1, a2, a3'⟩ := Ba.box
  obtain ⟨b0, b1, b2, b3'⟩ := Bb.box
  obtain ⟨c0, c1, c2, c3'⟩ := Bc.box
  go_wp2_with fail
  clear a0 a1 a2 a3' b0 b1 b2 b3' c0 c1 c2 c3'
  refine (few_w _ _ _ _ _ _ _ _ true 40 _ (by omega) (by unfold maxLen; omega) (by unfold maxLen; omega) (by simp [h1, h2])).mono ?_
  rintro e w2 ⟨rfl, b2⟩
  replace Ba := Ba.below b2
  replace Bb := Bb.below b2
  replace Bc := Bc.below b2
  replace bl := bl.trans (b2.mono bl.size)
  clear b2
  obtain ⟨a0, a1, a2, a3'⟩ := Ba.box
  obtain ⟨b0, b1, b2, b3'⟩ := Bb.box
  obtain ⟨c0, c1, c2, c3'⟩ := Bc.box
  go_wp2_with fail
  clear a0 a1 a2 a3' b0 b1 b2 b3' c0 c1 c2 c3'
  have K1 := Lib.hid fun (W : World) (q : W.cell? ⟨w.heap.size, 0, none⟩ = some (.bool ga) ∧ W.cell? ⟨w.heap.size, 1, none⟩ = some (.slice Aa na ca) ∧ W.cell? ⟨w.heap.size + 1, 0, none⟩ = some (.bool gb) ∧ W.cell? ⟨w.heap.size + 1, 1, none⟩ = some (.slice Ab nb cb) ∧ W.cell? ⟨w.heap.size + 2, 0, none⟩ = some (.bool gc) ∧ W.cell? ⟨w.heap.size + 2, 1, none⟩ = some (.slice Ac nc cc) ∧ HL w [⟨w.heap.size, ga, Aa, na, ca, x⟩, ⟨w.heap.size + 1, gb, Ab, nb, cb, y⟩, ⟨w.heap.size + 2, gc, Ac, nc, cc, v⟩] [] W)  => add_w _ _ _ _ _ _ _ _ _ _ W (q.2.2.2.2.2.2.1 _ (.head _)).num (q.2.2.2.2.2.2.1 _ (.tail _ (.head _))).num
  have lr := Lib.hid (lt_addZ la.out lb.out)
  have K2 := Lib.hid fun (W : World) (q : W.cell? ⟨w.heap.size, 0, none⟩ = some (.bool ga) ∧ W.cell? ⟨w.heap.size, 1, none⟩ = some (.slice Aa na ca) ∧ W.cell? ⟨w.heap.size + 1, 0, none⟩ = some (.bool gb) ∧ W.cell? ⟨w.heap.size + 1, 1, none⟩ = some (.slice Ab nb cb) ∧ W.cell? ⟨w.heap.size + 2, 0, none⟩ = some (.bool gc) ∧ W.cell? ⟨w.heap.size + 2, 1, none⟩ = some (.slice Ac nc cc) ∧ HL w [⟨w.heap.size, ga, Aa, na, ca, x⟩, ⟨w.heap.size + 1, gb, Ab, nb, cb, y⟩, ⟨w.heap.size + 2, gc, Ac, nc, cc, v⟩] [] W) (gr : Bool) (Ar : Option Addr) (nr cr : Nat) (ir : WIn W gr Ar nr cr (x + y)) (Nr : WNum W (.agg #[.bool gr, .slice Ar nr cr]) (x + y)) => add_w _ _ _ _ _ _ _ _ _ _ W ir (q.2.2.2.2.2.2.1 _ (.tail _ (.tail _ (.head _)))).num
  have ls := Lib.hid (lt_addZ lr.out lc.out)
  have K3 := Lib.hid fun (W : World) (q : W.cell? ⟨w.heap.size, 0, none⟩ = some (.bool ga) ∧ W.cell? ⟨w.heap.size, 1, none⟩ = some (.slice Aa na ca) ∧ W.cell? ⟨w.heap.size + 1, 0, none⟩ = some (.bool gb) ∧ W.cell? ⟨w.heap.size + 1, 1, none⟩ = some (.slice Ab nb cb) ∧ W.cell? ⟨w.heap.size + 2, 0, none⟩ = some (.bool gc) ∧ W.cell? ⟨w.heap.size + 2, 1, none⟩ = some (.slice Ac nc cc) ∧ HL w [⟨w.heap.size, ga, Aa, na, ca, x⟩, ⟨w.heap.size + 1, gb, Ab, nb, cb, y⟩, ⟨w.heap.size + 2, gc, Ac, nc, cc, v⟩] [] W)  => add_w _ _ _ _ _ _ _ _ _ _ W (q.2.2.2.2.2.2.1 _ (.tail _ (.tail _ (.head _)))).num (q.2.2.2.2.2.2.1 _ (.head _)).num
  have lt := Lib.hid (lt_addZ lc.out la.out)
  have K4 := Lib.hid fun (W : World) (q : W.cell? ⟨w.heap.size, 0, none⟩ = some (.bool ga) ∧ W.cell? ⟨w.heap.size, 1, none⟩ = some (.slice Aa na ca) ∧ W.cell? ⟨w.heap.size + 1, 0, none⟩ = some (.bool gb) ∧ W.cell? ⟨w.heap.size + 1, 1, none⟩ = some (.slice Ab nb cb) ∧ W.cell? ⟨w.heap.size + 2, 0, none⟩ = some (.bool gc) ∧ W.cell? ⟨w.heap.size + 2, 1, none⟩ = some (.slice Ac nc cc) ∧ HL w [⟨w.heap.size, ga, Aa, na, ca, x⟩, ⟨w.heap.size + 1, gb, Ab, nb, cb, y⟩, ⟨w.heap.size + 2, gc, Ac, nc, cc, v⟩] [] W) (gt : Bool) (At : Option Addr) (nt ct : Nat) (it : WIn W gt At nt ct (v + x)) (Nt : WNum W (.agg #[.bool gt, .slice At nt ct]) (v + x)) => add_w _ _ _ _ _ _ _ _ _ _ W (q.2.2.2.2.2.2.1 _ (.tail _ (.head _))).num it
  have lu := Lib.hid (lt_addZ lb.out lt.out)
  have K5 := Lib.hid fun (W : World) (q : W.cell? ⟨w.heap.size, 0, none⟩ = some (.bool ga) ∧ W.cell? ⟨w.heap.size, 1, none⟩ = some (.slice Aa na ca) ∧ W.cell? ⟨w.heap.size + 1, 0, none⟩ = some (.bool gb) ∧ W.cell? ⟨w.heap.size + 1, 1, none⟩ = some (.slice Ab nb cb) ∧ W.cell? ⟨w.heap.size + 2, 0, none⟩ = some (.bool gc) ∧ W.cell? ⟨w.heap.size + 2, 1, none⟩ = some (.slice Ac nc cc) ∧ HL w [⟨w.heap.size, ga, Aa, na, ca, x⟩, ⟨w.heap.size + 1, gb, Ab, nb, cb, y⟩, ⟨w.heap.size + 2, gc, Ac, nc, cc, v⟩] [] W) (gs : Bool) (As : Option Addr) (ns cs : Nat) (is : WIn W gs As ns cs (x + y + v)) (Ns : WNum W (.agg #[.bool gs, .slice As ns cs]) (x + y + v)) (gu : Bool) (Au : Option Addr) (nu cu : Nat) (iu : WIn W gu Au nu cu (y + (v + x))) (Nu : WNum W (.agg #[.bool gu, .slice Au nu cu]) (y + (v + x))) => same_w Ns Nu HE1.out
  have HS := Lib.hid (start3 Ba Bb Bc (bl := bl) (M := []) (hM := (fun _ h => absurd h (by simp))))
  clear Ba Bb Bc bl
  go_region_held3 (fun w' => w'.cell? ⟨w.heap.size, 0, none⟩ = some (.bool ga) ∧ w'.cell? ⟨w.heap.size, 1, none⟩ = some (.slice Aa na ca) ∧ w'.cell? ⟨w.heap.size + 1, 0, none⟩ = some (.bool gb) ∧ w'.cell? ⟨w.heap.size + 1, 1, none⟩ = some (.slice Ab nb cb) ∧ w'.cell? ⟨w.heap.size + 2, 0, none⟩ = some (.bool gc) ∧ w'.cell? ⟨w.heap.size + 2, 1, none⟩ = some (.slice Ac nc cc) ∧ HL w [⟨w.heap.size, ga, Aa, na, ca, x⟩, ⟨w.heap.size + 1, gb, Ab, nb, cb, y⟩, ⟨w.heap.size + 2, gc, Ac, nc, cc, v⟩] [] w')
    (first | exact keepZ3 (by assumption) (by assumption) | exact HS.out)
    (first | (go_at_call 16; (with_reducible refine (K1.out _ ?_ ).mono ?_); assumption; rintro e w3 ⟨vr, rfl, mr, b3⟩; obtain ⟨gr, Ar, nr, cr, rfl, ir, Nr⟩ := mr.open lr.out (by omega); clear mr) | (go_at_call 16; (with_reducible refine (K2.out _ ?_ _ _ _ _ ?_ ?_).mono ?_); assumption; exact ir; exact Nr; rintro e w4 ⟨vs, rfl, ms, b4⟩; replace ir := ir.below b4; replace Nr := Nr.below b4; obtain ⟨gs, As, ns, cs, rfl, is, Ns⟩ := ms.open ls.out (by omega); clear ms) | (go_at_call 16; (with_reducible refine (K3.out _ ?_ ).mono ?_); assumption; rintro e w5 ⟨vt, rfl, mt, b5⟩; replace ir := ir.below b5; replace Nr := Nr.below b5; replace is := is.below b5; replace Ns := Ns.below b5; obtain ⟨gt, At, nt, ct, rfl, it, Nt⟩ := mt.open lt.out (by omega); clear mt) | (go_at_call 16; (with_reducible refine (K4.out _ ?_ _ _ _ _ ?_ ?_).mono ?_); assumption; exact it; exact Nt; rintro e w6 ⟨vu, rfl, mu, b6⟩; replace ir := ir.below b6; replace Nr := Nr.below b6; replace is := is.below b6; replace Ns := Ns.below b6; replace it := it.below b6; replace Nt := Nt.below b6; obtain ⟨gu, Au, nu, cu, rfl, iu, Nu⟩ := mu.open lu.out (by omega); clear mu) | (go_at_call 11; (with_reducible refine (K5.out _ ?_ _ _ _ _ ?_ ?_ _ _ _ _ ?_ ?_).mono ?_); assumption; exact is; exact Ns; exact iu; exact Nu; rintro e w7 ⟨rfl, b7⟩; replace ir := ir.below b7; replace Nr := Nr.below b7; replace is := is.below b7; replace Ns := Ns.below b7; replace it := it.below b7; replace Nt := Nt.below b7; replace iu := iu.below b7; replace Nu := Nu.below b7))
  rename_i hh
  have hh := hh.2.2.2.2.2.2
  have Ba : BoxZ w7 (w.heap.size) ga Aa na ca (x) := hh.1 _ (.head _)
  have Bb : BoxZ w7 (w.heap.size + 1) gb Ab nb cb (y) := hh.1 _ (.tail _ (.head _))
  have Bc : BoxZ w7 (w.heap.size + 2) gc Ac nc cc (v) := hh.1 _ (.tail _ (.tail _ (.head _)))
  have bl := hh.2.2
  clear hh HS K1 K2 K3 K4 K5
  clear ir Nr lr is Ns ls it Nt lt iu Nu lu
  obtain ⟨a0, a1, a2, a3'⟩ := Ba.box
  obtain ⟨b0, b1, b2, b3'⟩ := Bb.box
  obtain ⟨c0, c1, c2, c3'⟩ := Bc.box
  go_wp2_with fail
  clear a0 a1 a2 a3' b0 b1 b2 b3' c0 c1 c2 c3'
  have K6 := Lib.hid fun (W : World) (q : W.cell? ⟨w.heap.size, 0, none⟩ = some (.bool ga) ∧ W.cell? ⟨w.heap.size, 1, none⟩ = some (.slice Aa na ca) ∧ W.cell? ⟨w.heap.size + 1, 0, none⟩ = some (.bool gb) ∧ W.cell? ⟨w.heap.size + 1, 1, none⟩ = some (.slice Ab nb cb) ∧ W.cell? ⟨w.heap.size + 2, 0, none⟩ = some (.bool gc) ∧ W.cell? ⟨w.heap.size + 2, 1, none⟩ = some (.slice Ac nc cc) ∧ HL w [⟨w.heap.size, ga, Aa, na, ca, x⟩, ⟨w.heap.size + 1, gb, Ab, nb, cb, y⟩, ⟨w.heap.size + 2, gc, Ac, nc, cc, v⟩] [] W)  => mul_w _ _ _ _ _ _ _ _ _ _ W (q.2.2.2.2.2.2.1 _ (.head _)).num (q.2.2.2.2.2.2.1 _ (.tail _ (.head _))).num
  have lr := Lib.hid (lt_mulZ la.out lb.out)
  have K7 := Lib.hid fun (W : World) (q : W.cell? ⟨w.heap.size, 0, none⟩ = some (.bool ga) ∧ W.cell? ⟨w.heap.size, 1, none⟩ = some (.slice Aa na ca) ∧ W.cell? ⟨w.heap.size + 1, 0, none⟩ = some (.bool gb) ∧ W.cell? ⟨w.heap.size + 1, 1, none⟩ = some (.slice Ab nb cb) ∧ W.cell? ⟨w.heap.size + 2, 0, none⟩ = some (.bool gc) ∧ W.cell? ⟨w.heap.size + 2, 1, none⟩ = some (.slice Ac nc cc) ∧ HL w [⟨w.heap.size, ga, Aa, na, ca, x⟩, ⟨w.heap.size + 1, gb, Ab, nb, cb, y⟩, ⟨w.heap.size + 2, gc, Ac, nc, cc, v⟩] [] W) (gr : Bool) (Ar : Option Addr) (nr cr : Nat) (ir : WIn W gr Ar nr cr (x * y)) (Nr : WNum W (.agg #[.bool gr, .slice Ar nr cr]) (x * y)) => mul_w _ _ _ _ _ _ _ _ _ _ W ir (q.2.2.2.2.2.2.1 _ (.tail _ (.tail _ (.head _)))).num
  have ls := Lib.hid (lt_mulZ lr.out lc.out)
  have K8 := Lib.hid fun (W : World) (q : W.cell? ⟨w.heap.size, 0, none⟩ = some (.bool ga) ∧ W.cell? ⟨w.heap.size, 1, none⟩ = some (.slice Aa na ca) ∧ W.cell? ⟨w.heap.size + 1, 0, none⟩ = some (.bool gb) ∧ W.cell? ⟨w.heap.size + 1, 1, none⟩ = some (.slice Ab nb cb) ∧ W.cell? ⟨w.heap.size + 2, 0, none⟩ = some (.bool gc) ∧ W.cell? ⟨w.heap.size + 2, 1, none⟩ = some (.slice Ac nc cc) ∧ HL w [⟨w.heap.size, ga, Aa, na, ca, x⟩, ⟨w.heap.size + 1, gb, Ab, nb, cb, y⟩, ⟨w.heap.size + 2, gc, Ac, nc, cc, v⟩] [] W)  => mul_w _ _ _ _ _ _ _ _ _ _ W (q.2.2.2.2.2.2.1 _ (.tail _ (.tail _ (.head _)))).num (q.2.2.2.2.2.2.1 _ (.head _)).num
  have lt := Lib.hid (lt_mulZ lc.out la.out)
  have K9 := Lib.hid fun (W : World) (q : W.cell? ⟨w.heap.size, 0, none⟩ = some (.bool ga) ∧ W.cell? ⟨w.heap.size, 1, none⟩ = some (.slice Aa na ca) ∧ W.cell? ⟨w.heap.size + 1, 0, none⟩ = some (.bool gb) ∧ W.cell? ⟨w.heap.size + 1, 1, none⟩ = some (.slice Ab nb cb) ∧ W.cell? ⟨w.heap.size + 2, 0, none⟩ = some (.bool gc) ∧ W.cell? ⟨w.heap.size + 2, 1, none⟩ = some (.slice Ac nc cc) ∧ HL w [⟨w.heap.size, ga, Aa, na, ca, x⟩, ⟨w.heap.size + 1, gb, Ab, nb, cb, y⟩, ⟨w.heap.size + 2, gc, Ac, nc, cc, v⟩] [] W) (gt : Bool) (At : Option Addr) (nt ct : Nat) (it : WIn W gt At nt ct (v * x)) (Nt : WNum W (.agg #[.bool gt, .slice At nt ct]) (v * x)) => mul_w _ _ _ _ _ _ _ _ _ _ W (q.2.2.2.2.2.2.1 _ (.tail _ (.head _))).num it
  have lu := Lib.hid (lt_mulZ lb.out lt.out)
  have K10 := Lib.hid fun (W : World) (q : W.cell? ⟨w.heap.size, 0, none⟩ = some (.bool ga) ∧ W.cell? ⟨w.heap.size, 1, none⟩ = some (.slice Aa na ca) ∧ W.cell? ⟨w.heap.size + 1, 0, none⟩ = some (.bool gb) ∧ W.cell? ⟨w.heap.size + 1, 1, none⟩ = some (.slice Ab nb cb) ∧ W.cell? ⟨w.heap.size + 2, 0, none⟩ = some (.bool gc) ∧ W.cell? ⟨w.heap.size + 2, 1, none⟩ = some (.slice Ac nc cc) ∧ HL w [⟨w.heap.size, ga, Aa, na, ca, x⟩, ⟨w.heap.size + 1, gb, Ab, nb, cb, y⟩, ⟨w.heap.size + 2, gc, Ac, nc, cc, v⟩] [] W) (gs : Bool) (As : Option Addr) (ns cs : Nat) (is : WIn W gs As ns cs (x * y * v)) (Ns : WNum W (.agg #[.bool gs, .slice As ns cs]) (x * y * v)) (gu : Bool) (Au : Option Addr) (nu cu : Nat) (iu : WIn W gu Au nu cu (y * (v * x))) (Nu : WNum W (.agg #[.bool gu, .slice Au nu cu]) (y * (v * x))) => same_w Ns Nu HE2.out
  have HS := Lib.hid (start3 Ba Bb Bc (bl := bl) (M := []) (hM := (fun _ h => absurd h (by simp))))
  clear Ba Bb Bc bl
  go_region_held3 (fun w' => w'.cell? ⟨w.heap.size, 0, none⟩ = some (.bool ga) ∧ w'.cell? ⟨w.heap.size, 1, none⟩ = some (.slice Aa na ca) ∧ w'.cell? ⟨w.heap.size + 1, 0, none⟩ = some (.bool gb) ∧ w'.cell? ⟨w.heap.size + 1, 1, none⟩ = some (.slice Ab nb cb) ∧ w'.cell? ⟨w.heap.size + 2, 0, none⟩ = some (.bool gc) ∧ w'.cell? ⟨w.heap.size + 2, 1, none⟩ = some (.slice Ac nc cc) ∧ HL w [⟨w.heap.size, ga, Aa, na, ca, x⟩, ⟨w.heap.size + 1, gb, Ab, nb, cb, y⟩, ⟨w.heap.size + 2, gc, Ac, nc, cc, v⟩] [] w')
    (first | exact keepZ3 (by assumption) (by assumption) | exact HS.out)
    (first | (go_at_call 20; (with_reducible refine (K6.out _ ?_ ).mono ?_); assumption; rintro e w8 ⟨vr, rfl, mr, b8⟩; obtain ⟨gr, Ar, nr, cr, rfl, ir, Nr⟩ := mr.open lr.out (by omega); clear mr) | (go_at_call 20; (with_reducible refine (K7.out _ ?_ _ _ _ _ ?_ ?_).mono ?_); assumption; exact ir; exact Nr; rintro e w9 ⟨vs, rfl, ms, b9⟩; replace ir := ir.below b9; replace Nr := Nr.below b9; obtain ⟨gs, As, ns, cs, rfl, is, Ns⟩ := ms.open ls.out (by omega); clear ms) | (go_at_call 20; (with_reducible refine (K8.out _ ?_ ).mono ?_); assumption; rintro e w10 ⟨vt, rfl, mt, b10⟩; replace ir := ir.below b10; replace Nr := Nr.below b10; replace is := is.below b10; replace Ns := Ns.below b10; obtain ⟨gt, At, nt, ct, rfl, it, Nt⟩ := mt.open lt.out (by omega); clear mt) | (go_at_call 20; (with_reducible refine (K9.out _ ?_ _ _ _ _ ?_ ?_).mono ?_); assumption; exact it; exact Nt; rintro e w11 ⟨vu, rfl, mu, b11⟩; replace ir := ir.below b11; replace Nr := Nr.below b11; replace is := is.below b11; replace Ns := Ns.below b11; replace it := it.below b11; replace Nt := Nt.below b11; obtain ⟨gu, Au, nu, cu, rfl, iu, Nu⟩ := mu.open lu.out (by omega); clear mu) | (go_at_call 11; (with_reducible refine (K10.out _ ?_ _ _ _ _ ?_ ?_ _ _ _ _ ?_ ?_).mono ?_); assumption; exact is; exact Ns; exact iu; exact Nu; rintro e w12 ⟨rfl, b12⟩; replace ir := ir.below b12; replace Nr := Nr.below b12; replace is := is.below b12; replace Ns := Ns.below b12; replace it := it.below b12; replace Nt := Nt.below b12; replace iu := iu.below b12; replace Nu := Nu.below b12))
  rename_i hh
  have hh := hh.2.2.2.2.2.2
  have Ba : BoxZ w12 (w.heap.size) ga Aa na ca (x) := hh.1 _ (.head _)
  have Bb : BoxZ w12 (w.heap.size + 1) gb Ab nb cb (y) := hh.1 _ (.tail _ (.head _))
  have Bc : BoxZ w12 (w.heap.size + 2) gc Ac nc cc (v) := hh.1 _ (.tail _ (.tail _ (.head _)))
  have bl := hh.2.2
  clear hh HS K6 K7 K8 K9 K10
  clear ir Nr lr is Ns ls it Nt lt iu Nu lu
  obtain ⟨a0, a1, a2, a3'⟩ := Ba.box
  obtain ⟨b0, b1, b2, b3'⟩ := Bb.box
  obtain ⟨c0, c1, c2, c3'⟩ := Bc.box
  go_wp2_with fail
  clear a0 a1 a2 a3' b0 b1 b2 b3' c0 c1 c2 c3'
  have K11 := Lib.hid fun (W : World) (q : W.cell? ⟨w.heap.size, 0, none⟩ = some (.bool ga) ∧ W.cell? ⟨w.heap.size, 1, none⟩ = some (.slice Aa na ca) ∧ W.cell? ⟨w.heap.size + 1, 0, none⟩ = some (.bool gb) ∧ W.cell? ⟨w.heap.size + 1, 1, none⟩ = some (.slice Ab nb cb) ∧ W.cell? ⟨w.heap.size + 2, 0, none⟩ = some (.bool gc) ∧ W.cell? ⟨w.heap.size + 2, 1, none⟩ = some (.slice Ac nc cc) ∧ HL w [⟨w.heap.size, ga, Aa, na, ca, x⟩, ⟨w.heap.size + 1, gb, Ab, nb, cb, y⟩, ⟨w.heap.size + 2, gc, Ac, nc, cc, v⟩] [] W)  => sub_w _ _ _ _ _ _ _ _ _ _ W (q.2.2.2.2.2.2.1 _ (.tail _ (.head _))).num (q.2.2.2.2.2.2.1 _ (.tail _ (.tail _ (.head _)))).num
  have lr := Lib.hid (lt_subZ lb.out lc.out)
  have K12 := Lib.hid fun (W : World) (q : W.cell? ⟨w.heap.size, 0, none⟩ = some (.bool ga) ∧ W.cell? ⟨w.heap.size, 1, none⟩ = some (.slice Aa na ca) ∧ W.cell? ⟨w.heap.size + 1, 0, none⟩ = some (.bool gb) ∧ W.cell? ⟨w.heap.size + 1, 1, none⟩ = some (.slice Ab nb cb) ∧ W.cell? ⟨w.heap.size + 2, 0, none⟩ = some (.bool gc) ∧ W.cell? ⟨w.heap.size + 2, 1, none⟩ = some (.slice Ac nc cc) ∧ HL w [⟨w.heap.size, ga, Aa, na, ca, x⟩, ⟨w.heap.size + 1, gb, Ab, nb, cb, y⟩, ⟨w.heap.size + 2, gc, Ac, nc, cc, v⟩] [] W) (gr : Bool) (Ar : Option Addr) (nr cr : Nat) (ir : WIn W gr Ar nr cr (y - v)) (Nr : WNum W (.agg #[.bool gr, .slice Ar nr cr]) (y - v)) => mul_w _ _ _ _ _ _ _ _ _ _ W (q.2.2.2.2.2.2.1 _ (.head _)).num ir
  have ls := Lib.hid (lt_mulZ la.out lr.out)
  have K13 := Lib.hid fun (W : World) (q : W.cell? ⟨w.heap.size, 0, none⟩ = some (.bool ga) ∧ W.cell? ⟨w.heap.size, 1, none⟩ = some (.slice Aa na ca) ∧ W.cell? ⟨w.heap.size + 1, 0, none⟩ = some (.bool gb) ∧ W.cell? ⟨w.heap.size + 1, 1, none⟩ = some (.slice Ab nb cb) ∧ W.cell? ⟨w.heap.size + 2, 0, none⟩ = some (.bool gc) ∧ W.cell? ⟨w.heap.size + 2, 1, none⟩ = some (.slice Ac nc cc) ∧ HL w [⟨w.heap.size, ga, Aa, na, ca, x⟩, ⟨w.heap.size + 1, gb, Ab, nb, cb, y⟩, ⟨w.heap.size + 2, gc, Ac, nc, cc, v⟩] [] W)  => mul_w _ _ _ _ _ _ _ _ _ _ W (q.2.2.2.2.2.2.1 _ (.head _)).num (q.2.2.2.2.2.2.1 _ (.tail _ (.head _))).num
  have lt := Lib.hid (lt_mulZ la.out lb.out)
  have K14 := Lib.hid fun (W : World) (q : W.cell? ⟨w.heap.size, 0, none⟩ = some (.bool ga) ∧ W.cell? ⟨w.heap.size, 1, none⟩ = some (.slice Aa na ca) ∧ W.cell? ⟨w.heap.size + 1, 0, none⟩ = some (.bool gb) ∧ W.cell? ⟨w.heap.size + 1, 1, none⟩ = some (.slice Ab nb cb) ∧ W.cell? ⟨w.heap.size + 2, 0, none⟩ = some (.bool gc) ∧ W.cell? ⟨w.heap.size + 2, 1, none⟩ = some (.slice Ac nc cc) ∧ HL w [⟨w.heap.size, ga, Aa, na, ca, x⟩, ⟨w.heap.size + 1, gb, Ab, nb, cb, y⟩, ⟨w.heap.size + 2, gc, Ac, nc, cc, v⟩] [] W)  => mul_w _ _ _ _ _ _ _ _ _ _ W (q.2.2.2.2.2.2.1 _ (.head _)).num (q.2.2.2.2.2.2.1 _ (.tail _ (.tail _ (.head _)))).num
  have lu := Lib.hid (lt_mulZ la.out lc.out)
  have K15 := Lib.hid fun (W : World) (q : W.cell? ⟨w.heap.size, 0, none⟩ = some (.bool ga) ∧ W.cell? ⟨w.heap.size, 1, none⟩ = some (.slice Aa na ca) ∧ W.cell? ⟨w.heap.size + 1, 0, none⟩ = some (.bool gb) ∧ W.cell? ⟨w.heap.size + 1, 1, none⟩ = some (.slice Ab nb cb) ∧ W.cell? ⟨w.heap.size + 2, 0, none⟩ = some (.bool gc) ∧ W.cell? ⟨w.heap.size + 2, 1, none⟩ = some (.slice Ac nc cc) ∧ HL w [⟨w.heap.size, ga, Aa, na, ca, x⟩, ⟨w.heap.size + 1, gb, Ab, nb, cb, y⟩, ⟨w.heap.size + 2, gc, Ac, nc, cc, v⟩] [] W) (gt : Bool) (At : Option Addr) (nt ct : Nat) (it : WIn W gt At nt ct (x * y)) (Nt : WNum W (.agg #[.bool gt, .slice At nt ct]) (x * y)) (gu : Bool) (Au : Option Addr) (nu cu : Nat) (iu : WIn W gu Au nu cu (x * v)) (Nu : WNum W (.agg #[.bool gu, .slice Au nu cu]) (x * v)) => sub_w _ _ _ _ _ _ _ _ _ _ W it iu
  have lo := Lib.hid (lt_subZ lt.out lu.out)
  have K16 := Lib.hid fun (W : World) (q : W.cell? ⟨w.heap.size, 0, none⟩ = some (.bool ga) ∧ W.cell? ⟨w.heap.size, 1, none⟩ = some (.slice Aa na ca) ∧ W.cell? ⟨w.heap.size + 1, 0, none⟩ = some (.bool gb) ∧ W.cell? ⟨w.heap.size + 1, 1, none⟩ = some (.slice Ab nb cb) ∧ W.cell? ⟨w.heap.size + 2, 0, none⟩ = some (.bool gc) ∧ W.cell? ⟨w.heap.size + 2, 1, none⟩ = some (.slice Ac nc cc) ∧ HL w [⟨w.heap.size, ga, Aa, na, ca, x⟩, ⟨w.heap.size + 1, gb, Ab, nb, cb, y⟩, ⟨w.heap.size + 2, gc, Ac, nc, cc, v⟩] [] W) (gs : Bool) (As : Option Addr) (ns cs : Nat) (is : WIn W gs As ns cs (x * (y - v))) (Ns : WNum W (.agg #[.bool gs, .slice As ns cs]) (x * (y - v))) (go : Bool) (Ao : Option Addr) (no co : Nat) (io : WIn W go Ao no co (x * y - x * v)) (No : WNum W (.agg #[.bool go, .slice Ao no co]) (x * y - x * v)) => same_w Ns No HE3.out
  have HS := Lib.hid (start3 Ba Bb Bc (bl := bl) (M := []) (hM := (fun _ h => absurd h (by simp))))
  clear Ba Bb Bc bl
  go_region_held3 (fun w' => w'.cell? ⟨w.heap.size, 0, none⟩ = some (.bool ga) ∧ w'.cell? ⟨w.heap.size, 1, none⟩ = some (.slice Aa na ca) ∧ w'.cell? ⟨w.heap.size + 1, 0, none⟩ = some (.bool gb) ∧ w'.cell? ⟨w.heap.size + 1, 1, none⟩ = some (.slice Ab nb cb) ∧ w'.cell? ⟨w.heap.size + 2, 0, none⟩ = some (.bool gc) ∧ w'.cell? ⟨w.heap.size + 2, 1, none⟩ = some (.slice Ac nc cc) ∧ HL w [⟨w.heap.size, ga, Aa, na, ca, x⟩, ⟨w.heap.size + 1, gb, Ab, nb, cb, y⟩, ⟨w.heap.size + 2, gc, Ac, nc, cc, v⟩] [] w')
    (first | exact keepZ3 (by assumption) (by assumption) | exact HS.out)
    (first | (go_at_call 18; (with_reducible refine (K11.out _ ?_ ).mono ?_); assumption; rintro e w13 ⟨vr, rfl, mr, b13⟩; obtain ⟨gr, Ar, nr, cr, rfl, ir, Nr⟩ := mr.open lr.out (by omega); clear mr) | (go_at_call 20; (with_reducible refine (K12.out _ ?_ _ _ _ _ ?_ ?_).mono ?_); assumption; exact ir; exact Nr; rintro e w14 ⟨vs, rfl, ms, b14⟩; replace ir := ir.below b14; replace Nr := Nr.below b14; obtain ⟨gs, As, ns, cs, rfl, is, Ns⟩ := ms.open ls.out (by omega); clear ms) | (go_at_call 20; (with_reducible refine (K13.out _ ?_ ).mono ?_); assumption; rintro e w15 ⟨vt, rfl, mt, b15⟩; replace ir := ir.below b15; replace Nr := Nr.below b15; replace is := is.below b15; replace Ns := Ns.below b15; obtain ⟨gt, At, nt, ct, rfl, it, Nt⟩ := mt.open lt.out (by omega); clear mt) | (go_at_call 20; (with_reducible refine (K14.out _ ?_ ).mono ?_); assumption; rintro e w16 ⟨vu, rfl, mu, b16⟩; replace ir := ir.below b16; replace Nr := Nr.below b16; replace is := is.below b16; replace Ns := Ns.below b16; replace it := it.below b16; replace Nt := Nt.below b16; obtain ⟨gu, Au, nu, cu, rfl, iu, Nu⟩ := mu.open lu.out (by omega); clear mu) | (go_at_call 18; (with_reducible refine (K15.out _ ?_ _ _ _ _ ?_ ?_ _ _ _ _ ?_ ?_).mono ?_); assumption; exact it; exact Nt; exact iu; exact Nu; rintro e w17 ⟨vo, rfl, mo, b17⟩; replace ir := ir.below b17; replace Nr := Nr.below b17; replace is := is.below b17; replace Ns := Ns.below b17; replace it := it.below b17; replace Nt := Nt.below b17; replace iu := iu.below b17; replace Nu := Nu.below b17; obtain ⟨go, Ao, no, co, rfl, io, No⟩ := mo.open lo.out (by omega); clear mo) | (go_at_call 11; (with_reducible refine (K16.out _ ?_ _ _ _ _ ?_ ?_ _ _ _ _ ?_ ?_).mono ?_); assumption; exact is; exact Ns; exact io; exact No; rintro e w18 ⟨rfl, b18⟩; replace ir := ir.below b18; replace Nr := Nr.below b18; replace is := is.below b18; replace Ns := Ns.below b18; replace it := it.below b18; replace Nt := Nt.below b18; replace iu := iu.below b18; replace Nu := Nu.below b18; replace io := io.below b18; replace No := No.below b18))
  rename_i hh
  have hh := hh.2.2.2.2.2.2
  have Ba : BoxZ w18 (w.heap.size) ga Aa na ca (x) := hh.1 _ (.head _)
  have Bb : BoxZ w18 (w.heap.size + 1) gb Ab nb cb (y) := hh.1 _ (.tail _ (.head _))
  have Bc : BoxZ w18 (w.heap.size + 2) gc Ac nc cc (v) := hh.1 _ (.tail _ (.tail _ (.head _)))
  have bl := hh.2.2
  clear hh HS K11 K12 K13 K14 K15 K16
  clear ir Nr lr is Ns ls it Nt lt iu Nu lu io No lo
  obtain ⟨a0, a1, a2, a3'⟩ := Ba.box
  obtain ⟨b0, b1, b2, b3'⟩ := Bb.box
  obtain ⟨c0, c1, c2, c3'⟩ := Bc.box
  go_wp2_with fail
  clear a0 a1 a2 a3' b0 b1 b2 b3' c0 c1 c2 c3'
  have K17 := Lib.hid fun (W : World) (q : W.cell? ⟨w.heap.size, 0, none⟩ = some (.bool ga) ∧ W.cell? ⟨w.heap.size, 1, none⟩ = some (.slice Aa na ca) ∧ W.cell? ⟨w.heap.size + 1, 0, none⟩ = some (.bool gb) ∧ W.cell? ⟨w.heap.size + 1, 1, none⟩ = some (.slice Ab nb cb) ∧ W.cell? ⟨w.heap.size + 2, 0, none⟩ = some (.bool gc) ∧ W.cell? ⟨w.heap.size + 2, 1, none⟩ = some (.slice Ac nc cc) ∧ HL w [⟨w.heap.size, ga, Aa, na, ca, x⟩, ⟨w.heap.size + 1, gb, Ab, nb, cb, y⟩, ⟨w.heap.size + 2, gc, Ac, nc, cc, v⟩] [] W)  => add_w _ _ _ _ _ _ _ _ _ _ W (q.2.2.2.2.2.2.1 _ (.head _)).num (q.2.2.2.2.2.2.1 _ (.tail _ (.head _))).num
  have lr := Lib.hid (lt_addZ la.out lb.out)
  have K18 := Lib.hid fun (W : World) (q : W.cell? ⟨w.heap.size, 0, none⟩ = some (.bool ga) ∧ W.cell? ⟨w.heap.size, 1, none⟩ = some (.slice Aa na ca) ∧ W.cell? ⟨w.heap.size + 1, 0, none⟩ = some (.bool gb) ∧ W.cell? ⟨w.heap.size + 1, 1, none⟩ = some (.slice Ab nb cb) ∧ W.cell? ⟨w.heap.size + 2, 0, none⟩ = some (.bool gc) ∧ W.cell? ⟨w.heap.size + 2, 1, none⟩ = some (.slice Ac nc cc) ∧ HL w [⟨w.heap.size, ga, Aa, na, ca, x⟩, ⟨w.heap.size + 1, gb, Ab, nb, cb, y⟩, ⟨w.heap.size + 2, gc, Ac, nc, cc, v⟩] [] W) (gr : Bool) (Ar : Option Addr) (nr cr : Nat) (ir : WIn W gr Ar nr cr (x + y)) (Nr : WNum W (.agg #[.bool gr, .slice Ar nr cr]) (x + y)) => sub_w _ _ _ _ _ _ _ _ _ _ W ir (q.2.2.2.2.2.2.1 _ (.tail _ (.head _))).num
  have ls := Lib.hid (lt_subZ lr.out lb.out)
  have K19 := Lib.hid fun (W : World) (q : W.cell? ⟨w.heap.size, 0, none⟩ = some (.bool ga) ∧ W.cell? ⟨w.heap.size, 1, none⟩ = some (.slice Aa na ca) ∧ W.cell? ⟨w.heap.size + 1, 0, none⟩ = some (.bool gb) ∧ W.cell? ⟨w.heap.size + 1, 1, none⟩ = some (.slice Ab nb cb) ∧ W.cell? ⟨w.heap.size + 2, 0, none⟩ = some (.bool gc) ∧ W.cell? ⟨w.heap.size + 2, 1, none⟩ = some (.slice Ac nc cc) ∧ HL w [⟨w.heap.size, ga, Aa, na, ca, x⟩, ⟨w.heap.size + 1, gb, Ab, nb, cb, y⟩, ⟨w.heap.size + 2, gc, Ac, nc, cc, v⟩] [] W)  => norm_w _ _ _ _ _ W (q.2.2.2.2.2.2.1 _ (.head _)).num
  have lt := Lib.hid (la.out)
  have K20 := Lib.hid fun (W : World) (q : W.cell? ⟨w.heap.size, 0, none⟩ = some (.bool ga) ∧ W.cell? ⟨w.heap.size, 1, none⟩ = some (.slice Aa na ca) ∧ W.cell? ⟨w.heap.size + 1, 0, none⟩ = some (.bool gb) ∧ W.cell? ⟨w.heap.size + 1, 1, none⟩ = some (.slice Ab nb cb) ∧ W.cell? ⟨w.heap.size + 2, 0, none⟩ = some (.bool gc) ∧ W.cell? ⟨w.heap.size + 2, 1, none⟩ = some (.slice Ac nc cc) ∧ HL w [⟨w.heap.size, ga, Aa, na, ca, x⟩, ⟨w.heap.size + 1, gb, Ab, nb, cb, y⟩, ⟨w.heap.size + 2, gc, Ac, nc, cc, v⟩] [] W) (gs : Bool) (As : Option Addr) (ns cs : Nat) (is : WIn W gs As ns cs (x + y - y)) (Ns : WNum W (.agg #[.bool gs, .slice As ns cs]) (x + y - y)) (gt : Bool) (At : Option Addr) (nt ct : Nat) (it : WIn W gt At nt ct (x)) (Nt : WNum W (.agg #[.bool gt, .slice At nt ct]) (x)) => same_w Ns Nt HE4.out
  have HS := Lib.hid (start3 Ba Bb Bc (bl := bl) (M := []) (hM := (fun _ h => absurd h (by simp))))
  clear Ba Bb Bc bl
  go_region_held3 (fun w' => w'.cell? ⟨w.heap.size, 0, none⟩ = some (.bool ga) ∧ w'.cell? ⟨w.heap.size, 1, none⟩ = some (.slice Aa na ca) ∧ w'.cell? ⟨w.heap.size + 1, 0, none⟩ = some (.bool gb) ∧ w'.cell? ⟨w.heap.size + 1, 1, none⟩ = some (.slice Ab nb cb) ∧ w'.cell? ⟨w.heap.size + 2, 0, none⟩ = some (.bool gc) ∧ w'.cell? ⟨w.heap.size + 2, 1, none⟩ = some (.slice Ac nc cc) ∧ HL w [⟨w.heap.size, ga, Aa, na, ca, x⟩, ⟨w.heap.size + 1, gb, Ab, nb, cb, y⟩, ⟨w.heap.size + 2, gc, Ac, nc, cc, v⟩] [] w')
    (first | exact keepZ3 (by assumption) (by assumption) | exact HS.out)
    (first | (go_at_call 16; (with_reducible refine (K17.out _ ?_ ).mono ?_); assumption; rintro e w19 ⟨vr, rfl, mr, b19⟩; obtain ⟨gr, Ar, nr, cr, rfl, ir, Nr⟩ := mr.open lr.out (by omega); clear mr) | (go_at_call 18; (with_reducible refine (K18.out _ ?_ _ _ _ _ ?_ ?_).mono ?_); assumption; exact ir; exact Nr; rintro e w20 ⟨vs, rfl, ms, b20⟩; replace ir := ir.below b20; replace Nr := Nr.below b20; obtain ⟨gs, As, ns, cs, rfl, is, Ns⟩ := ms.open ls.out (by omega); clear ms) | (go_at_call 12; (with_reducible refine (K19.out _ ?_ ).mono ?_); assumption; rintro e w21 ⟨vt, rfl, mt, b21⟩; replace ir := ir.below b21; replace Nr := Nr.below b21; replace is := is.below b21; replace Ns := Ns.below b21; obtain ⟨gt, At, nt, ct, rfl, it, Nt⟩ := mt.open lt.out (by omega); clear mt) | (go_at_call 11; (with_reducible refine (K20.out _ ?_ _ _ _ _ ?_ ?_ _ _ _ _ ?_ ?_).mono ?_); assumption; exact is; exact Ns; exact it; exact Nt; rintro e w22 ⟨rfl, b22⟩; replace ir := ir.below b22; replace Nr := Nr.below b22; replace is := is.below b22; replace Ns := Ns.below b22; replace it := it.below b22; replace Nt := Nt.below b22))
  rename_i hh
  have hh := hh.2.2.2.2.2.2
  have Ba : BoxZ w22 (w.heap.size) ga Aa na ca (x) := hh.1 _ (.head _)
  have Bb : BoxZ w22 (w.heap.size + 1) gb Ab nb cb (y) := hh.1 _ (.tail _ (.head _))
  have Bc : BoxZ w22 (w.heap.size + 2) gc Ac nc cc (v) := hh.1 _ (.tail _ (.tail _ (.head _)))
  have bl := hh.2.2
  clear hh HS K17 K18 K19 K20
  clear ir Nr lr is Ns ls it Nt lt
  obtain ⟨a0, a1, a2, a3'⟩ := Ba.box
  obtain ⟨b0, b1, b2, b3'⟩ := Bb.box
  obtain ⟨c0, c1, c2, c3'⟩ := Bc.box
  go_wp2_with fail
  clear a0 a1 a2 a3' b0 b1 b2 b3' c0 c1 c2 c3'
  refine (sub_w _ _ _ _ _ _ _ _ _ _ _ Ba.num Ba.num).mono ?_
  rintro e w23 ⟨vo, rfl, mo, b23⟩
  replace Ba := Ba.below b23
  replace Bb := Bb.below b23
  replace Bc := Bc.below b23
  replace bl := bl.trans (b23.mono bl.size)
  clear b23
  rw [Int.sub_self] at mo
  obtain ⟨Ao, co, rfl⟩ := mo.zero
  have io : WIn w23 false Ao 0 co 0 := by obtain ⟨A9, n9, c9, e9, i9⟩ := mo.inn (k := 1) (by rw [Nat.pow_one, M.BB_eq]; omega) (by omega); injection e9 with e9; have e1 := congrArg (fun l : Array Value => l.getD 1 undef) e9; simp at e1; obtain ⟨rfl, rfl, rfl⟩ := e1; exact i9
  have No := mo
  clear mo
  have hx1 := hw1.out
  have hx2 := hw2.out
  obtain ⟨a0, a1, a2, a3'⟩ := Ba.box
  obtain ⟨b0, b1, b2, b3'⟩ := Bb.box
  obtain ⟨c0, c1, c2, c3'⟩ := Bc.box
  go_wp2_with fail
  clear a0 a1 a2 a3' b0 b1 b2 b3' c0 c1 c2 c3'
  obtain ⟨ex, Bop⟩ := loc1 w23 false Ao 0 co
  replace Ba := Ba.below ex
  replace Bb := Bb.below ex
  replace Bc := Bc.below ex
  replace io := io.below ex
  replace No := No.below ex
  replace bl := bl.trans (ex.mono bl.size)
  have Bo : BoxZ _ _ false Ao 0 co (0) := ⟨Bop, io⟩
  clear Bop io
  clear ex
  have K21 := Lib.hid fun (W : World) (q : W.cell? ⟨w.heap.size, 0, none⟩ = some (.bool ga) ∧ W.cell? ⟨w.heap.size, 1, none⟩ = some (.slice Aa na ca) ∧ W.cell? ⟨w.heap.size + 1, 0, none⟩ = some (.bool gb) ∧ W.cell? ⟨w.heap.size + 1, 1, none⟩ = some (.slice Ab nb cb) ∧ W.cell? ⟨w.heap.size + 2, 0, none⟩ = some (.bool gc) ∧ W.cell? ⟨w.heap.size + 2, 1, none⟩ = some (.slice Ac nc cc) ∧ W.cell? ⟨w23.heap.size, 0, none⟩ = some (.bool false) ∧ W.cell? ⟨w23.heap.size, 1, none⟩ = some (.slice Ao 0 co) ∧ HL w [⟨w.heap.size, ga, Aa, na, ca, x⟩, ⟨w.heap.size + 1, gb, Ab, nb, cb, y⟩, ⟨w.heap.size + 2, gc, Ac, nc, cc, v⟩, ⟨w23.heap.size, false, Ao, 0, co, 0⟩] [⟨w23.heap.size, false, Ao, 0, co, 0⟩] W)  => C1.out W (q.2.2.2.2.2.2.2.2.1 _ (.head _)).num (q.2.2.2.2.2.2.2.2.1 _ (.tail _ (.head _))).num
  have K22 := Lib.hid fun (W : World) (q : W.cell? ⟨w.heap.size, 0, none⟩ = some (.bool ga) ∧ W.cell? ⟨w.heap.size, 1, none⟩ = some (.slice Aa na ca) ∧ W.cell? ⟨w.heap.size + 1, 0, none⟩ = some (.bool gb) ∧ W.cell? ⟨w.heap.size + 1, 1, none⟩ = some (.slice Ab nb cb) ∧ W.cell? ⟨w.heap.size + 2, 0, none⟩ = some (.bool gc) ∧ W.cell? ⟨w.heap.size + 2, 1, none⟩ = some (.slice Ac nc cc) ∧ W.cell? ⟨w23.heap.size, 0, none⟩ = some (.bool false) ∧ W.cell? ⟨w23.heap.size, 1, none⟩ = some (.slice Ao 0 co) ∧ HL w [⟨w.heap.size, ga, Aa, na, ca, x⟩, ⟨w.heap.size + 1, gb, Ab, nb, cb, y⟩, ⟨w.heap.size + 2, gc, Ac, nc, cc, v⟩, ⟨w23.heap.size, false, Ao, 0, co, 0⟩] [⟨w23.heap.size, false, Ao, 0, co, 0⟩] W)  => C2.out W (q.2.2.2.2.2.2.2.2.1 _ (.tail _ (.head _))).num (q.2.2.2.2.2.2.2.2.1 _ (.head _)).num
  have HS := Lib.hid (start4 Ba Bb Bc Bo (bl := bl) (M := [⟨w23.heap.size, false, Ao, 0, co, 0⟩]) (hM := (own1 No)))
  clear Ba Bb Bc Bo No bl
  go_region_held3 (fun w' => w'.cell? ⟨w.heap.size, 0, none⟩ = some (.bool ga) ∧ w'.cell? ⟨w.heap.size, 1, none⟩ = some (.slice Aa na ca) ∧ w'.cell? ⟨w.heap.size + 1, 0, none⟩ = some (.bool gb) ∧ w'.cell? ⟨w.heap.size + 1, 1, none⟩ = some (.slice Ab nb cb) ∧ w'.cell? ⟨w.heap.size + 2, 0, none⟩ = some (.bool gc) ∧ w'.cell? ⟨w.heap.size + 2, 1, none⟩ = some (.slice Ac nc cc) ∧ w'.cell? ⟨w23.heap.size, 0, none⟩ = some (.bool false) ∧ w'.cell? ⟨w23.heap.size, 1, none⟩ = some (.slice Ao 0 co) ∧ HL w [⟨w.heap.size, ga, Aa, na, ca, x⟩, ⟨w.heap.size + 1, gb, Ab, nb, cb, y⟩, ⟨w.heap.size + 2, gc, Ac, nc, cc, v⟩, ⟨w23.heap.size, false, Ao, 0, co, 0⟩] [⟨w23.heap.size, false, Ao, 0, co, 0⟩] w')
    (first | exact keepZ4 (by assumption) (by assumption) | exact HS.out)
    (first | (go_at_call 22; (with_reducible refine (K21.out _ ?_ ).mono ?_); assumption; rintro e w24 ⟨rfl, b24⟩) | (go_at_call 22; (with_reducible refine (K22.out _ ?_ ).mono ?_); assumption; rintro e w25 ⟨rfl, b25⟩))
  rename_i hh
  have hh := hh.2.2.2.2.2.2.2.2
  have Ba : BoxZ w25 (w.heap.size) ga Aa na ca (x) := hh.1 _ (.head _)
  have Bb : BoxZ w25 (w.heap.size + 1) gb Ab nb cb (y) := hh.1 _ (.tail _ (.head _))
  have Bc : BoxZ w25 (w.heap.size + 2) gc Ac nc cc (v) := hh.1 _ (.tail _ (.tail _ (.head _)))
  have Bo : BoxZ w25 (w23.heap.size) false Ao 0 co (0) := hh.1 _ (.tail _ (.tail _ (.tail _ (.head _))))
  have No : WNum w25 (.agg #[.bool false, .slice Ao 0 co]) (0) := hh.2.1 _ (.head _)
  have bl := hh.2.2
  clear hh HS K21 K22
  go_wp2_with fail
  go_ret
  exact ⟨by simp, bl⟩
end Go.Proofs.Ytiehkciofggonaa
