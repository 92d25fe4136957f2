/- WholeTexts: its walk. -/
import Derived.Test.YtiehkciofggonaaW16
import Derived.Test.YtiehkciofggonaaW12
namespace Go.Proofs.Ytiehkciofggonaa
open Go.RowKit

/-- Parse and its reference answer alike: a number and no error, or nought and ErrForm -/
theorem parsesW (s : ByteArray) (hs : s.size ≤ maxLen) (h2 : s.size ≤ 200) :
    ∃ (v8 z : Int), z.natAbs < M.BB ^ 200 ∧
      (∀ w, Calls Try.prog 30 #[.string s] w fun e w' => ∃ v, e = .returned (.tuple #[v, .int .i64 v8]) ∧ WNum w' v z ∧ Below w.heap.size w w') ∧
      (∀ w, Calls Try.prog 31 #[.string s] w fun e w' => ∃ v, e = .returned (.tuple #[v, .int .i64 v8]) ∧ WNum w' v z ∧ Below w.heap.size w w') := by
  cases h : PZ s.data.toList with
  | some z => exact ⟨0, z, pz_small h (by rw [lenL]; exact h2), fun w => parse_w_some s z w hs h, fun w => rparse_w_some s z w hs h⟩
  | none => exact ⟨8, 0, Nat.pow_pos M.BB_pos, fun w => (parse_w_none s w hs h).mono fun e w' ⟨h1, h2⟩ => ⟨_, h1, wnum_nil _, h2⟩, fun w => (rparse_w_none s w hs h).mono fun e w' ⟨h1, h2⟩ => ⟨_, h1, wnum_nil _, h2⟩⟩

set_option maxRecDepth 100000 in
set_option maxHeartbeats 16000000 in
theorem wholeTexts_yes (ga : Bool) (Aa : Option Addr) (na ca : Nat) (s : ByteArray) (z x : Int) (X : Nat) (w : World) (ha : WIn w ga Aa na ca x) (la : Hid (x.natAbs < M.BB ^ X)) (hX : X ≤ 100) (h1 : na ≤ 16) (hs2 : s.size ≤ 200) (hz : -9223372036854775808 ≤ z ∧ z ≤ 9223372036854775807) :
    Calls Try.prog 5 #[.agg #[.bool ga, .slice Aa na ca], .string s, .int .i64 z] w fun e w' => e = .returned (.bool true) ∧ Below w.heap.size w w' := by
  have H1 := Lib.hid h1
  have HZB := Lib.hid hz
  have lz : Hid (z.natAbs < M.BB ^ 3) := int_small_z (by omega)
  clear hz
  obtain ⟨v8, v, hv, P1, P2⟩ := parsesW s (by unfold maxLen; omega) hs2
  have hv := Lib.hid hv
  have P1 := Lib.hid P1
  have P2 := Lib.hid P2
  obtain ⟨i, HI⟩ : ∃ i, Hid (iZ x = i) := ⟨_, rfl⟩
  obtain ⟨q, HQ⟩ : ∃ q, Hid (iB x = q) := ⟨_, rfl⟩
  have C1 := Lib.hid fun (W : World) (q1 : WIn W ga Aa na ca x) => int_w _ _ _ _ _ W q1
  have C2 := Lib.hid fun (W : World) (q1 : WIn W ga Aa na ca x) => rint_w _ _ _ _ _ W q1 (by omega)
  rw [HI.out, HQ.out] at C1 C2
  go_enter Try.func5, Try.ntmps5
  obtain ⟨bl, Bap⟩ := loc1 w ga Aa na ca
  have Ba : BoxZ _ _ ga Aa na ca x := ⟨Bap, ha.below bl⟩
  clear Bap
  obtain ⟨a0, a1, a2, a3'⟩ := Ba.box
  go_wp2_with fail
  clear a0 a1 a2 a3'
  refine (awake_w _).mono ?_
  rintro e w1 ⟨rfl, b1⟩
  replace Ba := Ba.below b1
  replace bl := bl.trans (b1.mono bl.size)
  clear b1
  obtain ⟨a0, a1, a2, a3'⟩ := Ba.box
  go_wp2_with fail
  clear a0 a1 a2 a3'
  refine (P1.out _).mono ?_
  rintro e w2 ⟨vb, rfl, mb, b2⟩
  replace Ba := Ba.below b2
  replace bl := bl.trans (b2.mono bl.size)
  clear b2
  have lb := Lib.hid (hv.out)
  obtain ⟨gb, Ab, nb, cb, rfl, ib, Nb⟩ := mb.open lb.out (by omega)
  clear mb
  obtain ⟨a0, a1, a2, a3'⟩ := Ba.box
  go_wp2_with fail
  clear a0 a1 a2 a3'
  obtain ⟨ex, Bbp⟩ := loc1 w2 gb Ab nb cb
  replace Ba := Ba.below ex
  replace ib := ib.below ex
  replace Nb := Nb.below ex
  replace bl := bl.trans (ex.mono bl.size)
  have Bb : BoxZ _ _ gb Ab nb cb (v) := ⟨Bbp, ib⟩
  clear Bbp ib
  clear ex
  refine (P2.out _).mono ?_
  rintro e w3 ⟨vc, rfl, mc, b3⟩
  replace Ba := Ba.below b3
  replace Bb := Bb.below b3
  replace Nb := Nb.below b3
  replace bl := bl.trans (b3.mono bl.size)
  clear b3
  have lc := Lib.hid (hv.out)
  obtain ⟨gc, Ac, nc, cc, rfl, ic, Nc⟩ := mc.open lc.out (by omega)
  clear mc
  obtain ⟨a0, a1, a2, a3'⟩ := Ba.box
  obtain ⟨b0, b1, b2, b3'⟩ := Bb.box
  go_wp2_with fail
  clear a0 a1 a2 a3' b0 b1 b2 b3'
  obtain ⟨ex, Bcp⟩ := loc1 w3 gc Ac nc cc
  replace Ba := Ba.below ex
  replace Bb := Bb.below ex
  replace Nb := Nb.below ex
  replace ic := ic.below ex
  replace Nc := Nc.below ex
  replace bl := bl.trans (ex.mono bl.size)
  have Bc : BoxZ _ _ gc Ac nc cc (v) := ⟨Bcp, ic⟩
  clear Bcp ic
  clear ex
  refine (same_w Nb Nc rfl).mono ?_
  rintro e w4 ⟨rfl, b4⟩
  replace Ba := Ba.below b4
  replace Bb := Bb.below b4
  replace Nb := Nb.below b4
  replace Bc := Bc.below b4
  replace Nc := Nc.below b4
  replace bl := bl.trans (b4.mono bl.size)
  clear b4
  clear Bb Nb
  clear Bc Nc
  obtain ⟨a0, a1, a2, a3'⟩ := Ba.box
  go_wp2_with fail
  clear a0 a1 a2 a3'
  refine (of_w z _ HZB.out).mono ?_
  rintro e w5 ⟨vd, rfl, md, b5⟩
  replace Ba := Ba.below b5
  replace bl := bl.trans (b5.mono bl.size)
  clear b5
  have ld := Lib.hid (lz.out)
  obtain ⟨gd, Ad, nd, cd, rfl, id, Nd⟩ := md.open ld.out (by omega)
  clear md
  obtain ⟨a0, a1, a2, a3'⟩ := Ba.box
  go_wp2_with fail
  clear a0 a1 a2 a3'
  refine (rof_w z _ HZB.out).mono ?_
  rintro e w6 ⟨ve, rfl, me, b6⟩
  replace Ba := Ba.below b6
  replace id := id.below b6
  replace Nd := Nd.below b6
  replace bl := bl.trans (b6.mono bl.size)
  clear b6
  obtain ⟨gh, Ah, nh, ch, rfl, ih, Nh⟩ := me.open lz.out (by omega)
  clear me
  obtain ⟨a0, a1, a2, a3'⟩ := Ba.box
  go_wp2_with fail
  clear a0 a1 a2 a3'
  refine (same_w Nd Nh rfl).mono ?_
  rintro e w7 ⟨rfl, b7⟩
  replace Ba := Ba.below b7
  replace id := id.below b7
  replace Nd := Nd.below b7
  replace ih := ih.below b7
  replace Nh := Nh.below b7
  replace bl := bl.trans (b7.mono bl.size)
  clear b7
  clear id Nd
  clear ih Nh
  obtain ⟨a0, a1, a2, a3'⟩ := Ba.box
  go_wp2_with fail
  clear a0 a1 a2 a3'
  refine (C1.out _ Ba.num).mono ?_
  rintro e w8 ⟨rfl, b8⟩
  replace Ba := Ba.below b8
  replace bl := bl.trans (b8.mono bl.size)
  clear b8
  obtain ⟨a0, a1, a2, a3'⟩ := Ba.box
  go_wp2_with fail
  clear a0 a1 a2 a3'
  refine (C2.out _ Ba.num).mono ?_
  rintro e w9 ⟨rfl, b9⟩
  replace Ba := Ba.below b9
  replace bl := bl.trans (b9.mono bl.size)
  clear b9
  obtain ⟨a0, a1, a2, a3'⟩ := Ba.box
  go_wp2_with fail
  clear a0 a1 a2 a3'
  have K1 := Lib.hid fun (W : World) (q : W.cell? ⟨w.heap.size, 0, none⟩ = some (.bool ga) ∧ W.cell? ⟨w.heap.size, 1, none⟩ = some (.slice Aa na ca) ∧ HL w [⟨w.heap.size, ga, Aa, na, ca, x⟩] [] W)  => text_w _ _ _ _ _ W (q.2.2.1 _ (.head _)).num
  have K2 := Lib.hid fun (W : World) (q : W.cell? ⟨w.heap.size, 0, none⟩ = some (.bool ga) ∧ W.cell? ⟨w.heap.size, 1, none⟩ = some (.slice Aa na ca) ∧ HL w [⟨w.heap.size, ga, Aa, na, ca, x⟩] [] W)  => rtext_w _ _ _ _ X _ W (q.2.2.1 _ (.head _)).num (Nat.le_trans H1.out (by omega)) (by omega) la
  have HS := Lib.hid (start1 Ba (bl := bl) (M := []) (hM := (fun _ h => absurd h (by simp))))
  clear Ba bl
  go_region_held3 (fun w' => w'.cell? ⟨w.heap.size, 0, none⟩ = some (.bool ga) ∧ w'.cell? ⟨w.heap.size, 1, none⟩ = some (.slice Aa na ca) ∧ HL w [⟨w.heap.size, ga, Aa, na, ca, x⟩] [] w')
    (first | exact keepZ1 (by assumption) (by assumption) | exact HS.out)
    (first | (go_at_call 36; (with_reducible refine (K1.out _ ?_ ).mono ?_); assumption; rintro e w10 ⟨t1, rfl, y1, b10⟩) | (go_at_call 37; (with_reducible refine (K2.out _ ?_ ).mono ?_); assumption; rintro e w11 ⟨t2, rfl, y2, b11⟩; obtain rfl := y1.uniq y2))
  rename_i hh
  have hh := hh.2.2
  have Ba : BoxZ w11 (w.heap.size) ga Aa na ca (x) := hh.1 _ (.head _)
  have bl := hh.2.2
  clear hh HS K1 K2
  go_wp2_with fail
  go_ret
  exact ⟨by simp, bl⟩
end Go.Proofs.Ytiehkciofggonaa
