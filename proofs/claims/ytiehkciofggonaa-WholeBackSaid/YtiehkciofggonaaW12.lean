/- WholeTextBack: its walk. -/
import Derived.Test.YtiehkciofggonaaGW
namespace Go.Proofs.Ytiehkciofggonaa
open Go.RowKit

theorem digit_head {t : List UInt8} (h : T.AllD t) (hn : t ≠ []) : t.head? ≠ some 45 := by
  cases t with
  | nil => exact absurd rfl hn
  | cons x t =>
    have := h x (List.mem_cons_self ..)
    intro e
    injection e with e
    subst e
    exact absurd this.1 (by decide)
theorem ztxt_pz {z : Int} {l : List UInt8} {X : Nat} (h : ZTxt z l) (hz : z.natAbs < M.BB ^ X) (hX : X ≤ 100) : PZ l = some z ∧ l.length ≤ 2000 := by
  obtain ⟨t, ht, rfl⟩ := h
  have hl := txt_len ht hz
  obtain ⟨h1, h2⟩ := txt_isT ht (by omega)
  by_cases hn : z < 0
  · rw [if_pos hn]
    refine ⟨?_, by simp; omega⟩
    show PZ (45 :: t) = _
    rw [pz_minus, if_pos ⟨h1, by omega⟩, h2]
    congr 1
    omega
  · rw [if_neg hn]
    refine ⟨?_, by simp; omega⟩
    show PZ t = _
    obtain ⟨p1, _, _, p4⟩ := isT_parts.1 h1
    rw [pz_plain (digit_head p4 p1), if_pos h1, h2]
    congr 1
    omega
theorem pz_ztxt {z : Int} {l : List UInt8} (h : PZ l = some z) : ZTxt z l := by
  by_cases hm : l.head? = some 45
  · obtain ⟨t, rfl⟩ : ∃ t, l = 45 :: t := by
      cases l with
      | nil => cases hm
      | cons x t => injection hm with hm; exact ⟨t, by rw [hm]⟩
    rw [pz_minus] at h
    by_cases hc : isT t = true ∧ T.dv t ≠ 0
    · rw [if_pos hc] at h
      injection h with h
      refine ⟨t, ?_, by rw [if_pos (by omega)]; rfl⟩
      have := isT_txt hc.1
      rw [show z.natAbs = T.dv t by omega]
      exact this
    · rw [if_neg hc] at h; cases h
  · rw [pz_plain hm] at h
    by_cases hc : isT l = true
    · rw [if_pos hc] at h
      injection h with h
      refine ⟨l, ?_, by rw [if_neg (by omega)]; rfl⟩
      have := isT_txt hc
      rw [show z.natAbs = T.dv l by omega]
      exact this
    · rw [if_neg hc] at h; cases h
theorem pz_small {z : Int} {l : List UInt8} {k : Nat} (h : PZ l = some z) (hl : l.length ≤ k) : z.natAbs < M.BB ^ k := by
  by_cases hm : l.head? = some 45
  · obtain ⟨t, rfl⟩ : ∃ t, l = 45 :: t := by
      cases l with
      | nil => cases hm
      | cons x t => injection hm with hm; exact ⟨t, by rw [hm]⟩
    rw [pz_minus] at h
    by_cases hc : isT t = true ∧ T.dv t ≠ 0
    · rw [if_pos hc] at h
      injection h with h
      have := dv_small hc.1 (K := k) (by simp at hl; omega)
      omega
    · rw [if_neg hc] at h; cases h
  · rw [pz_plain hm] at h
    by_cases hc : isT l = true
    · rw [if_pos hc] at h
      injection h with h
      have := dv_small hc (K := k) hl
      omega
    · rw [if_neg hc] at h; cases h
theorem win_nil (w : World) : WIn w false none 0 0 0 := ⟨⟨[], Lims.nil_ _ _, rfl, Nat.le_refl _, by unfold maxLen; omega, by omega⟩, rfl⟩
theorem wnum_nil (w : World) : WNum w (.agg #[.bool false, .slice none 0 0]) 0 := ⟨_, rfl, num_nil w⟩
theorem int_small_z {z : Int} (h : z.natAbs < 1000000000000000000000) : z.natAbs < M.BB ^ 3 := by
  have : M.BB ^ 3 = 4294967296 * 4294967296 * 4294967296 := by rw [Nat.pow_succ, Nat.pow_succ, Nat.pow_one, M.BB_eq]
  omega

set_option maxRecDepth 100000 in
set_option maxHeartbeats 16000000 in
theorem wholeTextBack_yes (ga : Bool) (Aa : Option Addr) (na ca : Nat) (l : List UInt8) (z x : Int) (X : Nat) (w : World) (ha : WIn w ga Aa na ca x) (la : Hid (x.natAbs < M.BB ^ X)) (hX : X ≤ 100) (h1 : na ≤ 60) (hs : l.length ≤ 600) (hz : -9223372036854775808 ≤ z ∧ z ≤ 9223372036854775807) :
    Calls Try.prog 8 #[.agg #[.bool ga, .slice Aa na ca], .string ⟨l.toArray⟩, .int .i64 z] w fun e w' => e = .returned (.bool true) ∧ Below w.heap.size w w' := by
  have hcase : (iZ z = z ∧ iB z = true) ∨ (iZ z = 0 ∧ iB z = false ∧ 4611686018427387904 ≤ z) ∨ (iZ z = 0 ∧ iB z = false ∧ z < 4611686018427387904 ∧ z ≤ -4611686018427387904) := by
    unfold iZ iB
    by_cases e : z.natAbs < 4611686018427387904
    · left; rw [if_pos e, decide_eq_true e]; exact ⟨rfl, rfl⟩
    · right
      rw [if_neg e, decide_eq_false e]
      by_cases e2 : 4611686018427387904 ≤ z
      · left; exact ⟨rfl, rfl, e2⟩
      · right; exact ⟨rfl, rfl, by omega, by omega⟩
  have HC := Lib.hid hcase
  clear hcase
  have HZB := Lib.hid hz
  clear hz
  have lz : Hid (z.natAbs < M.BB ^ 3) := int_small_z (by have := HZB.out; omega)
  go_enter Try.func8, Try.ntmps8
  obtain ⟨bl, Bap⟩ := loc1 w ga Aa na ca
  have Ba : BoxZ _ _ ga Aa na ca x := ⟨Bap, ha.below bl⟩
  clear Bap
  obtain ⟨a0, a1, a2, a3'⟩ := Ba.box
  go_wp2_with fail
  clear a0 a1 a2 a3'
  refine (awake_w _).mono ?_
  rintro e w1 ⟨rfl, b1⟩
  replace Ba := Ba.below b1
  replace bl := bl.trans (b1.mono bl.size)
  clear b1
  obtain ⟨a0, a1, a2, a3'⟩ := Ba.box
  go_wp2_with fail
  clear a0 a1 a2 a3'
  refine (text_w _ _ _ _ _ _ Ba.num).mono ?_
  rintro e w2 ⟨t, rfl, ht, b2⟩
  replace Ba := Ba.below b2
  replace bl := bl.trans (b2.mono bl.size)
  clear b2
  obtain ⟨hp, hpl⟩ := ztxt_pz ht la.out hX
  clear ht
  have hp := Lib.hid hp
  obtain ⟨a0, a1, a2, a3'⟩ := Ba.box
  go_wp2_with fail
  clear a0 a1 a2 a3'
  refine (parse_w_some _ x _ (by rw [str_size]; unfold maxLen; omega) hp.out).mono ?_
  rintro e w3 ⟨vb, rfl, mb, b3⟩
  replace Ba := Ba.below b3
  replace bl := bl.trans (b3.mono bl.size)
  clear b3
  clear hp hpl
  obtain ⟨gb, Ab, nb, cb, rfl, ib, Nb⟩ := mb.open la.out (by omega)
  clear mb
  obtain ⟨a0, a1, a2, a3'⟩ := Ba.box
  go_wp2_with fail
  clear a0 a1 a2 a3'
  obtain ⟨ex, Bbp⟩ := loc1 w3 gb Ab nb cb
  replace Ba := Ba.below ex
  replace ib := ib.below ex
  replace Nb := Nb.below ex
  replace bl := bl.trans (ex.mono bl.size)
  have Bb : BoxZ _ _ gb Ab nb cb (x) := ⟨Bbp, ib⟩
  clear Bbp ib
  clear ex
  have K1 := Lib.hid fun (W : World) (q : W.cell? ⟨w.heap.size, 0, none⟩ = some (.bool ga) ∧ W.cell? ⟨w.heap.size, 1, none⟩ = some (.slice Aa na ca) ∧ W.cell? ⟨w3.heap.size, 0, none⟩ = some (.bool gb) ∧ W.cell? ⟨w3.heap.size, 1, none⟩ = some (.slice Ab nb cb) ∧ HL w [⟨w.heap.size, ga, Aa, na, ca, x⟩, ⟨w3.heap.size, gb, Ab, nb, cb, x⟩] [⟨w3.heap.size, gb, Ab, nb, cb, x⟩] W)  => norm_w _ _ _ _ _ W (q.2.2.2.2.1 _ (.head _)).num
  have lr := Lib.hid (la.out)
  have K2 := Lib.hid fun (W : World) (q : W.cell? ⟨w.heap.size, 0, none⟩ = some (.bool ga) ∧ W.cell? ⟨w.heap.size, 1, none⟩ = some (.slice Aa na ca) ∧ W.cell? ⟨w3.heap.size, 0, none⟩ = some (.bool gb) ∧ W.cell? ⟨w3.heap.size, 1, none⟩ = some (.slice Ab nb cb) ∧ HL w [⟨w.heap.size, ga, Aa, na, ca, x⟩, ⟨w3.heap.size, gb, Ab, nb, cb, x⟩] [⟨w3.heap.size, gb, Ab, nb, cb, x⟩] W) (gr : Bool) (Ar : Option Addr) (nr cr : Nat) (ir : WIn W gr Ar nr cr (x)) (Nr : WNum W (.agg #[.bool gr, .slice Ar nr cr]) (x)) => same_w (q.2.2.2.2.2.1 _ (.head _)) Nr rfl
  have HS := Lib.hid (start2 Ba Bb (bl := bl) (M := [⟨w3.heap.size, gb, Ab, nb, cb, x⟩]) (hM := (own1 Nb)))
  clear Ba Bb Nb bl
  go_region_held3 (fun w' => w'.cell? ⟨w.heap.size, 0, none⟩ = some (.bool ga) ∧ w'.cell? ⟨w.heap.size, 1, none⟩ = some (.slice Aa na ca) ∧ w'.cell? ⟨w3.heap.size, 0, none⟩ = some (.bool gb) ∧ w'.cell? ⟨w3.heap.size, 1, none⟩ = some (.slice Ab nb cb) ∧ HL w [⟨w.heap.size, ga, Aa, na, ca, x⟩, ⟨w3.heap.size, gb, Ab, nb, cb, x⟩] [⟨w3.heap.size, gb, Ab, nb, cb, x⟩] w')
    (first | exact keepZ2 (by assumption) (by assumption) | exact HS.out)
    (first | (go_at_call 12; (with_reducible refine (K1.out _ ?_ ).mono ?_); assumption; rintro e w4 ⟨vr, rfl, mr, b4⟩; obtain ⟨gr, Ar, nr, cr, rfl, ir, Nr⟩ := mr.open lr.out (by omega); clear mr) | (go_at_call 11; (with_reducible refine (K2.out _ ?_ _ _ _ _ ?_ ?_).mono ?_); assumption; exact ir; exact Nr; rintro e w5 ⟨rfl, b5⟩; replace ir := ir.below b5; replace Nr := Nr.below b5))
  rename_i hh
  have hh := hh.2.2.2.2
  have Ba : BoxZ w5 (w.heap.size) ga Aa na ca (x) := hh.1 _ (.head _)
  have Bb : BoxZ w5 (w3.heap.size) gb Ab nb cb (x) := hh.1 _ (.tail _ (.head _))
  have Nb : WNum w5 (.agg #[.bool gb, .slice Ab nb cb]) (x) := hh.2.1 _ (.head _)
  have bl := hh.2.2
  clear hh HS K1 K2
  clear ir Nr lr
  clear Bb Nb
  cases hP : PZ l with
  | none =>
    obtain ⟨a0, a1, a2, a3'⟩ := Ba.box
    go_wp2_with fail
    clear a0 a1 a2 a3'
    refine (parse_w_none ⟨l.toArray⟩ _ (by rw [str_size]; unfold maxLen; omega) hP).mono ?_
    rintro e w6 ⟨rfl, b6⟩
    replace Ba := Ba.below b6
    replace bl := bl.trans (b6.mono bl.size)
    clear b6
    have ic := win_nil w6
    have Nc := wnum_nil w6
    obtain ⟨a0, a1, a2, a3'⟩ := Ba.box
    go_wp2_with fail
    clear a0 a1 a2 a3'
    obtain ⟨ex, Bcp⟩ := loc1 w6 false none 0 0
    replace Ba := Ba.below ex
    replace ic := ic.below ex
    replace Nc := Nc.below ex
    replace bl := bl.trans (ex.mono bl.size)
    have Bc : BoxZ _ _ false none 0 0 (0) := ⟨Bcp, ic⟩
    clear Bcp ic
    clear ex
    refine (of_w z _ HZB.out).mono ?_
    rintro e w7 ⟨vd, rfl, md, b7⟩
    replace Ba := Ba.below b7
    replace Bc := Bc.below b7
    replace Nc := Nc.below b7
    replace bl := bl.trans (b7.mono bl.size)
    clear b7
    obtain ⟨gd, Ad, nd, cd, rfl, id, Nd⟩ := md.open lz.out (by omega)
    clear md
    obtain ⟨a0, a1, a2, a3'⟩ := Ba.box
    obtain ⟨c0, c1, c2, c3'⟩ := Bc.box
    go_wp2_with fail
    clear a0 a1 a2 a3' c0 c1 c2 c3'
    refine (int_w _ _ _ _ _ _ id).mono ?_
    rintro e w8 ⟨rfl, b8⟩
    replace Ba := Ba.below b8
    replace Bc := Bc.below b8
    replace Nc := Nc.below b8
    replace id := id.below b8
    replace Nd := Nd.below b8
    replace bl := bl.trans (b8.mono bl.size)
    clear b8
    rcases HC.out with ⟨e1, e2⟩ | ⟨e1, e2, e3⟩ | ⟨e1, e2, e3, e4⟩
    · rw [e1, e2]
      clear e1 e2
      go_wp2_with fail
      go_ret
      exact ⟨by simp, bl⟩
    · rw [e1, e2]
      clear e1 e2
      go_wp2_with fail
      go_ret
      exact ⟨by simp, bl⟩
    · rw [e1, e2]
      clear e1 e2
      go_wp2_with fail
      go_ret
      exact ⟨by simp, bl⟩
  | some v =>
    obtain ⟨a0, a1, a2, a3'⟩ := Ba.box
    go_wp2_with fail
    clear a0 a1 a2 a3'
    refine (parse_w_some ⟨l.toArray⟩ v _ (by rw [str_size]; unfold maxLen; omega) hP).mono ?_
    rintro e w6 ⟨vc, rfl, mc, b6⟩
    replace Ba := Ba.below b6
    replace bl := bl.trans (b6.mono bl.size)
    clear b6
    have lc := Lib.hid (pz_small hP hs)
    obtain ⟨gc, Ac, nc, cc, rfl, ic, Nc⟩ := mc.open lc.out (by omega)
    clear mc
    obtain ⟨a0, a1, a2, a3'⟩ := Ba.box
    go_wp2_with fail
    clear a0 a1 a2 a3'
    obtain ⟨ex, Bcp⟩ := loc1 w6 gc Ac nc cc
    replace Ba := Ba.below ex
    replace ic := ic.below ex
    replace Nc := Nc.below ex
    replace bl := bl.trans (ex.mono bl.size)
    have Bc : BoxZ _ _ gc Ac nc cc (v) := ⟨Bcp, ic⟩
    clear Bcp ic
    clear ex
    refine (text_w _ _ _ _ _ _ Bc.num).mono ?_
    rintro e w7 ⟨t2, rfl, ht2, b7⟩
    replace Ba := Ba.below b7
    replace Bc := Bc.below b7
    replace Nc := Nc.below b7
    replace bl := bl.trans (b7.mono bl.size)
    clear b7
    obtain rfl := ht2.uniq (pz_ztxt hP)
    clear ht2
    clear Bc Nc
    obtain ⟨a0, a1, a2, a3'⟩ := Ba.box
    go_wp2_with fail
    clear a0 a1 a2 a3'
    refine (of_w z _ HZB.out).mono ?_
    rintro e w8 ⟨vd, rfl, md, b8⟩
    replace Ba := Ba.below b8
    replace bl := bl.trans (b8.mono bl.size)
    clear b8
    obtain ⟨gd, Ad, nd, cd, rfl, id, Nd⟩ := md.open lz.out (by omega)
    clear md
    obtain ⟨a0, a1, a2, a3'⟩ := Ba.box
    go_wp2_with fail
    clear a0 a1 a2 a3'
    refine (int_w _ _ _ _ _ _ id).mono ?_
    rintro e w9 ⟨rfl, b9⟩
    replace Ba := Ba.below b9
    replace id := id.below b9
    replace Nd := Nd.below b9
    replace bl := bl.trans (b9.mono bl.size)
    clear b9
    rcases HC.out with ⟨e1, e2⟩ | ⟨e1, e2, e3⟩ | ⟨e1, e2, e3, e4⟩
    · rw [e1, e2]
      clear e1 e2
      go_wp2_with fail
      go_ret
      exact ⟨by simp, bl⟩
    · rw [e1, e2]
      clear e1 e2
      go_wp2_with fail
      go_ret
      exact ⟨by simp, bl⟩
    · rw [e1, e2]
      clear e1 e2
      go_wp2_with fail
      go_ret
      exact ⟨by simp, bl⟩
end Go.Proofs.Ytiehkciofggonaa
