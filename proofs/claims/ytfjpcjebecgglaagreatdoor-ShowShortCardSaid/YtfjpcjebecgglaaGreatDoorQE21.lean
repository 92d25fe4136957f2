/- What the proofs of this claim use, text by text. -/
import Derived.Test.YtfjpcjebecgglaaGreatDoorQE20
set_option linter.unusedSimpArgs false
set_option linter.unusedVariables false
set_option maxRecDepth 100000
set_option maxHeartbeats 25600000
namespace Go.Proofs.YtfjpcjebecgglaaGreatDoor
open Go.RowKit Go.Shelf
abbrev vbx (w : World) (t : Int) (b g : Bool) (A : Option Addr) (n c : Nat) (B : Option Addr) (m d : Nat) : World := w.alloc (.cells (valC t b g A n c B m d) 57)
theorem vbx_later {w W : World} {t : Int} {b g : Bool} {A : Option Addr} {n c : Nat} {B : Option Addr} {m d : Nat} (hb : Below (vbx w t b g A n c B m d).heap.size (vbx w t b g A n c B m d) W) :
    W.cell? ⟨w.heap.size, 0, none⟩ = some (.int .i64 t) ∧ W.cell? ⟨w.heap.size, 1, none⟩ = some (.bool b) ∧ W.cell? ⟨w.heap.size, 2, none⟩ = some (.bool g) ∧ W.cell? ⟨w.heap.size, 3, none⟩ = some (.slice A n c) ∧ W.cell? ⟨w.heap.size, 4, none⟩ = some (.slice B m d) ∧ w.heap.size < W.heap.size ∧ Below w.heap.size w W := by
  have l := Lies.new w 57 (valC t b g A n c B m d)
  have m0 : Lies W w.heap.size 57 (valC t b g A n c B m d) := (hb.block _ l.lt).trans l
  exact ⟨m0.cell 0, m0.cell 1, m0.cell 2, m0.cell 3, m0.cell 4, m0.lt, ((Below.refl _ w).alloc (Nat.le_refl _) _).trans (hb.mono (by simp))⟩
theorem showShort_walk (w : World) (t : Int) (b g : Bool) (A : Option Addr) (n c : Nat) (B : Option Addr) (m d : Nat) (hv : ∃ z R, ValIn w n c A g z B m d R) (hN : NmT w) (hG : Gl w) :
    Calls Tryz.prog 6 #[.agg (valC t b g A n c B m d)] w fun e w' => e = .returned (.bool true) ∧ Below w.heap.size w w' := by
  obtain ⟨z, R, hv⟩ := hv
  have HV := Lib.hid fun W (hb : Below (vbx w t b g A n c B m d).heap.size (vbx w t b g A n c B m d) W) => vbx_later hb
  have hb0 : Below w.heap.size w (vbx w t b g A n c B m d) := (Below.refl _ w).alloc (Nat.le_refl _) _
  have HAw := Lib.hid (kawake12 (vbx w t b g A n c B m d) (hN.below hb0) (hG.below hb0))
  have hnc := hv.ncap
  have hmc := hv.mcap
  have hmd := hv.cap
  have hml : m ≤ maxLen := Nat.le_trans hmd hmc
  have hnl : n ≤ maxLen := Nat.le_trans hnc.1 hnc.2
  unfold maxLen at hml hnl
  by_cases hbig : 300 < m ∨ 30 < n
  · have hways : decide ((300 : Int) < (m : Int)) = true ∨ (decide ((300 : Int) < (m : Int)) = false ∧ decide ((30 : Int) < (n : Int)) = true) := by
      by_cases h3 : 300 < m
      · exact .inl (decide_eq_true (by omega))
      · exact .inr ⟨decide_eq_false (by omega), decide_eq_true (by omega)⟩
    clear hv hN hG hb0 hnc hmc hmd hbig
    rcases hways with d1 | ⟨d1, d2⟩
    all_goals
      go_enter Tryz.func6, Tryz.ntmps6
      go_wp2_with fail
      refine HAw.out.mono ?_
      rintro e w1 ⟨rfl, b1⟩
      obtain ⟨c0, c1, c2, c3, c4, hlt, hbw⟩ := HV.out w1 b1
      have HB := Lib.hid hbw
      clear b1 hbw HAw HV
      go_wp2_with fail
      go_ret
      exact ⟨rfl, HB.out⟩
  have d1 : decide ((300 : Int) < (m : Int)) = false := decide_eq_false (by omega)
  have d2 : decide ((30 : Int) < (n : Int)) = false := decide_eq_false (by omega)
  have hz := hv.num (by omega)
  have HVal := Lib.hid fun W (hb : Below w.heap.size w W) => kValue12 W t b g A n c z B m d R (hz.below hb) (hv.txt.below hb) (by omega) hmd (hN.below hb) (hG.below hb)
  have HLen := Lib.hid fun W (hb : Below w.heap.size w W) => kLen12 W B m d R (hv.txt.below hb) (by omega)
  have HSg := Lib.hid fun W (hb : Below w.heap.size w W) => sign_w g A n c z W (hz.below hb).wide
  have hsh := Sh.value_short t b z R
  obtain ⟨v, hve⟩ : ∃ v, Sh.value t b z R = v := ⟨_, rfl⟩
  rw [hve] at HVal hsh
  obtain ⟨x, k⟩ := v
  obtain ⟨hs1, hs2⟩ := hsh
  simp only at hs1 hs2
  obtain ⟨s, hs⟩ : ∃ s, (if Tx.mayB R then Lt.total R else 0) = s := ⟨_, rfl⟩
  simp only [hs] at HLen hs2
  obtain ⟨sg, hsg⟩ : ∃ q, Z.sgn z = q := ⟨_, rfl⟩
  have hsz : decide (z < 0) = decide (sg < 0) := by rw [← hsg]; by_cases h : z < 0; rw [decide_eq_true h, decide_eq_true ((Z.sgn_lt z).2 h)]; rw [decide_eq_false h, decide_eq_false (fun e => h ((Z.sgn_lt z).1 e))]
  rw [hsg] at HSg
  rw [hsz] at hs2
  have HS1 := Lib.hid hs1
  have HS2 := Lib.hid hs2
  clear hv hN hG hb0 hnc hmc hmd hbig hz hs1 hs2 hve hs hsg hsz
  go_enter Tryz.func6, Tryz.ntmps6
  go_wp2_with fail
  refine HAw.out.mono ?_
  rintro e w1 ⟨rfl, b1⟩
  obtain ⟨c0, c1, c2, c3, c4, hlt, hbw⟩ := HV.out w1 b1
  have HB1 := Lib.hid b1
  have HVal1 := Lib.hid (HVal.out w1 hbw)
  clear b1 hbw HAw HVal
  go_wp2_with fail
  refine HVal1.out.mono ?_
  rintro e w2 ⟨⟨A2, c5, rfl, t2⟩, b2⟩
  simp only at t2 ⊢
  have b3 := b2.alloc b2.size (.cells #[.bool x.list, .int .i64 x.k, .string x.T, .int .i64 x.ta, .int .i64 x.at_, .slice A2 x.L.length c5] 49)
  have HB3 := Lib.hid (HB1.out.trans (b3.mono HB1.out.size))
  have hbx := Lies.new w2 49 #[.bool x.list, .int .i64 x.k, .string x.T, .int .i64 x.ta, .int .i64 x.at_, .slice A2 x.L.length c5]
  have HBx := Lib.hid hbx
  have HT3 : Hid (STree (w2.alloc (.cells #[.bool x.list, .int .i64 x.k, .string x.T, .int .i64 x.ta, .int .i64 x.at_, .slice A2 x.L.length c5] 49)) AnyP x A2 c5) := (t2.kept ((Below.refl _ w2).alloc (Nat.le_refl _) _)).to fun _ _ _ _ => trivial
  clear HVal1 t2 b2 b3 hbx c0 c1 c2 c3 c4 hlt
  by_cases hk : k = 0
  · subst hk
    obtain ⟨hl, hd⟩ := HS2.out rfl
    have hdi : ((Sx.dep 65 x : Nat) : Int) ≤ 64 := by omega
    obtain ⟨q, hq⟩ : ∃ q, Sx.dep 65 x = q := ⟨_, rfl⟩
    rw [hq] at hd hdi
    have HQ := Lib.hid hq
    have hways : ((t == 3) = true ∧ (t == 2) = false ∧ ((decide (1000 < s) = true ∧ x.list = true) ∨ (decide (1000 < s) = false ∧ x.list = false))) ∨ ((t == 3) = false ∧ (t == 2) = true ∧ ((decide (sg < 0) = true ∧ x.list = true) ∨ (decide (sg < 0) = false ∧ x.list = false))) ∨ ((t == 3) = false ∧ (t == 2) = false ∧ x.list = false) := by
      by_cases h3 : t = 3
      · subst h3
        refine .inl ⟨rfl, rfl, ?_⟩
        by_cases h : 1000 < s
        · rw [decide_eq_true h] at hl ⊢; exact .inl ⟨rfl, by simpa using hl⟩
        · rw [decide_eq_false h] at hl ⊢; exact .inr ⟨rfl, by simpa using hl⟩
      · by_cases h2 : t = 2
        · subst h2
          refine .inr (.inl ⟨rfl, rfl, ?_⟩)
          by_cases h : sg < 0
          · rw [decide_eq_true h] at hl ⊢; exact .inl ⟨rfl, by simpa using hl⟩
          · rw [decide_eq_false h] at hl ⊢; exact .inr ⟨rfl, by simpa using hl⟩
        · refine .inr (.inr ⟨beq_eq_false_iff_ne.2 h3, beq_eq_false_iff_ne.2 h2, ?_⟩)
          rw [decide_eq_false h3, decide_eq_false h2] at hl
          simpa using hl
    obtain ⟨n3, hn3⟩ : ∃ n, x.L.length = n := ⟨_, rfl⟩
    have HLt : Hid (∀ W, Below (w2.alloc (.cells #[.bool x.list, .int .i64 x.k, .string x.T, .int .i64 x.ta, .int .i64 x.at_, .slice A2 n3 c5] 49)).heap.size (w2.alloc (.cells #[.bool x.list, .int .i64 x.k, .string x.T, .int .i64 x.ta, .int .i64 x.at_, .slice A2 n3 c5] 49)) W → (W.cell? ⟨w.heap.size, 0, none⟩ = some (.int .i64 t) ∧ W.cell? ⟨w.heap.size, 1, none⟩ = some (.bool b) ∧ W.cell? ⟨w.heap.size, 2, none⟩ = some (.bool g) ∧ W.cell? ⟨w.heap.size, 3, none⟩ = some (.slice A n c) ∧ W.cell? ⟨w.heap.size, 4, none⟩ = some (.slice B m d) ∧ w.heap.size < W.heap.size ∧ Below w.heap.size w W) ∧ LiesX W w2.heap.size #[.bool x.list, .int .i64 x.k, .string x.T, .int .i64 x.ta, .int .i64 x.at_, .slice A2 n3 c5] ∧ STree W AnyP x A2 c5) := fun W hb => by
      subst hn3
      have h := HB3.out.trans (hb.mono HB3.out.size)
      exact ⟨HV.out W h, (hb.block _ HBx.out.lt).trans HBx.out, HT3.out.kept hb⟩
    have HDp : Hid (∀ W, STree W AnyP x A2 c5 → Calls Tryz.prog 23 #[.agg #[.bool x.list, .int .i64 x.k, .string x.T, .int .i64 x.ta, .int .i64 x.at_, .slice A2 n3 c5]] W fun e w' => e = .returned (.int .i64 (q : Nat)) ∧ Below W.heap.size W w') := fun W ht => by
      have := kDepth x A2 c5 W ht
      unfold sval at this
      rw [hn3, HQ.out] at this
      exact this
    have HB3' : Hid (Below w.heap.size w (w2.alloc (.cells #[.bool x.list, .int .i64 x.k, .string x.T, .int .i64 x.ta, .int .i64 x.at_, .slice A2 n3 c5] 49))) := by
      rw [← hn3]
      exact (HV.out _ HB3.out).2.2.2.2.2.2
    unfold sval
    rw [hn3]
    obtain ⟨⟨c0, c1, c2, c3, c4, hlt, hbw⟩, _, _⟩ := HLt.out _ (Below.refl _ _)
    have HLn := Lib.hid (HLen.out _ hbw)
    have HSn := Lib.hid (HSg.out _ hbw)
    have HD0 := Lib.hid (HDp.out _ (HLt.out _ (Below.refl _ _)).2.2)
    obtain ⟨xl, xk, xT, xta, xat, xL⟩ := x
    simp only at hways HLt HLn HSn HD0 HDp HB3' c0 c1 c2 c3 c4 hlt hbw ⊢
    clear hl hd hq HQ hn3 HB3 HBx HT3 HV HLen HSg HS1 HS2 hbw HB1
    rcases hways with ⟨e3, e2, hx⟩ | ⟨e3, e2, hx⟩ | ⟨e3, e2, rfl⟩
    · rcases hx with ⟨d3, rfl⟩ | ⟨d3, rfl⟩
      all_goals
        go_wp2_with fail
        refine HLn.out.mono ?_
        rintro e w4 ⟨rfl, b4⟩
        obtain ⟨⟨c0', c1', c2', c3', c4', hlt', hbw⟩, hl4, ht4⟩ := HLt.out _ b4
        have HD4 := Lib.hid (HDp.out w4 ht4)
        have q0 := hl4.cell 0
        have q1 := hl4.cell 1
        have q2 := hl4.cell 2
        have q3 := hl4.cell 3
        have q4 := hl4.cell 4
        have q5 := hl4.cell 5
        simp only [List.getElem?_toArray, List.getElem?_cons_succ, List.getElem?_cons_zero] at q0 q1 q2 q3 q4 q5
        have hlq := hl4.lt
        have HBW := Lib.hid hbw
        clear b4 hl4 ht4 hbw HLt HLn HSn HD0 HDp HB3' c0 c1 c2 c3 c4 hlt
        go_wp2_with fail
        refine HD4.out.mono ?_
        rintro e w5 ⟨rfl, b5⟩
        have HB5 := Lib.hid (HBW.out.trans (b5.mono HBW.out.size))
        clear b5 q0 q1 q2 q3 q4 q5 hlq c0' c1' c2' c3' c4' hlt'
        go_wp2_with fail
        go_ret
        exact ⟨rfl, HB5.out⟩
    · rcases hx with ⟨d3, rfl⟩ | ⟨d3, rfl⟩
      all_goals
        go_wp2_with fail
        refine HSn.out.mono ?_
        rintro e w4 ⟨rfl, b4⟩
        obtain ⟨⟨c0', c1', c2', c3', c4', hlt', hbw⟩, hl4, ht4⟩ := HLt.out _ b4
        have HD4 := Lib.hid (HDp.out w4 ht4)
        have q0 := hl4.cell 0
        have q1 := hl4.cell 1
        have q2 := hl4.cell 2
        have q3 := hl4.cell 3
        have q4 := hl4.cell 4
        have q5 := hl4.cell 5
        simp only [List.getElem?_toArray, List.getElem?_cons_succ, List.getElem?_cons_zero] at q0 q1 q2 q3 q4 q5
        have hlq := hl4.lt
        have HBW := Lib.hid hbw
        clear b4 hl4 ht4 hbw HLt HLn HSn HD0 HDp HB3' c0 c1 c2 c3 c4 hlt
        go_wp2_with fail
        refine HD4.out.mono ?_
        rintro e w5 ⟨rfl, b5⟩
        have HB5 := Lib.hid (HBW.out.trans (b5.mono HBW.out.size))
        clear b5 q0 q1 q2 q3 q4 q5 hlq c0' c1' c2' c3' c4' hlt'
        go_wp2_with fail
        go_ret
        exact ⟨rfl, HB5.out⟩
    · go_wp2_with fail
      refine HD0.out.mono ?_
      rintro e w5 ⟨rfl, b5⟩
      have HB5 := Lib.hid (HB3'.out.trans (b5.mono HB3'.out.size))
      clear b5 c0 c1 c2 c3 c4 hlt HLt HLn HSn HD0 HDp
      go_wp2_with fail
      go_ret
      exact ⟨rfl, HB5.out⟩
  · obtain ⟨hx, hk2⟩ := HS1.out hk
    subst hx
    have hkn : (k != 0) = true := by simpa using hk
    have HB3' := Lib.hid (HV.out _ HB3.out).2.2.2.2.2.2
    have hz : (Sx.zero : Sx) = ⟨false, 0, ⟨#[]⟩, 0, 0, []⟩ := rfl
    rw [hz] at HB3' ⊢
    unfold sval
    simp only at HB3' ⊢
    clear hk HS1 HS2 HB1 HV HB3 HBx HT3 HLen HSg hz
    rcases hk2 with rfl | rfl
    all_goals
      go_wp2_with fail
      go_ret
      exact ⟨rfl, HB3'.out⟩
end Go.Proofs.YtfjpcjebecgglaaGreatDoor
