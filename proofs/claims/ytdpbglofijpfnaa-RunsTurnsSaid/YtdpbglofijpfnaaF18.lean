/- The law RunsReplaced. -/
import Derived.Test.YtdpbglofijpfnaaF17
namespace Go.Proofs.Ytdpbglofijpfnaa
open Go.RowKit Go.ChangeShapes Go.WideShapes Go.ChangeAt

set_option maxRecDepth 100000 in
set_option maxHeartbeats 3200000 in
theorem runsReplaced_walk (w : World) (A : Option Addr) (n c : Nat) (a : List (Int × Int)) (B : Option Addr) (m d : Nat) (b : List (Int × Int)) (C : Option Addr) (p f : Nat) (t : List (Int × Int)) (h : ArgR w A n a) (h' : ArgR w B m b) (h'' : ArgR w C p t) (hd : m ≤ d) :
    Calls Try.prog 8 #[.slice A n c, .slice B m d, .slice C p f] w fun e w' => e = .returned (.bool true) ∧ Below w.heap.size w w' := by
  have HA := Lib.hid (kawake8 w)
  have Hd := Lib.hid hd
  clear hd
  by_cases hl : 300 < n ∨ 300 < m ∨ 300 < p
  · have hl' : (300 : Int) < (n : Int) ∨ ¬ (300 : Int) < (n : Int) ∧ (300 : Int) < (m : Int) ∨ ¬ (300 : Int) < (n : Int) ∧ ¬ (300 : Int) < (m : Int) ∧ (300 : Int) < (p : Int) := by omega
    clear hl h h' h''
    rcases hl' with g1 | ⟨g1, g2⟩ | ⟨g1, g2, g3⟩
    all_goals
      go_enter Try.func8, Try.ntmps8
      go_wp2_with (go_at_call 10; refine HA.out.mono ?_; rintro e w1 ⟨rfl, b1⟩)
      go_ret
      exact ⟨rfl, b1⟩
  have hl1 : ¬ (300 : Int) < (n : Int) := by omega
  have hl2 : ¬ (300 : Int) < (m : Int) := by omega
  have hl3 : ¬ (300 : Int) < (p : Int) := by omega
  have HT := Lib.hid fun W (hW : Below w.heap.size w W) => And.intro ((h.txt (by omega)).below hW) (And.intro ((h'.txt (by omega)).below hW) ((h''.txt (by omega)).below hW))
  have hla := h.1.len
  have hlb := h'.1.len
  have hlc := h''.1.len
  have KM1 := Lib.hid fun W (hW : Below w.heap.size w W) => kmay8 W A n c a (HT.out W hW).1
  have KM2 := Lib.hid fun W (hW : Below w.heap.size w W) => kmay8 W B m d b (HT.out W hW).2.1
  have KM3 := Lib.hid fun W (hW : Below w.heap.size w W) => kmay8 W C p f t (HT.out W hW).2.2
  by_cases hok : Tx.May a ∧ Tx.May b ∧ Tx.May t
  case neg =>
    have hw : Tx.mayB a = false ∨ Tx.mayB a = true ∧ Tx.mayB b = false ∨ Tx.mayB a = true ∧ Tx.mayB b = true ∧ Tx.mayB t = false := by
      by_cases h1 : Tx.May a
      · by_cases h2 : Tx.May b
        · exact .inr (.inr ⟨Tx.mayB_true h1, Tx.mayB_true h2, Tx.mayB_false fun h3 => hok ⟨h1, h2, h3⟩⟩)
        · exact .inr (.inl ⟨Tx.mayB_true h1, Tx.mayB_false h2⟩)
      · exact .inl (Tx.mayB_false h1)
    generalize Tx.mayB a = x at KM1 hw
    generalize Tx.mayB b = y at KM2 hw
    generalize Tx.mayB t = z at KM3 hw
    clear hl h h' h'' HT hok hla hlb hlc
    rcases hw with rfl | ⟨rfl, rfl⟩ | ⟨rfl, rfl, rfl⟩
    · go_enter Try.func8, Try.ntmps8
      go_wp2_with fail
      refine HA.out.mono ?_
      rintro e w1 ⟨rfl, b1⟩
      have B1 := Lib.hid b1
      clear b1
      go_wp2_with (go_at_call 16; refine (KM1.out _ B1.out).mono ?_; rintro e w2 ⟨rfl, b2⟩)
      go_ret
      exact ⟨rfl, B1.out.trans (b2.mono B1.out.size)⟩
    all_goals
      go_enter Try.func8, Try.ntmps8
      go_wp2_with fail
      refine HA.out.mono ?_
      rintro e w1 ⟨rfl, b1⟩
      have B1 := Lib.hid b1
      clear b1
      go_wp2_with fail
      refine (KM1.out _ B1.out).mono ?_
      rintro e w2 ⟨rfl, b2⟩
      have B2 := Lib.hid (B1.out.trans (b2.mono B1.out.size))
      clear b2
      go_wp2_with fail
      refine (KM2.out _ B2.out).mono ?_
      rintro e w3 ⟨rfl, b3⟩
      have B3 := Lib.hid (B2.out.trans (b3.mono B2.out.size))
      clear b3
      first
        | (go_wp2_with (go_at_call 16; refine (KM3.out _ B3.out).mono ?_; rintro e w4 ⟨rfl, b4⟩)
           go_ret
           exact ⟨rfl, B3.out.trans (b4.mono B3.out.size)⟩)
        | (go_wp2
           go_ret
           exact ⟨rfl, B3.out⟩)
  obtain ⟨ha, hb, ht⟩ := hok
  rw [Tx.mayB_true ha] at KM1
  rw [Tx.mayB_true hb] at KM2
  rw [Tx.mayB_true ht] at KM3
  have KLa := Lib.hid fun W (hW : Below w.heap.size w W) => klen8 W A n c a (HT.out W hW).1
  have KLb := Lib.hid fun W (hW : Below w.heap.size w W) => klen8 W B m d b (HT.out W hW).2.1
  have KLc := Lib.hid fun W (hW : Below w.heap.size w W) => klen8 W C p f t (HT.out W hW).2.2
  rw [Tx.lenI_may ha] at KLa
  rw [Tx.lenI_may hb] at KLb
  rw [Tx.lenI_may ht] at KLc
  have KR := Lib.hid fun W (hW : Below w.heap.size w W) => kreplace8 W A n c a B m d b C p f t (HT.out W hW).1 (HT.out W hW).2.1 (HT.out W hW).2.2 Hd.out
  have KI := Lib.hid fun W (hW : Below w.heap.size w W) => kindex8 W A n c a B m d b 0 (HT.out W hW).1 (HT.out W hW).2.1 Hd.out (by decide)
  have KS := Lib.hid fun W A1 n1 c1 (h1 : Txt W A1 n1 a) (hW : Below w.heap.size w W) => ksame8 W A1 n1 c1 a A n c a h1 (HT.out W hW).1
  rw [Tx.sameT_self ha] at KS
  have ma := ha.most
  have mb := hb.most
  have mc := ht.most
  have za := ha.len.2
  have zb := hb.len.2
  have zc := ht.len.2
  have n1 : n ≤ 300 := by omega
  have n3 : p ≤ 300 := by omega
  have HMy := Lib.hid (And.intro ha (And.intro hb ht))
  have HLn : Hid (a.length ≤ 300 ∧ t.length ≤ 300) := ⟨by omega, by omega⟩
  clear hl h h' h'' hla hlb hlc
  go_enter Try.func8, Try.ntmps8
  go_wp2_with fail
  refine HA.out.mono ?_
  rintro e w1 ⟨rfl, b1⟩
  have B1 := Lib.hid b1
  clear b1 HA
  go_wp2_with fail
  refine (KM1.out _ B1.out).mono ?_
  rintro e w2 ⟨rfl, b2⟩
  have B2 := Lib.hid (B1.out.trans (b2.mono B1.out.size))
  clear b2 KM1
  go_wp2_with fail
  refine (KM2.out _ B2.out).mono ?_
  rintro e w3 ⟨rfl, b3⟩
  have B3 := Lib.hid (B2.out.trans (b3.mono B2.out.size))
  clear b3 KM2
  go_wp2_with fail
  refine (KM3.out _ B3.out).mono ?_
  rintro e w4 ⟨rfl, b4⟩
  have B4 := Lib.hid (B3.out.trans (b4.mono B3.out.size))
  clear b4 KM3
  go_wp2_with fail
  refine (KR.out _ B4.out).mono ?_
  rintro e w5 ⟨⟨A5, c5, ⟨X1, X2⟩, rfl, o5, hx⟩, b5⟩
  have B5 := Lib.hid (B4.out.trans (b5.mono B4.out.size))
  have O5 := Lib.hid (OwnR.runs o5 rfl)
  have HX := Lib.hid hx
  clear b5 o5 hx KR
  simp only at O5
  go_wp2_with fail
  refine (KI.out _ B5.out).mono ?_
  rintro e w6 ⟨⟨r, rfl, hr⟩, b6⟩
  have B6 := Lib.hid (B5.out.trans (b6.mono B5.out.size))
  have O6 := Lib.hid (O5.out.below b6)
  clear b6 O5 KI
  have hways : (r = -1 ∧ X1 = 0 ∧ X2 = a) ∨ ∃ k : Nat, r = (k : Int) ∧ Tx.First (Lt.expand a) (Lt.expand b) 0 k := by
    rcases hr with ⟨h1, _⟩ | ⟨_, _, ⟨h1, _⟩ | ⟨_, ⟨k, rfl, hk⟩ | ⟨rfl, hno⟩⟩⟩
    · exact absurd ⟨ha, hb⟩ h1
    · omega
    · exact .inr ⟨k, rfl, hk⟩
    · have := HX.out.uniq (.inr ⟨⟨ha, hb, ht⟩, .inr ⟨fun j => hno j (Nat.zero_le _), rfl⟩⟩)
      injection this with q1 q2
      exact .inl ⟨rfl, q1, q2⟩
  rcases hways with ⟨rfl, rfl, rfl⟩ | ⟨k, rfl, hk⟩
  · obtain ⟨xl, hxl⟩ : ∃ xl, X2.length = xl := ⟨_, rfl⟩
    have T6 : Hid (Txt w6 A5 xl X2) := Txt.may (by rw [← hxl]; exact O6.out) ha (by have := HLn.out.1; omega)
    have KS' := Lib.hid (KS.out w6 A5 xl c5 T6.out B6.out)
    rw [hxl]
    clear hr ma mb mc za zb zc hxl HX HMy HLn O6 KS HT ha hb ht KLa KLb KLc
    go_wp2_with (go_at_call 27; refine KS'.out.mono ?_; rintro e w7 ⟨rfl, b7⟩)
    go_ret
    exact ⟨rfl, B6.out.trans (b7.mono B6.out.size)⟩
  · have hle := hk.le
    have hkn : ¬ (k : Int) < 0 := by omega
    rcases Tx.replaced ha hb ht HLn.out.1 HLn.out.2 hk HX.out with ⟨hx2, hbig⟩ | ⟨R, hxR, mR, lR, tR, hyz⟩
    · injection hx2 with q1 q2
      subst q1
      subst q2
      have e1 : IntKind.i64.wrap (Lt.total a - Lt.total b) = Lt.total a - Lt.total b := IntWalk.i64_in _ (by omega)
      have e2 : IntKind.i64.wrap (Lt.total a - Lt.total b + Lt.total t) = Lt.total a - Lt.total b + Lt.total t := IntWalk.i64_in _ (by omega)
      generalize Lt.total a = ta at *
      generalize Lt.total b = tb at *
      generalize Lt.total t = tc at *
      clear hr ma mb mc za zb zc HX HMy HLn O6 KS HT ha hb ht hk hle
      go_wp2_with fail
      refine (KLb.out _ B6.out).mono ?_
      rintro e w7 ⟨rfl, b7⟩
      have B7 := Lib.hid (B6.out.trans (b7.mono B6.out.size))
      clear b7 KLb
      go_wp2_with fail
      refine (KLa.out _ B7.out).mono ?_
      rintro e w8 ⟨rfl, b8⟩
      have B8 := Lib.hid (B7.out.trans (b8.mono B7.out.size))
      clear b8 KLa
      go_wp2_with (go_at_call 18; refine (KLc.out _ B8.out).mono ?_; rintro e w9 ⟨rfl, b9⟩)
      go_ret
      exact ⟨rfl, B8.out.trans (b9.mono B8.out.size)⟩
    · injection hxR with q1 q2
      subst q1
      subst q2
      obtain ⟨xl, hxl⟩ : ∃ xl, X2.length = xl := ⟨_, rfl⟩
      have T6 : Hid (Txt w6 A5 xl X2) := Txt.may (by rw [← hxl]; exact O6.out) mR (by omega)
      rw [hxl]
      have e1 : IntKind.i64.wrap (Lt.total a - Lt.total b) = Lt.total a - Lt.total b := IntWalk.i64_in _ (by omega)
      have e2 : IntKind.i64.wrap (Lt.total a - Lt.total b + Lt.total t) = Lt.total a - Lt.total b + Lt.total t := IntWalk.i64_in _ (by omega)
      have e3 : IntKind.i64.wrap ((k : Int) + Lt.total b) = (k : Int) + Lt.total b := IntWalk.i64_in _ (by omega)
      have hss : (Lt.total a - Lt.total b + Lt.total t == Lt.total a - Lt.total b + Lt.total t) = true := by simp
      have hkw : (Lit.int .i64 (k : Int)).wf = true := WalkArith.wf_i64 (by omega)
      have hqw : (Lit.int .i64 ((k : Int) + Lt.total b)).wf = true := WalkArith.wf_i64 (by omega)
      have htw : (Lit.int .i64 (Lt.total a)).wf = true := WalkArith.wf_i64 (by omega)
      have K1 := Lib.hid fun W (hW : Below w.heap.size w W) => ksub8 W A n c a 0 (k : Int) (HT.out W hW).1 (by decide) hkw
      have K2 := Lib.hid fun W A1 n1 c1 (h1 : Txt W A1 n1 (Tx.subR a 0 (k : Int))) (hW : Below w.heap.size w W) (hn : n1 + p ≤ 2000) => kcon8 W A1 n1 c1 _ C p f t h1 (HT.out W hW).2.2 hn
      have K3 := Lib.hid fun W (hW : Below w.heap.size w W) => ksub8 W A n c a ((k : Int) + Lt.total b) (Lt.total a) (HT.out W hW).1 hqw htw
      generalize Tx.subR a 0 (k : Int) = S1 at K1 K2 hyz
      generalize hY : Tx.conI S1 t = Y at K2
      obtain ⟨Y1, Y2⟩ := Y
      have K4 := Lib.hid fun W A1 n1 c1 A2 n2 c2 (h1 : Txt W A1 n1 Y2) (h2 : Txt W A2 n2 (Tx.subR a ((k : Int) + Lt.total b) (Lt.total a))) (hn : n1 + n2 ≤ 2000) => kcon8 W A1 n1 c1 Y2 A2 n2 c2 _ h1 h2 hn
      generalize Tx.subR a ((k : Int) + Lt.total b) (Lt.total a) = S2 at K3 K4 hyz
      generalize hZ : Tx.conI Y2 S2 = Z at K4
      obtain ⟨Z1, Z2⟩ := Z
      simp only at K2 K4
      have K5 := Lib.hid fun W A1 n1 c1 (h1 : Txt W A1 n1 X2) => kmay8 W A1 n1 c1 X2 h1
      rw [Tx.mayB_true mR] at K5
      have K6 := Lib.hid fun W A1 n1 c1 (h1 : Txt W A1 n1 X2) => klen8 W A1 n1 c1 X2 h1
      rw [tR] at K6
      have K7 : Hid (Y1 = 0 → Z1 = 0 → ∀ W A1 n1 c1 A2 n2 c2, Txt W A1 n1 X2 → Txt W A2 n2 Z2 → Calls Try.prog 27 #[.slice A1 n1 c1, .slice A2 n2 c2] W fun e w' => e = .returned (.bool true) ∧ Below W.heap.size W w') := fun y0 z0 W A1 n1 c1 A2 n2 c2 h1 h2 => by
        have := hyz Y2 Z2 (by rw [hY, y0]) (by rw [hZ, z0])
        subst this
        have hk := ksame8 W A1 n1 c1 X2 A2 n2 c2 X2 h1 h2
        rw [Tx.sameT_self mR] at hk
        exact hk
      generalize Lt.total a = ta at *
      generalize Lt.total b = tb at *
      generalize Lt.total t = tc at *
      clear hr ma mb mc za zb zc HX HMy HLn O6 KS HT ha hb ht hk hle hkw hqw htw hyz hY hZ mR lR tR hxl
      go_wp2_with fail
      refine (KLb.out _ B6.out).mono ?_
      rintro e w7 ⟨rfl, b7⟩
      have B7 := Lib.hid (B6.out.trans (b7.mono B6.out.size))
      have T7 := Lib.hid (T6.out.below b7)
      clear b7 KLb T6
      go_wp2_with fail
      refine (K1.out _ B7.out).mono ?_
      rintro e w8 ⟨⟨A8, c8, n8, rfl, t8, h8⟩, b8⟩
      have B8 := Lib.hid (B7.out.trans (b8.mono B7.out.size))
      have T8 := Lib.hid (T7.out.below b8)
      have K2' := Lib.hid (K2.out w8 A8 n8 c8 t8 B8.out (by omega))
      clear b8 t8 K1 K2 T7
      go_wp2_with fail
      refine K2'.out.mono ?_
      rintro e w9 ⟨⟨A9, c9, n9, rfl, t9, h9⟩, b9⟩
      have B9 := Lib.hid (B8.out.trans (b9.mono B8.out.size))
      have T9 := Lib.hid (And.intro (T8.out.below b9) t9)
      clear b9 t9 K2' T8
      go_wp2_with fail
      refine (KLa.out _ B9.out).mono ?_
      rintro e w10 ⟨rfl, b10⟩
      have B10 := Lib.hid (B9.out.trans (b10.mono B9.out.size))
      have T10 := Lib.hid (And.intro (T9.out.1.below b10) (T9.out.2.below b10))
      clear b10 T9
      go_wp2_with fail
      refine (K3.out _ B10.out).mono ?_
      rintro e w11 ⟨⟨A11, c11, n11, rfl, t11, h11⟩, b11⟩
      have B11 := Lib.hid (B10.out.trans (b11.mono B10.out.size))
      have T11 := Lib.hid (T10.out.1.below b11)
      have K4' := Lib.hid (K4.out w11 A9 n9 c9 A11 n11 c11 (T10.out.2.below b11) t11 (by omega))
      clear b11 t11 K3 K4 T10
      go_wp2_with fail
      refine K4'.out.mono ?_
      rintro e w12 ⟨⟨A12, c12, n12, rfl, t12, _⟩, b12⟩
      have B12 := Lib.hid (B11.out.trans (b12.mono B11.out.size))
      have T12 := Lib.hid (And.intro (T11.out.below b12) t12)
      have K5' := Lib.hid (K5.out w12 A5 xl c5 T12.out.1)
      clear b12 t12 K4' K5 T11
      go_wp2_with fail
      refine K5'.out.mono ?_
      rintro e w13 ⟨rfl, b13⟩
      have B13 := Lib.hid (B12.out.trans (b13.mono B12.out.size))
      have T13 := Lib.hid (And.intro (T12.out.1.below b13) (T12.out.2.below b13))
      have K6' := Lib.hid (K6.out w13 A5 xl c5 T13.out.1)
      clear b13 K5' K6 T12
      go_wp2_with fail
      refine K6'.out.mono ?_
      rintro e w14 ⟨rfl, b14⟩
      have B14 := Lib.hid (B13.out.trans (b14.mono B13.out.size))
      have T14 := Lib.hid (And.intro (T13.out.1.below b14) (T13.out.2.below b14))
      clear b14 K6' T13
      go_wp2_with fail
      refine (KLa.out _ B14.out).mono ?_
      rintro e w15 ⟨rfl, b15⟩
      have B15 := Lib.hid (B14.out.trans (b15.mono B14.out.size))
      have T15 := Lib.hid (And.intro (T14.out.1.below b15) (T14.out.2.below b15))
      clear b15 KLa T14
      go_wp2_with fail
      refine (KLc.out _ B15.out).mono ?_
      rintro e w16 ⟨rfl, b16⟩
      have B16 := Lib.hid (B15.out.trans (b16.mono B15.out.size))
      have T16 := Lib.hid (And.intro (T15.out.1.below b16) (T15.out.2.below b16))
      clear b16 KLc T15
      by_cases hy : Y1 = 0
      · by_cases hz : Z1 = 0
        · have K7' := Lib.hid (K7.out hy hz w16 A5 xl c5 A12 n12 c12 T16.out.1 T16.out.2)
          subst hy
          subst hz
          clear K7 T16
          go_wp2_with (go_at_call 27; refine K7'.out.mono ?_; rintro e w17 ⟨rfl, b17⟩)
          go_ret
          exact ⟨rfl, B16.out.trans (b17.mono B16.out.size)⟩
        · subst hy
          have hzb : (Z1 != 0) = true := bne_iff_ne.2 hz
          clear K7 T16
          go_wp2
          go_ret
          exact ⟨rfl, B16.out⟩
      · have hyb : (Y1 != 0) = true := bne_iff_ne.2 hy
        clear K7 T16
        go_wp2
        go_ret
        exact ⟨rfl, B16.out⟩
end Go.Proofs.Ytdpbglofijpfnaa
