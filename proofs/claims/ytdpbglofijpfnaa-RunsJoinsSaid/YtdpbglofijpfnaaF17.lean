/- The law RunsJoins. -/
import Derived.Test.YtdpbglofijpfnaaF16
namespace Go.Proofs.Ytdpbglofijpfnaa
open Go.RowKit Go.ChangeShapes Go.WideShapes Go.ChangeAt

set_option maxRecDepth 100000 in
set_option maxHeartbeats 3200000 in
theorem runsJoins_walk (w : World) (A : Option Addr) (n c : Nat) (a : List (Int × Int)) (B : Option Addr) (m d : Nat) (b : List (Int × Int)) (C : Option Addr) (p f : Nat) (t : List (Int × Int)) (h : ArgR w A n a) (h' : ArgR w B m b) (h'' : ArgR w C p t) (hc : n ≤ c) (hd : m ≤ d) :
    Calls Try.prog 9 #[.slice A n c, .slice B m d, .slice C p f] w fun e w' => e = .returned (.bool true) ∧ Below w.heap.size w w' := by
  have HA := Lib.hid (kawake8 w)
  have Hc := Lib.hid hc
  have Hd := Lib.hid hd
  clear hc hd
  by_cases hl : 300 < n ∨ 300 < m ∨ 300 < p
  · have hl' : (300 : Int) < (n : Int) ∨ ¬ (300 : Int) < (n : Int) ∧ (300 : Int) < (m : Int) ∨ ¬ (300 : Int) < (n : Int) ∧ ¬ (300 : Int) < (m : Int) ∧ (300 : Int) < (p : Int) := by omega
    clear hl h h' h''
    rcases hl' with g1 | ⟨g1, g2⟩ | ⟨g1, g2, g3⟩
    all_goals
      go_enter Try.func9, Try.ntmps9
      go_wp2_with (go_at_call 10; refine HA.out.mono ?_; rintro e w1 ⟨rfl, b1⟩)
      go_ret
      exact ⟨rfl, b1⟩
  have hl1 : ¬ (300 : Int) < (n : Int) := by omega
  have hl2 : ¬ (300 : Int) < (m : Int) := by omega
  have hl3 : ¬ (300 : Int) < (p : Int) := by omega
  have HT := Lib.hid fun W (hW : Below w.heap.size w W) => And.intro ((h.txt (by omega)).below hW) (And.intro ((h'.txt (by omega)).below hW) ((h''.txt (by omega)).below hW))
  have hla := h.1.len
  have hlb := h'.1.len
  have hlc := h''.1.len
  have KM1 := Lib.hid fun W (hW : Below w.heap.size w W) => kmay8 W A n c a (HT.out W hW).1
  have KM2 := Lib.hid fun W (hW : Below w.heap.size w W) => kmay8 W B m d b (HT.out W hW).2.1
  have KM3 := Lib.hid fun W (hW : Below w.heap.size w W) => kmay8 W C p f t (HT.out W hW).2.2
  by_cases hok : Tx.May a ∧ Tx.May b ∧ Tx.May t
  case neg =>
    have hw : Tx.mayB a = false ∨ Tx.mayB a = true ∧ Tx.mayB b = false ∨ Tx.mayB a = true ∧ Tx.mayB b = true ∧ Tx.mayB t = false := by
      by_cases h1 : Tx.May a
      · by_cases h2 : Tx.May b
        · exact .inr (.inr ⟨Tx.mayB_true h1, Tx.mayB_true h2, Tx.mayB_false fun h3 => hok ⟨h1, h2, h3⟩⟩)
        · exact .inr (.inl ⟨Tx.mayB_true h1, Tx.mayB_false h2⟩)
      · exact .inl (Tx.mayB_false h1)
    generalize Tx.mayB a = x at KM1 hw
    generalize Tx.mayB b = y at KM2 hw
    generalize Tx.mayB t = z at KM3 hw
    clear hl h h' h'' HT hok hla hlb hlc
    rcases hw with rfl | ⟨rfl, rfl⟩ | ⟨rfl, rfl, rfl⟩
    · go_enter Try.func9, Try.ntmps9
      go_wp2_with fail
      refine HA.out.mono ?_
      rintro e w1 ⟨rfl, b1⟩
      have B1 := Lib.hid b1
      clear b1
      go_wp2_with (go_at_call 16; refine (KM1.out _ B1.out).mono ?_; rintro e w2 ⟨rfl, b2⟩)
      go_ret
      exact ⟨rfl, B1.out.trans (b2.mono B1.out.size)⟩
    all_goals
      go_enter Try.func9, Try.ntmps9
      go_wp2_with fail
      refine HA.out.mono ?_
      rintro e w1 ⟨rfl, b1⟩
      have B1 := Lib.hid b1
      clear b1
      go_wp2_with fail
      refine (KM1.out _ B1.out).mono ?_
      rintro e w2 ⟨rfl, b2⟩
      have B2 := Lib.hid (B1.out.trans (b2.mono B1.out.size))
      clear b2
      go_wp2_with fail
      refine (KM2.out _ B2.out).mono ?_
      rintro e w3 ⟨rfl, b3⟩
      have B3 := Lib.hid (B2.out.trans (b3.mono B2.out.size))
      clear b3
      first
        | (go_wp2_with (go_at_call 16; refine (KM3.out _ B3.out).mono ?_; rintro e w4 ⟨rfl, b4⟩)
           go_ret
           exact ⟨rfl, B3.out.trans (b4.mono B3.out.size)⟩)
        | (go_wp2
           go_ret
           exact ⟨rfl, B3.out⟩)
  obtain ⟨ha, hb, ht⟩ := hok
  rw [Tx.mayB_true ha] at KM1
  rw [Tx.mayB_true hb] at KM2
  rw [Tx.mayB_true ht] at KM3
  have KLa := Lib.hid fun W (hW : Below w.heap.size w W) => klen8 W A n c a (HT.out W hW).1
  have KLb := Lib.hid fun W (hW : Below w.heap.size w W) => klen8 W B m d b (HT.out W hW).2.1
  have KLc := Lib.hid fun W (hW : Below w.heap.size w W) => klen8 W C p f t (HT.out W hW).2.2
  rw [Tx.lenI_may ha] at KLa
  rw [Tx.lenI_may hb] at KLb
  rw [Tx.lenI_may ht] at KLc
  have K1 := Lib.hid fun W (hW : Below w.heap.size w W) => kcon8 W A n c a B m d b (HT.out W hW).1 (HT.out W hW).2.1 (by omega)
  have K2 := Lib.hid fun W (hW : Below w.heap.size w W) => kcon8 W B m d b C p f t (HT.out W hW).2.1 (HT.out W hW).2.2 (by omega)
  have ma := ha.most
  have mb := hb.most
  have mc := ht.most
  have za := ha.len.2
  have zb := hb.len.2
  have zc := ht.len.2
  have n1 : n ≤ 300 := by omega
  have n2 : m ≤ 300 := by omega
  have n3 : p ≤ 300 := by omega
  have e1 : IntKind.i64.wrap (Lt.total a + Lt.total b) = Lt.total a + Lt.total b := IntWalk.i64_in _ (by omega)
  have e2 : IntKind.i64.wrap (Lt.total b + Lt.total t) = Lt.total b + Lt.total t := IntWalk.i64_in _ (by omega)
  rcases Tx.con_few ha hb (by omega) with ⟨f1, v1, m1⟩ | ⟨f1, v1⟩
  · rcases Tx.con_few hb ht (by omega) with ⟨f2, v2, m2⟩ | ⟨f2, v2⟩
    · rw [v1] at K1
      rw [v2] at K2
      obtain ⟨j1, j2, j3, j4⟩ := Tx.joins ha hb (x := Lt.runs (Lt.expand a ++ Lt.expand b)) (Tx.expand_runs _) m1
      have jas := Tx.joins_assoc ha ht m1 m2 (b := b) (Tx.expand_runs _) (Tx.expand_runs _)
      generalize Lt.runs (Lt.expand a ++ Lt.expand b) = x at K1 m1 j1 j2 j3 j4 jas
      generalize Lt.runs (Lt.expand b ++ Lt.expand t) = y at K2 m2 jas
      have K3 := Lib.hid fun W A1 n1 c1 (h1 : Txt W A1 n1 x) (hW : Below w.heap.size w W) (hn : n1 + p ≤ 2000) => kcon8 W A1 n1 c1 x C p f t h1 (HT.out W hW).2.2 hn
      have K4 := Lib.hid fun W A1 n1 c1 (h1 : Txt W A1 n1 y) (hW : Below w.heap.size w W) (hn : n + n1 ≤ 2000) => kcon8 W A n c a A1 n1 c1 y (HT.out W hW).1 h1 hn
      rw [jas] at K3
      generalize Tx.conI a y = P at K3 K4
      obtain ⟨P1, P2⟩ := P
      simp only at K3 K4 K1 K2
      have hpp : (P1 == P1) = true := by simp
      have K5 := Lib.hid fun W A1 n1 c1 (h1 : Txt W A1 n1 x) => kmay8 W A1 n1 c1 x h1
      rw [Tx.mayB_true m1] at K5
      have K6 := Lib.hid fun W A1 n1 c1 (h1 : Txt W A1 n1 x) (hW : Below w.heap.size w W) (hq : n1 ≤ c1) => kprefix8 W A n c a A1 n1 c1 x (HT.out W hW).1 h1 Hc.out hq
      rw [j1] at K6
      have K7 := Lib.hid fun W A1 n1 c1 (h1 : Txt W A1 n1 x) (hW : Below w.heap.size w W) (hq : n1 ≤ c1) => ksuffix8 W B m d b A1 n1 c1 x (HT.out W hW).2.1 h1 Hd.out hq
      rw [j2] at K7
      have K8 := Lib.hid fun W A1 n1 c1 (h1 : Txt W A1 n1 x) (hW : Below w.heap.size w W) => kcontains8 W A1 n1 c1 x A n c a h1 (HT.out W hW).1 Hc.out
      rw [j3] at K8
      have K9 := Lib.hid fun W A1 n1 c1 (h1 : Txt W A1 n1 x) => klen8 W A1 n1 c1 x h1
      rw [j4] at K9
      generalize Lt.total a = ta at *
      generalize Lt.total b = tb at *
      have hss : (ta + tb == ta + tb) = true := by simp
      clear hl h h' h'' HT ha hb ht ma mb mc za zb zc f1 f2 v1 v2 m1 m2 j1 j2 j3 j4 jas hla hlb hlc e2 KLc
      go_enter Try.func9, Try.ntmps9
      go_wp2_with fail
      refine HA.out.mono ?_
      rintro e w1 ⟨rfl, b1⟩
      have B1 := Lib.hid b1
      clear b1 HA
      go_wp2_with fail
      refine (KM1.out _ B1.out).mono ?_
      rintro e w2 ⟨rfl, b2⟩
      have B2 := Lib.hid (B1.out.trans (b2.mono B1.out.size))
      clear b2 KM1
      go_wp2_with fail
      refine (KM2.out _ B2.out).mono ?_
      rintro e w3 ⟨rfl, b3⟩
      have B3 := Lib.hid (B2.out.trans (b3.mono B2.out.size))
      clear b3 KM2
      go_wp2_with fail
      refine (KM3.out _ B3.out).mono ?_
      rintro e w4 ⟨rfl, b4⟩
      have B4 := Lib.hid (B3.out.trans (b4.mono B3.out.size))
      clear b4 KM3
      go_wp2_with fail
      refine (K1.out _ B4.out).mono ?_
      rintro e w5 ⟨⟨A5, c5, n5, rfl, t5, h5⟩, b5⟩
      have B5 := Lib.hid (B4.out.trans (b5.mono B4.out.size))
      have T5 := Lib.hid (And.intro t5 h5)
      clear b5 t5 h5 K1
      go_wp2_with fail
      refine (K2.out _ B5.out).mono ?_
      rintro e w6 ⟨⟨A6, c6, n6, rfl, t6, h6⟩, b6⟩
      have B6 := Lib.hid (B5.out.trans (b6.mono B5.out.size))
      have T6 := Lib.hid (And.intro (T5.out.1.below b6) (And.intro t6 h6))
      clear b6 t6 h6 K2
      have K3' := Lib.hid (K3.out w6 A5 n5 c5 T6.out.1 B6.out (by have := T5.out.2; omega))
      have Q5 := Lib.hid T5.out.2.2
      clear K3 T5
      go_wp2_with fail
      refine K3'.out.mono ?_
      rintro e w7 ⟨⟨A7, c7, n7, rfl, t7, _⟩, b7⟩
      have B7 := Lib.hid (B6.out.trans (b7.mono B6.out.size))
      have T7 := Lib.hid (And.intro (T6.out.1.below b7) t7)
      have K4' := Lib.hid (K4.out w7 A6 n6 c6 (T6.out.2.1.below b7) B7.out (by have := T6.out.2.2; omega))
      clear b7 t7 K3' K4 T6
      go_wp2_with fail
      refine K4'.out.mono ?_
      rintro e w8 ⟨⟨A8, c8, n8, rfl, t8, _⟩, b8⟩
      have B8 := Lib.hid (B7.out.trans (b8.mono B7.out.size))
      have T8 := Lib.hid (T7.out.1.below b8)
      have KT := Lib.hid (ktexts8 w8 A7 n7 c7 P2 A8 n8 c8 (T7.out.2.below b8) t8)
      clear b8 t8 K4' T7
      go_wp2_with fail
      refine KT.out.mono ?_
      rintro e w9 ⟨rfl, b9⟩
      have B9 := Lib.hid (B8.out.trans (b9.mono B8.out.size))
      have T9 := Lib.hid (T8.out.below b9)
      have K5' := Lib.hid (K5.out w9 A5 n5 c5 T9.out)
      clear b9 KT K5 T8
      go_wp2_with fail
      refine K5'.out.mono ?_
      rintro e w10 ⟨rfl, b10⟩
      have B10 := Lib.hid (B9.out.trans (b10.mono B9.out.size))
      have T10 := Lib.hid (T9.out.below b10)
      have K6' := Lib.hid (K6.out w10 A5 n5 c5 T10.out B10.out Q5.out)
      clear b10 K5' K6 T9
      go_wp2_with fail
      refine K6'.out.mono ?_
      rintro e w11 ⟨rfl, b11⟩
      have B11 := Lib.hid (B10.out.trans (b11.mono B10.out.size))
      have T11 := Lib.hid (T10.out.below b11)
      have K7' := Lib.hid (K7.out w11 A5 n5 c5 T11.out B11.out Q5.out)
      clear b11 K6' K7 T10
      go_wp2_with fail
      refine K7'.out.mono ?_
      rintro e w12 ⟨rfl, b12⟩
      have B12 := Lib.hid (B11.out.trans (b12.mono B11.out.size))
      have T12 := Lib.hid (T11.out.below b12)
      have K8' := Lib.hid (K8.out w12 A5 n5 c5 T12.out B12.out)
      clear b12 K7' K8 T11
      go_wp2_with fail
      refine K8'.out.mono ?_
      rintro e w13 ⟨rfl, b13⟩
      have B13 := Lib.hid (B12.out.trans (b13.mono B12.out.size))
      have T13 := Lib.hid (T12.out.below b13)
      have K9' := Lib.hid (K9.out w13 A5 n5 c5 T13.out)
      clear b13 K8' K9 T12
      go_wp2_with fail
      refine K9'.out.mono ?_
      rintro e w14 ⟨rfl, b14⟩
      have B14 := Lib.hid (B13.out.trans (b14.mono B13.out.size))
      clear b14 K9' T13
      go_wp2_with fail
      refine (KLa.out _ B14.out).mono ?_
      rintro e w15 ⟨rfl, b15⟩
      have B15 := Lib.hid (B14.out.trans (b15.mono B14.out.size))
      clear b15 KLa
      go_wp2_with (go_at_call 18; refine (KLb.out _ B15.out).mono ?_; rintro e w16 ⟨rfl, b16⟩)
      go_ret
      exact ⟨rfl, B15.out.trans (b16.mono B15.out.size)⟩
    · rw [v1] at K1
      rw [v2] at K2
      simp only at K1 K2
      clear v1 v2
      generalize Lt.runs (Lt.expand a ++ Lt.expand b) = x at K1 m1
      generalize Lt.total b = tb at *
      generalize Lt.total t = tc at *
      clear hl h h' h'' HT ha hb ht ma mb mc za zb zc f1 m1 hla hlb hlc e1 KLa
      go_enter Try.func9, Try.ntmps9
      go_wp2_with fail
      refine HA.out.mono ?_
      rintro e w1 ⟨rfl, b1⟩
      have B1 := Lib.hid b1
      clear b1 HA
      go_wp2_with fail
      refine (KM1.out _ B1.out).mono ?_
      rintro e w2 ⟨rfl, b2⟩
      have B2 := Lib.hid (B1.out.trans (b2.mono B1.out.size))
      clear b2 KM1
      go_wp2_with fail
      refine (KM2.out _ B2.out).mono ?_
      rintro e w3 ⟨rfl, b3⟩
      have B3 := Lib.hid (B2.out.trans (b3.mono B2.out.size))
      clear b3 KM2
      go_wp2_with fail
      refine (KM3.out _ B3.out).mono ?_
      rintro e w4 ⟨rfl, b4⟩
      have B4 := Lib.hid (B3.out.trans (b4.mono B3.out.size))
      clear b4 KM3
      go_wp2_with fail
      refine (K1.out _ B4.out).mono ?_
      rintro e w5 ⟨⟨A5, c5, n5, rfl, t5, h5⟩, b5⟩
      have B5 := Lib.hid (B4.out.trans (b5.mono B4.out.size))
      have T5 := Lib.hid (And.intro t5 h5)
      clear b5 t5 h5 K1
      go_wp2_with fail
      refine (K2.out _ B5.out).mono ?_
      rintro e w6 ⟨⟨A6, c6, n6, rfl, t6, h6⟩, b6⟩
      have B6 := Lib.hid (B5.out.trans (b6.mono B5.out.size))
      have T6 := Lib.hid (And.intro (T5.out.1.below b6) (And.intro t6 h6))
      clear b6 t6 h6 K2
      clear T6 T5
      go_wp2_with fail
      refine (KLb.out _ B6.out).mono ?_
      rintro e w7 ⟨rfl, b7⟩
      have B7 := Lib.hid (B6.out.trans (b7.mono B6.out.size))
      clear b7
      go_wp2_with (go_at_call 18; refine (KLc.out _ B7.out).mono ?_; rintro e w8 ⟨rfl, b8⟩)
      go_ret
      exact ⟨rfl, B7.out.trans (b8.mono B7.out.size)⟩
  · rw [v1] at K1
    rcases Tx.con_few hb ht (by omega) with ⟨f2, v2, m2⟩ | ⟨f2, v2⟩
    · rw [v2] at K2
      simp only at K1 K2
      clear v1 v2
      generalize Lt.runs (Lt.expand b ++ Lt.expand t) = y at K2 m2
      generalize Lt.total b = tb at *
      generalize Lt.total a = ta at *
      clear hl h h' h'' HT ha hb ht ma mb mc za zb zc f2 m2 hla hlb hlc e2 KLc
      go_enter Try.func9, Try.ntmps9
      go_wp2_with fail
      refine HA.out.mono ?_
      rintro e w1 ⟨rfl, b1⟩
      have B1 := Lib.hid b1
      clear b1 HA
      go_wp2_with fail
      refine (KM1.out _ B1.out).mono ?_
      rintro e w2 ⟨rfl, b2⟩
      have B2 := Lib.hid (B1.out.trans (b2.mono B1.out.size))
      clear b2 KM1
      go_wp2_with fail
      refine (KM2.out _ B2.out).mono ?_
      rintro e w3 ⟨rfl, b3⟩
      have B3 := Lib.hid (B2.out.trans (b3.mono B2.out.size))
      clear b3 KM2
      go_wp2_with fail
      refine (KM3.out _ B3.out).mono ?_
      rintro e w4 ⟨rfl, b4⟩
      have B4 := Lib.hid (B3.out.trans (b4.mono B3.out.size))
      clear b4 KM3
      go_wp2_with fail
      refine (K1.out _ B4.out).mono ?_
      rintro e w5 ⟨⟨A5, c5, n5, rfl, t5, h5⟩, b5⟩
      have B5 := Lib.hid (B4.out.trans (b5.mono B4.out.size))
      have T5 := Lib.hid (And.intro t5 h5)
      clear b5 t5 h5 K1
      go_wp2_with fail
      refine (K2.out _ B5.out).mono ?_
      rintro e w6 ⟨⟨A6, c6, n6, rfl, t6, h6⟩, b6⟩
      have B6 := Lib.hid (B5.out.trans (b6.mono B5.out.size))
      have T6 := Lib.hid (And.intro (T5.out.1.below b6) (And.intro t6 h6))
      clear b6 t6 h6 K2
      clear T6 T5
      go_wp2_with fail
      refine (KLa.out _ B6.out).mono ?_
      rintro e w7 ⟨rfl, b7⟩
      have B7 := Lib.hid (B6.out.trans (b7.mono B6.out.size))
      clear b7
      go_wp2_with (go_at_call 18; refine (KLb.out _ B7.out).mono ?_; rintro e w8 ⟨rfl, b8⟩)
      go_ret
      exact ⟨rfl, B7.out.trans (b8.mono B7.out.size)⟩
    · rw [v2] at K2
      simp only at K1 K2
      clear v1 v2
      generalize Lt.total b = tb at *
      generalize Lt.total a = ta at *
      generalize Lt.total t = tc at *
      clear hl h h' h'' HT ha hb ht ma mb mc za zb zc hla hlb hlc
      go_enter Try.func9, Try.ntmps9
      go_wp2_with fail
      refine HA.out.mono ?_
      rintro e w1 ⟨rfl, b1⟩
      have B1 := Lib.hid b1
      clear b1 HA
      go_wp2_with fail
      refine (KM1.out _ B1.out).mono ?_
      rintro e w2 ⟨rfl, b2⟩
      have B2 := Lib.hid (B1.out.trans (b2.mono B1.out.size))
      clear b2 KM1
      go_wp2_with fail
      refine (KM2.out _ B2.out).mono ?_
      rintro e w3 ⟨rfl, b3⟩
      have B3 := Lib.hid (B2.out.trans (b3.mono B2.out.size))
      clear b3 KM2
      go_wp2_with fail
      refine (KM3.out _ B3.out).mono ?_
      rintro e w4 ⟨rfl, b4⟩
      have B4 := Lib.hid (B3.out.trans (b4.mono B3.out.size))
      clear b4 KM3
      go_wp2_with fail
      refine (K1.out _ B4.out).mono ?_
      rintro e w5 ⟨⟨A5, c5, n5, rfl, t5, h5⟩, b5⟩
      have B5 := Lib.hid (B4.out.trans (b5.mono B4.out.size))
      have T5 := Lib.hid (And.intro t5 h5)
      clear b5 t5 h5 K1
      go_wp2_with fail
      refine (K2.out _ B5.out).mono ?_
      rintro e w6 ⟨⟨A6, c6, n6, rfl, t6, h6⟩, b6⟩
      have B6 := Lib.hid (B5.out.trans (b6.mono B5.out.size))
      have T6 := Lib.hid (And.intro (T5.out.1.below b6) (And.intro t6 h6))
      clear b6 t6 h6 K2
      clear T6 T5
      go_wp2_with fail
      refine (KLa.out _ B6.out).mono ?_
      rintro e w7 ⟨rfl, b7⟩
      have B7 := Lib.hid (B6.out.trans (b7.mono B6.out.size))
      clear b7
      go_wp2_with fail
      refine (KLb.out _ B7.out).mono ?_
      rintro e w8 ⟨rfl, b8⟩
      have B8 := Lib.hid (B7.out.trans (b8.mono B7.out.size))
      clear b8
      go_wp2_with fail
      refine (KLb.out _ B8.out).mono ?_
      rintro e w9 ⟨rfl, b9⟩
      have B9 := Lib.hid (B8.out.trans (b9.mono B8.out.size))
      clear b9
      go_wp2_with (go_at_call 18; refine (KLc.out _ B9.out).mono ?_; rintro e w10 ⟨rfl, b10⟩)
      go_ret
      exact ⟨rfl, B9.out.trans (b10.mono B9.out.size)⟩
end Go.Proofs.Ytdpbglofijpfnaa
