/- The law RunsTurns. -/
import Derived.Test.YtdpbglofijpfnaaF19
namespace Go.Proofs.Ytdpbglofijpfnaa
open Go.RowKit Go.ChangeShapes Go.WideShapes Go.ChangeAt

theorem rtexts_self (w : World) (A : Option Addr) (n c : Nat) (R : List (Int × Int)) (B : Option Addr) (m d : Nat) (h : RunS w A n R) (h' : RunS w B m R) (hn : n ≤ 1000000000) :
    Calls Try.prog 12 #[.slice A n c, .slice B m d] w fun e w' => e = .returned (.bool true) ∧ Below w.heap.size w w' := by
  have := rtexts w A n c R B m d R h h' hn
  rw [sameR_self] at this
  exact this

set_option maxRecDepth 100000 in
set_option maxHeartbeats 3200000 in
theorem runsTurns_walk (w : World) (A : Option Addr) (n c : Nat) (R : List (Int × Int)) (B : Option Addr) (m d : Nat) (S : List (Int × Int)) (C : Option Addr) (p f : Nat) (T : List (Int × Int)) (h : ArgR w A n R) (h' : ArgR w B m S) (h'' : ArgR w C p T) (hA : A = none → n = 0 ∧ c = 0) (hd : m ≤ d) :
    Calls Try.prog 5 #[.slice A n c, .slice B m d, .slice C p f] w fun e w' => e = .returned (.bool true) ∧ Below w.heap.size w w' := by
  have HA := Lib.hid (kawake8 w)
  have Hd := Lib.hid hd
  clear hd
  have H1 := Lib.hid fun W (hW : Below w.heap.size w W) => ksmall8 W A n c R B m d S C p f T (h.1.below hW) (h'.1.below hW) (h''.1.below hW)
  have HH := Lib.hid (And.intro h (And.intro h' h''))
  have HC := Lib.hid hA
  clear h h' h'' hA
  go_enter Try.func5, Try.ntmps5
  go_wp2_with fail
  refine HA.out.mono ?_
  rintro e w1 ⟨rfl, b1⟩
  have B1 := Lib.hid b1
  clear b1 HA
  go_wp2_with fail
  refine (H1.out _ B1.out).mono ?_
  rintro e w2 ⟨⟨b, rfl, hb⟩, b2⟩
  have B2 := Lib.hid (B1.out.trans (b2.mono B1.out.size))
  clear b2 H1
  cases b with
  | false =>
    clear hb
    go_wp2
    go_ret
    exact ⟨rfl, B2.out⟩
  | true =>
    obtain ⟨⟨hn, hl⟩, ⟨hm, hl'⟩, ⟨hp, hl''⟩⟩ := hb rfl
    have HT := Lib.hid fun W (hW : Below w.heap.size w W) => And.intro ((HH.out.1.txt (by omega)).below hW) (And.intro ((HH.out.2.1.txt (by omega)).below hW) ((HH.out.2.2.txt (by omega)).below hW))
    have HS := Lib.hid fun W (hW : Below w.heap.size w W) => And.intro ((Sml.of HH.out.2.1.1 hm hl').below hW) ((Sml.of HH.out.2.2.1 hp hl'').below hW)
    have HR3 := Lib.hid (HT.out _ B2.out).1.runs
    obtain ⟨X1, X2, hX⟩ : ∃ X1 X2, Tx.conI R S = (X1, X2) := ⟨_, _, rfl⟩
    obtain ⟨xl, hxl⟩ : ∃ xl, X2.length = xl := ⟨_, rfl⟩
    have HXl : Hid (xl ≤ 600) := by
      have h1 := (Tx.conI_may R S).2
      rw [hX] at h1
      have h2 := HH.out.1.1.len
      have h3 := HH.out.2.1.1.len
      simp only at h1
      show _ ≤ _
      omega
    have K1 : Hid (∀ W, Below w.heap.size w W → Calls Try.prog 28 #[.slice A n c, .slice B m d] W fun e w' => (∃ A' c', e = .returned (.tuple #[.slice A' xl c', .int .i64 X1]) ∧ OwnR w' W.heap.size A' c' X2) ∧ Below W.heap.size W w') := fun W hW =>
      (kconcat8 W A n c R B m d S (HT.out W hW).1 (HT.out W hW).2.1).mono fun e w' ⟨⟨A', c', e1, o⟩, b⟩ => by
        rw [hX] at e1 o
        simp only [hxl] at e1
        exact ⟨⟨A', c', e1, o⟩, b⟩
    have K2 : Hid (∀ W A3 c3, RunS W A3 n R → Below w.heap.size w W → Calls Try.prog 29 #[.slice A3 n c3, .slice B m d] W fun e w' => (∃ A' c', e = .returned (.tuple #[.slice A' xl c', .int .i64 X1]) ∧ RunS w' A' xl X2) ∧ Below W.heap.size W w') := fun W A3 c3 h3 hW =>
      (rconcat8 W A3 n c3 R B m d S (Sml.of h3 hn hl) (HS.out W hW).1).mono fun e w' ⟨⟨A', c', e1, o⟩, b⟩ => by
        rw [hX] at e1 o
        simp only [hxl] at e1
        exact ⟨⟨A', c', e1, OwnR.runs o hxl⟩, b⟩
    have K3 := Lib.hid fun W (hW : Below w.heap.size w W) => kreplace8 W A n c R B m d S C p f T (HT.out W hW).1 (HT.out W hW).2.1 (HT.out W hW).2.2 Hd.out
    have K4 := Lib.hid fun W A3 c3 (h3 : RunS W A3 n R) (hW : Below w.heap.size w W) => rreplace8 W A3 n c3 R B m d S C p f T (Sml.of h3 hn hl) (HS.out W hW).1 (HS.out W hW).2
    have HN : Hid (n ≤ 300 ∧ R.length ≤ 300) := ⟨hn, by rw [HH.out.1.1.len]; exact hn⟩
    have HXL := Lib.hid hxl
    have HRn := Lib.hid HH.out.1.1.len
    clear hb hX hn hl hm hl' hp hl'' HH HS hxl
    go_wp2_with (first
      | (at_builtin; refine copyR _ rfl (.tmp 35) rfl A n c R rfl HR3.out HC.out (by have := HN.out.1; omega) ?_; intro A3 c3 w3 o3 b3; have O3 := Lib.hid (OwnR.runs o3 HRn.out); have B3 := Lib.hid (B2.out.trans (b3.mono B2.out.size)); clear o3 b3 HR3)
      | fail)
    refine (K1.out w3 B3.out).mono ?_
    rintro e w4 ⟨⟨A4, c4, rfl, o4⟩, b4⟩
    have B4 := Lib.hid (B3.out.trans (b4.mono B3.out.size))
    have D4 := Lib.hid b4
    have O4 := Lib.hid o4
    have HG4 : Hid (0 < xl → ∀ g, A4 = some ⟨g, 0, none⟩ → g < w4.heap.size) := fun h0 g hg => by
      obtain ⟨b, off, e, hb, _⟩ := (OwnR.runs o4 HXL.out).at_ h0
      rw [hg] at e
      injection e with e
      injection e with e _ _
      omega
    clear o4 b4 K1
    go_wp2_with fail
    refine (K2.out w4 A3 c3 (O3.out.below D4.out) B4.out).mono ?_
    rintro e w5 ⟨⟨A5, c5, rfl, r5⟩, b5⟩
    have B5 := Lib.hid (B4.out.trans (b5.mono B4.out.size))
    have D5 := Lib.hid (D4.out.trans (b5.mono D4.out.size))
    have O5 := Lib.hid (And.intro (O4.out.kept b5) r5)
    have HG : Hid (0 < xl → ∀ g, A4 = some ⟨g, 0, none⟩ → g < w5.heap.size) := fun h0 g hg => Nat.lt_of_lt_of_le (HG4.out h0 g hg) b5.size
    clear b5 r5 K2 O4 B4 D4 HG4
    go_wp2_with fail
    refine (K3.out w5 B5.out).mono ?_
    rintro e w6 ⟨⟨A6, c6, ⟨Y1, Y2⟩, rfl, o6, hx⟩, b6⟩
    have B6 := Lib.hid (B5.out.trans (b6.mono B5.out.size))
    have D6 := Lib.hid (D5.out.trans (b6.mono D5.out.size))
    have E6 := Lib.hid b6.size
    have O6 := Lib.hid (And.intro (O5.out.1.kept b6) (And.intro (O5.out.2.below b6) o6))
    have HX := Lib.hid hx
    obtain ⟨yl, hyl⟩ : ∃ yl, Y2.length = yl := ⟨_, rfl⟩
    have HYL := Lib.hid hyl
    have HYf : Hid (yl ≤ 65536) := by
      have := hx.few HN.out.2
      simp only at this
      show _ ≤ _
      omega
    simp only [hyl]
    clear b6 o6 hx hyl K3 O5
    simp only at O6
    go_wp2_with fail
    refine (K4.out w6 A3 c3 (O3.out.below D6.out) B6.out).mono ?_
    rintro e w7 ⟨⟨A7, c7, m7, ⟨y1, y2⟩, rfl, r7, hy⟩, b7⟩
    have e7 := HX.out.uniq hy
    injection e7 with q1 q2
    subst q1
    subst q2
    obtain rfl : yl = m7 := by rw [← HYL.out]; exact r7.len
    have B7 := Lib.hid (B6.out.trans (b7.mono B6.out.size))
    have D7 := Lib.hid (D6.out.trans (b7.mono D6.out.size))
    have E7 := Lib.hid (Nat.le_trans E6.out b7.size)
    have O7 := Lib.hid (And.intro (O6.out.1.kept b7) (And.intro (O6.out.2.1.below b7) (And.intro (O6.out.2.2.kept b7) r7)))
    clear b7 r7 hy K4 O6 HX
    simp only at O7
    go_wp2_with fail
    refine (rtexts_self w7 A4 xl c4 X2 A5 xl c5 (OwnR.runs O7.out.1 HXL.out) O7.out.2.1 (by have := HXl.out; omega)).mono ?_
    rintro e w8 ⟨rfl, b8⟩
    have B8 := Lib.hid (B7.out.trans (b8.mono B7.out.size))
    have D8 := Lib.hid (D7.out.trans (b8.mono D7.out.size))
    have E8 := Lib.hid (Nat.le_trans E7.out b8.size)
    have O8 := Lib.hid (And.intro (O7.out.1.kept b8) (And.intro (O7.out.2.2.1.kept b8) (O7.out.2.2.2.below b8)))
    clear b8 O7 B7 D7
    go_wp2_with fail
    refine (rtexts_self w8 A6 yl c6 Y2 A7 yl c7 (OwnR.runs O8.out.2.1 HYL.out) O8.out.2.2 (by have := HYf.out; omega)).mono ?_
    rintro e w9 ⟨rfl, b9⟩
    have B9 := Lib.hid (B8.out.trans (b9.mono B8.out.size))
    have D9 := Lib.hid (D8.out.trans (b9.mono D8.out.size))
    have O9 := Lib.hid (And.intro (O8.out.1.kept b9) (O8.out.2.1.kept b9))
    have HZ : Hid (w.heap.size ≤ w3.heap.size ∧ w3.heap.size ≤ w5.heap.size ∧ w5.heap.size ≤ w9.heap.size) := ⟨B3.out.size, D5.out.size, Nat.le_trans E8.out b9.size⟩
    clear b9 O8 B8 D8 D5 D6 B5 B6
    go_wp2
    go_loopw [20] (fun iv wr => ∃ (i : Nat) (R' : List (Int × Int)), i ≤ xl ∧ iv = .int .i64 (i : Nat) ∧ Hid (Turn (fun k => w3.heap.size ≤ k ∧ k < w5.heap.size) w9 wr) ∧ Hid (R'.length = xl ∧ OwnR wr w3.heap.size A4 c4 R')) (fun iv _ => xl - (intOf iv).toNat)
    case atStart => exact ⟨0, X2, Nat.zero_le _, rfl, Turn.refl _ _, HXL.out, O9.out.1⟩
    case round =>
      obtain ⟨i, R', hi, rfl, HI, HO⟩ := hrel
      by_cases hlt : i < xl
      · obtain ⟨g, hg, hgB, hglt, ⟨u, hu⟩, cf, hcap, hput⟩ := OwnR.spot HO.out.1 HO.out.2 hlt
        subst hg
        have hgw := HG.out (by omega) g rfl
        obtain ⟨R2, h1, h2, h3⟩ := hput 0
        have HT2 := Lib.hid (HI.out.put (p := ⟨g, i * 2 + 1, none⟩) (.inl ⟨hgB, hgw⟩) (.int .i64 0))
        have HO2 := Lib.hid (And.intro h1 h2)
        have hlt' : (i : Int) < (xl : Int) := by omega
        have h0 : (0 : Int) ≤ (i : Int) := by omega
        have HB := Lib.hid HXl.out
        have hx6 := HXl.out
        clear hput h1 h2 h3 hgw hgB HI HO O9 HT O3 B9 D9
        go_wp2
        go_roundw
        case rel => exact ⟨i + 1, R2, by omega, by go_num, HT2.out, HO2.out⟩
        case measure => simp [intOf]; omega
      · obtain rfl : i = xl := by omega
        have O10 := Lib.hid (OwnR.turn O9.out.2 HI.out fun _ h => h.2)
        have B10 := Lib.hid (B9.out.trans (HI.out.below (B := w.heap.size) (by have := HZ.out; omega) fun _ h => by have := HZ.out; omega))
        have D10 := Lib.hid (D9.out.trans (HI.out.below (B := w3.heap.size) (by have := HZ.out; omega) fun _ h => h.1))
        have HZr : Hid (w5.heap.size ≤ wr.heap.size) := Nat.le_trans HZ.out.2.2 HI.out.size
        clear HI HO O9 B9 D9 HG
        go_wp2
        go_loopw [21] (fun iv wq => ∃ (k : Nat) (R' : List (Int × Int)), k ≤ yl ∧ iv = .int .i64 (k : Nat) ∧ Hid (Turn (fun k => w5.heap.size ≤ k) wr wq) ∧ Hid (R'.length = yl ∧ OwnR wq w5.heap.size A6 c6 R')) (fun iv _ => yl - (intOf iv).toNat)
        case atStart => exact ⟨0, Y2, Nat.zero_le _, rfl, Turn.refl _ _, HYL.out, O10.out⟩
        case round =>
          obtain ⟨k, R', hk, rfl, HI, HO⟩ := hrel
          by_cases hlt2 : k < yl
          · obtain ⟨g, hg, hgB, hglt, ⟨u, hu⟩, cf, hcap, hput⟩ := OwnR.spot HO.out.1 HO.out.2 hlt2
            subst hg
            obtain ⟨R2, h1, h2, h3⟩ := hput 0
            have HT2 := Lib.hid (HI.out.put (p := ⟨g, k * 2 + 1, none⟩) (.inl hgB) (.int .i64 0))
            have HO2 := Lib.hid (And.intro h1 h2)
            have hlt' : (k : Int) < (yl : Int) := by omega
            have h0 : (0 : Int) ≤ (k : Int) := by omega
            have hy6 := HYf.out
            clear hput h1 h2 h3 hgB HI HO O10 HT O3 B10 D10
            go_wp2
            go_roundw
            case rel => exact ⟨k + 1, R2, by omega, by go_num, HT2.out, HO2.out⟩
            case measure => simp [intOf]; omega
          · obtain rfl : k = yl := by omega
            have B11 := Lib.hid (B10.out.trans (HI.out.below (B := w.heap.size) (by have := HZ.out; have := HZr.out; omega) fun _ h => by have := HZ.out; omega))
            have D11 := Lib.hid (D10.out.trans (HI.out.below (B := w3.heap.size) (by have := HZ.out; have := HZr.out; omega) fun _ h => by have := HZ.out; omega))
            clear HI HO O10 B10 D10
            go_wp2_with fail
            refine (rtexts_self _ A n c R A3 n c3 (HT.out _ B11.out).1.runs (O3.out.below D11.out) (by have := HN.out.1; omega)).mono ?_
            rintro e w12 ⟨rfl, b12⟩
            have B12 := Lib.hid (B11.out.trans (b12.mono B11.out.size))
            have hxx : (X1 == X1) = true := beq_self_eq_true X1
            have hyy : (Y1 == Y1) = true := beq_self_eq_true Y1
            clear b12 B11 D11 HT O3
            go_wp2
            go_ret
            exact ⟨rfl, B12.out⟩
end Go.Proofs.Ytdpbglofijpfnaa
