/- The laws RunsPieces, RunsStands. -/
import Derived.Test.YtdpbglofijpfnaaF12
namespace Go.Proofs.Ytdpbglofijpfnaa
open Go.RowKit

theorem ArgR.txt {w : World} {A : Option Addr} {n : Nat} {R : List (Int × Int)} (h : ArgR w A n R) (hn : n ≤ 2000) : Txt w A n R := ⟨h.1, hn, h.2⟩

set_option maxRecDepth 100000 in
set_option maxHeartbeats 3200000 in
theorem runsPieces_walk (w : World) (A : Option Addr) (n c : Nat) (R : List (Int × Int)) (i k : Int) (h : ArgR w A n R) (hi : (Lit.int .i64 i).wf = true) (hk : (Lit.int .i64 k).wf = true) :
    Calls Try.prog 3 #[.slice A n c, .int .i64 i, .int .i64 k] w fun e w' => e = .returned (.bool true) ∧ Below w.heap.size w w' := by
  have HA := Lib.hid (kawake8 w)
  have H1 := Lib.hid fun W (hW : Below w.heap.size w W) => ksmall8 W A n c R none 0 0 [] none 0 0 [] (h.1.below hW) (RunS.nil _ _) (RunS.nil _ _)
  have HH := Lib.hid h
  have HI := Lib.hid (And.intro hi hk)
  clear h hi hk
  go_enter Try.func3, Try.ntmps3
  go_wp2_with fail
  refine HA.out.mono ?_
  rintro e w1 ⟨rfl, b1⟩
  have B1 := Lib.hid b1
  clear b1 HA
  go_wp2_with fail
  refine (H1.out _ B1.out).mono ?_
  rintro e w2 ⟨⟨b, rfl, hb⟩, b2⟩
  have B2 := Lib.hid (B1.out.trans (b2.mono B1.out.size))
  clear b2 H1
  cases b with
  | false =>
    clear hb
    go_wp2
    go_ret
    exact ⟨rfl, B2.out⟩
  | true =>
    obtain ⟨⟨hn, hl⟩, _, _⟩ := hb rfl
    have HT := Lib.hid fun W (hW : Below w.heap.size w W) => (HH.out.txt (by omega)).below hW
    have HS := Lib.hid fun W (hW : Below w.heap.size w W) => (Sml.of HH.out.1 hn hl).below hW
    have K1 := Lib.hid fun W (hW : Below w.heap.size w W) => ksubstr8 W A n c R i k (HT.out W hW) HI.out.1 HI.out.2
    have K2 := Lib.hid fun W (hW : Below w.heap.size w W) => rsubstr8 W A n c R i k (HS.out W hW)
    have K3 := Lib.hid fun W (hW : Below w.heap.size w W) => kat8 W A n c R i (HT.out W hW) HI.out.1
    have K4 := Lib.hid fun W (hW : Below w.heap.size w W) => rsubstr8 W A n c R i 1 (HS.out W hW)
    have K5 := Lib.hid fun W (hW : Below w.heap.size w W) => kmay8 W A n c R (HT.out W hW)
    have K6 := Lib.hid fun W (hW : Below w.heap.size w W) => rmay8 W A n c R (HT.out W hW).runs
    have K7 := Lib.hid fun W (hW : Below w.heap.size w W) => klen8 W A n c R (HT.out W hW)
    have K8 := Lib.hid fun W (hW : Below w.heap.size w W) => rlen8 W A n c R (HT.out W hW).runs
    unfold RSaid at K1 K2 K3 K4
    have HX : Hid ((Tx.subR R i k).length ≤ 300 ∧ (Tx.subR R i 1).length ≤ 300) := by
      have h1 := Tx.subR_len (R := R) i k
      have h2 := Tx.subR_len (R := R) i 1
      have h3 := HH.out.1.len
      exact ⟨by omega, by omega⟩
    generalize Tx.subR R i k = X at K1 K2 HX
    generalize Tx.subR R i 1 = Y at K3 K4 HX
    generalize Tx.mayB R = p at K5 K6
    generalize Tx.lenI R = q at K7 K8
    obtain ⟨xl, hX⟩ : ∃ n, X.length = n := ⟨_, rfl⟩
    obtain ⟨yl, hY⟩ : ∃ n, Y.length = n := ⟨_, rfl⟩
    have HXY := Lib.hid (And.intro hX hY)
    rw [hX] at K1 K2 HX
    rw [hY] at K3 K4 HX
    have hpp : (p == p) = true := by simp
    have hqq : (q == q) = true := by simp
    clear hb hn hl HT HS HH HI hX hY
    go_wp2_with fail
    refine (K1.out _ B2.out).mono ?_
    rintro e w3 ⟨⟨A3, c3, rfl, o3⟩, b3⟩
    have B3 := Lib.hid (B2.out.trans (b3.mono B2.out.size))
    have O3 := Lib.hid (OwnR.runs o3 HXY.out.1)
    clear b3 o3 K1
    go_wp2_with fail
    refine (K2.out _ B3.out).mono ?_
    rintro e w4 ⟨⟨A4, c4, rfl, o4⟩, b4⟩
    have B4 := Lib.hid (B3.out.trans (b4.mono B3.out.size))
    have HTx := Lib.hid (rtexts w4 A3 xl c3 X A4 xl c4 X (O3.out.below b4) (OwnR.runs o4 HXY.out.1) (by have := HX.out.1; omega))
    rw [sameR_self] at HTx
    clear b4 o4 K2 O3
    go_wp2_with fail
    refine HTx.out.mono ?_
    rintro e w5 ⟨rfl, b5⟩
    have B5 := Lib.hid (B4.out.trans (b5.mono B4.out.size))
    clear b5 HTx
    go_wp2_with fail
    refine (K3.out _ B5.out).mono ?_
    rintro e w6 ⟨⟨A6, c6, rfl, o6⟩, b6⟩
    have B6 := Lib.hid (B5.out.trans (b6.mono B5.out.size))
    have O6 := Lib.hid (OwnR.runs o6 HXY.out.2)
    clear b6 o6 K3
    go_wp2_with fail
    refine (K4.out _ B6.out).mono ?_
    rintro e w7 ⟨⟨A7, c7, rfl, o7⟩, b7⟩
    have B7 := Lib.hid (B6.out.trans (b7.mono B6.out.size))
    have HTx := Lib.hid (rtexts w7 A6 yl c6 Y A7 yl c7 Y (O6.out.below b7) (OwnR.runs o7 HXY.out.2) (by have := HX.out.2; omega))
    rw [sameR_self] at HTx
    clear b7 o7 K4 O6
    go_wp2_with fail
    refine HTx.out.mono ?_
    rintro e w8 ⟨rfl, b8⟩
    have B8 := Lib.hid (B7.out.trans (b8.mono B7.out.size))
    clear b8 HTx
    go_wp2_with fail
    refine (K5.out _ B8.out).mono ?_
    rintro e w9 ⟨rfl, b9⟩
    have B9 := Lib.hid (B8.out.trans (b9.mono B8.out.size))
    clear b9 K5
    go_wp2_with fail
    refine (K6.out _ B9.out).mono ?_
    rintro e w10 ⟨rfl, b10⟩
    have B10 := Lib.hid (B9.out.trans (b10.mono B9.out.size))
    clear b10 K6
    go_wp2_with fail
    refine (K7.out _ B10.out).mono ?_
    rintro e w11 ⟨rfl, b11⟩
    have B11 := Lib.hid (B10.out.trans (b11.mono B10.out.size))
    clear b11 K7
    go_wp2_with fail
    refine (K8.out _ B11.out).mono ?_
    rintro e w12 ⟨rfl, b12⟩
    have B12 := Lib.hid (B11.out.trans (b12.mono B11.out.size))
    clear b12 K8
    go_wp2
    go_ret
    exact ⟨rfl, B12.out⟩
end Go.Proofs.Ytdpbglofijpfnaa
