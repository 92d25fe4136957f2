/- What the proofs of this claim use, text by text. -/
import Derived.Test.YtcgaeknikfaghaaGreatDoorQC40
import Derived.Test.YtcgaeknikfaghaaGreatDoorQC39
set_option linter.unusedSimpArgs false
set_option linter.unusedVariables false
set_option maxRecDepth 100000
set_option maxHeartbeats 25600000
namespace Go.Proofs.YtcgaeknikfaghaaGreatDoor
open Go.RowKit
theorem buildNames_walk (w : World) (x : Sx) (xA : Option Addr) (xc : Nat) (s : ByteArray) (hT : Pow9 w) (hK : Ask9 w) (hG : Gl w) :
    Calls Tryz.prog 5 #[sval x xA xc, .string s] w fun e w' => e = .returned (.bool true) ∧ Below w.heap.size w w' := by
  obtain ⟨W0, hW0⟩ : ∃ W0, w.alloc (sbox x xA xc) = W0 := ⟨_, rfl⟩
  have hB0 : Below w.heap.size w W0 := by rw [← hW0]; exact (Below.refl _ w).alloc (Nat.le_refl _) _
  have HBox : Hid (∀ W, Below W0.heap.size W0 W → XCells W w.heap.size x xA xc) := fun W hW => xbox w x xA xc (by rw [hW0]; exact hW)
  have HA := Lib.hid (kawake10 W0 (hT.on hB0) (hK.below hB0) (hG.below hB0))
  have HS := Lib.hid fun (W : World) => ksort10 W x xA xc
  have HR := Lib.hid fun (W : World) => rsort10 W x xA xc
  have HKr := Lib.hid fun (W : World) => kreserved s W
  have HRr := Lib.hid fun (W : World) => rreserved10 s W
  have HB0 := Lib.hid hB0
  generalize Bd.reserved s.data.toList = res at HKr HRr
  obtain ⟨y, hy⟩ : ∃ y, Bd.sort x = y := ⟨_, rfl⟩
  rw [hy] at HS HR
  obtain ⟨y1, y2⟩ := y
  clear hT hK hG hB0 hy
  obtain ⟨xl, xk, xT, xta, xa, xL⟩ := x
  unfold sval at HS HR ⊢
  simp only at HS HR ⊢
  obtain ⟨xn, hxn⟩ : ∃ xn, xL.length = xn := ⟨_, rfl⟩
  rw [hxn] at HS HR ⊢
  have hW0' : w.alloc (.cells #[.bool xl, .int .i64 xk, .string xT, .int .i64 xta, .int .i64 xa, .slice xA xn xc] 27) = W0 := by rw [← hW0, ← hxn]
  have HXn := Lib.hid hxn
  clear hW0 hxn
  obtain ⟨sz, hsz⟩ : ∃ sz, s.size = sz := ⟨_, rfl⟩
  obtain ⟨tz, htz⟩ : ∃ tz, xT.size = tz := ⟨_, rfl⟩
  have hc : decide ((200 : Int) < (sz : Int)) = true ∨ (decide ((200 : Int) < (sz : Int)) = false ∧ decide ((200 : Int) < (tz : Int)) = true) ∨ (decide ((200 : Int) < (sz : Int)) = false ∧ decide ((200 : Int) < (tz : Int)) = false) := by
    by_cases h1 : 200 < sz
    · exact .inl (decide_eq_true (by omega))
    · by_cases h2 : 200 < tz
      · exact .inr (.inl ⟨decide_eq_false (by omega), decide_eq_true (by omega)⟩)
      · exact .inr (.inr ⟨decide_eq_false (by omega), decide_eq_false (by omega)⟩)
  go_enter Tryz.func5, Tryz.ntmps5
  go_wp2_with fail
  refine HA.out.mono ?_
  rintro e w1 ⟨rfl, b1⟩
  have HE1 := Lib.hid (HB0.out.trans (b1.mono HB0.out.size))
  have HB1 := Lib.hid b1
  obtain ⟨c0, c1, c2, c3, c4, c5⟩ := HBox.out w1 b1
  simp only [HXn.out] at c0 c1 c2 c3 c4 c5
  clear HA b1 hW0'
  rcases hc with d1 | ⟨d1, d2⟩ | ⟨d1, d2⟩
  · clear HS HR HKr HRr HBox HB1 c0 c1 c2 c3 c4 c5
    go_wp2
    go_ret
    exact ⟨rfl, HE1.out⟩
  · clear HS HR HKr HRr HBox HB1
    go_wp2
    go_ret
    exact ⟨rfl, HE1.out⟩
  · go_wp2_with fail
    refine (HS.out w1).mono ?_
    rintro e w2 ⟨rfl, b2⟩
    have hb2 := HB1.out.trans (b2.mono HB1.out.size)
    obtain ⟨q0, q1, q2, q3, q4, q5⟩ := HBox.out w2 hb2
    simp only [HXn.out] at q0 q1 q2 q3 q4 q5
    have HB2 := Lib.hid hb2
    clear HS b2 hb2 HB1 c0 c1 c2 c3 c4 c5 HBox HE1
    go_wp2_with fail
    refine (HR.out w2).mono ?_
    rintro e w3 ⟨rfl, b3⟩
    have HE3 := Lib.hid (HB0.out.trans ((HB2.out.trans (b3.mono HB2.out.size)).mono HB0.out.size))
    clear HR b3 HB2 q0 q1 q2 q3 q4 q5 HB0
    go_wp2_with (first | (go_at_call 21; refine (HKr.out _).mono ?_; rintro e w4 ⟨rfl, rfl⟩) | (go_at_call 22; refine (HRr.out _).mono ?_; rintro e w5 ⟨rfl, b5⟩))
    go_ret
    exact ⟨rfl, HE3.out.trans (b5.mono HE3.out.size)⟩
end Go.Proofs.YtcgaeknikfaghaaGreatDoor
