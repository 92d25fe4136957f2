/- Stage 7's awake. -/
import Derived.Test.YtmdjgjcneegiiaaDoorV9
import Derived.Test.YtmdjgjcneegiiaaDoorJ14
namespace Go.Proofs.YtmdjgjcneegiiaaDoor
open Go.RowKit

abbrev awP : ByteArray := ⟨#[97, 92, 117, 123, 54, 50, 125, 92, 117, 48, 48, 54, 51, 92, 117, 120]⟩
abbrev awQ : ByteArray := ⟨#[92, 117, 123, 51, 48, 48, 48, 48, 125]⟩
theorem awP_pts : Lt.pts awP.data.toList = [97, 98, 99, 92, 117, 120] := by decide +kernel
theorem awQ_pts : (Lt.pts awQ.data.toList).length = 9 := by decide +kernel
theorem aw_esc : Lt.escOf [97, 10, 92] = (0, [97, 92, 117, 123, 97, 125, 92, 117, 123, 53, 99, 125]) := by
  have h1 : Lt.hex 10 = [97] := Lt.hex_small (by decide)
  have h2 : Lt.hex 92 = [53, 99] := by
    rw [Lt.hex_big (by decide), Lt.hex_small (by decide)]
    rfl
  have e1 : Lt.esc1 97 = [97] := Lt.esc1_plain (by decide)
  have e2 : Lt.esc1 10 = [92, 117, 123, 97, 125] := by
    rw [Lt.esc1_hex (by decide)]
    show 92 :: 117 :: 123 :: (Lt.hex 10 ++ [125]) = _
    rw [h1]
    rfl
  have e3 : Lt.esc1 92 = [92, 117, 123, 53, 99, 125] := by
    rw [Lt.esc1_hex (by decide)]
    show 92 :: 117 :: 123 :: (Lt.hex 92 ++ [125]) = _
    rw [h2]
    rfl
  rw [Lt.escOf, if_pos (by decide)]
  simp [Lt.escape, e1, e2, e3]

set_option maxRecDepth 100000 in
set_option maxHeartbeats 1600000 in
theorem kawake7 (w : World) (hG : Gl w) : Calls Tryd.prog 10 #[] w fun e w' => e = .returned (.bool true) ∧ Below w.heap.size w w' := by
  have HG := Lib.hid hG
  have H1 := Lib.hid (kpoints7 awP w (by decide) hG)
  rw [awP_pts] at H1
  have H2 : Hid (∀ W, Gl W → Calls Tryd.prog 14 #[.slice (some ⟨W.heap.size, 0, none⟩) 3 3] (W.alloc (.cells #[.int .i64 97, .int .i64 10, .int .i64 92] 3)) fun e w' => e = .returned (.tuple #[.string ⟨#[97, 92, 117, 123, 97, 125, 92, 117, 123, 53, 99, 125]⟩, .int .i64 0]) ∧ Below W.heap.size W w') := fun W hW => by
    have h := kescape7 (W.alloc (.cells #[.int .i64 97, .int .i64 10, .int .i64 92] 3)) (some ⟨W.heap.size, 0, none⟩) 3 3 [97, 10, 92] (NumS.lit W [97, 10, 92]) (by decide) (hW.below ((Below.refl _ W).alloc (Nat.le_refl _) _))
    rw [aw_esc] at h
    exact h.mono fun e w' ⟨h1, h2⟩ => ⟨h1, ((Below.refl _ W).alloc (Nat.le_refl _) _).trans (h2.mono (by simp))⟩
  have H3 : Hid (∀ W, Gl W → Calls Tryd.prog 12 #[.string awQ] W fun e w' => (∃ A c, e = .returned (.slice A 9 c)) ∧ Below W.heap.size W w') := fun W hW =>
    (kpoints7 awQ W (by decide) hW).mono fun e w' ⟨⟨A, c, h1, _⟩, h2⟩ => ⟨⟨A, c, by rw [h1, awQ_pts]⟩, h2⟩
  clear hG
  go_enter Tryd.func10, Tryd.ntmps10
  go_wp2_with fail
  refine H1.out.mono ?_
  rintro e w1 ⟨⟨A1, c1, rfl, o1⟩, b1⟩
  have B1 := Lib.hid b1
  have O1 := Lib.hid (o1.nums rfl)
  clear b1 o1 H1
  go_wp2_with fail
  refine (H2.out _ (HG.out.below B1.out)).mono ?_
  rintro e w2 ⟨rfl, b2⟩
  have B2 := Lib.hid (B1.out.trans (b2.mono B1.out.size))
  have HI : Hid (Calls Tryd.prog 11 #[.slice A1 6 c1, .slice (some ⟨w2.heap.size, 0, none⟩) 6 6] (w2.alloc (.cells #[.int .i64 97, .int .i64 98, .int .i64 99, .int .i64 92, .int .i64 117, .int .i64 120] 3)) fun e w' => e = .returned (.bool true) ∧ Below w2.heap.size w2 w') := by
    have k := (Below.refl _ w2).alloc (Nat.le_refl _) (.cells #[.int .i64 97, .int .i64 98, .int .i64 99, .int .i64 92, .int .i64 117, .int .i64 120] 3)
    have h := rints _ A1 6 c1 _ (some ⟨w2.heap.size, 0, none⟩) 6 6 _ ((O1.out.below b2).below k) (NumS.lit w2 [97, 98, 99, 92, 117, 120]) (by decide)
    rw [sameN_self] at h
    exact h.mono fun e w' ⟨h1, h2⟩ => ⟨h1, k.trans (h2.mono k.size)⟩
  clear b2 H2 O1
  go_wp2_with fail
  refine HI.out.mono ?_
  rintro e w3 ⟨rfl, b3⟩
  have B3 := Lib.hid (B2.out.trans (b3.mono B2.out.size))
  clear b3 HI
  go_wp2_with (go_at_call 12; refine (H3.out _ (HG.out.below B3.out)).mono ?_; rintro e w4 ⟨⟨A4, c4, rfl⟩, b4⟩)
  go_ret
  exact ⟨rfl, B3.out.trans (b4.mono B3.out.size)⟩
end Go.Proofs.YtmdjgjcneegiiaaDoor
