/- Stage 6's awake. -/
import Derived.Test.YtpjdfogieiokkaaDoorHE
import Derived.Test.YtpjdfogieiokkaaDoorHD
namespace Go.Proofs.YtpjdfogieiokkaaDoor
open Go.RowKit Go.Shelf

abbrev awS : ByteArray := ⟨#[97, 32, 40, 98, 32, 40, 99, 41, 32, 41, 32, 41, 32, 40, 100]⟩
abbrev awL : List MTok := [(3, ⟨#[97]⟩, 0), (1, ⟨#[40]⟩, 2), (3, ⟨#[98]⟩, 3), (1, ⟨#[40]⟩, 5), (3, ⟨#[99]⟩, 6), (2, ⟨#[41]⟩, 7), (2, ⟨#[41]⟩, 9), (2, ⟨#[41]⟩, 11), (1, ⟨#[40]⟩, 13), (3, ⟨#[100]⟩, 14)]
theorem awS_lex : Lx.lex 4000 awS.data.toList = ([(3, [97], 15), (1, [40], 13), (3, [98], 12), (1, [40], 10), (3, [99], 9), (2, [41], 8), (2, [41], 6), (2, [41], 4), (1, [40], 2), (3, [100], 1)], 0, []) := by
  rw [Lx.lex_fuel 15 4000 15 _ (by decide) (by decide) (by decide)]
  decide +kernel
theorem awS_of : LexOf awS awL 0 15 := by
  refine ⟨by decide, by decide, by decide, fun h => absurd h (by decide), fun _ => ?_⟩
  rw [awS_lex]
  exact ⟨rfl, rfl, rfl⟩
abbrev awX : Sx := ⟨true, 0, ByteArray.empty, 0, 2, [⟨false, 3, ⟨#[98]⟩, 3, 3, []⟩, ⟨true, 0, ByteArray.empty, 0, 5, [⟨false, 3, ⟨#[99]⟩, 6, 6, []⟩]⟩]⟩
abbrev awI : List SItem := [⟨⟨false, 3, ⟨#[97]⟩, 0, 0, []⟩, 0, 0⟩, ⟨awX, 0, 2⟩, ⟨Sx.zero, 60, 11⟩, ⟨Sx.zero, 51, 15⟩]
theorem awS_says : Says (15 : Int) (awL.map toI) awI := by
  refine Says.atom (3, ⟨#[97]⟩, 0) _ _ (by decide) (by decide) ?_
  refine Says.list (1, ⟨#[40]⟩, 2) (2, ⟨#[41]⟩, 9) [(3, ⟨#[98]⟩, 3), (1, ⟨#[40]⟩, 5), (3, ⟨#[99]⟩, 6), (2, ⟨#[41]⟩, 7)] _ [⟨false, 3, ⟨#[98]⟩, 3, 3, []⟩, ⟨true, 0, ByteArray.empty, 0, 5, [⟨false, 3, ⟨#[99]⟩, 6, 6, []⟩]⟩] _ rfl rfl ?_ (by simp [Sx.deeps, Sx.deep]) ?_
  · refine Reads.atom (3, ⟨#[98]⟩, 3) _ _ (by decide) (by decide) ?_
    exact Reads.list (1, ⟨#[40]⟩, 5) (2, ⟨#[41]⟩, 7) [(3, ⟨#[99]⟩, 6)] [] [⟨false, 3, ⟨#[99]⟩, 6, 6, []⟩] [] rfl rfl (.atom (3, ⟨#[99]⟩, 6) _ _ (by decide) (by decide) .nil) .nil
  · refine Says.close (2, ⟨#[41]⟩, 11) _ _ rfl ?_
    exact Says.ends (1, ⟨#[40]⟩, 13) _ rfl rfl
theorem awS_read : ReadOf awS awI := ⟨awL, 0, 15, awI, awS_of, awS_says, rfl⟩
theorem awX_size : awX.size ≤ 10000 := by simp [Sx.size, Sx.sizes]
theorem awX_wide : awX.wide ≤ 1100000 := by decide +kernel
theorem awX_print : awX.print = some [40, 98, 32, 40, 99, 41, 41] := by decide +kernel
theorem awX_dep : Sx.dep 65 awX = 2 := by decide +kernel

set_option maxRecDepth 100000 in
set_option maxHeartbeats 1600000 in
theorem kawake6 (w : World) (hm : MaxL w) :
    Calls Tryd.prog 9 #[] w fun e w' => e = .returned (.bool true) ∧ Below w.heap.size w w' := by
  have H1 := Lib.hid (kread awS w (by decide) hm)
  have HM := Lib.hid hm
  clear hm
  go_enter Tryd.func9, Tryd.ntmps9
  go_wp2_with fail
  refine H1.out.mono ?_
  rintro e w1 ⟨⟨A1, c1, li, rfl, _, ho, hr⟩, b1⟩
  have hI := hr.uniq awS_read
  have hl : li.length = 4 := by have := congrArg List.length hI; rw [List.length_map] at this; exact this
  have hits := ho.its hl
  rw [hI] at hits
  obtain ⟨b, off, rfl, hc⟩ := hits.at_ (by decide)
  obtain ⟨_, _, p0, _, p6, p7⟩ := hc 0 _ rfl
  obtain ⟨A', c', q0, qt, q6, q7⟩ := hc 1 _ rfl
  obtain ⟨_, _, r0, _, r6, r7⟩ := hc 2 _ rfl
  obtain ⟨_, _, t0, _, t6, t7⟩ := hc 3 _ rfl
  have HB1 := Lib.hid b1
  have HP := Lib.hid (kPrint awX A' c' w1 awX_size awX_wide qt (HM.out.below b1))
  have HK := Lib.hid fun W (hW : Below w1.heap.size w1 W) => kDepth awX A' c' W (qt.kept hW)
  rw [awX_print] at HP
  rw [awX_dep] at HK
  have HC : Hid (∀ W, Below w1.heap.size w1 W → W.cell? ⟨b, off, none⟩ = some (.bool false) ∧ W.cell? ⟨b, off + 2, none⟩ = some (.string ⟨#[97]⟩) ∧ W.cell? ⟨b, off + 1 + 1, none⟩ = some (.string ⟨#[97]⟩) ∧
      SAt W b (off + 8) awX A' c' ∧ W.cell? ⟨b, off + 16 + 6, none⟩ = some (.int .i64 60) ∧ W.cell? ⟨b, off + 16 + 7, none⟩ = some (.int .i64 11) ∧ W.cell? ⟨b, off + 24 + 6, none⟩ = some (.int .i64 51) ∧ W.cell? ⟨b, off + 24 + 7, none⟩ = some (.int .i64 15)) := by
    intro W hW
    have k0 := p0.below hW
    have e := fun (o : Nat) => hW.cell (p := ⟨b, o, none⟩) p0.lt
    exact ⟨k0.c0, k0.c2, k0.c2, q0.below hW, (e _).trans r6, (e _).trans r7, (e _).trans t6, (e _).trans t7⟩
  obtain ⟨y_, y0, y1, y2, y3, y4, y5⟩ := (HC.out w1 (Below.refl _ _)).2.2.2.1
  rw [hl]
  clear p0 p6 p7 q0 qt q6 q7 r0 r6 r7 t0 t6 t7 hc hits hI ho hr H1 hl b1 HM
  go_wp2_with fail
  refine HP.out.mono ?_
  rintro e w2 ⟨⟨V, rfl, hV⟩, b2⟩
  have hVe : V = ⟨#[40, 98, 32, 40, 99, 41, 41]⟩ := bytes_eq hV
  subst hVe
  have HD := Lib.hid (HK.out w2 b2)
  obtain ⟨d0, d1, d2, ⟨z_, z0, z1, z2, z3, z4, z5⟩, d3, d4, d5, d6⟩ := HC.out w2 b2
  have HB2 := Lib.hid (HB1.out.trans (b2.mono HB1.out.size))
  have HC2 : Hid (∀ W, Below w2.heap.size w2 W → Below w1.heap.size w1 W) := fun W hW => b2.trans (hW.mono b2.size)
  clear b2 hV HP y_ y0 y1 y2 y3 y4 y5 HK
  go_wp2_with (go_at_call 18; refine HD.out.mono ?_; rintro e w3 ⟨rfl, b3⟩; obtain ⟨f0, f1, f2, _, f3, f4, f5, f6⟩ := HC.out w3 (HC2.out _ b3); have B3 := Lib.hid b3; clear b3)
  all_goals (go_ret; exact ⟨rfl, HB2.out.trans (B3.out.mono HB2.out.size)⟩)
end Go.Proofs.YtpjdfogieiokkaaDoor
