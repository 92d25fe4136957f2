/- Stage 5's awake. -/
import Derived.Test.YtgnonopkefbhoaaDoorK11
namespace Go.Proofs.YtgnonopkefbhoaaDoor
open Go.RowKit Go.Shelf

abbrev awA : ByteArray := ⟨#[40, 97, 115, 115, 101, 114, 116, 32, 40, 61, 32, 120, 32, 34, 97, 34, 34, 98, 34, 41, 41, 32, 59, 32, 116, 104, 97, 116]⟩
abbrev awB : ByteArray := ⟨#[40, 120, 32, 34, 97, 98]⟩
abbrev awC : ByteArray := ⟨#[48, 48, 55]⟩
theorem awA_lex : Lx.lex 4000 awA.data.toList = ([(1, [40], 28), (3, [97, 115, 115, 101, 114, 116], 27), (1, [40], 20), (3, [61], 19), (3, [120], 17), (6, [97, 34, 98], 15), (2, [41], 9), (2, [41], 8)], 0, []) := by
  rw [Lx.lex_fuel 28 4000 28 _ (by decide) (by decide) (by decide)]
  decide +kernel
theorem awB_lex : (Lx.lex 4000 awB.data.toList) = ([(1, [40], 6), (3, [120], 5)], 51, [34, 97, 98]) := by
  rw [Lx.lex_fuel 6 4000 6 _ (by decide) (by decide) (by decide)]
  decide +kernel
theorem awC_lex : (Lx.lex 4000 awC.data.toList) = ([], 8, [48, 48, 55]) := by
  rw [Lx.lex_fuel 3 4000 3 _ (by decide) (by decide) (by decide)]
  decide +kernel

set_option maxRecDepth 100000 in
set_option maxHeartbeats 1600000 in
theorem kawake (w : World) (hm : MaxL w) :
    Calls Tryd.prog 9 #[] w fun e w' => e = .returned (.bool true) ∧ Below w.heap.size w w' := by
  have H1 := Lib.hid fun W hW => klex awA W (by decide) hW
  have H2 := Lib.hid fun W hW => klex awB W (by decide) hW
  have H3 := Lib.hid fun W hW => klex awC W (by decide) hW
  have HM := Lib.hid hm
  clear hm
  go_enter Tryd.func9, Tryd.ntmps9
  go_wp2_with fail
  refine (H1.out _ HM.out).mono ?_
  rintro e w1 ⟨A1, c1, l1, E1, p1, rfl, q1⟩
  obtain ⟨t1, t2, t3⟩ := q1.toks (by decide)
  rw [awA_lex] at t1 t2 t3
  have hn1 : l1.length = 8 := by have := congrArg List.length t1; rw [List.length_map] at this; exact this
  obtain rfl : p1 = 28 := by
    have := congrArg List.length t3
    rw [List.length_drop, len_bytes] at this
    have h4 := q1.le
    have h5 : awA.size = 28 := rfl
    simp at this
    omega
  simp only at t2
  subst t2
  have HK := Lib.hid q1.own.toks
  have HT := Lib.hid t1
  have HB1 := Lib.hid q1.below
  have HM1 := Lib.hid (HM.out.below q1.below)
  rw [hn1] at HK ⊢
  clear t1 t3 hn1 q1 H1
  go_wp2_with fail
  refine (H2.out _ HM1.out).mono ?_
  rintro e w2 ⟨A2, c2, l2, E2, p2, rfl, q2⟩
  obtain ⟨t1, t2, t3⟩ := q2.toks (by decide)
  rw [awB_lex] at t1 t2 t3
  have hn2 : l2.length = 2 := by have := congrArg List.length t1; rw [List.length_map] at this; exact this
  obtain rfl : p2 = 3 := by
    have := congrArg List.length t3
    rw [List.length_drop, len_bytes] at this
    have h4 := q2.le
    have h5 : awB.size = 6 := rfl
    simp at this
    omega
  simp only at t2
  subst t2
  have HB2 := Lib.hid q2.below
  have HM2 := Lib.hid (HM1.out.below q2.below)
  rw [hn2]
  clear t1 t3 hn2 q2 H2
  go_wp2_with fail
  refine (H3.out _ HM2.out).mono ?_
  rintro e w3 ⟨A3, c3, l3, E3, p3, rfl, q3⟩
  obtain ⟨_, t2, _⟩ := q3.toks (by decide)
  rw [awC_lex] at t2
  simp only at t2
  subst t2
  obtain ⟨b, off, x, rfl, hx, _, hc⟩ := HK.out.get (i := 5) (by decide)
  have B12 := HB2.out
  have B13 := B12.trans (q3.below.mono B12.size)
  obtain ⟨y0, y1, y2, y3⟩ := hc w3 B13
  have hxt : x.2.1 = ⟨#[97, 34, 98]⟩ := by
    rw [List.getElem?_map] at hx
    obtain ⟨m, hm, rfl⟩ := Option.map_eq_some_iff.1 hx
    have h6 := congrArg (fun l => l[5]?) HT.out
    simp only [List.getElem?_map, hm, Option.map_some] at h6
    have h7 := (Prod.mk.inj (Prod.mk.inj (Option.some.inj h6)).2).1
    show m.2.1 = _
    have h8 : m.2.1.data = #[97, 34, 98] := by
      apply Array.toList_inj.1
      exact h7
    cases hm2 : m.2.1
    rw [hm2] at h8
    simp only at h8
    rw [h8]
  rw [hxt] at y2
  have HBf := Lib.hid (HB1.out.trans (B13.mono HB1.out.size))
  clear hx hc hxt B12 B13 q3 HK HT y1 y3 H3
  simp only [Nat.reduceMul] at y2
  go_wp2
  all_goals
    go_ret
    exact ⟨rfl, HBf.out⟩
end Go.Proofs.YtgnonopkefbhoaaDoor
