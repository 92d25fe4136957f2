/- The law SexpPrints: its walk. -/
import Derived.Test.YtpjdfogieiokkaaDoorS27
namespace Go.Proofs.YtpjdfogieiokkaaDoor
open Go.RowKit Go.Shelf

set_option maxRecDepth 100000 in
set_option maxHeartbeats 1600000 in
theorem sexpPrints_walk (x : Sx) (A : Option Addr) (c : Nat) (w : World) (h : STree w AnyP x A c) (hz : x.size ≤ 1000000000) (hwd : x.wide ≤ 1100000) (hm : MaxL w) :
    Calls Tryd.prog 5 #[sval x A c] w fun e w' => e = .returned (.bool true) ∧ Below w.heap.size w w' := by
  have hb0 := (Below.refl _ w).alloc (Nat.le_refl _) (sbox x A c)
  have hbx := sbox_at w x A c
  have HF : Hid (∀ W, Below (w.alloc (sbox x A c)).heap.size (w.alloc (sbox x A c)) W → SAt W w.heap.size 0 x A c ∧ STree W AnyP x A c ∧ MaxL W ∧ Below w.heap.size w W) := by
    intro W hW
    have hw := hb0.trans (hW.mono hb0.size)
    exact ⟨hbx.below hW, h.kept hw, hm.below hw, hw⟩
  have HA := Lib.hid (kawake6 _ (hm.alloc (sbox x A c)))
  have HZ := Lib.hid hz
  have HD := Lib.hid hwd
  clear hb0 hbx h hz hwd hm
  go_enter Tryd.func5, Tryd.ntmps5
  go_wp2_with fail
  generalize w.alloc (Obj.cells #[Value.bool x.list, Value.int IntKind.i64 x.k, Value.string x.T, Value.int IntKind.i64 x.ta, Value.int IntKind.i64 x.at_, Value.slice A x.L.length c] 34) = W0 at HF HA ⊢
  refine HA.out.mono ?_
  rintro e w1 ⟨rfl, b1⟩
  obtain ⟨⟨p_, p0, p1, p2, p3, p4, p5⟩, hs1, _, _⟩ := HF.out _ b1
  simp only [Nat.zero_add] at p0 p1 p2 p3 p4 p5
  have HS := Lib.hid (rsize x.size x A c w1 (Nat.le_refl _) HZ.out hs1)
  have B1 := Lib.hid b1
  clear b1 hs1
  go_wp2_with fail
  refine HS.out.mono ?_
  rintro e w2 ⟨⟨z, rfl, hz1, hz2, hz3⟩, b2⟩
  have B2 := Lib.hid (B1.out.trans (b2.mono B1.out.size))
  clear b2 p_ p0 p1 p2 p3 p4 p5 HS
  obtain ⟨⟨p_, p0, p1, p2, p3, p4, p5⟩, hs2, hm2, hw2⟩ := HF.out _ B2.out
  simp only [Nat.zero_add] at p0 p1 p2 p3 p4 p5
  have HW2 := Lib.hid hw2
  by_cases hl : 2000 < z
  · have hl' : (2000 : Int) < (z : Int) := by omega
    clear hz1 hz2 hz3 hs2 hm2 hw2 hl
    go_wp2
    go_ret
    exact ⟨rfl, HW2.out⟩
  have hl' : ¬ (2000 : Int) < (z : Int) := by omega
  have hsz : x.size ≤ 2000 := by
    by_cases h5 : x.size ≤ 5000
    · have := hz2 h5
      omega
    · have := hz3 (by omega)
      omega
  have HSz := Lib.hid hsz
  have HP := Lib.hid (kPrint x A c w2 (by omega) HD.out hs2 hm2)
  clear hz1 hz2 hz3 hs2 hm2 hw2 hl hsz
  go_wp2_with fail
  refine HP.out.mono ?_
  rintro e w3 ⟨hp, b3⟩
  have B3 := Lib.hid (B2.out.trans (b3.mono B2.out.size))
  clear b3 p_ p0 p1 p2 p3 p4 p5 HP
  obtain ⟨⟨p_, p0, p1, p2, p3, p4, p5⟩, hs3, hm3, hw3⟩ := HF.out _ B3.out
  simp only [Nat.zero_add] at p0 p1 p2 p3 p4 p5
  have HR := Lib.hid (rPrint x A c w3 (by have := HSz.out; omega) HD.out hs3)
  have HK : Hid (∀ W, Below W0.heap.size W0 W → Calls Tryd.prog 18 #[sval x A c] W fun e w' => e = .returned (.int .i64 (Sx.dep 65 x : Nat)) ∧ Below W.heap.size W w') := fun W hW => kDepth x A c W (HF.out W hW).2.1
  have HQ : Hid (∀ W, Below W0.heap.size W0 W → Calls Tryd.prog 19 #[sval x A c] W fun e w' => e = .returned (.int .i64 (Sx.dep 65 x : Nat)) ∧ Below W.heap.size W w') := fun W hW => rDepth x A c W (HF.out W hW).2.1
  obtain ⟨d, hd⟩ : ∃ d, Sx.dep 65 x = d := ⟨_, rfl⟩
  rw [hd] at HK HQ
  clear hs3 hm3 hw3 hd
  have hfin : ∃ V f, e = .returned (.tuple #[.string V, .int .i64 f]) ∧ ∀ e', PrintSaid x.print e' → e' = .returned (.tuple #[.string V, .int .i64 f]) := by
    unfold PrintSaid at hp ⊢
    cases hx : x.print with
    | none =>
      rw [hx] at hp
      exact ⟨_, _, hp, fun e' h => h⟩
    | some t =>
      rw [hx] at hp
      obtain ⟨V, rfl, hV⟩ := hp
      refine ⟨V, 0, rfl, fun e' h => ?_⟩
      obtain ⟨V', rfl, hV'⟩ := h
      rw [bytes_eq (hV'.trans hV.symm)]
  obtain ⟨V, f, rfl, hfin⟩ := hfin
  have HFin := Lib.hid hfin
  have hVV : (V.toList == V.toList) = true := by simp
  have hff : (f == f) = true := by simp
  clear hp hfin
  go_wp2_with fail
  refine HR.out.mono ?_
  rintro e w4 ⟨hr, b4⟩
  obtain rfl := HFin.out e hr
  have B4 := Lib.hid (B3.out.trans (b4.mono B3.out.size))
  clear b4 hr p_ p0 p1 p2 p3 p4 p5 HR
  obtain ⟨⟨p_, p0, p1, p2, p3, p4, p5⟩, _⟩ := HF.out _ B4.out
  simp only [Nat.zero_add] at p0 p1 p2 p3 p4 p5
  have B4d : Hid (Below W0.heap.size W0 w4.drew) := B4.out.trans (show Below W0.heap.size w4 w4.drew from ⟨rfl, rfl, rfl, Nat.le_refl _, fun _ _ => rfl⟩)
  go_wp2
  clear p_ p0 p1 p2 p3 p4 p5
  obtain ⟨⟨p_, p0, p1, p2, p3, p4, p5⟩, _⟩ := HF.out _ B4d.out
  simp only [Nat.zero_add] at p0 p1 p2 p3 p4 p5
  go_region_with (first
    | (go_at_call 18; first
      | ((with_reducible refine (HK.out _ B4d.out).mono ?_); rintro e w5 ⟨rfl, b5⟩; have B5 := Lib.hid (B4d.out.trans (b5.mono B4d.out.size)); clear b5 p_ p0 p1 p2 p3 p4 p5; obtain ⟨⟨p_, p0, p1, p2, p3, p4, p5⟩, _⟩ := HF.out _ B5.out; simp only [Nat.zero_add] at p0 p1 p2 p3 p4 p5)
      | ((with_reducible refine (HK.out _ B5.out).mono ?_); rintro e w6 ⟨rfl, b6⟩; have B6 := Lib.hid (B5.out.trans (b6.mono B5.out.size)); clear b6 p_ p0 p1 p2 p3 p4 p5; obtain ⟨⟨p_, p0, p1, p2, p3, p4, p5⟩, _⟩ := HF.out _ B6.out; simp only [Nat.zero_add] at p0 p1 p2 p3 p4 p5))
    | (go_at_call 19; first
      | ((with_reducible refine (HQ.out _ B4d.out).mono ?_); rintro e w5 ⟨rfl, b5⟩; have B5 := Lib.hid (B4d.out.trans (b5.mono B4d.out.size)); clear b5 p_ p0 p1 p2 p3 p4 p5; obtain ⟨⟨p_, p0, p1, p2, p3, p4, p5⟩, _⟩ := HF.out _ B5.out; simp only [Nat.zero_add] at p0 p1 p2 p3 p4 p5)
      | ((with_reducible refine (HQ.out _ B5.out).mono ?_); rintro e w6 ⟨rfl, b6⟩; have B6 := Lib.hid (B5.out.trans (b6.mono B5.out.size)); clear b6 p_ p0 p1 p2 p3 p4 p5; obtain ⟨⟨p_, p0, p1, p2, p3, p4, p5⟩, _⟩ := HF.out _ B6.out; simp only [Nat.zero_add] at p0 p1 p2 p3 p4 p5)))
  all_goals
    go_wp2
    go_ret
    exact ⟨rfl, (HF.out _ B6.out).2.2.2⟩
end Go.Proofs.YtpjdfogieiokkaaDoor
