/- The law SexpBack: its walk. -/
import Derived.Test.YtpjdfogieiokkaaDoorS27
import Derived.Test.YtpjdfogieiokkaaDoorP6
namespace Go.Proofs.YtpjdfogieiokkaaDoor
open Go.RowKit Go.Shelf

set_option maxRecDepth 100000 in
set_option maxHeartbeats 1600000 in
theorem sexpBack_walk (x : Sx) (A : Option Addr) (c : Nat) (w : World) (h : STree w AnyP x A c) (hz : x.size ≤ 1000000000) (hwd : x.wide ≤ 1100000) (hm : MaxL w) :
    Calls Tryd.prog 6 #[sval x A c] w fun e w' => e = .returned (.bool true) ∧ Below w.heap.size w w' := by
  have hb0 := (Below.refl _ w).alloc (Nat.le_refl _) (sbox x A c)
  have hbx := sbox_at w x A c
  have HF : Hid (∀ W, Below (w.alloc (sbox x A c)).heap.size (w.alloc (sbox x A c)) W → SAt W w.heap.size 0 x A c ∧ STree W AnyP x A c ∧ MaxL W ∧ Below w.heap.size w W) := by
    intro W hW
    have hw := hb0.trans (hW.mono hb0.size)
    exact ⟨hbx.below hW, h.kept hw, hm.below hw, hw⟩
  have HA := Lib.hid (kawake6 _ (hm.alloc (sbox x A c)))
  have HZ := Lib.hid hz
  have HD := Lib.hid hwd
  clear hb0 hbx h hz hwd hm
  go_enter Tryd.func6, Tryd.ntmps6
  go_wp2_with fail
  generalize w.alloc (Obj.cells #[Value.bool x.list, Value.int IntKind.i64 x.k, Value.string x.T, Value.int IntKind.i64 x.ta, Value.int IntKind.i64 x.at_, Value.slice A x.L.length c] 34) = W0 at HF HA ⊢
  refine HA.out.mono ?_
  rintro e w1 ⟨rfl, b1⟩
  obtain ⟨⟨p_, p0, p1, p2, p3, p4, p5⟩, hs1, _, _⟩ := HF.out _ b1
  simp only [Nat.zero_add] at p0 p1 p2 p3 p4 p5
  have HS := Lib.hid (rsize x.size x A c w1 (Nat.le_refl _) HZ.out hs1)
  have B1 := Lib.hid b1
  clear b1 hs1
  go_wp2_with fail
  refine HS.out.mono ?_
  rintro e w2 ⟨⟨z, rfl, hz1, hz2, hz3⟩, b2⟩
  have B2 := Lib.hid (B1.out.trans (b2.mono B1.out.size))
  clear b2 p_ p0 p1 p2 p3 p4 p5 HS
  obtain ⟨⟨p_, p0, p1, p2, p3, p4, p5⟩, hs2, hm2, hw2⟩ := HF.out _ B2.out
  simp only [Nat.zero_add] at p0 p1 p2 p3 p4 p5
  have HW2 := Lib.hid hw2
  by_cases hl : 2000 < z
  · have hl' : (2000 : Int) < (z : Int) := by omega
    clear hz1 hz2 hz3 hs2 hm2 hw2 hl
    go_wp2
    go_ret
    exact ⟨rfl, HW2.out⟩
  have hl' : ¬ (2000 : Int) < (z : Int) := by omega
  have hsz : x.size ≤ 2000 := by
    by_cases h5 : x.size ≤ 5000
    · have := hz2 h5
      omega
    · have := hz3 (by omega)
      omega
  have HSz := Lib.hid hsz
  have HP := Lib.hid (kPrint x A c w2 (by omega) HD.out hs2 hm2)
  clear hz1 hz2 hz3 hs2 hm2 hw2 hl hsz
  cases hx : x.print with
  | none =>
    rw [hx] at HP
    clear hx
    go_wp2_with fail
    refine HP.out.mono ?_
    rintro e w3 ⟨rfl, b3⟩
    have B3 := Lib.hid (HF.out _ (B2.out.trans (b3.mono B2.out.size))).2.2.2
    clear b3 HP
    go_wp2
    go_ret
    exact ⟨rfl, B3.out⟩
  | some t =>
    rw [hx] at HP
    have hpr : ¬ 64 < Sx.dep 65 x ∧ x.text = some t := by
      unfold Sx.print at hx
      split at hx
      · cases hx
      · rename_i h
        exact ⟨h, hx⟩
    have HPr := Lib.hid hpr
    clear hx hpr
    go_wp2_with fail
    refine HP.out.mono ?_
    rintro e w3 ⟨⟨V, rfl, hV⟩, b3⟩
    have B3 := Lib.hid (B2.out.trans (b3.mono B2.out.size))
    clear b3 p_ p0 p1 p2 p3 p4 p5 HP
    obtain ⟨_, hs3, hm3, hw3⟩ := HF.out _ B3.out
    have hVl : V.size ≤ 33000000 := by
      have h1 := Sx.text_len x.size x t (Nat.le_refl _) HPr.out.2
      have h2 := HSz.out
      rw [← len_bytes, hV]
      omega
    have HR := Lib.hid (kread V w3 (by omega) hm3)
    have HV := Lib.hid hV
    have HW3 := Lib.hid hw3
    clear hs3 hm3 hw3 hV
    go_wp2_with fail
    refine HR.out.mono ?_
    rintro e w4 ⟨⟨A4, c4, l4, rfl, _, o4, r4⟩, b4⟩
    have B4 := Lib.hid (B3.out.trans (b4.mono B3.out.size))
    have HW4 := Lib.hid (HF.out _ B4.out).2.2.2
    obtain ⟨n4, hn4⟩ : ∃ n, l4.length = n := ⟨_, rfl⟩
    have i4 := o4.its hn4
    rw [hn4]
    by_cases h16 : 16000 < V.size
    · have h16' : (16000 : Int) < (V.size : Int) := by omega
      clear i4 hn4 o4 r4 b4 h16 HR
      go_wp2
      go_ret
      exact ⟨rfl, HW4.out⟩
    have h16' : ¬ (16000 : Int) < (V.size : Int) := by omega
    obtain ⟨X, a, hR, hkey⟩ := Sx.back HPr.out.1 (by rw [HV.out]; exact HPr.out.2) HSz.out (by omega) r4
    have hn1 : n4 = 1 := by
      have := congrArg List.length hR
      rw [List.length_map, hn4] at this
      exact this
    subst hn1
    rw [hR] at i4
    obtain ⟨b, off, y, A', c', rfl, hy, _, hsy, hty, q6, _⟩ := i4.get (i := 0) (by decide)
    obtain rfl : y = ⟨X, 0, a⟩ := by simpa using hy.symm
    have HI := Lib.hid (And.intro hsy hty)
    simp only [Nat.zero_mul, Nat.add_zero] at q6
    obtain ⟨⟨p_, p0, p1, p2, p3, p4, p5⟩, hs4, _, _⟩ := HF.out _ B4.out
    simp only [Nat.zero_add] at p0 p1 p2 p3 p4 p5
    obtain ⟨y_, y0, y1, y2, y3, y4, y5⟩ := hsy
    simp only [Nat.zero_mul, Nat.add_zero] at y0 y1 y2 y3 y4 y5
    have HSa := Lib.hid fun W (h1 : Below w4.heap.size w4 W) => rsamex X.size X x A' A c' c false W (Nat.le_refl _) (hty.kept h1) (hs4.kept h1)
    rw [Sx.same_iff.2 hkey] at HSa
    clear i4 hn4 o4 r4 b4 h16 HR hR hkey hy hty hs4
    have d4 : Below w4.heap.size w4 w4.drew := ⟨rfl, rfl, rfl, Nat.le_refl _, fun _ _ => rfl⟩
    have HD4 := Lib.hid d4
    have B4d : Hid (Below W0.heap.size W0 w4.drew) := B4.out.trans (d4.mono B4.out.size)
    clear d4
    go_wp2
    clear p_ p0 p1 p2 p3 p4 p5 y_ y0 y1 y2 y3 y4 y5 q6
    obtain ⟨⟨p_, p0, p1, p2, p3, p4, p5⟩, _⟩ := HF.out _ B4d.out
    simp only [Nat.zero_add] at p0 p1 p2 p3 p4 p5
    obtain ⟨y_, y0, y1, y2, y3, y4, y5⟩ := HI.out.1.below HD4.out
    simp only [Nat.zero_mul, Nat.add_zero] at y0 y1 y2 y3 y4 y5
    go_region_with (go_at_call 20; (with_reducible refine (HSa.out _ HD4.out).mono ?_); rintro e w5 ⟨rfl, b5⟩; have B5 := Lib.hid (B4d.out.trans (b5.mono B4d.out.size)); clear b5)
    all_goals
      go_wp2
      go_ret
      exact ⟨rfl, (HF.out _ B5.out).2.2.2⟩
end Go.Proofs.YtpjdfogieiokkaaDoor
