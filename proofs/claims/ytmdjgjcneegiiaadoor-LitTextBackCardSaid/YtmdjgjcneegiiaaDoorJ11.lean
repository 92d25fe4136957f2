/- The laws LitBack, LitTextBack. -/
import Derived.Test.YtmdjgjcneegiiaaDoorJ9
namespace Go.Proofs.YtmdjgjcneegiiaaDoor
open Go.RowKit

theorem Lt.escOf_ok {l : List Int} (h : l.all Lt.pt = true) : Lt.escOf l = (0, Lt.escape l) := by rw [Lt.escOf, if_pos h]
theorem Lt.escOf_bad {l : List Int} (h : l.all Lt.pt = false) : Lt.escOf l = (1, []) := by rw [Lt.escOf, if_neg (by rw [h]; decide)]
theorem Lt.runsOf_ok {l : List Int} (h : l.all Lt.pt = true) : Lt.runsOf l = (0, Lt.runs l) := by rw [Lt.runsOf, if_pos h]
theorem Lt.runsOf_bad {l : List Int} (h : l.all Lt.pt = false) : Lt.runsOf l = (1, []) := by rw [Lt.runsOf, if_neg (by rw [h]; decide)]

set_option maxRecDepth 100000 in
set_option maxHeartbeats 1600000 in
/-- from where the text is read: what it says, escaped, read again -/
theorem litBack_walk (w : World) (A : Option Addr) (n c : Nat) (l : List Int) (s : ByteArray) (h : ArgI w A n c l) (hs : s.size ≤ maxLen) (hG : Gl w) :
    Calls Tryd.prog 6 #[.slice A n c, .string s] w fun e w' => e = .returned (.bool true) ∧ Below w.heap.size w w' := by
  have HA := Lib.hid (kawake7 w hG)
  have HGl := Lib.hid hG
  clear hG
  have hS := NumS.of_arg h
  have hw := h.2
  unfold maxLen at hs
  clear h
  by_cases hl : 2000 < n
  · have hl' : (2000 : Int) < (n : Int) := by omega
    clear hl hS hw
    go_enter Tryd.func6, Tryd.ntmps6
    go_wp2_with (go_at_call 10; refine HA.out.mono ?_; rintro e w1 ⟨rfl, b1⟩)
    go_ret
    exact ⟨rfl, b1⟩
  have hl' : ¬ (2000 : Int) < (n : Int) := by omega
  by_cases hl2 : 2000 < s.size
  · have hl2' : (2000 : Int) < (s.size : Int) := by omega
    clear hl hl2 hS hw
    go_enter Tryd.func6, Tryd.ntmps6
    go_wp2_with (go_at_call 10; refine HA.out.mono ?_; rintro e w1 ⟨rfl, b1⟩)
    go_ret
    exact ⟨rfl, b1⟩
  have hl2' : ¬ (2000 : Int) < (s.size : Int) := by omega
  -- what l is escaped to, and what that says
  have hT : ∃ (f : Int) (T : ByteArray) (L : List Int), (∀ W, Below w.heap.size w W → Calls Tryd.prog 14 #[.slice A n c] W fun e w' => e = .returned (.tuple #[.string T, .int .i64 f]) ∧ Below W.heap.size W w') ∧ (∀ W, Below w.heap.size w W → Calls Tryd.prog 12 #[.string T] W fun e w' => PtsSaid W L e w') ∧ L.length ≤ 18000 ∧ (f = 0 ∧ sameN L l = true ∨ f = 1 ∧ T = ⟨#[]⟩) := by
    have h1 := fun W (hW : Below w.heap.size w W) => kescape7 W A n c l (hS.below hW) (by omega) (HGl.out.below hW)
    cases hp : l.all Lt.pt with
    | true =>
      have hall := List.all_eq_true.1 hp
      have hb := (Lt.escape_bytes hall).1
      rw [hS.len] at hb
      have hz : (⟨(Lt.escape l).toArray⟩ : ByteArray).size = (Lt.escape l).length := List.size_toArray
      refine ⟨0, ⟨(Lt.escape l).toArray⟩, Lt.pts (Lt.escape l), fun W hW => ?_, fun W hW => kpoints7 ⟨(Lt.escape l).toArray⟩ W (by omega) (HGl.out.below hW), ?_, .inl ⟨rfl, ?_⟩⟩
      · have := h1 W hW
        rw [Lt.escOf_ok hp] at this
        exact this
      · have := (Lt.pts_facts _ (Lt.escape l) (Nat.le_refl _)).1
        omega
      · rw [Lt.back hall]
        exact sameN_self l
    | false =>
      refine ⟨1, ⟨#[]⟩, [], fun W hW => ?_, fun W hW => kpoints7 ⟨#[]⟩ W (by decide) (HGl.out.below hW), Nat.zero_le _, .inr ⟨rfl, rfl⟩⟩
      have := h1 W hW
      rw [Lt.escOf_bad hp] at this
      exact this
  obtain ⟨f, T, L, h1, h2, h3, hf⟩ := hT
  obtain ⟨m, hm⟩ : ∃ m, L.length = m := ⟨_, rfl⟩
  have HM := Lib.hid hm
  have H1 := Lib.hid h1
  have H2 := Lib.hid h2
  unfold PtsSaid at H2
  rw [hm] at H2 h3
  have HS := Lib.hid hS
  -- what s says
  obtain ⟨hpl, hpp⟩ := Lt.pts_facts _ s.data.toList (Nat.le_refl _)
  rw [Lt.len_bytes] at hpl
  have H3 := Lib.hid fun W (hW : Below w.heap.size w W) => kpoints7 s W (by omega) (HGl.out.below hW)
  unfold PtsSaid at H3
  generalize Lt.pts s.data.toList = P at H3 hpl hpp
  have hE : Lt.escOf P = (0, Lt.escape P) := Lt.escOf_ok (List.all_eq_true.2 hpp)
  obtain ⟨hb, hbytes⟩ := Lt.escape_bytes hpp
  obtain ⟨U, hU⟩ : ∃ U : ByteArray, U = ⟨(Lt.escape P).toArray⟩ := ⟨_, rfl⟩
  have hUd : U.data.toList = Lt.escape P := by rw [hU]
  have hUs : U.size = (Lt.escape P).length := by rw [← Lt.len_bytes, hUd]
  obtain ⟨k, hk⟩ : ∃ k, P.length = k := ⟨_, rfl⟩
  have H4 : Hid (∀ W A' c', Below w.heap.size w W → NumS W A' k P → Calls Tryd.prog 14 #[.slice A' k c'] W fun e w' => e = .returned (.tuple #[.string U, .int .i64 0]) ∧ Below W.heap.size W w') := fun W A' c' hW hP => by
    have := kescape7 W A' k c' P hP (by omega) (HGl.out.below hW)
    rw [hE] at this
    rw [hU]
    exact this
  have H5 : Hid (∀ W, Below w.heap.size w W → Calls Tryd.prog 12 #[.string U] W fun e w' => (∃ A c, e = .returned (.slice A k c) ∧ OwnN w' W.heap.size A c P) ∧ Below W.heap.size W w') := fun W hW => by
    have := kpoints7 U W (by omega) (HGl.out.below hW)
    unfold PtsSaid at this
    rw [hUd, Lt.back hpp, hk] at this
    exact this
  have HU : Hid (∀ i (h : i < U.size), 32 ≤ U[i].toNat ∧ U[i].toNat ≤ 126) := fun i h => by
    refine hbytes _ ?_
    rw [← hUd]
    have := Lt.drop_at U h
    exact List.mem_of_mem_drop (by rw [this]; exact List.mem_cons_self)
  have HK := Lib.hid hk
  rw [hk] at hpl H3
  have hkl : (k : Int) ≤ (s.size : Int) := by omega
  have hUm : U.size ≤ 18000 := by omega
  clear hl hl2 hS hw h1 h2 hm hpp hE hb hbytes hUd hUs hU hk
  rcases hf with ⟨rfl, hf⟩ | ⟨rfl, rfl⟩
  all_goals
    go_enter Tryd.func6, Tryd.ntmps6
    go_wp2_with fail
    refine HA.out.mono ?_
    rintro e w1 ⟨rfl, b1⟩
    have B1 := Lib.hid b1
    clear b1
    go_wp2_with fail
    refine (H1.out _ B1.out).mono ?_
    rintro e w2 ⟨rfl, b2⟩
    have B2 := Lib.hid (B1.out.trans (b2.mono B1.out.size))
    clear b2 H1
    go_wp2_with fail
    refine (H2.out _ B2.out).mono ?_
    rintro e w3 ⟨⟨A3, c3, rfl, o3⟩, b3⟩
    have B3 := Lib.hid (B2.out.trans (b3.mono B2.out.size))
    have HI := Lib.hid (rints w3 A3 m c3 L A n c l (o3.nums HM.out) (HS.out.below B3.out) (by omega))
    try rw [hf] at HI
    clear b3 o3 H2
    go_wp2_with fail
    refine HI.out.mono ?_
    rintro e w4 ⟨rfl, b4⟩
    have B4 := Lib.hid (B3.out.trans (b4.mono B3.out.size))
    clear b4 HI
    go_wp2_with fail
    refine (H3.out _ B4.out).mono ?_
    rintro e w5 ⟨⟨A5, c5, rfl, o5⟩, b5⟩
    have B5 := Lib.hid (B4.out.trans (b5.mono B4.out.size))
    have O5 := Lib.hid (o5.nums HK.out)
    clear b5 o5 H3
    go_wp2_with fail
    refine (H4.out _ _ _ B5.out O5.out).mono ?_
    rintro e w6 ⟨rfl, b6⟩
    have B6 := Lib.hid (B5.out.trans (b6.mono B5.out.size))
    have O6 := Lib.hid (O5.out.below b6)
    clear b6 O5 H4
    go_wp2_with fail
    refine (H5.out _ B6.out).mono ?_
    rintro e w7 ⟨⟨A7, c7, rfl, o7⟩, b7⟩
    have B7 := Lib.hid (B6.out.trans (b7.mono B6.out.size))
    have HI := Lib.hid (rints w7 A7 k c7 P A5 k c5 P (o7.nums HK.out) (O6.out.below b7) (by omega))
    rw [sameN_self] at HI
    clear b7 o7 H5 O6
    go_wp2_with fail
    refine HI.out.mono ?_
    rintro e w8 ⟨rfl, b8⟩
    have B8 := Lib.hid (B7.out.trans (b8.mono B7.out.size))
    clear b8 HI
    go_wp2
    go_loopw [13] (fun iv wr => ∃ i : Nat, i ≤ U.size ∧ iv = .int .i64 (i : Nat) ∧ wr = w8) (fun iv _ => U.size - (intOf iv).toNat)
    case atStart => exact ⟨0, Nat.zero_le _, rfl, rfl⟩
    case round =>
      obtain ⟨i, hi, rfl, rfl⟩ := hrel
      by_cases hlt : i < U.size
      · obtain ⟨g1, g2⟩ := HU.out i hlt
        have hlt' : (i : Int) < (U.size : Int) := by omega
        have h0 : (0 : Int) ≤ (i : Int) := by omega
        have g1' : ¬ (U[i].toNat : Int) < 32 := by omega
        have g2' : ¬ (126 : Int) < (U[i].toNat : Int) := by omega
        go_wp2
        go_roundw
        case rel => exact ⟨i + 1, by omega, by go_num, by first | rfl | trivial⟩
        case measure => simp [intOf]; omega
      · obtain rfl : i = U.size := by omega
        go_wp2
        go_ret
        exact ⟨rfl, B8.out⟩
end Go.Proofs.YtmdjgjcneegiiaaDoor
