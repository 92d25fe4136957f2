/- The laws LitPoints, LitEscapes, LitLists. -/
import Derived.Test.YtmdjgjcneegiiaaDoorJ9
namespace Go.Proofs.YtmdjgjcneegiiaaDoor
open Go.RowKit

set_option maxRecDepth 100000 in
theorem litPoints_walk (s : ByteArray) (w : World) (hs : s.size ≤ maxLen) (hG : Gl w) :
    Calls Tryd.prog 3 #[.string s] w fun e w' => e = .returned (.bool true) ∧ Below w.heap.size w w' := by
  have HA := Lib.hid (kawake7 w hG)
  have HGl := Lib.hid hG
  clear hG
  unfold maxLen at hs
  by_cases hl : 2000 < s.size
  · have hl' : (2000 : Int) < (s.size : Int) := by omega
    clear hl
    go_enter Tryd.func3, Tryd.ntmps3
    go_wp2_with (go_at_call 10; refine HA.out.mono ?_; rintro e w1 ⟨rfl, b1⟩)
    go_ret
    exact ⟨rfl, b1⟩
  have hl' : ¬ (2000 : Int) < (s.size : Int) := by omega
  have H1 := Lib.hid fun W (hW : Below w.heap.size w W) => kpoints7 s W (by omega) (HGl.out.below hW)
  have H2 := Lib.hid fun W => rpoints7 s W (by omega)
  have HL : Hid ((Lt.pts s.data.toList).length ≤ 2000) := by
    have := (Lt.pts_facts _ s.data.toList (Nat.le_refl _)).1
    rw [Lt.len_bytes] at this
    show _ ≤ _
    omega
  generalize Lt.pts s.data.toList = L at H1 H2 HL
  obtain ⟨n, hn⟩ : ∃ n, L.length = n := ⟨_, rfl⟩
  have HN := Lib.hid hn
  unfold PtsSaid at H1 H2
  rw [hn] at H1 H2 HL
  clear hl hs hn
  go_enter Tryd.func3, Tryd.ntmps3
  go_wp2_with fail
  refine HA.out.mono ?_
  rintro e w1 ⟨rfl, b1⟩
  have B1 := Lib.hid b1
  clear b1
  go_wp2_with fail
  refine (H1.out _ B1.out).mono ?_
  rintro e w2 ⟨⟨A2, c2, rfl, o2⟩, b2⟩
  have B2 := Lib.hid (B1.out.trans (b2.mono B1.out.size))
  have O2 := Lib.hid (o2.nums HN.out)
  clear b2 o2 H1
  go_wp2_with fail
  refine (H2.out _).mono ?_
  rintro e w3 ⟨⟨A3, c3, rfl, o3⟩, b3⟩
  have B3 := Lib.hid (B2.out.trans (b3.mono B2.out.size))
  have HS := Lib.hid (rints w3 A2 n c2 L A3 n c3 L (O2.out.below b3) (o3.nums HN.out) (by have := HL.out; omega))
  rw [sameN_self] at HS
  clear b3 o3 H2 O2
  go_wp2_with (go_at_call 11; refine HS.out.mono ?_; rintro e w4 ⟨rfl, b4⟩)
  go_ret
  exact ⟨rfl, B3.out.trans (b4.mono B3.out.size)⟩

set_option maxRecDepth 100000 in
set_option maxHeartbeats 1600000 in
theorem litEscapes_walk (w : World) (A : Option Addr) (n c : Nat) (l : List Int) (h : ArgI w A n c l) (hG : Gl w) :
    Calls Tryd.prog 4 #[.slice A n c] w fun e w' => e = .returned (.bool true) ∧ Below w.heap.size w w' := by
  have HA := Lib.hid (kawake7 w hG)
  have HGl := Lib.hid hG
  clear hG
  have hS := NumS.of_arg h
  have hw := h.2
  clear h
  by_cases hl : 2000 < n
  · have hl' : (2000 : Int) < (n : Int) := by omega
    clear hl hS hw
    go_enter Tryd.func4, Tryd.ntmps4
    go_wp2_with (go_at_call 10; refine HA.out.mono ?_; rintro e w1 ⟨rfl, b1⟩)
    go_ret
    exact ⟨rfl, b1⟩
  have hl' : ¬ (2000 : Int) < (n : Int) := by omega
  have H1 := Lib.hid fun W (hW : Below w.heap.size w W) => kescape7 W A n c l (hS.below hW) (by omega) (HGl.out.below hW)
  have H2 := Lib.hid fun W (hW : Below w.heap.size w W) => rescape7 W A n c l (hS.below hW) (by omega)
  have H3 := Lib.hid fun W (hW : Below w.heap.size w W) => kruns7 W A n c l (hS.below hW) (by omega)
  have H4 := Lib.hid fun W (hW : Below w.heap.size w W) => rruns7 W A n c l (hS.below hW) (by omega)
  have HR : Hid ((Lt.runsOf l).2.length ≤ 2000) := by
    show _ ≤ _
    rw [Lt.runsOf]
    split
    · have := (Lt.runs_of l).len
      rw [hS.len] at this
      simp only
      omega
    · exact Nat.zero_le _
  unfold EscSaid at H1 H2
  unfold RunsSaid at H3 H4
  generalize Lt.escOf l = X at H1 H2
  generalize Lt.runsOf l = Y at H3 H4 HR
  obtain ⟨x1, x2⟩ := X
  obtain ⟨y1, y2⟩ := Y
  obtain ⟨m, hm⟩ : ∃ m, y2.length = m := ⟨_, rfl⟩
  have HM := Lib.hid hm
  simp only at H1 H2 H3 H4 HR
  rw [hm] at H3 H4 HR
  have hTT : ((⟨x2.toArray⟩ : ByteArray).toList == (⟨x2.toArray⟩ : ByteArray).toList) = true := by simp
  generalize (⟨x2.toArray⟩ : ByteArray) = T at H1 H2 hTT
  clear hl hS hw hm
  go_enter Tryd.func4, Tryd.ntmps4
  go_wp2_with fail
  refine HA.out.mono ?_
  rintro e w1 ⟨rfl, b1⟩
  have B1 := Lib.hid b1
  clear b1
  go_wp2_with fail
  refine (H1.out _ B1.out).mono ?_
  rintro e w2 ⟨rfl, b2⟩
  have B2 := Lib.hid (B1.out.trans (b2.mono B1.out.size))
  clear b2 H1
  go_wp2_with fail
  refine (H2.out _ B2.out).mono ?_
  rintro e w3 ⟨rfl, b3⟩
  have B3 := Lib.hid (B2.out.trans (b3.mono B2.out.size))
  clear b3 H2
  go_wp2_with fail
  refine (H3.out _ B3.out).mono ?_
  rintro e w4 ⟨⟨A4, c4, rfl, o4⟩, b4⟩
  have B4 := Lib.hid (B3.out.trans (b4.mono B3.out.size))
  have O4 := Lib.hid (o4.runs HM.out)
  clear b4 H3 o4
  go_wp2_with fail
  refine (H4.out _ B4.out).mono ?_
  rintro e w5 ⟨⟨A5, c5, rfl, o5⟩, b5⟩
  have B5 := Lib.hid (B4.out.trans (b5.mono B4.out.size))
  have HS := Lib.hid (rtexts w5 A4 m c4 y2 A5 m c5 y2 (O4.out.below b5) (o5.runs HM.out) (by have := HR.out; omega))
  rw [sameR_self] at HS
  clear b5 H4 o5 O4
  go_wp2_with (go_at_call 18; refine HS.out.mono ?_; rintro e w6 ⟨rfl, b6⟩)
  go_ret
  exact ⟨rfl, B5.out.trans (b6.mono B5.out.size)⟩

set_option maxRecDepth 100000 in
set_option maxHeartbeats 1600000 in
theorem litLists_walk (w : World) (A : Option Addr) (n c : Nat) (R : List (Int × Int)) (most : Int) (h : ArgR w A n R) (hG : Gl w) :
    Calls Tryd.prog 5 #[.slice A n c, .int .i64 most] w fun e w' => e = .returned (.bool true) ∧ Below w.heap.size w w' := by
  have HA := Lib.hid (kawake7 w hG)
  have HGl := Lib.hid hG
  clear hG
  by_cases hl : 2000 < n
  · have hl' : (2000 : Int) < (n : Int) := by omega
    clear hl h
    go_enter Tryd.func5, Tryd.ntmps5
    go_wp2_with (go_at_call 10; refine HA.out.mono ?_; rintro e w1 ⟨rfl, b1⟩)
    go_ret
    exact ⟨rfl, b1⟩
  have hl' : ¬ (2000 : Int) < (n : Int) := by omega
  by_cases hm : (5000 : Int) < most
  · clear hl h
    go_enter Tryd.func5, Tryd.ntmps5
    go_wp2_with (go_at_call 10; refine HA.out.mono ?_; rintro e w1 ⟨rfl, b1⟩)
    go_ret
    exact ⟨rfl, b1⟩
  have H1 := Lib.hid fun W (hW : Below w.heap.size w W) => klist7 W A n c R most (h.1.below hW) (by omega) (by omega)
  have H2 := Lib.hid fun W (hW : Below w.heap.size w W) => rlist7 W A n c R most (h.1.below hW) (by omega) (by omega)
  have HR : Hid ((Lt.list R most).2.length ≤ 5000) := by
    show _ ≤ _
    rw [Lt.list]
    split
    · exact Nat.zero_le _
    · rename_i hb
      split
      · exact Nat.zero_le _
      · have := Lt.expand_len (R := R) fun x hx => (Lt.bad_false.1 (Bool.eq_false_iff.2 hb) x hx).2
        simp only
        omega
  unfold ListSaid at H1 H2
  generalize Lt.list R most = X at H1 H2 HR
  obtain ⟨x1, x2⟩ := X
  obtain ⟨m, hmm⟩ : ∃ m, x2.length = m := ⟨_, rfl⟩
  have HM := Lib.hid hmm
  simp only at H1 H2 HR
  rw [hmm] at H1 H2 HR
  clear hl h hmm
  go_enter Tryd.func5, Tryd.ntmps5
  go_wp2_with fail
  refine HA.out.mono ?_
  rintro e w1 ⟨rfl, b1⟩
  have B1 := Lib.hid b1
  clear b1
  go_wp2_with fail
  refine (H1.out _ B1.out).mono ?_
  rintro e w2 ⟨⟨A2, c2, rfl, o2⟩, b2⟩
  have B2 := Lib.hid (B1.out.trans (b2.mono B1.out.size))
  have O2 := Lib.hid (o2.nums HM.out)
  clear b2 H1 o2
  go_wp2_with fail
  refine (H2.out _ B2.out).mono ?_
  rintro e w3 ⟨⟨A3, c3, rfl, o3⟩, b3⟩
  have B3 := Lib.hid (B2.out.trans (b3.mono B2.out.size))
  have HS := Lib.hid (rints w3 A2 m c2 x2 A3 m c3 x2 (O2.out.below b3) (o3.nums HM.out) (by have := HR.out; omega))
  rw [sameN_self] at HS
  clear b3 H2 o3 O2
  go_wp2_with (go_at_call 11; refine HS.out.mono ?_; rintro e w4 ⟨rfl, b4⟩)
  go_ret
  exact ⟨rfl, B3.out.trans (b4.mono B3.out.size)⟩
end Go.Proofs.YtmdjgjcneegiiaaDoor
