/- The law SexpReads. -/
import Derived.Test.YtpjdfogieiokkaaDoorS27
import Derived.Test.YtpjdfogieiokkaaDoorHB
namespace Go.Proofs.YtpjdfogieiokkaaDoor
open Go.RowKit Go.Shelf

set_option maxRecDepth 100000 in
set_option maxHeartbeats 1600000 in
theorem sexpReads_walk (s : ByteArray) (w : World) (hs : s.size ≤ maxLen) (hm : MaxL w) :
    Calls Tryd.prog 4 #[.string s] w fun e w' => e = .returned (.bool true) ∧ Below w.heap.size w w' := by
  have HA := Lib.hid (kawake6 w hm)
  have HM := Lib.hid hm
  unfold maxLen at hs
  clear hm
  by_cases hl : 17000 < s.size
  · have hl' : (17000 : Int) < (s.size : Int) := by omega
    clear hl
    go_enter Tryd.func4, Tryd.ntmps4
    go_wp2_with (go_at_call 9; refine HA.out.mono ?_; rintro e w1 ⟨rfl, b1⟩)
    go_ret
    exact ⟨rfl, b1⟩
  have hl' : ¬ (17000 : Int) < (s.size : Int) := by omega
  have H1 := Lib.hid fun W hW => kread s W (by omega) hW
  have H2 := Lib.hid fun W => rread s W (by omega)
  clear hl
  go_enter Tryd.func4, Tryd.ntmps4
  go_wp2_with fail
  refine HA.out.mono ?_
  rintro e w1 ⟨rfl, b1⟩
  have B1 := Lib.hid b1
  have HM1 := Lib.hid (HM.out.below b1)
  clear b1
  go_wp2_with fail
  refine (H1.out _ HM1.out).mono ?_
  rintro e w2 ⟨⟨A2, c2, l2, rfl, hf2, o2, r2⟩, b2⟩
  obtain ⟨n2, hn2⟩ : ∃ n, l2.length = n := ⟨_, rfl⟩
  have i2 := o2.its hn2
  rw [hn2] at hf2 ⊢
  have Q2 := Lib.hid (And.intro b2 (And.intro i2 r2))
  clear b2 i2 r2 o2 hn2
  go_wp2_with fail
  refine (H2.out _).mono ?_
  rintro e w3 ⟨⟨A3, c3, l3, rfl, hf3, o3, r3⟩, b3⟩
  obtain ⟨n3, hn3⟩ : ∃ n, l3.length = n := ⟨_, rfl⟩
  have i3 := o3.its hn3
  rw [hn3]
  have hsame : sameI true (l2.map MItem.pure) (l3.map MItem.pure) = true := sameI_iff.2 (by rw [Q2.out.2.2.uniq r3])
  have HS := Lib.hid (ritems w3 A2 n2 c2 _ A3 n3 c3 _ true (Q2.out.2.1.kept b3) i3 (by omega))
  rw [hsame] at HS
  have B12 := B1.out.trans (Q2.out.1.mono B1.out.size)
  have B3 := Lib.hid (B12.trans (b3.mono B12.size))
  clear b3 i3 r3 o3 hn3 hsame B12 hf2 hf3 Q2
  go_wp2_with (go_at_call 10; refine HS.out.mono ?_; rintro e w4 ⟨rfl, b4⟩)
  go_ret
  exact ⟨rfl, B3.out.trans (b4.mono B3.out.size)⟩
end Go.Proofs.YtpjdfogieiokkaaDoor
