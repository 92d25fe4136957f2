/- The code's questions of bytes, asked of runes: digit, blank, bit, hex, scripts, named, and the three closures. -/
import Derived.Test.YtpjdfogieiokkaaDoorR1
namespace Go.Proofs.YtpjdfogieiokkaaDoor
open Go.RowKit

theorem kdigit (c : UInt8) (w : World) : Calls Tryd.prog 53 #[.int .i32 (c.toNat : Nat)] w fun e w' => e = .returned (.bool (Lx.digit c)) ∧ w' = w := by
  go_enter Tryd.func53, Tryd.ntmps53
  go_wp2
  all_goals
    go_ret
    exact ⟨ret_b (by rw [Bool.eq_iff_iff]; simp [Lx.digit] <;> omega), rfl⟩
theorem kblank (c : UInt8) (w : World) : Calls Tryd.prog 46 #[.int .i32 (c.toNat : Nat)] w fun e w' => e = .returned (.bool (Lx.blank c)) ∧ w' = w := by
  by_cases hm : Lx.blank c = true
  · rw [hm]
    have hm' : c.toNat = 9 ∨ c.toNat = 10 ∨ c.toNat = 13 ∨ c.toNat = 32 := by
      simp [Lx.blank] at hm
      omega
    clear hm
    rcases hm' with h | h | h | h
    all_goals
      rw [h]
      clear h
      go_enter Tryd.func46, Tryd.ntmps46
      go_wp2
      go_ret
      exact ⟨rfl, rfl⟩
  · rw [Bool.eq_false_iff.2 hm]
    have hm' : (c.toNat : Int) ≠ 9 ∧ (c.toNat : Int) ≠ 10 ∧ (c.toNat : Int) ≠ 13 ∧ (c.toNat : Int) ≠ 32 := by
      simp [Lx.blank] at hm
      omega
    obtain ⟨m1, m2, m3, m4⟩ := hm'
    clear hm
    go_enter Tryd.func46, Tryd.ntmps46
    go_wp2
    go_ret
    exact ⟨rfl, rfl⟩
theorem kbit (c : UInt8) (w : World) : Calls Tryd.prog 82 #[.int .i32 (c.toNat : Nat)] w fun e w' => e = .returned (.bool (Lx.bit c)) ∧ w' = w := by
  go_enter Tryd.func82, Tryd.ntmps82
  go_wp2
  all_goals
    go_ret
    exact ⟨ret_b (by rw [Bool.eq_iff_iff]; simp [Lx.bit] <;> omega), rfl⟩
theorem khex (c : UInt8) (w : World) : Calls Tryd.prog 81 #[.int .i32 (c.toNat : Nat)] w fun e w' => e = .returned (.bool (Lx.hex c)) ∧ w' = w := by
  have HB := Lib.hid (kdigit c w)
  obtain ⟨bl, hbl⟩ : ∃ b, Hid (Lx.digit c = b) := ⟨_, rfl⟩
  rw [hbl.out] at HB
  cases bl
  all_goals
    go_enter Tryd.func81, Tryd.ntmps81
    go_wp2_with (go_at_call 53; refine HB.out.mono ?_; rintro e w1 ⟨rfl, rfl⟩)
  all_goals
    go_ret
    exact ⟨ret_b (by rw [Lx.hex, hbl.out, Bool.eq_iff_iff]; simp <;> omega), rfl⟩
theorem kscripts (c : UInt8) (w : World) : Calls Tryd.prog 34 #[.int .i32 (c.toNat : Nat)] w fun e w' => e = .returned (.bool (Lx.good c)) ∧ w' = w := by
  have HB := Lib.hid (kblank c w)
  obtain ⟨bl, hbl⟩ : ∃ b, Hid (Lx.blank c = b) := ⟨_, rfl⟩
  rw [hbl.out] at HB
  cases bl
  all_goals
    go_enter Tryd.func34, Tryd.ntmps34
    go_wp2_with (go_at_call 46; refine HB.out.mono ?_; rintro e w1 ⟨rfl, rfl⟩)
  all_goals
    go_ret
    exact ⟨ret_b (by rw [Lx.good, hbl.out, Bool.eq_iff_iff]; simp <;> omega), rfl⟩
theorem kclos1 (c : UInt8) (w : World) : Calls Tryd.prog 47 #[.int .i32 (c.toNat : Nat)] w fun e w' => e = .returned (.bool (!decide (c.toNat = 10) && Lx.good c)) ∧ w' = w := by
  have HB := Lib.hid (kscripts c w)
  obtain ⟨bl, hbl⟩ : ∃ b, Hid (Lx.good c = b) := ⟨_, rfl⟩
  rw [hbl.out] at HB ⊢
  go_enter Tryd.func47, Tryd.ntmps47
  go_wp2_with (go_at_call 34; refine HB.out.mono ?_; rintro e w1 ⟨rfl, rfl⟩)
  all_goals
    go_ret
    exact ⟨ret_b (by rw [Bool.eq_iff_iff]; simp <;> omega), rfl⟩
theorem kclos2 (c : UInt8) (w : World) : Calls Tryd.prog 69 #[.int .i32 (c.toNat : Nat)] w fun e w' => e = .returned (.bool (!decide (c.toNat = 124) && Lx.good c)) ∧ w' = w := by
  have HB := Lib.hid (kscripts c w)
  obtain ⟨bl, hbl⟩ : ∃ b, Hid (Lx.good c = b) := ⟨_, rfl⟩
  rw [hbl.out] at HB ⊢
  go_enter Tryd.func69, Tryd.ntmps69
  go_wp2_with (go_at_call 34; refine HB.out.mono ?_; rintro e w1 ⟨rfl, rfl⟩)
  all_goals
    go_ret
    exact ⟨ret_b (by rw [Bool.eq_iff_iff]; simp <;> omega), rfl⟩
theorem kclos3 (c : UInt8) (w : World) : Calls Tryd.prog 71 #[.int .i32 (c.toNat : Nat)] w fun e w' => e = .returned (.bool (!decide (c.toNat = 34) && Lx.good c)) ∧ w' = w := by
  have HB := Lib.hid (kscripts c w)
  obtain ⟨bl, hbl⟩ : ∃ b, Hid (Lx.good c = b) := ⟨_, rfl⟩
  rw [hbl.out] at HB ⊢
  go_enter Tryd.func71, Tryd.ntmps71
  go_wp2_with (go_at_call 34; refine HB.out.mono ?_; rintro e w1 ⟨rfl, rfl⟩)
  all_goals
    go_ret
    exact ⟨ret_b (by rw [Bool.eq_iff_iff]; simp <;> omega), rfl⟩
theorem knamed (c : UInt8) (w : World) : Calls Tryd.prog 55 #[.int .i32 (c.toNat : Nat)] w fun e w' => e = .returned (.bool (Lx.name c)) ∧ w' = w := by
  have HB := Lib.hid (kdigit c w)
  by_cases hm : Lx.marks.contains c.toNat = true
  · have e : Lx.name c = true := by rw [Lx.name, hm, Bool.or_true]
    rw [e]
    have hm' : c.toNat = 126 ∨ c.toNat = 33 ∨ c.toNat = 64 ∨ c.toNat = 36 ∨ c.toNat = 37 ∨ c.toNat = 94 ∨ c.toNat = 38 ∨ c.toNat = 42 ∨ c.toNat = 95 ∨ c.toNat = 45 ∨ c.toNat = 43 ∨ c.toNat = 61 ∨ c.toNat = 60 ∨ c.toNat = 62 ∨ c.toNat = 46 ∨ c.toNat = 63 ∨ c.toNat = 47 := by
      simpa [Lx.marks] using hm
    clear hm e
    rcases hm' with h | h | h | h | h | h | h | h | h | h | h | h | h | h | h | h | h
    all_goals
      rw [h] at HB ⊢
      clear h
      go_enter Tryd.func55, Tryd.ntmps55
      go_wp2
      go_ret
      exact ⟨rfl, rfl⟩
  · have hm0 := Bool.eq_false_iff.2 hm
    have hm' : (c.toNat : Int) ≠ 126 ∧ (c.toNat : Int) ≠ 33 ∧ (c.toNat : Int) ≠ 64 ∧ (c.toNat : Int) ≠ 36 ∧ (c.toNat : Int) ≠ 37 ∧ (c.toNat : Int) ≠ 94 ∧ (c.toNat : Int) ≠ 38 ∧ (c.toNat : Int) ≠ 42 ∧ (c.toNat : Int) ≠ 95 ∧ (c.toNat : Int) ≠ 45 ∧ (c.toNat : Int) ≠ 43 ∧ (c.toNat : Int) ≠ 61 ∧ (c.toNat : Int) ≠ 60 ∧ (c.toNat : Int) ≠ 62 ∧ (c.toNat : Int) ≠ 46 ∧ (c.toNat : Int) ≠ 63 ∧ (c.toNat : Int) ≠ 47 := by
      simp [Lx.marks] at hm0
      omega
    obtain ⟨m1, m2, m3, m4, m5, m6, m7, m8, m9, m10, m11, m12, m13, m14, m15, m16, m17⟩ := hm'
    obtain ⟨bl, hbl⟩ : ∃ b, Hid (Lx.digit c = b) := ⟨_, rfl⟩
    rw [hbl.out] at HB
    have HM := Lib.hid hm0
    clear hm hm0
    cases bl
    all_goals
      go_enter Tryd.func55, Tryd.ntmps55
      go_wp2_with (go_at_call 53; refine HB.out.mono ?_; rintro e w1 ⟨rfl, rfl⟩)
    all_goals
      go_ret
      exact ⟨ret_b (by rw [Lx.name, hbl.out, HM.out, Bool.eq_iff_iff]; simp <;> omega), rfl⟩
end Go.Proofs.YtpjdfogieiokkaaDoor
