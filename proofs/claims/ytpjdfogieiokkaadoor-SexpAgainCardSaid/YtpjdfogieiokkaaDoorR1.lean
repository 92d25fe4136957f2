/- The reference's questions of bytes: Blank, Digit, good, Name. -/
import Derived.Test.YtpjdfogieiokkaaDoorRows
import Derived.Test.YtpjdfogieiokkaaDoorT0
import Derived.Test.YtpjdfogieiokkaaDoorY4
import Derived.WalkSpells
import Derived.WalkLawsBesides
import Derived.KernelRfl
import Derived.BigQuiet
namespace Go.Proofs.YtpjdfogieiokkaaDoor
open Go.RowKit

theorem ret_b {a b : Bool} (h : a = b) : Ending.returned (.bool a) = .returned (.bool b) := by rw [h]
theorem rdigit (c : UInt8) (w : World) : Calls Tryd.prog 60 #[.int .u8 (c.toNat : Nat)] w fun e w' => e = .returned (.bool (Lx.digit c)) ∧ w' = w := by
  go_enter Tryd.func60, Tryd.ntmps60
  go_wp2
  all_goals
    go_ret
    exact ⟨ret_b (by rw [Bool.eq_iff_iff]; simp [Lx.digit] <;> omega), rfl⟩
theorem rblank (c : UInt8) (w : World) : Calls Tryd.prog 57 #[.int .u8 (c.toNat : Nat)] w fun e w' => e = .returned (.bool (Lx.blank c)) ∧ w' = w := by
  go_enter Tryd.func57, Tryd.ntmps57
  go_wp2
  all_goals
    go_ret
    exact ⟨ret_b (by rw [Bool.eq_iff_iff]; simp [Lx.blank] <;> omega), rfl⟩
theorem rgood (c : UInt8) (w : World) : Calls Tryd.prog 37 #[.int .u8 (c.toNat : Nat)] w fun e w' => e = .returned (.bool (Lx.good c)) ∧ w' = w := by
  have HB := Lib.hid (rblank c w)
  obtain ⟨bl, hbl⟩ : ∃ b, Hid (Lx.blank c = b) := ⟨_, rfl⟩
  rw [hbl.out] at HB
  cases bl
  all_goals
    go_enter Tryd.func37, Tryd.ntmps37
    go_wp2_with (go_at_call 57; refine HB.out.mono ?_; rintro e w1 ⟨rfl, rfl⟩)
  all_goals
    go_ret
    exact ⟨ret_b (by rw [Lx.good, hbl.out, Bool.eq_iff_iff]; simp <;> omega), rfl⟩
theorem marks_at {i : Nat} (h : i < 17) : ((⟨#[126, 33, 64, 36, 37, 94, 38, 42, 95, 45, 43, 61, 60, 62, 46, 63, 47]⟩ : ByteArray)[i]'h).toNat = Lx.marks[i]'h := by
  have : ∀ i : Fin 17, ((⟨#[126, 33, 64, 36, 37, 94, 38, 42, 95, 45, 43, 61, 60, 62, 46, 63, 47]⟩ : ByteArray)[i.1]'i.2).toNat = Lx.marks[i.1]'i.2 := by decide
  exact this ⟨i, h⟩
theorem rname (c : UInt8) (w : World) : Calls Tryd.prog 62 #[.int .u8 (c.toNat : Nat)] w fun e w' => e = .returned (.bool (Lx.name c)) ∧ w' = w := by
  have HB := Lib.hid (rdigit c w)
  by_cases h1 : 97 ≤ c.toNat ∧ c.toNat ≤ 122
  · have a1 : (97 : Int) ≤ c.toNat := by omega
    have a2 : (c.toNat : Int) ≤ 122 := by omega
    have e : Lx.name c = true := by simp [Lx.name, h1]
    rw [e]
    go_enter Tryd.func62, Tryd.ntmps62
    go_wp2
    go_ret
    exact ⟨rfl, rfl⟩
  by_cases h2 : 65 ≤ c.toNat ∧ c.toNat ≤ 90
  · have a1 : ¬ (97 : Int) ≤ c.toNat := by omega
    have a2 : (65 : Int) ≤ c.toNat := by omega
    have a3 : (c.toNat : Int) ≤ 90 := by omega
    have e : Lx.name c = true := by simp [Lx.name, h2]
    rw [e]
    go_enter Tryd.func62, Tryd.ntmps62
    go_wp2
    go_ret
    exact ⟨rfl, rfl⟩
  by_cases h3 : Lx.digit c = true
  · have h3' : c.toNat ≤ 57 := by simp [Lx.digit] at h3; omega
    have a1 : ¬ (97 : Int) ≤ c.toNat := by omega
    have a2 : ¬ (65 : Int) ≤ c.toNat := by omega
    have e : Lx.name c = true := Lx.digit_name h3
    rw [e]
    rw [h3] at HB
    go_enter Tryd.func62, Tryd.ntmps62
    go_wp2_with (go_at_call 60; refine HB.out.mono ?_; rintro e w1 ⟨rfl, rfl⟩)
    go_ret
    exact ⟨rfl, rfl⟩
  have HN : Hid (Lx.name c = Lx.marks.contains c.toNat) := by
    show Lx.name c = Lx.marks.contains c.toNat
    have e1 : (decide (97 ≤ c.toNat) && decide (c.toNat ≤ 122)) = false := by rw [Bool.eq_false_iff]; simpa using h1
    have e2 : (decide (65 ≤ c.toNat) && decide (c.toNat ≤ 90)) = false := by rw [Bool.eq_false_iff]; simpa using h2
    rw [Lx.name, e1, e2, Bool.eq_false_iff.2 h3]
    simp
  have HM : Hid (∀ (i : Nat) (h : i < 17), ((⟨#[126, 33, 64, 36, 37, 94, 38, 42, 95, 45, 43, 61, 60, 62, 46, 63, 47]⟩ : ByteArray)[i]'h).toNat = Lx.marks[i]'h) := fun _ h => marks_at h
  rw [Bool.eq_false_iff.2 h3] at HB
  rw [HN.out]
  obtain ⟨k, HK⟩ : ∃ k, Hid (k = Lx.marks.contains c.toNat) := ⟨_, rfl⟩
  rw [← HK.out]
  have hw : (122 : Int) < c.toNat ∨ (90 : Int) < c.toNat ∧ (c.toNat : Int) < 97 ∨ (c.toNat : Int) < 65 := by omega
  rcases hw with a | ⟨a, a'⟩ | a
  all_goals
    first | have b1 : (97 : Int) ≤ c.toNat := by omega | have b1 : ¬ (97 : Int) ≤ c.toNat := by omega
    first | have b2 : (65 : Int) ≤ c.toNat := by omega | have b2 : ¬ (65 : Int) ≤ c.toNat := by omega
    first | have b3 : ¬ (c.toNat : Int) ≤ 90 := by omega | skip
    first | have b4 : ¬ (c.toNat : Int) ≤ 122 := by omega | skip
    clear h1 h2 h3 HN
    go_enter Tryd.func62, Tryd.ntmps62
    go_wp2_with (go_at_call 60; refine HB.out.mono ?_; rintro e w1 ⟨rfl, rfl⟩)
    generalize hS : (⟨#[126, 33, 64, 36, 37, 94, 38, 42, 95, 45, 43, 61, 60, 62, 46, 63, 47]⟩ : ByteArray) = S
    have hsz : S.size = 17 := by rw [← hS]; rfl
    have HS : Hid (∀ i (h : i < S.size) (h' : i < 17), S[i].toNat = Lx.marks[i]'h') := by
      subst hS
      exact fun i h h' => HM.out i h'
    clear hS HM
    go_loopw [4] (fun iv wr => ∃ i : Nat, i ≤ 17 ∧ iv = .int .i64 (i : Nat) ∧ wr = w1 ∧ Hid (k = (Lx.marks.drop i).contains c.toNat)) (fun iv _ => 17 - (intOf iv).toNat)
    case atStart => exact ⟨0, by omega, rfl, rfl, HK⟩
    case round =>
      obtain ⟨i, hi, rfl, rfl, HI⟩ := hrel
      by_cases hlt : i < 17
      · have HV : Hid (S[i].toNat = Lx.marks[i]) := HS.out i (by omega) hlt
        have HD : Hid ((Lx.marks.drop i).contains c.toNat = ((Lx.marks[i] == c.toNat) || (Lx.marks.drop (i + 1)).contains c.toNat)) := by
          show _ = _
          rw [List.drop_eq_getElem_cons hlt, List.contains_cons, Bool.beq_comm]
        by_cases he : S[i].toNat = c.toNat
        · have hb : ((S[i].toNat : Int) == (c.toNat : Int)) = true := beq_iff_eq.2 (by omega)
          have hk : k = true := by
            rw [HI.out, HD.out, ← HV.out, he]
            simp
          clear HI HD HV HS he HK
          subst hk
          go_wp2
          go_ret
          exact ⟨rfl, rfl⟩
        · have hb : ((S[i].toNat : Int) == (c.toNat : Int)) = false := by
            rw [beq_eq_false_iff_ne]
            omega
          have HI2 : Hid (k = (Lx.marks.drop (i + 1)).contains c.toNat) := by
            show _ = _
            rw [HI.out, HD.out, ← HV.out, beq_eq_false_iff_ne.2 he, Bool.false_or]
          clear HI HD HV HS he HK
          go_wp2
          go_roundw
          case rel => exact ⟨i + 1, by omega, by go_num, by trivial, HI2⟩
          case measure => simp [intOf]; omega
      · obtain rfl : i = 17 := by omega
        have hk : k = false := HI.out
        subst hk
        clear HI HK HS
        go_wp2
        go_ret
        exact ⟨rfl, rfl⟩
end Go.Proofs.YtpjdfogieiokkaaDoor
