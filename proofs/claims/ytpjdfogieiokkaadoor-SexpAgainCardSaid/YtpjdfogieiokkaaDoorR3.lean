/- The reference of scripts: number, other. -/
import Derived.Test.YtpjdfogieiokkaaDoorR2
namespace Go.Proofs.YtpjdfogieiokkaaDoor
open Go.RowKit

theorem cut_bytes (s : ByteArray) (a b : Nat) (hb : b ≤ s.size) (ha : a ≤ b) : (s.extract a b).data.toList = (s.data.toList.drop a).take (b - a) ∧ (s.extract a b).size = b - a := by
  have hsz : (s.extract a b).size = b - a := by rw [ByteArray.size_extract]; omega
  refine ⟨?_, hsz⟩
  rw [ByteArray.data_extract, Array.toList_extract]

theorem slice_to (s : ByteArray) (p : Nat) (hp : p ≤ s.size) (w : World) : (Instr.slice 9 (.string s) none (some (.int .i64 (p : Int))) none).run Tryd.prog w = .ok (.string (s.extract 0 p)) w := by
  rw [run_slice_string_to_if _ _ _ _ _ Tryd.underlying9, if_pos (by omega)]
  rfl
theorem slice_from (s : ByteArray) (p : Nat) (hp : p ≤ s.size) (w : World) : (Instr.slice 9 (.string s) (some (.int .i64 (p : Int))) none none).run Tryd.prog w = .ok (.string (s.extract p s.size)) w := by
  rw [run_slice_string_from_if _ _ _ _ _ Tryd.underlying9, if_pos (by omega)]
  rfl
/-- a byte that is no point -/
abbrev Lx.nopt (c : UInt8) : Bool := !decide (c.toNat = 46)
theorem Lx.number_eq (S : List UInt8) (p : Nat) (hp : p = (S.takeWhile Lx.nopt).length) :
    p ≤ S.length ∧ Lx.number S = if !Lx.digits (S.take p) || (decide (1 < p) && decide ((S.headD 0).toNat = 48)) then 0 else if p = S.length then 4 else if Lx.digits (S.drop (p + 1)) then 5 else 0 := by
  have h := Lx.take_drop Lx.nopt S
  have ht : S.take p = S.takeWhile Lx.nopt := by
    have : S.take p = (S.takeWhile Lx.nopt ++ S.dropWhile Lx.nopt).take p := by rw [h]
    rw [this, hp, List.take_left]
  have hd : S.drop p = S.dropWhile Lx.nopt := by
    have : S.drop p = (S.takeWhile Lx.nopt ++ S.dropWhile Lx.nopt).drop p := by rw [h]
    rw [this, hp, List.drop_left]
  have hl : p + (S.dropWhile Lx.nopt).length = S.length := by
    have := congrArg List.length h
    rw [List.length_append] at this
    omega
  refine ⟨by omega, ?_⟩
  unfold Lx.number
  dsimp only
  rw [ht, hp]
  split
  · rfl
  · cases hq : S.dropWhile Lx.nopt with
    | nil =>
      rw [hq, List.length_nil] at hl
      rw [if_pos (by omega)]
    | cons c t =>
      rw [hq, List.length_cons] at hl
      rw [if_neg (by omega)]
      have : S.drop ((S.takeWhile Lx.nopt).length + 1) = t := by
        rw [← hp, ← List.drop_drop, hd, hq]
        rfl
      rw [this]

set_option maxHeartbeats 800000 in
theorem rnumber (s : ByteArray) (w : World) (hs : s.size ≤ maxLen) :
    Calls Tryd.prog 61 #[.string s] w fun e w' => e = .returned (.int .i64 (Lx.number s.data.toList)) ∧ w' = w := by
  unfold maxLen at hs
  have hlen : s.data.toList.length = s.size := by rw [Array.length_toList]; rfl
  obtain ⟨P, HP⟩ : ∃ P, P = (s.data.toList.takeWhile Lx.nopt).length := ⟨_, rfl⟩
  obtain ⟨hPn, HE⟩ := Lx.number_eq s.data.toList P HP
  rw [hlen] at hPn HE
  obtain ⟨c1, c2⟩ := cut_bytes s 0 P hPn (Nat.zero_le _)
  rw [List.drop_zero, Nat.sub_zero] at c1
  have HW := Lib.hid (rdigits (s.extract 0 P) w (by rw [c2]; unfold maxLen; omega))
  obtain ⟨wh, hwh⟩ : ∃ b, Lx.digits (s.data.toList.take P) = b := ⟨_, rfl⟩
  rw [c1, hwh] at HW
  rw [hwh] at HE
  have HQ : wh = true → 0 < P := fun e => by
    rw [← hwh, Lx.digits] at e
    rcases Nat.eq_zero_or_pos P with h | h
    · rw [h] at e
      simp at e
    · exact h
  obtain ⟨X, HX⟩ : ∃ X, Lx.number s.data.toList = X := ⟨_, rfl⟩
  rw [HX] at HE ⊢
  replace HE := Lib.hid HE
  replace HP := Lib.hid HP
  replace HQ := Lib.hid HQ
  have HH : Hid (∀ h : 0 < s.size, (s.data.toList.headD 0).toNat = s[0].toNat) := fun h => by
    have := drop_at s h
    rw [List.drop_zero] at this
    rw [this]
    rfl
  have HLEN := Lib.hid hlen
  clear c1 c2 hwh HX hlen hPn
  go_enter Tryd.func61, Tryd.ntmps61
  go_wp2
  go_loopw [3, 4] (fun pv iv wr => ∃ (i p : Nat) (j : Int), i ≤ s.size ∧ j + 1 = (i : Int) ∧ p ≤ s.size ∧ iv = .int .i64 j ∧ pv = .int .i64 (p : Nat) ∧ wr = w ∧ Hid (p = i + ((s.data.toList.drop i).takeWhile Lx.nopt).length)) (fun _ iv _ => (intOf iv + 1).toNat)
  case atStart => exact ⟨s.size, s.size, (s.size : Int) - 1, Nat.le_refl _, by omega, Nat.le_refl _, by first | rfl | go_num, rfl, rfl, (by show _ = _; rw [drop_end]; rfl)⟩
  case round =>
    obtain ⟨i, p, j, hi, hj, hp, rfl, rfl, rfl, HI⟩ := hrel
    by_cases hlt : 0 ≤ j
    · obtain ⟨k, rfl⟩ : ∃ k : Nat, j = (k : Int) := ⟨j.toNat, by omega⟩
      obtain rfl : i = k + 1 := by omega
      have hk : k < s.size := by omega
      clear hj
      by_cases h46 : s[k].toNat = 46
      · have hb : ((s[k].toNat : Int) == 46) = true := beq_iff_eq.2 (by omega)
        have HI2 : Hid (k = k + ((s.data.toList.drop k).takeWhile Lx.nopt).length) := by
          show _ = _
          rw [drop_at s hk, List.takeWhile_cons]
          simp [Lx.nopt, h46]
        clear HI h46 HE HW HP HQ HH
        go_wp2
        go_roundw
        case rel => exact ⟨k, k, (k : Int) - 1, by omega, by omega, by omega, by go_num, rfl, by trivial, HI2⟩
        case measure => simp [intOf]
      · have hb : ((s[k].toNat : Int) == 46) = false := beq_eq_false_iff_ne.2 (by omega)
        have HI2 : Hid (p = k + ((s.data.toList.drop k).takeWhile Lx.nopt).length) := by
          show _ = _
          rw [drop_at s hk, List.takeWhile_cons, HI.out]
          simp [Lx.nopt, h46]
          omega
        clear HI h46 HE HW HP HQ HH
        go_wp2
        go_roundw
        case rel => exact ⟨k, p, (k : Int) - 1, by omega, by omega, by omega, by go_num, rfl, by trivial, HI2⟩
        case measure => simp [intOf]
    · obtain rfl : i = 0 := by omega
      obtain rfl : p = P := by
        have := HI.out
        rw [List.drop_zero, ← HP.out] at this
        omega
      clear HI HP
      have hj1 : j < 0 := by omega
      clear hj hlt
      have hsl := slice_to s p hp
      cases wh with
      | false =>
        obtain rfl : X = 0 := by simpa using HE.out
        clear HE HQ HH
        go_wp2_with (go_at_call 75; refine HW.out.mono ?_; rintro e w1 ⟨rfl, rfl⟩)
        go_ret
        exact ⟨rfl, by trivial⟩
      | true =>
        have hp0 : 0 < p := HQ.out rfl
        have hn0 : 0 < s.size := by omega
        by_cases h48 : 1 < p ∧ s[0].toNat = 48
        · have a1 : (1 : Int) < (p : Int) := by omega
          have a2 : ((s[0].toNat : Int) == 48) = true := beq_iff_eq.2 (by omega)
          obtain rfl : X = 0 := by
            have := HE.out
            rw [HH.out hn0] at this
            simpa [h48] using this
          clear HE HQ HH h48
          go_wp2_with (go_at_call 75; refine HW.out.mono ?_; rintro e w1 ⟨rfl, rfl⟩)
          go_ret
          exact ⟨rfl, by trivial⟩
        have HE2 : Hid (X = if p = s.size then 4 else if Lx.digits (s.data.toList.drop (p + 1)) then 5 else 0) := by
          show _ = _
          rw [HE.out, HH.out hn0, if_neg]
          rw [Bool.not_true, Bool.false_or, Bool.and_eq_true, decide_eq_true_eq, decide_eq_true_eq]
          exact h48
        have a48 : ((s[0].toNat : Int) == 48) = false ∨ ((s[0].toNat : Int) == 48) = true ∧ ¬ (1 : Int) < (p : Int) := by
          by_cases h : s[0].toNat = 48
          · exact .inr ⟨beq_iff_eq.2 (by omega), by omega⟩
          · exact .inl (beq_eq_false_iff_ne.2 (by omega))
        clear HE HQ HH h48
        by_cases hpn : p = s.size
        · obtain rfl : X = 4 := by rw [HE2.out, if_pos hpn]
          clear HE2
          subst hpn
          rw [show s.extract 0 s.size = s by simp] at HW hsl
          rcases a48 with a | ⟨a, a'⟩
          all_goals
            go_wp2_with (go_at_call 75; refine HW.out.mono ?_; rintro e w1 ⟨rfl, rfl⟩)
          all_goals
            go_ret
            exact ⟨rfl, by trivial⟩
        · have b1 : ((p : Int) == (s.size : Int)) = false := beq_eq_false_iff_ne.2 (by omega)
          obtain ⟨d1, d2⟩ := cut_bytes s (p + 1) s.size (Nat.le_refl _) (by omega)
          rw [List.take_of_length_le (by rw [List.length_drop, HLEN.out]; exact Nat.le_refl _)] at d1
          have hsm := slice_from s (p + 1) (by omega)
          have HZ := Lib.hid (rdigits (s.extract (p + 1) s.size) wr (by rw [d2]; unfold maxLen; omega))
          obtain ⟨z, hz⟩ : ∃ b, Lx.digits (s.data.toList.drop (p + 1)) = b := ⟨_, rfl⟩
          rw [d1, hz] at HZ
          have hX : X = if z then 5 else 0 := by rw [HE2.out, if_neg hpn, hz]
          clear HE2 d1 d2 hz
          rcases a48 with a | ⟨a, a'⟩ <;> cases z <;> simp at hX <;> subst hX
          all_goals
            go_wp2_with (first | (go_at_call 75; (with_reducible refine HW.out.mono ?_); rintro e w1 ⟨rfl, rfl⟩) | (go_at_call 75; (with_reducible refine HZ.out.mono ?_); rintro e w1 ⟨rfl, rfl⟩))
          all_goals
            go_ret
            exact ⟨rfl, by trivial⟩
end Go.Proofs.YtpjdfogieiokkaaDoor
