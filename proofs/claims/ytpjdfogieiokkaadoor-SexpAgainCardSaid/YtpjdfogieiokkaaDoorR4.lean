/- The reference of scripts: other. -/
import Derived.Test.YtpjdfogieiokkaaDoorR3
namespace Go.Proofs.YtpjdfogieiokkaaDoor
open Go.RowKit

theorem Lx.ways (c : UInt8) :
    (Lx.digit c = true ∧ Lx.hex c = true ∧ Lx.bit c = true ∧ ((c.toNat : Int) == 48) = true) ∨
    (Lx.digit c = true ∧ Lx.hex c = true ∧ Lx.bit c = true ∧ ((c.toNat : Int) == 48) = false ∧ ((c.toNat : Int) == 49) = true) ∨
    (Lx.digit c = true ∧ Lx.hex c = true ∧ Lx.bit c = false ∧ ((c.toNat : Int) == 48) = false ∧ ((c.toNat : Int) == 49) = false) ∨
    (Lx.digit c = false ∧ Lx.hex c = true ∧ Lx.bit c = false ∧ ((c.toNat : Int) == 48) = false ∧ ((c.toNat : Int) == 49) = false ∧ decide (97 ≤ (c.toNat : Int)) = true ∧ decide ((c.toNat : Int) ≤ 102) = true) ∨
    (Lx.digit c = false ∧ Lx.hex c = true ∧ Lx.bit c = false ∧ ((c.toNat : Int) == 48) = false ∧ ((c.toNat : Int) == 49) = false ∧ decide (97 ≤ (c.toNat : Int)) = false ∧ decide (65 ≤ (c.toNat : Int)) = true ∧ decide ((c.toNat : Int) ≤ 70) = true) ∨
    (Lx.digit c = false ∧ Lx.hex c = false ∧ Lx.bit c = false ∧ ((c.toNat : Int) == 48) = false ∧ ((c.toNat : Int) == 49) = false ∧ decide (97 ≤ (c.toNat : Int)) = true ∧ decide ((c.toNat : Int) ≤ 102) = false ∧ decide (65 ≤ (c.toNat : Int)) = true ∧ decide ((c.toNat : Int) ≤ 70) = false) ∨
    (Lx.digit c = false ∧ Lx.hex c = false ∧ Lx.bit c = false ∧ ((c.toNat : Int) == 48) = false ∧ ((c.toNat : Int) == 49) = false ∧ decide (97 ≤ (c.toNat : Int)) = false ∧ decide (65 ≤ (c.toNat : Int)) = true ∧ decide ((c.toNat : Int) ≤ 70) = false) ∨
    (Lx.digit c = false ∧ Lx.hex c = false ∧ Lx.bit c = false ∧ ((c.toNat : Int) == 48) = false ∧ ((c.toNat : Int) == 49) = false ∧ decide (97 ≤ (c.toNat : Int)) = false ∧ decide (65 ≤ (c.toNat : Int)) = false) := by
  have b48 : ∀ n : Int, (c.toNat : Int) ≠ n → ((c.toNat : Int) == n) = false := fun n h => beq_eq_false_iff_ne.2 h
  by_cases h48 : c.toNat = 48
  · exact .inl ⟨by simp [Lx.digit, h48], by simp [Lx.hex, Lx.digit, h48], by simp [Lx.bit, h48], beq_iff_eq.2 (by omega)⟩
  refine .inr ?_
  have q := b48 48 (by omega)
  by_cases h49 : c.toNat = 49
  · exact .inl ⟨by simp [Lx.digit, h49], by simp [Lx.hex, Lx.digit, h49], by simp [Lx.bit, h49], q, beq_iff_eq.2 (by omega)⟩
  refine .inr ?_
  have q1 := b48 49 (by omega)
  have hbit : Lx.bit c = false := by simp [Lx.bit, h48, h49]
  by_cases hd : Lx.digit c = true
  · exact .inl ⟨hd, by simp [Lx.hex, hd], hbit, q, q1⟩
  refine .inr ?_
  have hd := Bool.eq_false_iff.2 hd
  by_cases h1 : 97 ≤ c.toNat ∧ c.toNat ≤ 102
  · exact .inl ⟨hd, by simp [Lx.hex, h1], hbit, q, q1, decide_eq_true (by omega), decide_eq_true (by omega)⟩
  refine .inr ?_
  by_cases h2 : 65 ≤ c.toNat ∧ c.toNat ≤ 70
  · exact .inl ⟨hd, by simp [Lx.hex, h2], hbit, q, q1, decide_eq_false (by omega), decide_eq_true (by omega), decide_eq_true (by omega)⟩
  refine .inr ?_
  have hh : Lx.hex c = false := by
    rw [Lx.hex, hd, Bool.false_or, Bool.or_eq_false_iff, Bool.and_eq_false_iff, Bool.and_eq_false_iff]
    simp only [decide_eq_false_iff_not]
    omega
  by_cases h3 : 97 ≤ c.toNat
  · exact .inl ⟨hd, hh, hbit, q, q1, decide_eq_true (by omega), decide_eq_false (by omega), decide_eq_true (by omega), decide_eq_false (by omega)⟩
  refine .inr ?_
  by_cases h4 : 65 ≤ c.toNat
  · exact .inl ⟨hd, hh, hbit, q, q1, decide_eq_false (by omega), decide_eq_true (by omega), decide_eq_false (by omega)⟩
  · exact .inr ⟨hd, hh, hbit, q, q1, decide_eq_false (by omega), decide_eq_false (by omega)⟩

theorem Lx.other_eq (a d : UInt8) (y : List UInt8) : Lx.other (a :: d :: y) = ((decide (d.toNat = 120) || decide (d.toNat = 98)) && !y.isEmpty && y.all fun c => Lx.hex c && (!decide (d.toNat = 98) || Lx.bit c)) := rfl
set_option maxHeartbeats 1600000 in
theorem rother (s : ByteArray) (w : World) (hs : s.size ≤ maxLen) :
    Calls Tryd.prog 63 #[.string s] w fun e w' => e = .returned (.bool (Lx.other s.data.toList)) ∧ w' = w := by
  unfold maxLen at hs
  have hlen : s.data.toList.length = s.size := by rw [Array.length_toList]; rfl
  by_cases h3 : s.size < 3
  · have e : Lx.other s.data.toList = false := by
      generalize s.data.toList = S at hlen ⊢
      match S, hlen with
      | [], _ => rfl
      | [_], _ => rfl
      | [_, _], _ => simp [Lx.other]
      | _ :: _ :: _ :: _, h => simp at h; omega
    rw [e]
    have h3' : (s.size : Int) < 3 := by omega
    clear hlen e
    go_enter Tryd.func63, Tryd.ntmps63
    go_wp2
    go_ret
    exact ⟨rfl, rfl⟩
  have h1 : 1 < s.size := by omega
  have h3' : ¬ (s.size : Int) < 3 := by omega
  have e0 := drop_at s (i := 0) (by omega)
  have e1 := drop_at s (i := 1) h1
  rw [List.drop_zero] at e0
  have hne : (s.data.toList.drop 2).isEmpty = false := by
    rw [List.isEmpty_eq_false_iff]
    intro h
    have := congrArg List.length h
    rw [List.length_drop] at this
    simp at this
    omega
  rw [show (0 : Nat) + 1 = 1 from rfl, e1, show (1 : Nat) + 1 = 2 from rfl] at e0
  rw [e0, Lx.other_eq, hne]
  clear e0 e1 hne hlen
  by_cases hx : s[1].toNat = 120 ∨ s[1].toNat = 98
  · obtain ⟨isb, hisb⟩ : ∃ b, decide (s[1].toNat = 98) = b := ⟨_, rfl⟩
    have hd : (decide (s[1].toNat = 120) || isb) = true := by rw [← hisb]; simpa using hx
    rw [hisb, hd]
    obtain ⟨P, HPd⟩ : ∃ P, P = fun c => Lx.hex c && (!isb || Lx.bit c) := ⟨_, rfl⟩
    have HPe : Hid (∀ c, P c = (Lx.hex c && (!isb || Lx.bit c))) := fun c => by rw [HPd]
    obtain ⟨X, HX⟩ : ∃ X, Hid ((s.data.toList.drop 2).all P = X) := ⟨_, rfl⟩
    rw [← HPd, HX.out]
    simp only [Bool.not_false, Bool.and_true, Bool.true_and]
    have a1 : ((s[1].toNat : Int) == 120) = !isb := by
      rw [← hisb]
      by_cases h : s[1].toNat = 98
      · rw [decide_eq_true h]; exact beq_eq_false_iff_ne.2 (by omega)
      · rw [decide_eq_false h]; exact beq_iff_eq.2 (by omega)
    have a2 : ((s[1].toNat : Int) == 98) = isb := by
      rw [← hisb]
      by_cases h : s[1].toNat = 98
      · rw [decide_eq_true h]; exact beq_iff_eq.2 (by omega)
      · rw [decide_eq_false h]; exact beq_eq_false_iff_ne.2 (by omega)
    clear hx hd hisb HPd
    cases isb
    all_goals
      simp only [Bool.not_false, Bool.not_true] at a1
      have a3 : ((s[1].toNat : Int) != 120) = !((s[1].toNat : Int) == 120) := rfl
      have a4 : ((s[1].toNat : Int) != 98) = !((s[1].toNat : Int) == 98) := rfl
      rw [a1] at a3
      rw [a2] at a4
      simp only [Bool.not_false, Bool.not_true] at a3 a4
      go_enter Tryd.func63, Tryd.ntmps63
      go_wp2
      go_loopw [3] (fun iv wr => ∃ i : Nat, 2 ≤ i ∧ i ≤ s.size ∧ iv = .int .i64 (i : Nat) ∧ wr = w ∧ Hid ((s.data.toList.drop i).all P = X)) (fun iv _ => s.size - (intOf iv).toNat)
      case atStart => exact ⟨2, by omega, by omega, rfl, rfl, HX⟩
      case round =>
        clear HX
        obtain ⟨i, h2i, hi, rfl, rfl, HI⟩ := hrel
        by_cases hlt : i < s.size
        · have HG := Lib.hid (rdigit s[i] wr)
          have HK := HI.out
          rw [drop_at s hlt, List.all_cons, HPe.out] at HK
          have hlt' : (i : Int) < (s.size : Int) := by omega
          clear HI
          rcases Lx.ways s[i] with ⟨w1, w2, w3, q⟩ | ⟨w1, w2, w3, q, q1⟩ | ⟨w1, w2, w3, q, q1⟩ | ⟨w1, w2, w3, q, q1, q2, q3⟩ | ⟨w1, w2, w3, q, q1, q2, q3, q4⟩ | ⟨w1, w2, w3, q, q1, q2, q3, q4, q5⟩ | ⟨w1, w2, w3, q, q1, q2, q3, q4⟩ | ⟨w1, w2, w3, q, q1, q2, q3⟩
          all_goals
            rw [w1] at HG
            rw [w2, w3] at HK
            clear w1 w2 w3
            simp only [Bool.not_false, Bool.not_true, Bool.or_true, Bool.or_false, Bool.and_true, Bool.and_false, Bool.true_and, Bool.false_and] at HK
            have HK := Lib.hid HK
            rename_i HKold
            clear HKold
            go_wp2_with (go_at_call 60; refine HG.out.mono ?_; rintro e w1 ⟨rfl, rfl⟩)
            first
            | (go_roundw
               case rel => exact ⟨i + 1, by omega, by omega, by go_num, by trivial, HK⟩
               case measure => simp [intOf]; omega)
            | (go_ret
               exact ⟨ret_b HK.out, by trivial⟩)
        · obtain rfl : i = s.size := by omega
          have hX : X = true := by have := HI.out; rw [drop_end] at this; exact this.symm
          subst hX
          clear HI
          go_wp2
          go_ret
          exact ⟨rfl, by trivial⟩
  · have a1 : ((s[1].toNat : Int) == 120) = false := beq_eq_false_iff_ne.2 (by omega)
    have a2 : ((s[1].toNat : Int) == 98) = false := beq_eq_false_iff_ne.2 (by omega)
    have e : (decide (s[1].toNat = 120) || decide (s[1].toNat = 98)) = false := by simpa using hx
    rw [e]
    simp only [Bool.false_and]
    have a3 : ((s[1].toNat : Int) != 120) = true := by rw [bne, a1]; rfl
    have a4 : ((s[1].toNat : Int) != 98) = true := by rw [bne, a2]; rfl
    clear e hx
    go_enter Tryd.func63, Tryd.ntmps63
    go_wp2
    go_ret
    exact ⟨rfl, rfl⟩
end Go.Proofs.YtpjdfogieiokkaaDoor
