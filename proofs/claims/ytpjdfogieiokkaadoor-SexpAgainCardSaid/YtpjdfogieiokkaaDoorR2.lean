/- The reference of scripts: start, names, digits, Simple. -/
import Derived.Test.YtpjdfogieiokkaaDoorR1
namespace Go.Proofs.YtpjdfogieiokkaaDoor
open Go.RowKit

theorem drop_at (s : ByteArray) {i : Nat} (h : i < s.size) : s.data.toList.drop i = s[i] :: s.data.toList.drop (i + 1) := by
  have h' : i < s.data.toList.length := by rw [Array.length_toList]; exact h
  rw [List.drop_eq_getElem_cons h']
  congr 1
theorem drop_end (s : ByteArray) : s.data.toList.drop s.size = [] := by
  apply List.drop_eq_nil_of_le
  rw [Array.length_toList]
  exact Nat.le_refl _

theorem rstart (s : ByteArray) (a : Nat) (w : World) (hs : s.size ≤ maxLen) (ha : a ≤ s.size) :
    Calls Tryd.prog 36 #[.string s, .int .i64 (a : Nat)] w fun e w' => ∃ k : Nat, e = .returned (.int .i64 (k : Nat)) ∧ w' = w ∧ a ≤ k ∧ k ≤ s.size ∧ s.data.toList.drop k = Lx.skip false (s.data.toList.drop a) := by
  unfold maxLen at hs
  obtain ⟨X, HX⟩ : ∃ X, Hid (Lx.skip false (s.data.toList.drop a) = X) := ⟨_, rfl⟩
  rw [HX.out]
  go_enter Tryd.func36, Tryd.ntmps36
  go_wp2
  go_loopw [1, 5] (fun iv rv wr => ∃ (i : Nat) (r : Bool), i ≤ s.size ∧ iv = .int .i64 (i : Nat) ∧ rv = .bool r ∧ wr = w ∧ Hid (a ≤ i ∧ Lx.skip r (s.data.toList.drop i) = X)) (fun iv _ _ => s.size - (intOf iv).toNat)
  case atStart => exact ⟨a, false, ha, rfl, rfl, rfl, ⟨Nat.le_refl _, HX.out⟩⟩
  case round =>
    clear HX ha
    obtain ⟨i, r, hi, rfl, rfl, rfl, HI⟩ := hrel
    by_cases hlt : i < s.size
    · have HD := Lib.hid (drop_at s hlt)
      have HG := Lib.hid (rgood s[i] wr)
      have HB := Lib.hid (rblank s[i] wr)
      obtain ⟨g, hg'⟩ : ∃ g, Lx.good s[i] = g := ⟨_, rfl⟩
      obtain ⟨b, hb'⟩ : ∃ b, Lx.blank s[i] = b := ⟨_, rfl⟩
      have hg := Lib.hid hg'
      have hb := Lib.hid hb'
      clear hg' hb'
      have HK := Lib.hid (Lx.skip_cons r s[i] (s.data.toList.drop (i + 1)))
      rw [hg.out, hb.out, ← HD.out, HI.out.2] at HK
      rw [hg.out] at HG
      rw [hb.out] at HB
      have hlt' : (i : Int) < (s.size : Int) := by omega
      cases g with
      | false =>
        have hk : s.data.toList.drop i = X := HK.out.symm
        have HE : Hid (a ≤ i ∧ s.data.toList.drop i = X) := ⟨HI.out.1, hk⟩
        clear HK HD HB HI hk hg hb
        go_wp2_with (go_at_call 37; refine HG.out.mono ?_; rintro e w1 ⟨rfl, rfl⟩)
        go_ret
        exact ⟨i, rfl, by trivial, HE.out.1, hi, HE.out.2⟩
      | true =>
        by_cases h59 : s[i].toNat = 59
        · have e1 : ((s[i].toNat : Int) == 10) = false := beq_eq_false_iff_ne.2 (by omega)
          have e2 : ((s[i].toNat : Int) == 59) = true := beq_iff_eq.2 (by omega)
          have hk : Lx.skip true (s.data.toList.drop (i + 1)) = X := by
            have := HK.out
            simp [h59] at this
            exact this.symm
          have HE : Hid (a ≤ i + 1 ∧ Lx.skip true (s.data.toList.drop (i + 1)) = X) := ⟨by have := HI.out.1; omega, hk⟩
          clear HK HD HB HI hk hg hb h59
          go_wp2_with (go_at_call 37; refine HG.out.mono ?_; rintro e w1 ⟨rfl, rfl⟩)
          go_roundw
          case rel => exact ⟨i + 1, true, by omega, by go_num, rfl, by trivial, HE⟩
          case measure => simp [intOf]; omega
        have e2 : ((s[i].toNat : Int) == 59) = false := beq_eq_false_iff_ne.2 (by omega)
        by_cases h10 : s[i].toNat = 10
        · have e1 : ((s[i].toNat : Int) == 10) = true := beq_iff_eq.2 (by omega)
          have hb2 : b = true := by rw [← hb.out, Lx.blank, h10]; rfl
          subst hb2
          have hk : Lx.skip false (s.data.toList.drop (i + 1)) = X := by
            have := HK.out
            simp [h10] at this
            exact this.symm
          have HE : Hid (a ≤ i + 1 ∧ Lx.skip false (s.data.toList.drop (i + 1)) = X) := ⟨by have := HI.out.1; omega, hk⟩
          clear HK HD HI hk hg hb h59 h10
          go_wp2_with (first | (go_at_call 37; refine HG.out.mono ?_; rintro e w1 ⟨rfl, rfl⟩) | (go_at_call 57; refine HB.out.mono ?_; rintro e w1 ⟨rfl, rfl⟩))
          go_roundw
          case rel => exact ⟨i + 1, false, by omega, by go_num, rfl, by trivial, HE⟩
          case measure => simp [intOf]; omega
        have e1 : ((s[i].toNat : Int) == 10) = false := beq_eq_false_iff_ne.2 (by omega)
        by_cases hrb : r = false ∧ b = false
        · obtain ⟨rfl, rfl⟩ := hrb
          have hk : s.data.toList.drop i = X := by
            have := HK.out
            simp [h59] at this
            exact this.symm
          have HE : Hid (a ≤ i ∧ s.data.toList.drop i = X) := ⟨HI.out.1, hk⟩
          clear HK HD HI hk hg hb h59 h10
          go_wp2_with (first | (go_at_call 37; refine HG.out.mono ?_; rintro e w1 ⟨rfl, rfl⟩) | (go_at_call 57; refine HB.out.mono ?_; rintro e w1 ⟨rfl, rfl⟩))
          go_ret
          exact ⟨i, rfl, by trivial, HE.out.1, hi, HE.out.2⟩
        · have hk : Lx.skip r (s.data.toList.drop (i + 1)) = X := by
            have := HK.out
            cases r <;> cases b <;> simp [h59, h10] at this hrb <;> exact this.symm
          have HE : Hid (a ≤ i + 1 ∧ Lx.skip r (s.data.toList.drop (i + 1)) = X) := ⟨by have := HI.out.1; omega, hk⟩
          clear HK HD HI hk hg hb h59 h10
          have hrb2 : r = true ∨ r = false ∧ b = true := by cases r <;> cases b <;> simp at hrb ⊢
          clear hrb
          rcases hrb2 with rfl | ⟨rfl, rfl⟩
          all_goals
            go_wp2_with (first | (go_at_call 37; refine HG.out.mono ?_; rintro e w1 ⟨rfl, rfl⟩) | (go_at_call 57; refine HB.out.mono ?_; rintro e w1 ⟨rfl, rfl⟩))
            go_roundw
            case rel => exact ⟨i + 1, _, by omega, by go_num, rfl, by trivial, HE⟩
            case measure => simp [intOf]; omega
    · obtain rfl : i = s.size := by omega
      have HE : Hid (a ≤ s.size ∧ s.data.toList.drop s.size = X) := ⟨HI.out.1, by have := HI.out.2; rw [drop_end] at this ⊢; exact this⟩
      clear HI
      go_wp2
      go_ret
      exact ⟨s.size, rfl, by trivial, HE.out.1, Nat.le_refl _, HE.out.2⟩

theorem drop_cons_if (p : UInt8 → Bool) (c : UInt8) (t : List UInt8) : (c :: t).dropWhile p = if p c = true then t.dropWhile p else c :: t := by rw [List.dropWhile_cons]
theorem rnames (s : ByteArray) (a : Nat) (w : World) (hs : s.size ≤ maxLen) (ha : a ≤ s.size) :
    Calls Tryd.prog 58 #[.string s, .int .i64 (a : Nat)] w fun e w' => ∃ k : Nat, e = .returned (.int .i64 (k : Nat)) ∧ w' = w ∧ a ≤ k ∧ k ≤ s.size ∧ s.data.toList.drop k = (s.data.toList.drop a).dropWhile Lx.name := by
  unfold maxLen at hs
  obtain ⟨X, HX⟩ : ∃ X, Hid ((s.data.toList.drop a).dropWhile Lx.name = X) := ⟨_, rfl⟩
  rw [HX.out]
  go_enter Tryd.func58, Tryd.ntmps58
  go_wp2
  go_loopw [1] (fun iv wr => ∃ i : Nat, i ≤ s.size ∧ iv = .int .i64 (i : Nat) ∧ wr = w ∧ Hid (a ≤ i ∧ (s.data.toList.drop i).dropWhile Lx.name = X)) (fun iv _ => s.size - (intOf iv).toNat)
  case atStart => exact ⟨a, ha, rfl, rfl, ⟨Nat.le_refl _, HX.out⟩⟩
  case round =>
    clear HX ha
    obtain ⟨i, hi, rfl, rfl, HI⟩ := hrel
    by_cases hlt : i < s.size
    · have HD := Lib.hid (drop_at s hlt)
      have HG := Lib.hid (rname s[i] wr)
      obtain ⟨g, hg'⟩ : ∃ g, Lx.name s[i] = g := ⟨_, rfl⟩
      have HK := drop_cons_if Lx.name s[i] (s.data.toList.drop (i + 1))
      rw [hg', ← HD.out, HI.out.2] at HK
      rw [hg'] at HG
      have hlt' : (i : Int) < (s.size : Int) := by omega
      cases g with
      | false =>
        have HE : Hid (a ≤ i ∧ s.data.toList.drop i = X) := ⟨HI.out.1, by simpa using HK.symm⟩
        clear HK HD HI hg'
        go_wp2_with (go_at_call 62; refine HG.out.mono ?_; rintro e w1 ⟨rfl, rfl⟩)
        go_ret
        exact ⟨i, rfl, by trivial, HE.out.1, hi, HE.out.2⟩
      | true =>
        have HE : Hid (a ≤ i + 1 ∧ (s.data.toList.drop (i + 1)).dropWhile Lx.name = X) := ⟨by have := HI.out.1; omega, by simpa using HK.symm⟩
        clear HK HD HI hg'
        go_wp2_with (go_at_call 62; refine HG.out.mono ?_; rintro e w1 ⟨rfl, rfl⟩)
        go_roundw
        case rel => exact ⟨i + 1, by omega, by go_num, by trivial, HE⟩
        case measure => simp [intOf]; omega
    · obtain rfl : i = s.size := by omega
      have HE : Hid (a ≤ s.size ∧ s.data.toList.drop s.size = X) := ⟨HI.out.1, by have := HI.out.2; rw [drop_end] at this ⊢; exact this⟩
      clear HI
      go_wp2
      go_ret
      exact ⟨s.size, rfl, by trivial, HE.out.1, Nat.le_refl _, HE.out.2⟩

theorem nil_bytes {s : ByteArray} (h : s.size = 0) : s.data.toList = [] ∧ s.toList = [] := by
  have e : s.data.toList = [] := List.eq_nil_of_length_eq_zero (by rw [Array.length_toList]; exact h)
  exact ⟨e, by rw [ByteArray.toList_eq, e]⟩
theorem some_bytes {s : ByteArray} (h : 0 < s.size) : s.data.toList.isEmpty = false ∧ s.toList.isEmpty = false ∧ (s.toList == []) = false := by
  have e : s.data.toList.isEmpty = false := by
    cases hl : s.data.toList with
    | nil =>
      have : s.data.toList.length = 0 := by rw [hl]; rfl
      rw [Array.length_toList] at this
      exact absurd h (by show ¬ 0 < s.data.size; omega)
    | cons _ _ => rfl
  refine ⟨e, by rw [ByteArray.toList_eq]; exact e, ?_⟩
  rw [ByteArray.toList_eq]
  cases hl : s.data.toList with
  | nil => rw [hl] at e; cases e
  | cons _ _ => rfl
theorem rdigits (s : ByteArray) (w : World) (hs : s.size ≤ maxLen) :
    Calls Tryd.prog 75 #[.string s] w fun e w' => e = .returned (.bool (Lx.digits s.data.toList)) ∧ w' = w := by
  unfold maxLen at hs
  by_cases h0 : s.size = 0
  · obtain ⟨e1, e2⟩ := nil_bytes h0
    rw [e1]
    clear e1
    show Calls _ _ _ _ fun e w' => e = .returned (.bool false) ∧ w' = w
    go_enter Tryd.func75, Tryd.ntmps75
    go_wp2
    go_loopw [3] (fun iv wr => iv = .int .i64 0 ∧ wr = w) (fun _ _ => 0)
    case atStart => exact ⟨rfl, rfl⟩
    case round =>
      obtain ⟨rfl, rfl⟩ := hrel
      go_wp2
      go_ret
      exact ⟨rfl, by trivial⟩
  obtain ⟨f1, f2, f3⟩ := some_bytes (s := s) (by omega)
  obtain ⟨X, HX⟩ : ∃ X, Hid (Lx.digits s.data.toList = X) := ⟨_, rfl⟩
  have HX2 : Hid ((s.data.toList.drop 0).all Lx.digit = X) := by
    show _ = _
    rw [← HX.out, Lx.digits, f1, List.drop_zero]
    rfl
  rw [HX.out]
  clear f1 HX
  go_enter Tryd.func75, Tryd.ntmps75
  go_wp2
  go_loopw [3] (fun iv wr => ∃ i : Nat, i ≤ s.size ∧ iv = .int .i64 (i : Nat) ∧ wr = w ∧ Hid ((s.data.toList.drop i).all Lx.digit = X)) (fun iv _ => s.size - (intOf iv).toNat)
  case atStart => exact ⟨0, by omega, rfl, rfl, HX2⟩
  case round =>
    clear HX2
    obtain ⟨i, hi, rfl, rfl, HI⟩ := hrel
    by_cases hlt : i < s.size
    · have HG := Lib.hid (rdigit s[i] wr)
      obtain ⟨g, hg'⟩ : ∃ g, Lx.digit s[i] = g := ⟨_, rfl⟩
      have HK := HI.out
      rw [drop_at s hlt, List.all_cons, hg'] at HK
      rw [hg'] at HG
      have hlt' : (i : Int) < (s.size : Int) := by omega
      cases g with
      | false =>
        obtain rfl : X = false := by simpa using HK.symm
        clear HK HI hg'
        go_wp2_with (go_at_call 60; refine HG.out.mono ?_; rintro e w1 ⟨rfl, rfl⟩)
        go_ret
        exact ⟨rfl, by trivial⟩
      | true =>
        have HE : Hid ((s.data.toList.drop (i + 1)).all Lx.digit = X) := Lib.hid (by simpa using HK)
        clear HK HI hg'
        go_wp2_with (go_at_call 60; refine HG.out.mono ?_; rintro e w1 ⟨rfl, rfl⟩)
        go_roundw
        case rel => exact ⟨i + 1, by omega, by go_num, by trivial, HE⟩
        case measure => simp [intOf]; omega
    · obtain rfl : i = s.size := by omega
      obtain rfl : X = true := by have := HI.out; rw [drop_end] at this; exact this.symm
      clear HI
      go_wp2
      go_ret
      exact ⟨rfl, by trivial⟩

theorem rsimple (s : ByteArray) (w : World) (hs : s.size ≤ maxLen) :
    Calls Tryd.prog 66 #[.string s] w fun e w' => e = .returned (.bool (Lx.simple s.data.toList)) ∧ w' = w := by
  unfold maxLen at hs
  by_cases h0 : s.size = 0
  · obtain ⟨e1, e2⟩ := nil_bytes h0
    rw [e1]
    clear e1
    show Calls _ _ _ _ fun e w' => e = .returned (.bool false) ∧ w' = w
    go_enter Tryd.func66, Tryd.ntmps66
    go_wp2
    go_ret
    exact ⟨rfl, rfl⟩
  have hpos : 0 < s.size := by omega
  obtain ⟨f1, f2, f3⟩ := some_bytes hpos
  have HG0 := Lib.hid (rdigit s[0] w)
  obtain ⟨g0, hg0⟩ : ∃ g, Lx.digit s[0] = g := ⟨_, rfl⟩
  rw [hg0] at HG0
  obtain ⟨X, HX⟩ : ∃ X, Hid (Lx.simple s.data.toList = X) := ⟨_, rfl⟩
  have HX2 : Hid ((!g0 && (s.data.toList.drop 0).all Lx.name) = X) := by
    show _ = _
    rw [← HX.out, Lx.simple, f1, List.drop_zero, ← hg0]
    have := drop_at s hpos
    rw [List.drop_zero] at this
    rw [this]
    rfl
  rw [HX.out]
  clear f1 HX hg0
  cases g0 with
  | true =>
    obtain rfl : X = false := by simpa using HX2.out.symm
    clear HX2
    go_enter Tryd.func66, Tryd.ntmps66
    go_wp2_with (go_at_call 60; refine HG0.out.mono ?_; rintro e w1 ⟨rfl, rfl⟩)
    go_ret
    exact ⟨rfl, rfl⟩
  | false =>
    have HX3 : Hid ((s.data.toList.drop 0).all Lx.name = X) := Lib.hid (by simpa using HX2.out)
    clear HX2
    go_enter Tryd.func66, Tryd.ntmps66
    go_wp2_with (go_at_call 60; refine HG0.out.mono ?_; rintro e w1 ⟨rfl, rfl⟩)
    go_loopw [3] (fun iv wr => ∃ i : Nat, i ≤ s.size ∧ iv = .int .i64 (i : Nat) ∧ wr = w1 ∧ Hid ((s.data.toList.drop i).all Lx.name = X)) (fun iv _ => s.size - (intOf iv).toNat)
    case atStart => exact ⟨0, by omega, rfl, rfl, HX3⟩
    case round =>
      clear HX3 HG0
      obtain ⟨i, hi, rfl, rfl, HI⟩ := hrel
      by_cases hlt : i < s.size
      · have HG := Lib.hid (rname s[i] wr)
        obtain ⟨g, hg'⟩ : ∃ g, Lx.name s[i] = g := ⟨_, rfl⟩
        have HK := HI.out
        rw [drop_at s hlt, List.all_cons, hg'] at HK
        rw [hg'] at HG
        have hlt' : (i : Int) < (s.size : Int) := by omega
        cases g with
        | false =>
          obtain rfl : X = false := by simpa using HK.symm
          clear HK HI hg'
          go_wp2_with (go_at_call 62; refine HG.out.mono ?_; rintro e w1 ⟨rfl, rfl⟩)
          go_ret
          exact ⟨rfl, by trivial⟩
        | true =>
          have HE : Hid ((s.data.toList.drop (i + 1)).all Lx.name = X) := Lib.hid (by simpa using HK)
          clear HK HI hg'
          go_wp2_with (go_at_call 62; refine HG.out.mono ?_; rintro e w1 ⟨rfl, rfl⟩)
          go_roundw
          case rel => exact ⟨i + 1, by omega, by go_num, by trivial, HE⟩
          case measure => simp [intOf]; omega
      · obtain rfl : i = s.size := by omega
        obtain rfl : X = true := by have := HI.out; rw [drop_end] at this; exact this.symm
        clear HI
        go_wp2
        go_ret
        exact ⟨rfl, by trivial⟩
end Go.Proofs.YtpjdfogieiokkaaDoor
