/- The code: span, over any question of bytes; pass, digits, Simple. -/
import Derived.Test.YtpjdfogieiokkaaDoorK1
import Derived.Test.YtpjdfogieiokkaaDoorR3
import Derived.Shelf.Abstract
namespace Go.Proofs.YtpjdfogieiokkaaDoor
open Go.RowKit Go.Shelf

theorem takeWhile_at (p : UInt8 → Bool) (s : ByteArray) {i : Nat} (h : i < s.size) : (s.data.toList.drop i).takeWhile p = if p s[i] then s[i] :: (s.data.toList.drop (i + 1)).takeWhile p else [] := by
  rw [drop_at s h, List.takeWhile_cons]
theorem rune_c (c : UInt8) : wrap32 (c.toNat : Int) = (c.toNat : Int) := IntWalk.wrap32_in _ (by have := c.toNat_lt; omega)
/-- a function asks a question of bytes -/
def Asks (g : Nat) (p : UInt8 → Bool) : Prop := ∀ (c : UInt8) (W : World), Calls Tryd.prog g #[.int .i32 (c.toNat : Nat)] W fun e w' => e = .returned (.bool (p c)) ∧ w' = W

theorem kspan (g : Nat) (eg : ∀ args w, (callFunc g args).run Tryd.prog w = .ok (.enter g args) w) (p : UInt8 → Bool) (hp : Asks g p) (s : ByteArray) (w : World) (hs : s.size ≤ maxLen) :
    Calls Tryd.prog 45 #[.string s, .func (.func g) #[] #[]] w fun e w' => e = .returned (.int .i64 ((s.data.toList.takeWhile p).length : Nat)) ∧ w' = w := by
  unfold maxLen at hs
  obtain ⟨X, HX⟩ : ∃ X, Hid ((s.data.toList.takeWhile p).length = X) := ⟨_, rfl⟩
  rw [HX.out]
  have HP := Lib.hid hp
  clear hp
  go_enter Tryd.func45, Tryd.ntmps45
  go_wp2
  go_loopw [8] (fun iv wr => ∃ i : Nat, i ≤ s.size ∧ iv = .int .i64 (i : Nat) ∧ wr = w ∧ Hid (i + ((s.data.toList.drop i).takeWhile p).length = X)) (fun iv _ => s.size - (intOf iv).toNat)
  case atStart => exact ⟨0, Nat.zero_le _, rfl, rfl, Lib.hid (by rw [← HX.out, List.drop_zero, Nat.zero_add])⟩
  case round =>
    clear HX
    obtain ⟨i, hi, rfl, rfl, HI⟩ := hrel
    by_cases hlt : i < s.size
    · have HC := Lib.hid (HP.out s[i] wr)
      have hw := rune_c s[i]
      have hK := HI.out
      rw [takeWhile_at p s hlt] at hK
      obtain ⟨b, hb⟩ : ∃ b, p s[i] = b := ⟨_, rfl⟩
      rw [hb] at HC hK
      have hlt' : (i : Int) < (s.size : Int) := by omega
      clear HI hb HP
      cases b with
      | false =>
        obtain rfl : i = X := by simpa using hK
        clear hK
        go_wp2_with (go_at_fn g; refine HC.out.mono ?_; rintro e w1 ⟨rfl, rfl⟩)
        go_ret
        exact ⟨rfl, by trivial⟩
      | true =>
        have HK : Hid (i + 1 + ((s.data.toList.drop (i + 1)).takeWhile p).length = X) := Lib.hid (by rw [← hK, if_pos rfl, List.length_cons]; omega)
        clear hK
        go_wp2_with (go_at_fn g; refine HC.out.mono ?_; rintro e w1 ⟨rfl, rfl⟩)
        go_roundw
        case rel => exact ⟨i + 1, by omega, by go_num, by trivial, HK⟩
        case measure => simp [intOf]; omega
    · obtain rfl : i = s.size := by omega
      obtain rfl : s.size = X := by have := HI.out; rw [drop_end] at this; simpa using this
      clear HI HP
      go_wp2
      go_ret
      exact ⟨rfl, by trivial⟩

/-! the questions -/
theorem enter_blank : ∀ args w, (callFunc 46 args).run Tryd.prog w = .ok (.enter 46 args) w := enters_of Tryd.func46 (by kernel_rfl) rfl
theorem enter_named : ∀ args w, (callFunc 55 args).run Tryd.prog w = .ok (.enter 55 args) w := enters_of Tryd.func55 (by kernel_rfl) rfl
theorem enter_digit : ∀ args w, (callFunc 53 args).run Tryd.prog w = .ok (.enter 53 args) w := enters_of Tryd.func53 (by kernel_rfl) rfl
theorem enter_hex : ∀ args w, (callFunc 81 args).run Tryd.prog w = .ok (.enter 81 args) w := enters_of Tryd.func81 (by kernel_rfl) rfl
theorem enter_bit : ∀ args w, (callFunc 82 args).run Tryd.prog w = .ok (.enter 82 args) w := enters_of Tryd.func82 (by kernel_rfl) rfl
theorem enter_clos1 : ∀ args w, (callFunc 47 args).run Tryd.prog w = .ok (.enter 47 args) w := enters_of Tryd.func47 (by kernel_rfl) rfl
theorem enter_clos2 : ∀ args w, (callFunc 69 args).run Tryd.prog w = .ok (.enter 69 args) w := enters_of Tryd.func69 (by kernel_rfl) rfl
theorem enter_clos3 : ∀ args w, (callFunc 71 args).run Tryd.prog w = .ok (.enter 71 args) w := enters_of Tryd.func71 (by kernel_rfl) rfl

theorem take_len (p : UInt8 → Bool) (s : ByteArray) (a : Nat) (ha : a ≤ s.size) : a + ((s.data.toList.drop a).takeWhile p).length ≤ s.size ∧ s.data.toList.drop (a + ((s.data.toList.drop a).takeWhile p).length) = (s.data.toList.drop a).dropWhile p := by
  have h := Lx.take_drop p (s.data.toList.drop a)
  have hl := congrArg List.length h
  have hsz : s.data.toList.length = s.size := by rw [Array.length_toList]; rfl
  rw [List.length_append, List.length_drop, hsz] at hl
  refine ⟨by omega, ?_⟩
  rw [← List.drop_drop]
  have := congrArg (List.drop ((s.data.toList.drop a).takeWhile p).length) h
  rw [List.drop_left] at this
  exact this.symm
/-- span of what stands from a place on: one number, which every world answers -/
theorem span_k (g : Nat) (eg : ∀ args w, (callFunc g args).run Tryd.prog w = .ok (.enter g args) w) (p : UInt8 → Bool) (hp : Asks g p) (s : ByteArray) (a b : Nat) (hs : s.size ≤ maxLen) (hb : b ≤ s.size) (ha : a ≤ b) :
    ∃ k : Nat, k = (((s.data.toList.drop a).take (b - a)).takeWhile p).length ∧ a + k ≤ b ∧ ∀ w, Calls Tryd.prog 45 #[.string (s.extract a b), .func (.func g) #[] #[]] w fun e w' => e = .returned (.int .i64 (k : Nat)) ∧ w' = w := by
  obtain ⟨c1, c2⟩ := cut_bytes s a b hb ha
  refine ⟨_, rfl, ?_, fun w => ?_⟩
  · have h := congrArg List.length (Lx.take_drop p ((s.data.toList.drop a).take (b - a)))
    have hsz : s.data.toList.length = s.size := by rw [Array.length_toList]; rfl
    rw [List.length_append, List.length_take, List.length_drop, hsz] at h
    omega
  · have := kspan g eg p hp (s.extract a b) w (by unfold maxLen at hs ⊢; omega)
    rw [c1] at this
    exact this
/-- .. up to the end -/
theorem span_end (g : Nat) (eg : ∀ args w, (callFunc g args).run Tryd.prog w = .ok (.enter g args) w) (p : UInt8 → Bool) (hp : Asks g p) (s : ByteArray) (a : Nat) (hs : s.size ≤ maxLen) (ha : a ≤ s.size) :
    ∃ k : Nat, k = ((s.data.toList.drop a).takeWhile p).length ∧ a + k ≤ s.size ∧ s.data.toList.drop (a + k) = (s.data.toList.drop a).dropWhile p ∧ ∀ w, Calls Tryd.prog 45 #[.string (s.extract a s.size), .func (.func g) #[] #[]] w fun e w' => e = .returned (.int .i64 (k : Nat)) ∧ w' = w := by
  obtain ⟨k, hk, _, hc⟩ := span_k g eg p hp s a s.size hs (Nat.le_refl _) ha
  have hsz : s.data.toList.length = s.size := by rw [Array.length_toList]; rfl
  rw [List.take_of_length_le (by rw [List.length_drop, hsz]; exact Nat.le_refl _)] at hk
  obtain ⟨t1, t2⟩ := take_len p s a ha
  rw [← hk] at t1 t2
  exact ⟨k, hk, t1, t2, hc⟩

/-! pass -/
theorem Lx.skip_blanks : ∀ l : List UInt8, Lx.skip false l = Lx.skip false (l.dropWhile Lx.blank)
  | [] => rfl
  | c :: t => by
    rw [List.dropWhile_cons]
    split
    · rename_i h
      rw [Lx.skip_blank t h]
      exact Lx.skip_blanks t
    · rfl
abbrev Lx.remark (c : UInt8) : Bool := !decide (c.toNat = 10) && Lx.good c
theorem Lx.skip_remarks : ∀ l : List UInt8, Lx.skip true l = Lx.skip false (l.dropWhile Lx.remark)
  | [] => rfl
  | c :: t => by
    rw [List.dropWhile_cons]
    by_cases h10 : c.toNat = 10
    · obtain rfl : c = 10 := Lx.byte_eq h10
      rw [if_neg (by decide), Lx.skip_cons, Lx.skip_cons]
      have e1 : Lx.good 10 = true := by decide
      have e2 : Lx.blank 10 = true := by decide
      have e3 : (10 : UInt8).toNat = 10 := by decide
      simp [e1, e2, e3]
    · by_cases hg : Lx.good c = true
      · have hr : Lx.remark c = true := by simp [Lx.remark, h10, hg]
        rw [if_pos hr, ← Lx.skip_remarks t, Lx.skip_cons, if_pos hg]
        simp [h10]
      · have hr : ¬ Lx.remark c = true := by simp [Lx.remark, hg]
        rw [if_neg hr, Lx.skip_cons, if_neg hg, Lx.skip_cons, if_neg hg]
theorem Lx.skip_semi (t : List UInt8) : Lx.skip false (59 :: t) = Lx.skip false ((59 :: t).dropWhile Lx.remark) := by
  rw [← Lx.skip_remarks, Lx.skip_cons, Lx.skip_cons]
  have e1 : Lx.good 59 = true := by decide
  have e3 : (59 : UInt8).toNat = 59 := by decide
  simp [e1, e3]
theorem Lx.skip_stays {c : UInt8} (t : List UInt8) (h1 : Lx.blank c = false) (h2 : c.toNat ≠ 59) : Lx.skip false (c :: t) = c :: t := by
  rw [Lx.skip_cons]
  split
  · rw [if_pos (by simp [h1, h2])]
  · rfl
theorem dropWhile_stops (p : UInt8 → Bool) : ∀ (l : List UInt8) {c : UInt8} {t : List UInt8}, l.dropWhile p = c :: t → p c = false
  | [], _, _, h => by cases h
  | d :: l, c, t, h => by
    rw [List.dropWhile_cons] at h
    split at h
    · exact dropWhile_stops p l h
    · rename_i hd
      injection h with h1 h2
      rw [← h1]
      exact Bool.eq_false_iff.2 hd

theorem kpass (s : ByteArray) (a : Nat) (w : World) (hs : s.size ≤ maxLen) (ha : a ≤ s.size) :
    Calls Tryd.prog 33 #[.string s, .int .i64 (a : Nat)] w fun e w' => ∃ k : Nat, e = .returned (.int .i64 (k : Nat)) ∧ w' = w ∧ a ≤ k ∧ k ≤ s.size ∧ s.data.toList.drop k = Lx.skip false (s.data.toList.drop a) := by
  have hs0 := hs
  unfold maxLen at hs
  obtain ⟨X, HX⟩ : ∃ X, Hid (Lx.skip false (s.data.toList.drop a) = X) := ⟨_, rfl⟩
  rw [HX.out]
  go_enter Tryd.func33, Tryd.ntmps33
  go_wp2
  go_loopw [1] (fun iv wr => ∃ i : Nat, i ≤ s.size ∧ iv = .int .i64 (i : Nat) ∧ wr = w ∧ Hid (a ≤ i ∧ Lx.skip false (s.data.toList.drop i) = X)) (fun iv _ => s.size - (intOf iv).toNat)
  case atStart => exact ⟨a, ha, rfl, rfl, ⟨Nat.le_refl _, HX.out⟩⟩
  case round =>
    clear HX ha
    obtain ⟨i, hi, rfl, rfl, HI⟩ := hrel
    obtain ⟨k, hk, hk1, hk2, HC⟩ := span_end _ enter_blank _ kblank s i hs0 hi
    have hf := slice_from s i hi
    have hX := HI.out.2
    rw [Lx.skip_blanks, ← hk2] at hX
    replace HC := Lib.hid HC
    have hai := HI.out.1
    clear HI
    by_cases he : i + k = s.size
    · have HE : Hid (a ≤ i + k ∧ s.data.toList.drop (i + k) = X) := ⟨by omega, by rw [← hX, he, drop_end]; rfl⟩
      have hb : ((i : Int) + (k : Int) == (s.size : Int)) = true := beq_iff_eq.2 (by omega)
      clear hX hk hk2 hai
      go_wp2_with (go_at_call 45; refine (HC.out _).mono ?_; rintro e w1 ⟨rfl, rfl⟩)
      go_ret
      exact ⟨i + k, by go_num, by trivial, HE.out.1, hk1, HE.out.2⟩
    · have hlt : i + k < s.size := by omega
      obtain ⟨j, hj⟩ : ∃ j, i + k = j := ⟨_, rfl⟩
      rw [hj] at hX hk1 hk2 hlt
      have hji : (i : Int) + (k : Int) = (j : Int) := by omega
      have hb : ((j : Int) == (s.size : Int)) = false := beq_eq_false_iff_ne.2 (by omega)
      have hlt' : (j : Int) < (s.size : Int) := by omega
      have hbl : Lx.blank s[j] = false := dropWhile_stops _ _ (hk2.symm.trans (drop_at s hlt))
      by_cases h59 : s[j].toNat = 59
      · obtain ⟨m, hm, hm1, hm2, HD⟩ := span_end _ enter_clos1 _ kclos1 s j hs0 (by omega)
        have hf2 := slice_from s j (by omega)
        replace HD := Lib.hid HD
        have b1 : ((s[j].toNat : Int) != 59) = false := by rw [bne, beq_iff_eq.2 (by omega : (s[j].toNat : Int) = 59)]; rfl
        have hmp : 0 < m := by
          rw [hm, takeWhile_at _ s hlt, if_pos (by rw [Lx.byte_eq h59]; decide)]
          simp
        have HE : Hid (a ≤ j + m ∧ Lx.skip false (s.data.toList.drop (j + m)) = X) := ⟨by omega, by
          rw [hm2, ← hX, drop_at s hlt, Lx.byte_eq h59]
          exact (Lx.skip_semi _).symm⟩
        clear hX hk hk2 hai hm hm2 h59 hbl
        go_wp2_with (first
          | (go_at_call 45; (with_reducible refine (HC.out _).mono ?_); rintro e w1 ⟨rfl, rfl⟩)
          | (go_at_call 45; (with_reducible refine (HD.out _).mono ?_); rintro e w1 ⟨rfl, rfl⟩))
        go_roundw
        case rel => exact ⟨j + m, by omega, by go_num, by trivial, HE⟩
        case measure => simp [intOf]; omega
      · have b1 : ((s[j].toNat : Int) != 59) = true := by rw [bne_iff_ne]; omega
        have HE : Hid (a ≤ j ∧ s.data.toList.drop j = X) := ⟨by omega, by rw [← hX, drop_at s hlt, Lx.skip_stays _ hbl h59]⟩
        clear hX hk hk2 hai h59 hbl
        go_wp2_with (go_at_call 45; refine (HC.out _).mono ?_; rintro e w1 ⟨rfl, rfl⟩)
        go_ret
        exact ⟨j, by go_num, by trivial, HE.out.1, by omega, HE.out.2⟩
end Go.Proofs.YtpjdfogieiokkaaDoor
