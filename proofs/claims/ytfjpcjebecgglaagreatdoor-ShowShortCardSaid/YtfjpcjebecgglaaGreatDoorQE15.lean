/- What the proofs of this claim use, text by text. -/
import Derived.Test.YtfjpcjebecgglaaGreatDoorQE12
import Derived.Shelf.Abstract
set_option linter.unusedSimpArgs false
set_option linter.unusedVariables false
set_option maxRecDepth 100000
set_option maxHeartbeats 25600000
namespace Go.Proofs.YtfjpcjebecgglaaGreatDoor
open Go.RowKit Go.Shelf
theorem takeWhile_at (p : UInt8 → Bool) (s : ByteArray) {i : Nat} (h : i < s.size) : (s.data.toList.drop i).takeWhile p = if p s[i] then s[i] :: (s.data.toList.drop (i + 1)).takeWhile p else [] := by
  rw [drop_at s h, List.takeWhile_cons]
theorem rune_c (c : UInt8) : wrap32 (c.toNat : Int) = (c.toNat : Int) := IntWalk.wrap32_in _ (by have := c.toNat_lt; omega)
def Asks (g : Nat) (p : UInt8 → Bool) : Prop := ∀ (c : UInt8) (W : World), Calls Tryz.prog g #[.int .i32 (c.toNat : Nat)] W fun e w' => e = .returned (.bool (p c)) ∧ w' = W
theorem kspan (g : Nat) (eg : ∀ args w, (callFunc g args).run Tryz.prog w = .ok (.enter g args) w) (p : UInt8 → Bool) (hp : Asks g p) (s : ByteArray) (w : World) (hs : s.size ≤ maxLen) :
    Calls Tryz.prog 158 #[.string s, .func (.func g) #[] #[]] w fun e w' => e = .returned (.int .i64 ((s.data.toList.takeWhile p).length : Nat)) ∧ w' = w := by
  unfold maxLen at hs
  obtain ⟨X, HX⟩ : ∃ X, Hid ((s.data.toList.takeWhile p).length = X) := ⟨_, rfl⟩
  rw [HX.out]
  have HP := Lib.hid hp
  clear hp
  go_enter Tryz.func158, Tryz.ntmps158
  go_wp2
  go_loopw [8] (fun iv wr => ∃ i : Nat, i ≤ s.size ∧ iv = .int .i64 (i : Nat) ∧ wr = w ∧ Hid (i + ((s.data.toList.drop i).takeWhile p).length = X)) (fun iv _ => s.size - (intOf iv).toNat)
  case atStart => exact ⟨0, Nat.zero_le _, rfl, rfl, Lib.hid (by rw [← HX.out, List.drop_zero, Nat.zero_add])⟩
  case round =>
    clear HX
    obtain ⟨i, hi, rfl, rfl, HI⟩ := hrel
    by_cases hlt : i < s.size
    · have HC := Lib.hid (HP.out s[i] wr)
      have hw := rune_c s[i]
      have hK := HI.out
      rw [takeWhile_at p s hlt] at hK
      obtain ⟨b, hb⟩ : ∃ b, p s[i] = b := ⟨_, rfl⟩
      rw [hb] at HC hK
      have hlt' : (i : Int) < (s.size : Int) := by omega
      clear HI hb HP
      cases b with
      | false =>
        obtain rfl : i = X := by simpa using hK
        clear hK
        go_wp2_with (go_at_fn g; refine HC.out.mono ?_; rintro e w1 ⟨rfl, rfl⟩)
        go_ret
        exact ⟨rfl, by trivial⟩
      | true =>
        have HK : Hid (i + 1 + ((s.data.toList.drop (i + 1)).takeWhile p).length = X) := Lib.hid (by rw [← hK, if_pos rfl, List.length_cons]; omega)
        clear hK
        go_wp2_with (go_at_fn g; refine HC.out.mono ?_; rintro e w1 ⟨rfl, rfl⟩)
        go_roundw
        case rel => exact ⟨i + 1, by omega, by go_num, by trivial, HK⟩
        case measure => simp [intOf]; omega
    · obtain rfl : i = s.size := by omega
      obtain rfl : s.size = X := by have := HI.out; rw [drop_end] at this; simpa using this
      clear HI HP
      go_wp2
      go_ret
      exact ⟨rfl, by trivial⟩
theorem enter_blank : ∀ args w, (callFunc 162 args).run Tryz.prog w = .ok (.enter 162 args) w := enters_of Tryz.func162 (by kernel_rfl) rfl
theorem enter_named : ∀ args w, (callFunc 159 args).run Tryz.prog w = .ok (.enter 159 args) w := enters_of Tryz.func159 (by kernel_rfl) rfl
theorem enter_digit : ∀ args w, (callFunc 160 args).run Tryz.prog w = .ok (.enter 160 args) w := enters_of Tryz.func160 (by kernel_rfl) rfl
theorem enter_hex : ∀ args w, (callFunc 194 args).run Tryz.prog w = .ok (.enter 194 args) w := enters_of Tryz.func194 (by kernel_rfl) rfl
theorem enter_bit : ∀ args w, (callFunc 195 args).run Tryz.prog w = .ok (.enter 195 args) w := enters_of Tryz.func195 (by kernel_rfl) rfl
theorem enter_clos1 : ∀ args w, (callFunc 163 args).run Tryz.prog w = .ok (.enter 163 args) w := enters_of Tryz.func163 (by kernel_rfl) rfl
theorem enter_clos2 : ∀ args w, (callFunc 181 args).run Tryz.prog w = .ok (.enter 181 args) w := enters_of Tryz.func181 (by kernel_rfl) rfl
theorem enter_clos3 : ∀ args w, (callFunc 183 args).run Tryz.prog w = .ok (.enter 183 args) w := enters_of Tryz.func183 (by kernel_rfl) rfl
theorem take_len (p : UInt8 → Bool) (s : ByteArray) (a : Nat) (ha : a ≤ s.size) : a + ((s.data.toList.drop a).takeWhile p).length ≤ s.size ∧ s.data.toList.drop (a + ((s.data.toList.drop a).takeWhile p).length) = (s.data.toList.drop a).dropWhile p := by
  have h := Lx.take_drop p (s.data.toList.drop a)
  have hl := congrArg List.length h
  have hsz : s.data.toList.length = s.size := by rw [Array.length_toList]; rfl
  rw [List.length_append, List.length_drop, hsz] at hl
  refine ⟨by omega, ?_⟩
  rw [← List.drop_drop]
  have := congrArg (List.drop ((s.data.toList.drop a).takeWhile p).length) h
  rw [List.drop_left] at this
  exact this.symm
theorem span_k (g : Nat) (eg : ∀ args w, (callFunc g args).run Tryz.prog w = .ok (.enter g args) w) (p : UInt8 → Bool) (hp : Asks g p) (s : ByteArray) (a b : Nat) (hs : s.size ≤ maxLen) (hb : b ≤ s.size) (ha : a ≤ b) :
    ∃ k : Nat, k = (((s.data.toList.drop a).take (b - a)).takeWhile p).length ∧ a + k ≤ b ∧ ∀ w, Calls Tryz.prog 158 #[.string (s.extract a b), .func (.func g) #[] #[]] w fun e w' => e = .returned (.int .i64 (k : Nat)) ∧ w' = w := by
  obtain ⟨c1, c2⟩ := cut_bytes s a b hb ha
  refine ⟨_, rfl, ?_, fun w => ?_⟩
  · have h := congrArg List.length (Lx.take_drop p ((s.data.toList.drop a).take (b - a)))
    have hsz : s.data.toList.length = s.size := by rw [Array.length_toList]; rfl
    rw [List.length_append, List.length_take, List.length_drop, hsz] at h
    omega
  · have := kspan g eg p hp (s.extract a b) w (by unfold maxLen at hs ⊢; omega)
    rw [c1] at this
    exact this
theorem span_end (g : Nat) (eg : ∀ args w, (callFunc g args).run Tryz.prog w = .ok (.enter g args) w) (p : UInt8 → Bool) (hp : Asks g p) (s : ByteArray) (a : Nat) (hs : s.size ≤ maxLen) (ha : a ≤ s.size) :
    ∃ k : Nat, k = ((s.data.toList.drop a).takeWhile p).length ∧ a + k ≤ s.size ∧ s.data.toList.drop (a + k) = (s.data.toList.drop a).dropWhile p ∧ ∀ w, Calls Tryz.prog 158 #[.string (s.extract a s.size), .func (.func g) #[] #[]] w fun e w' => e = .returned (.int .i64 (k : Nat)) ∧ w' = w := by
  obtain ⟨k, hk, _, hc⟩ := span_k g eg p hp s a s.size hs (Nat.le_refl _) ha
  have hsz : s.data.toList.length = s.size := by rw [Array.length_toList]; rfl
  rw [List.take_of_length_le (by rw [List.length_drop, hsz]; exact Nat.le_refl _)] at hk
  obtain ⟨t1, t2⟩ := take_len p s a ha
  rw [← hk] at t1 t2
  exact ⟨k, hk, t1, t2, hc⟩
theorem Lx.skip_blanks : ∀ l : List UInt8, Lx.skip false l = Lx.skip false (l.dropWhile Lx.blank)
  | [] => rfl
  | c :: t => by
    rw [List.dropWhile_cons]
    split
    · rename_i h
      rw [Lx.skip_blank t h]
      exact Lx.skip_blanks t
    · rfl
abbrev Lx.remark (c : UInt8) : Bool := !decide (c.toNat = 10) && Lx.good c
theorem Lx.skip_remarks : ∀ l : List UInt8, Lx.skip true l = Lx.skip false (l.dropWhile Lx.remark)
  | [] => rfl
  | c :: t => by
    rw [List.dropWhile_cons]
    by_cases h10 : c.toNat = 10
    · obtain rfl : c = 10 := Lx.byte_eq h10
      rw [if_neg (by decide), Lx.skip_cons, Lx.skip_cons]
      have e1 : Lx.good 10 = true := by decide
      have e2 : Lx.blank 10 = true := by decide
      have e3 : (10 : UInt8).toNat = 10 := by decide
      simp [e1, e2, e3]
    · by_cases hg : Lx.good c = true
      · have hr : Lx.remark c = true := by simp [Lx.remark, h10, hg]
        rw [if_pos hr, ← Lx.skip_remarks t, Lx.skip_cons, if_pos hg]
        simp [h10]
      · have hr : ¬ Lx.remark c = true := by simp [Lx.remark, hg]
        rw [if_neg hr, Lx.skip_cons, if_neg hg, Lx.skip_cons, if_neg hg]
theorem Lx.skip_semi (t : List UInt8) : Lx.skip false (59 :: t) = Lx.skip false ((59 :: t).dropWhile Lx.remark) := by
  rw [← Lx.skip_remarks, Lx.skip_cons, Lx.skip_cons]
  have e1 : Lx.good 59 = true := by decide
  have e3 : (59 : UInt8).toNat = 59 := by decide
  simp [e1, e3]
theorem Lx.skip_stays {c : UInt8} (t : List UInt8) (h1 : Lx.blank c = false) (h2 : c.toNat ≠ 59) : Lx.skip false (c :: t) = c :: t := by
  rw [Lx.skip_cons]
  split
  · rw [if_pos (by simp [h1, h2])]
  · rfl
theorem dropWhile_stops (p : UInt8 → Bool) : ∀ (l : List UInt8) {c : UInt8} {t : List UInt8}, l.dropWhile p = c :: t → p c = false
  | [], _, _, h => by cases h
  | d :: l, c, t, h => by
    rw [List.dropWhile_cons] at h
    split at h
    · exact dropWhile_stops p l h
    · rename_i hd
      injection h with h1 h2
      rw [← h1]
      exact Bool.eq_false_iff.2 hd
theorem kpass (s : ByteArray) (a : Nat) (w : World) (hs : s.size ≤ maxLen) (ha : a ≤ s.size) :
    Calls Tryz.prog 151 #[.string s, .int .i64 (a : Nat)] w fun e w' => ∃ k : Nat, e = .returned (.int .i64 (k : Nat)) ∧ w' = w ∧ a ≤ k ∧ k ≤ s.size ∧ s.data.toList.drop k = Lx.skip false (s.data.toList.drop a) := by
  have hs0 := hs
  unfold maxLen at hs
  obtain ⟨X, HX⟩ : ∃ X, Hid (Lx.skip false (s.data.toList.drop a) = X) := ⟨_, rfl⟩
  rw [HX.out]
  go_enter Tryz.func151, Tryz.ntmps151
  go_wp2
  go_loopw [1] (fun iv wr => ∃ i : Nat, i ≤ s.size ∧ iv = .int .i64 (i : Nat) ∧ wr = w ∧ Hid (a ≤ i ∧ Lx.skip false (s.data.toList.drop i) = X)) (fun iv _ => s.size - (intOf iv).toNat)
  case atStart => exact ⟨a, ha, rfl, rfl, ⟨Nat.le_refl _, HX.out⟩⟩
  case round =>
    clear HX ha
    obtain ⟨i, hi, rfl, rfl, HI⟩ := hrel
    obtain ⟨k, hk, hk1, hk2, HC⟩ := span_end _ enter_blank _ kblank s i hs0 hi
    have hf := slice_from s i hi
    have hX := HI.out.2
    rw [Lx.skip_blanks, ← hk2] at hX
    replace HC := Lib.hid HC
    have hai := HI.out.1
    clear HI
    by_cases he : i + k = s.size
    · have HE : Hid (a ≤ i + k ∧ s.data.toList.drop (i + k) = X) := ⟨by omega, by rw [← hX, he, drop_end]; rfl⟩
      have hb : ((i : Int) + (k : Int) == (s.size : Int)) = true := beq_iff_eq.2 (by omega)
      clear hX hk hk2 hai
      go_wp2_with (go_at_call 158; refine (HC.out _).mono ?_; rintro e w1 ⟨rfl, rfl⟩)
      go_ret
      exact ⟨i + k, by go_num, by trivial, HE.out.1, hk1, HE.out.2⟩
    · have hlt : i + k < s.size := by omega
      obtain ⟨j, hj⟩ : ∃ j, i + k = j := ⟨_, rfl⟩
      rw [hj] at hX hk1 hk2 hlt
      have hji : (i : Int) + (k : Int) = (j : Int) := by omega
      have hb : ((j : Int) == (s.size : Int)) = false := beq_eq_false_iff_ne.2 (by omega)
      have hlt' : (j : Int) < (s.size : Int) := by omega
      have hbl : Lx.blank s[j] = false := dropWhile_stops _ _ (hk2.symm.trans (drop_at s hlt))
      by_cases h59 : s[j].toNat = 59
      · obtain ⟨m, hm, hm1, hm2, HD⟩ := span_end _ enter_clos1 _ kclos1 s j hs0 (by omega)
        have hf2 := slice_from s j (by omega)
        replace HD := Lib.hid HD
        have b1 : ((s[j].toNat : Int) != 59) = false := by rw [bne, beq_iff_eq.2 (by omega : (s[j].toNat : Int) = 59)]; rfl
        have hmp : 0 < m := by
          rw [hm, takeWhile_at _ s hlt, if_pos (by rw [Lx.byte_eq h59]; decide)]
          simp
        have HE : Hid (a ≤ j + m ∧ Lx.skip false (s.data.toList.drop (j + m)) = X) := ⟨by omega, by
          rw [hm2, ← hX, drop_at s hlt, Lx.byte_eq h59]
          exact (Lx.skip_semi _).symm⟩
        clear hX hk hk2 hai hm hm2 h59 hbl
        go_wp2_with (first
          | (go_at_call 158; (with_reducible refine (HC.out _).mono ?_); rintro e w1 ⟨rfl, rfl⟩)
          | (go_at_call 158; (with_reducible refine (HD.out _).mono ?_); rintro e w1 ⟨rfl, rfl⟩))
        go_roundw
        case rel => exact ⟨j + m, by omega, by go_num, by trivial, HE⟩
        case measure => simp [intOf]; omega
      · have b1 : ((s[j].toNat : Int) != 59) = true := by rw [bne_iff_ne]; omega
        have HE : Hid (a ≤ j ∧ s.data.toList.drop j = X) := ⟨by omega, by rw [← hX, drop_at s hlt, Lx.skip_stays _ hbl h59]⟩
        clear hX hk hk2 hai h59 hbl
        go_wp2_with (go_at_call 158; refine (HC.out _).mono ?_; rintro e w1 ⟨rfl, rfl⟩)
        go_ret
        exact ⟨j, by go_num, by trivial, HE.out.1, by omega, HE.out.2⟩
end Go.Proofs.YtfjpcjebecgglaaGreatDoor
namespace Go.Proofs.YtfjpcjebecgglaaGreatDoor
open Go.RowKit Go.Shelf
abbrev ZP : Array Value := #[.int .i64 0, .string ⟨#[]⟩, .int .i64 0, .int .i64 0]
abbrev piece (k : Int) (T : ByteArray) (n e : Int) : Value := .agg #[.int .i64 k, .string T, .int .i64 n, .int .i64 e]
abbrev set4 (w : World) (R : Nat) (x y z u : Value) : World := (((w.setCell ⟨R, 0, none⟩ x).setCell ⟨R, 1, none⟩ y).setCell ⟨R, 2, none⟩ z).setCell ⟨R, 3, none⟩ u
theorem pc_cells {w : World} {R : Nat} {v0 v1 v2 v3 : Value} (h : Lies w R 212 #[v0, v1, v2, v3]) (x y z u : Value) :
    Lies (set4 w R x y z u) R 212 #[x, y, z, u] ∧ (set4 w R x y z u).cell? ⟨R, 0, none⟩ = some x ∧ (set4 w R x y z u).cell? ⟨R, 1, none⟩ = some y ∧ (set4 w R x y z u).cell? ⟨R, 2, none⟩ = some z ∧ (set4 w R x y z u).cell? ⟨R, 3, none⟩ = some u := by
  have l : Lies (set4 w R x y z u) R 212 #[x, y, z, u] := by simpa using (((h.put 0 x).put 1 y).put 2 z).put 3 u
  exact ⟨l, by simpa using l.cell 0, by simpa using l.cell 1, by simpa using l.cell 2, by simpa using l.cell 3⟩
theorem pc_below {w0 w : World} (h : Below w0.heap.size w0 w) {R : Nat} (hR : w0.heap.size ≤ R) (x y z u : Value) : Below w0.heap.size w0 (set4 w R x y z u) :=
  h.trans (((((Turn.refl (fun i => i = R) w).put (p := ⟨R, 0, none⟩) (.inl rfl) x).put (p := ⟨R, 1, none⟩) (.inl rfl) y).put (p := ⟨R, 2, none⟩) (.inl rfl) z).put (p := ⟨R, 3, none⟩) (.inl rfl) u |>.below h.size fun i e => by rw [e]; exact hR)
theorem pc_room {W w4 : World} {R : Nat} (b4 : Below W.heap.size W w4) (hl : Lies W R 212 ZP) :
    R < w4.heap.size ∧ w4.cell? ⟨R, 0, none⟩ = some (.int .i64 0) ∧ w4.cell? ⟨R, 1, none⟩ = some (.string ⟨#[]⟩) ∧ w4.cell? ⟨R, 2, none⟩ = some (.int .i64 0) ∧ w4.cell? ⟨R, 3, none⟩ = some (.int .i64 0) ∧
    w4.frozen? ⟨R, 0, none⟩ = false ∧ w4.frozen? ⟨R, 1, none⟩ = false ∧ w4.frozen? ⟨R, 2, none⟩ = false ∧ w4.frozen? ⟨R, 3, none⟩ = false ∧ Hid (Lies w4 R 212 ZP) := by
  have h := (Turn.of_below (F := fun _ => False) b4).lies hl id
  exact ⟨h.lt, by simpa using h.cell 0, by simpa using h.cell 1, by simpa using h.cell 2, by simpa using h.cell 3, h.free 0, h.free 1, h.free 2, h.free 3, h⟩
theorem kupTo (s : ByteArray) (n : Nat) (k : Int) (w : World) (hn : n ≤ s.size) :
    Calls Tryz.prog 164 #[.string s, .int .i64 (n : Nat), .int .i64 k] w fun e w' => e = .returned (piece k (s.extract 0 n) (n : Nat) 0) ∧ Below w.heap.size w w' := by
  have hsl := slice_to s n hn
  go_enter Tryz.func164, Tryz.ntmps164
  go_wp2
  exact bodyPost_ret (v := piece k (s.extract 0 n) (n : Nat) 0) (by simp [results, Tryz.results164, go_sem]) rfl ⟨rfl, (Below.refl _ w).alloc (Nat.le_refl _) _⟩
theorem kwrong (e n : Int) (w : World) :
    Calls Tryz.prog 170 #[.int .i64 e, .int .i64 n] w fun r w' => r = .returned (piece 0 ⟨#[]⟩ n e) ∧ Below w.heap.size w w' := by
  go_enter Tryz.func170, Tryz.ntmps170
  go_wp2
  exact bodyPost_ret (v := piece 0 ⟨#[]⟩ n e) (by simp [results, Tryz.results170, go_sem]) rfl ⟨rfl, (Below.refl _ w).alloc (Nat.le_refl _) _⟩
theorem all_take_len (p : UInt8 → Bool) (l : List UInt8) : ((l.takeWhile p).length = l.length) = (l.all p = true) := by
  apply propext
  constructor
  · intro h
    have := congrArg List.length (Lx.take_drop p l)
    rw [List.length_append] at this
    have h0 : l.dropWhile p = [] := List.eq_nil_of_length_eq_zero (by omega)
    have h1 := Lx.take_drop p l
    rw [h0, List.append_nil] at h1
    rw [← h1]
    exact Lx.take_all p l
  · intro h
    rw [(Lx.all_take p l h).1]
theorem span_all (p : UInt8 → Bool) (s : ByteArray) {b : Bool} (hb : s.data.toList.all p = b) : (((s.data.toList.takeWhile p).length : Int) == (s.size : Int)) = b := by
  have h := all_take_len p s.data.toList
  rw [len_bytes, hb] at h
  cases b with
  | true => exact beq_iff_eq.2 (by rw [h.mpr rfl])
  | false => exact beq_eq_false_iff_ne.2 fun e => by have := h.mp (by omega); cases this
theorem ksimple (s : ByteArray) (w : World) (hs : s.size ≤ maxLen) :
    Calls Tryz.prog 149 #[.string s] w fun e w' => e = .returned (.bool (Lx.simple s.data.toList)) ∧ ∃ q, w' = w.drewN q := by
  have hs0 := hs
  unfold maxLen at hs
  by_cases h0 : s.size = 0
  · obtain ⟨e1, e2⟩ := nil_bytes h0
    rw [e1]
    clear e1
    show Calls _ _ _ _ fun e w' => e = .returned (.bool false) ∧ ∃ q, w' = w.drewN q
    go_enter Tryz.func149, Tryz.ntmps149
    go_wp2
    go_ret
    exact ⟨rfl, 0, rfl⟩
  have hpos : 0 < s.size := by omega
  obtain ⟨f1, f2, f3⟩ := some_bytes hpos
  have f4 : (s.toList != []) = true := by rw [bne, f3]; rfl
  have hw := rune_c s[0]
  obtain ⟨d, hd⟩ : ∃ d, Lx.digit s[0] = d := ⟨_, rfl⟩
  obtain ⟨a, ha⟩ : ∃ a, s.data.toList.all Lx.name = a := ⟨_, rfl⟩
  have hX : Lx.simple s.data.toList = (!d && a) := by
    have := drop_at s hpos
    rw [List.drop_zero] at this
    rw [Lx.simple, f1, ha, ← hd, this]
    rfl
  rw [hX]
  have HD := Lib.hid fun W => kdigit s[0] W
  rw [hd] at HD
  have HS := Lib.hid fun W => kspan _ enter_named _ knamed s W hs0
  have hb := span_all Lx.name s ha
  obtain ⟨n, hn⟩ : ∃ n, (s.data.toList.takeWhile Lx.name).length = n := ⟨_, rfl⟩
  rw [hn] at HS hb
  clear hX hd ha hn f1 h0
  cases a <;> cases d
  all_goals
    go_enter Tryz.func149, Tryz.ntmps149
    go_wp2_with (first
      | (go_at_call 158; refine (HS.out _).mono ?_; rintro e w1 ⟨rfl, rfl⟩)
      | (go_at_call 160; refine (HD.out _).mono ?_; rintro e w1 ⟨rfl, rfl⟩))
    go_ret
    exact ⟨rfl, 0, rfl⟩
theorem kdigits (c : UInt8) (s : ByteArray) (w : World) (hs : s.size ≤ maxLen) :
    Calls Tryz.prog 184 #[.int .u8 (c.toNat : Nat), .string s] w fun e w' => e = .returned (.bool ((decide (c.toNat = 120) && s.data.toList.all Lx.hex) || (decide (c.toNat = 98) && s.data.toList.all Lx.bit))) ∧ w' = w := by
  by_cases h1 : c.toNat = 120
  · obtain ⟨a, ha⟩ : ∃ a, s.data.toList.all Lx.hex = a := ⟨_, rfl⟩
    have HS := Lib.hid fun W => kspan _ enter_hex _ khex s W hs
    have hb := span_all Lx.hex s ha
    obtain ⟨n, hn⟩ : ∃ n, (s.data.toList.takeWhile Lx.hex).length = n := ⟨_, rfl⟩
    rw [hn] at HS hb
    rw [ha, h1]
    clear ha hn
    go_enter Tryz.func184, Tryz.ntmps184
    go_wp2_with (go_at_call 158; refine (HS.out _).mono ?_; rintro e w1 ⟨rfl, rfl⟩)
    go_ret
    exact ⟨by simp, rfl⟩
  by_cases h2 : c.toNat = 98
  · obtain ⟨a, ha⟩ : ∃ a, s.data.toList.all Lx.bit = a := ⟨_, rfl⟩
    have HS := Lib.hid fun W => kspan _ enter_bit _ kbit s W hs
    have hb := span_all Lx.bit s ha
    obtain ⟨n, hn⟩ : ∃ n, (s.data.toList.takeWhile Lx.bit).length = n := ⟨_, rfl⟩
    rw [hn] at HS hb
    rw [ha, h2]
    clear ha hn h1
    go_enter Tryz.func184, Tryz.ntmps184
    go_wp2_with (go_at_call 158; refine (HS.out _).mono ?_; rintro e w1 ⟨rfl, rfl⟩)
    go_ret
    exact ⟨by simp, rfl⟩
  have b1 : ((c.toNat : Int) == 120) = false := beq_eq_false_iff_ne.2 (by omega)
  have b2 : ((c.toNat : Int) == 98) = false := beq_eq_false_iff_ne.2 (by omega)
  rw [decide_eq_false h1, decide_eq_false h2]
  clear h1 h2
  go_enter Tryz.func184, Tryz.ntmps184
  go_wp2
  go_ret
  exact ⟨rfl, rfl⟩
end Go.Proofs.YtfjpcjebecgglaaGreatDoor
namespace Go.Proofs.YtfjpcjebecgglaaGreatDoor
open Go.RowKit Go.Shelf
structure PSaid (s : ByteArray) (x : Int × List UInt8 × Int × List UInt8) (w : World) (e : Ending) (w' : World) : Prop where
  below : Below w.heap.size w w'
  ok : x.2.2.1 = 0 → ∃ (T : ByteArray) (b : Nat), e = .returned (piece x.1 T (b : Nat) 0) ∧ T.data.toList = x.2.1 ∧ 0 < b ∧ b ≤ s.size ∧ s.data.toList.drop b = x.2.2.2
  bad : x.2.2.1 ≠ 0 → ∃ p : Nat, e = .returned (piece 0 ⟨#[]⟩ (p : Nat) x.2.2.1) ∧ p < s.size ∧ s.data.toList.drop p = x.2.2.2
theorem PSaid.at_start {s : ByteArray} {E : Int} {w w' : World} (hb : Below w.heap.size w w') (hE : E ≠ 0) (h0 : 0 < s.size) : PSaid s (0, [], E, s.data.toList) w (.returned (piece 0 ⟨#[]⟩ 0 E)) w' :=
  ⟨hb, fun h => absurd h hE, fun _ => ⟨0, rfl, h0, rfl⟩⟩
theorem pc_store (w : World) {w4 : World} (b4 : Below (w.alloc (.cells ZP 212)).heap.size (w.alloc (.cells ZP 212)) w4) :
    w.heap.size < w4.heap.size ∧ w4.cell? ⟨w.heap.size, 0, none⟩ = some (.int .i64 0) ∧ w4.cell? ⟨w.heap.size, 1, none⟩ = some (.string ⟨#[]⟩) ∧ w4.cell? ⟨w.heap.size, 2, none⟩ = some (.int .i64 0) ∧ w4.cell? ⟨w.heap.size, 3, none⟩ = some (.int .i64 0) ∧
    w4.frozen? ⟨w.heap.size, 0, none⟩ = false ∧ w4.frozen? ⟨w.heap.size, 1, none⟩ = false ∧ w4.frozen? ⟨w.heap.size, 2, none⟩ = false ∧ w4.frozen? ⟨w.heap.size, 3, none⟩ = false ∧ Hid (Lies w4 w.heap.size 212 ZP) ∧ Hid (∀ x y z u, Below w.heap.size w (set4 w4 w.heap.size x y z u)) := by
  obtain ⟨a0, a1, a2, a3, a4, a5, a6, a7, a8, a9⟩ := pc_room b4 (Lies.new w 212 ZP)
  exact ⟨a0, a1, a2, a3, a4, a5, a6, a7, a8, a9, fun x y z u => pc_below (((Below.refl _ w).alloc (Nat.le_refl _) _).trans (b4.mono (by simp))) (Nat.le_refl _) x y z u⟩
theorem whole_head (s : ByteArray) (h : 0 < s.size) : s.data.toList = s[0] :: s.data.toList.drop 1 := by
  have := drop_at s h
  rw [List.drop_zero] at this
  exact this
theorem kkeyword (s : ByteArray) (w : World) (hs : s.size ≤ 1000000) (h0 : 0 < s.size) (h58 : s[0].toNat = 58) :
    Calls Tryz.prog 167 #[.string s] w (PSaid s (Lx.one s.data.toList) w) := by
  obtain ⟨k, hk, hk1, hk2, HS⟩ := span_end _ enter_named _ knamed s 1 (by unfold maxLen; omega) h0
  replace HS := Lib.hid HS
  have hsl := slice_from s 1 (by omega)
  have HR := Lib.hid fun (w4 : World) b4 => pc_store w (w4 := w4) b4
  have hnd : Lx.digit s[0] = false := by simp [Lx.digit]; omega
  have hnn : Lx.name s[0] = false := by simp [Lx.name, hnd, Lx.marks, h58]
  by_cases hk0 : k = 0
  · have hem : ((s.data.toList.drop 1).takeWhile Lx.name).isEmpty = true := by rw [List.isEmpty_iff_length_eq_zero, ← hk]; exact hk0
    have hX : Lx.one s.data.toList = (0, [], 8, s.data.toList) := by
      rw [whole_head s h0]
      simp only [Lx.one, h58, hnd, hnn, hem]
      simp
    rw [hX]
    have HW := Lib.hid fun W => kwrong 8 0 W
    have hki : (1 : Int) + (k : Int) = 1 := by omega
    clear hX hem hk hk2 hnd hnn h58
    go_enter Tryz.func167, Tryz.ntmps167
    go_wp2_with (first
      | (go_at_call 158; refine (HS.out _).mono ?_; rintro e w1 ⟨rfl, rfl⟩)
      | (go_at_call 170; refine (HW.out _).mono ?_; rintro e w4 ⟨rfl, b4⟩; obtain ⟨z0, y0, y1, y2, y3, f0, f1, f2, f3, hl, hb⟩ := HR.out _ b4))
    obtain ⟨_, e0, e1, e2, e3⟩ := pc_cells hl.out (.int .i64 0) (.string ⟨#[]⟩) (.int .i64 0) (.int .i64 8)
    exact bodyPost_ret (v := piece 0 ⟨#[]⟩ 0 8) (by simp [results, Tryz.results167, go_sem, e0, e1, e2, e3]) rfl (PSaid.at_start (hb.out _ _ _ _) (by decide) h0)
  · have hem : ((s.data.toList.drop 1).takeWhile Lx.name).isEmpty = false := by
      cases hq : (s.data.toList.drop 1).takeWhile Lx.name with
      | nil => rw [hq] at hk; exact absurd hk hk0
      | cons _ _ => rfl
    have hX : Lx.one s.data.toList = ((7 : Int), s[0] :: (s.data.toList.drop 1).takeWhile Lx.name, (0 : Int), (s.data.toList.drop 1).dropWhile Lx.name) := by
      conv => lhs; rw [whole_head s h0]
      simp only [Lx.one, h58, hnd, hnn, hem]
      simp
    have hT := Lib.hid (text_of s 0 (1 + k) h0 (by omega) hk1 hk2)
    rw [hX]
    have HU := Lib.hid fun W => kupTo s (1 + k) 7 W hk1
    obtain ⟨n, hn⟩ : ∃ n, 1 + k = n := ⟨_, rfl⟩
    have hki : (1 : Int) + (k : Int) = (n : Int) := by omega
    have hne : ((n : Int) == 1) = false := beq_eq_false_iff_ne.2 (by omega)
    rw [hn] at HU hT hk1 hk2
    have hn0 : 0 < n := by omega
    have H2 := Lib.hid hk2
    clear hX hem hk hk2 hnd hnn h58 hk0 hn
    go_enter Tryz.func167, Tryz.ntmps167
    go_wp2_with (first
      | (go_at_call 158; refine (HS.out _).mono ?_; rintro e w1 ⟨rfl, rfl⟩)
      | (go_at_call 164; refine (HU.out _).mono ?_; rintro e w4 ⟨rfl, b4⟩; obtain ⟨z0, y0, y1, y2, y3, f0, f1, f2, f3, hl, hb⟩ := HR.out _ b4))
    obtain ⟨_, e0, e1, e2, e3⟩ := pc_cells hl.out (.int .i64 7) (.string (s.extract 0 n)) (.int .i64 (n : Nat)) (.int .i64 0)
    exact bodyPost_ret (v := piece 7 (s.extract 0 n) (n : Nat) 0) (by simp [results, Tryz.results167, go_sem, e0, e1, e2, e3]) rfl ⟨hb.out _ _ _ _, fun _ => ⟨_, n, rfl, hT.out, hn0, hk1, H2.out⟩, fun h => absurd rfl h⟩
theorem Lx.number_by (D R : List UInt8) (hD : D.all Lx.digit = true) (h0 : D ≠ []) (hR : ∀ c t, R = c :: t → Lx.digit c = false) :
    Lx.number (D ++ R) = if 1 < D.length ∧ (D.headD 0).toNat = 48 then 0 else if R = [] then 4 else if (R.headD 0).toNat = 46 ∧ R.length ≠ 1 ∧ (R.drop 1).all Lx.digit = true then 5 else 0 := by
  have hnp : D.all Lx.nopt = true := by
    rw [List.all_eq_true] at hD ⊢
    intro c hc
    have := hD c hc
    simp [Lx.digit] at this
    simp [Lx.nopt]
    omega
  have t1 : (D ++ R).takeWhile Lx.nopt = D ++ R.takeWhile Lx.nopt := by
    rw [List.takeWhile_append_of_pos (List.all_eq_true.1 hnp)]
  have t2 : (D ++ R).dropWhile Lx.nopt = R.dropWhile Lx.nopt := by
    rw [List.dropWhile_append_of_pos (List.all_eq_true.1 hnp)]
  have hD0 : 0 < D.length := List.length_pos_iff.2 h0
  have hhd : (D ++ R).headD 0 = D.headD 0 := by
    cases D with
    | nil => exact absurd rfl h0
    | cons _ _ => rfl
  unfold Lx.number
  dsimp only
  rw [t1, t2, hhd]
  cases hR0 : R with
  | nil =>
    have e : Lx.digits (D ++ List.takeWhile Lx.nopt []) = true := by
      rw [List.takeWhile_nil, List.append_nil, Lx.digits, hD]
      cases D with
      | nil => exact absurd rfl h0
      | cons _ _ => rfl
    rw [e]
    simp
  | cons c t =>
    have hc := hR c t hR0
    by_cases h46 : c.toNat = 46
    · have hn : Lx.nopt c = false := by simp [Lx.nopt, h46]
      have e : Lx.digits (D ++ List.takeWhile Lx.nopt (c :: t)) = true := by
        rw [List.takeWhile_cons, hn]
        simp only [Bool.false_eq_true, if_false, List.append_nil]
        rw [Lx.digits, hD]
        cases D with
        | nil => exact absurd rfl h0
        | cons _ _ => rfl
      rw [e, List.takeWhile_cons, List.dropWhile_cons, hn]
      simp only [Bool.false_eq_true, if_false, List.append_nil, Bool.not_true, Bool.false_or, Bool.and_eq_true, decide_eq_true_eq, List.headD_cons, h46, List.length_cons, List.drop_succ_cons, List.drop_zero, true_and]
      have e2 : Lx.digits t = true ↔ (t.length + 1 ≠ 1 ∧ t.all Lx.digit = true) := by
        cases t with
        | nil => simp [Lx.digits]
        | cons _ _ => simp [Lx.digits]
      by_cases hz : 1 < D.length ∧ (D.headD 0).toNat = 48
      · rw [if_pos hz, if_pos hz]
      · rw [if_neg hz, if_neg hz, if_neg (show ¬ c :: t = [] from fun h => by cases h)]
        by_cases hd : Lx.digits t = true
        · rw [if_pos hd, if_pos (e2.1 hd)]
        · rw [if_neg hd, if_neg (fun h => hd (e2.2 h))]
    · have hn : Lx.nopt c = true := by simp [Lx.nopt, h46]
      have e : Lx.digits (D ++ List.takeWhile Lx.nopt (c :: t)) = false := by
        rw [List.takeWhile_cons, hn]
        simp only [if_true]
        rw [Lx.digits, List.all_append, List.all_cons, hc]
        simp
      rw [e]
      simp [h46]
theorem knumber (s : ByteArray) (w : World) (hs : s.size ≤ 1000000) (h0 : 0 < s.size) (hd0 : Lx.digit s[0] = true) :
    Calls Tryz.prog 169 #[.string s] w (PSaid s (Lx.one s.data.toList) w) := by
  have hs1 : s.size ≤ maxLen := by unfold maxLen; omega
  obtain ⟨S, hS⟩ : ∃ S, s.data.toList.takeWhile Lx.name = S := ⟨_, rfl⟩
  have hSc : S = s[0] :: (s.data.toList.drop 1).takeWhile Lx.name := by
    rw [← hS]
    conv => lhs; rw [whole_head s h0]
    rw [List.takeWhile_cons, if_pos (Lx.digit_name hd0)]
  have hdr : s.data.toList.dropWhile Lx.name = (s.data.toList.drop 1).dropWhile Lx.name := by
    conv => lhs; rw [whole_head s h0]
    rw [List.dropWhile_cons, if_pos (Lx.digit_name hd0)]
  obtain ⟨n1, n2⟩ := take_len Lx.name s 0 (Nat.zero_le _)
  rw [List.drop_zero, hS, Nat.zero_add] at n1 n2
  obtain ⟨D, hD⟩ : ∃ D, s.data.toList.takeWhile Lx.digit = D := ⟨_, rfl⟩
  obtain ⟨R, hR⟩ : ∃ R, S.dropWhile Lx.digit = R := ⟨_, rfl⟩
  have hDS : S.takeWhile Lx.digit = D := by
    rw [← hD, ← hS]
    generalize s.data.toList = L
    induction L with
    | nil => rfl
    | cons c L ih =>
      by_cases hc : Lx.digit c = true
      · rw [List.takeWhile_cons, if_pos (Lx.digit_name hc), List.takeWhile_cons, if_pos hc, ih, List.takeWhile_cons, if_pos hc]
      · by_cases hn : Lx.name c = true
        · rw [List.takeWhile_cons, if_pos hn, List.takeWhile_cons, if_neg hc, List.takeWhile_cons, if_neg hc]
        · rw [List.takeWhile_cons, if_neg hn, List.takeWhile_cons, if_neg hc]; rfl
  have hDR : D ++ R = S := by rw [← hDS, ← hR]; exact Lx.take_drop _ _
  have hDa : D.all Lx.digit = true := by rw [← hDS]; exact Lx.take_all _ _
  have hDh : D = s[0] :: D.drop 1 := by
    rw [← hDS, hSc, List.takeWhile_cons, if_pos hd0]
    rfl
  have hDn : D ≠ [] := fun e => by rw [e] at hDh; cases hDh
  have hRc : ∀ c t, R = c :: t → Lx.digit c = false := fun c t e => dropWhile_stops _ _ (hR.trans e)
  have hN := Lx.number_by D R hDa hDn hRc
  have hD0 : (D.headD 0).toNat = s[0].toNat := by rw [hDh]; rfl
  rw [hDR, hD0] at hN
  have hlen := congrArg List.length hDR
  rw [List.length_append] at hlen
  have hDp : 0 < D.length := List.length_pos_iff.2 hDn
  have n40 : s[0].toNat ≠ 40 := by simp [Lx.digit] at hd0; omega
  have n41 : s[0].toNat ≠ 41 := by simp [Lx.digit] at hd0; omega
  have nq : ¬ (s[0].toNat = 124 ∨ s[0].toNat = 34) := by simp [Lx.digit] at hd0; omega
  have hX : Lx.one s.data.toList = if Lx.number S = 0 then (0, [], 8, s.data.toList) else (Lx.number S, S, 0, s.data.toList.dropWhile Lx.name) := by
    rw [hdr, hSc]
    conv => lhs; rw [whole_head s h0]
    simp only [Lx.one, n40, n41, nq, hd0, if_false, if_true]
    rw [← whole_head s h0]
  rw [hX]
  obtain ⟨n, hn⟩ : ∃ n, S.length = n := ⟨_, rfl⟩
  obtain ⟨d, hd⟩ : ∃ d, D.length = d := ⟨_, rfl⟩
  rw [hn] at n1 n2 hlen
  rw [hd] at hlen hDp hN
  have HS := Lib.hid fun W => kspan _ enter_named _ knamed s W hs1
  have HD := Lib.hid fun W => kspan _ enter_digit _ kdigit s W hs1
  rw [hS, hn] at HS
  rw [hD, hd] at HD
  have hT : Hid ((s.extract 0 n).data.toList = S) := by
    show _ = _
    rw [(cut_bytes s 0 n n1 (Nat.zero_le _)).1, List.drop_zero, ← hn, ← hS, Nat.sub_zero]
    have h2 := congrArg (List.take (s.data.toList.takeWhile Lx.name).length) (Lx.take_drop Lx.name s.data.toList)
    rw [List.take_left] at h2
    exact h2.symm
  have HR := Lib.hid fun (w4 : World) b4 => pc_store w (w4 := w4) b4
  have HW := Lib.hid fun W => kwrong 8 0 W
  have H2 := Lib.hid n2
  have hdn : d ≤ n := by omega
  have hn0 : 0 < n := by omega
  have hRd : Hid (s.data.toList.drop d = R ++ s.data.toList.drop n) := by
    show _ = _
    have h2 := Lx.take_drop Lx.name s.data.toList
    rw [hS, ← hDR, ← n2, List.append_assoc] at h2
    have h3 := congrArg (List.drop d) h2
    rw [← hd, List.drop_left] at h3
    rw [← hd]
    exact h3.symm
  clear hX hdr hSc hDR hDh hD0 n40 n41 nq hDS hR hS hD hn hd n2
  by_cases hz : 1 < d ∧ s[0].toNat = 48
  · have hN0 : Lx.number S = 0 := by rw [hN, if_pos hz]
    rw [if_pos hN0]
    have b1 : (1 : Int) < (d : Int) := by omega
    have b2 : ((s[0].toNat : Int) == 48) = true := beq_iff_eq.2 (by omega)
    clear hN hN0 hRc hDa hDn hd0 hz hRd hT
    go_enter Tryz.func169, Tryz.ntmps169
    go_wp2_with (first
      | (go_at_call 158; (with_reducible refine (HS.out _).mono ?_); rintro e w1 ⟨rfl, rfl⟩)
      | (go_at_call 158; (with_reducible refine (HD.out _).mono ?_); rintro e w1 ⟨rfl, rfl⟩)
      | (go_at_call 170; refine (HW.out _).mono ?_; rintro e w4 ⟨rfl, b4⟩; obtain ⟨z0, y0, y1, y2, y3, f0, f1, f2, f3, hl, hb⟩ := HR.out _ b4))
    obtain ⟨_, e0, e1, e2, e3⟩ := pc_cells hl.out (.int .i64 0) (.string ⟨#[]⟩) (.int .i64 0) (.int .i64 8)
    exact bodyPost_ret (v := piece 0 ⟨#[]⟩ 0 8) (by simp [results, Tryz.results169, go_sem, e0, e1, e2, e3]) rfl (PSaid.at_start (hb.out _ _ _ _) (by decide) h0)
  rw [if_neg hz] at hN
  have hzz : ¬ (1 : Int) < (d : Int) ∨ (1 : Int) < (d : Int) ∧ ((s[0].toNat : Int) == 48) = false := by
    by_cases h : 1 < d
    · exact .inr ⟨by omega, beq_eq_false_iff_ne.2 (by omega)⟩
    · exact .inl (by omega)
  clear hz
  by_cases hall : d = n
  · obtain rfl : R = [] := List.eq_nil_of_length_eq_zero (by omega)
    have hN4 : Lx.number S = 4 := by rw [hN, if_pos rfl]
    rw [if_neg (by rw [hN4]; decide), hN4]
    have HU := Lib.hid fun W => kupTo s n 4 W n1
    have b3 : ((d : Int) == (n : Int)) = true := beq_iff_eq.2 (by omega)
    clear hN hN4 hRc hDa hDn hd0 hRd
    rcases hzz with b1 | ⟨b1, b2⟩
    all_goals
      go_enter Tryz.func169, Tryz.ntmps169
      go_wp2_with (first
        | (go_at_call 158; (with_reducible refine (HS.out _).mono ?_); rintro e w1 ⟨rfl, rfl⟩)
        | (go_at_call 158; (with_reducible refine (HD.out _).mono ?_); rintro e w1 ⟨rfl, rfl⟩)
        | (go_at_call 164; refine (HU.out _).mono ?_; rintro e w4 ⟨rfl, b4⟩; obtain ⟨z0, y0, y1, y2, y3, f0, f1, f2, f3, hl, hb⟩ := HR.out _ b4))
      obtain ⟨_, e0, e1, e2, e3⟩ := pc_cells hl.out (.int .i64 4) (.string (s.extract 0 n)) (.int .i64 (n : Nat)) (.int .i64 0)
      exact bodyPost_ret (v := piece 4 (s.extract 0 n) (n : Nat) 0) (by simp [results, Tryz.results169, go_sem, e0, e1, e2, e3]) rfl ⟨hb.out _ _ _ _, fun _ => ⟨_, n, rfl, hT.out, hn0, n1, H2.out⟩, fun h => absurd rfl h⟩
  have b3 : ((d : Int) == (n : Int)) = false := beq_eq_false_iff_ne.2 (by omega)
  have hdlt : d < s.size := by omega
  have hdlt' : (d : Int) < (s.size : Int) := by omega
  have hRh : Hid (R = s[d] :: R.drop 1) := by
    show _ = _
    have := hRd.out
    rw [drop_at s hdlt] at this
    cases R with
    | nil => simp at hlen; omega
    | cons c t => injection this with e1 _; rw [e1]; rfl
  rw [if_neg (fun e => by rw [e] at hlen; simp at hlen; omega), show (R.headD 0).toNat = s[d].toNat by rw [hRh.out]; rfl] at hN
  by_cases h46 : s[d].toNat = 46
  · have b4' : ((s[d].toNat : Int) != 46) = false := by rw [bne, beq_iff_eq.2 (by omega : (s[d].toNat : Int) = 46)]; rfl
    by_cases hlast : d + 1 = n
    · have hN0 : Lx.number S = 0 := by rw [hN, if_neg]; intro h; have := h.2.1; omega
      rw [if_pos hN0]
      have b5 : ((d : Int) + 1 == (n : Int)) = true := beq_iff_eq.2 (by omega)
      clear hN hN0 hRc hDa hDn hd0 hRd hT hRh h46
      rcases hzz with b1 | ⟨b1, b2⟩
      all_goals
        go_enter Tryz.func169, Tryz.ntmps169
        go_wp2_with (first
          | (go_at_call 158; (with_reducible refine (HS.out _).mono ?_); rintro e w1 ⟨rfl, rfl⟩)
          | (go_at_call 158; (with_reducible refine (HD.out _).mono ?_); rintro e w1 ⟨rfl, rfl⟩)
          | (go_at_call 170; refine (HW.out _).mono ?_; rintro e w4 ⟨rfl, b4⟩; obtain ⟨z0, y0, y1, y2, y3, f0, f1, f2, f3, hl, hb⟩ := HR.out _ b4))
        obtain ⟨_, e0, e1, e2, e3⟩ := pc_cells hl.out (.int .i64 0) (.string ⟨#[]⟩) (.int .i64 0) (.int .i64 8)
        exact bodyPost_ret (v := piece 0 ⟨#[]⟩ 0 8) (by simp [results, Tryz.results169, go_sem, e0, e1, e2, e3]) rfl (PSaid.at_start (hb.out _ _ _ _) (by decide) h0)
    · obtain ⟨m, hm⟩ : ∃ m, d + 1 = m := ⟨_, rfl⟩
      have hmi : (d : Int) + 1 = (m : Int) := by omega
      have b5 : ((m : Int) == (n : Int)) = false := beq_eq_false_iff_ne.2 (by omega)
      have hmn : m ≤ n := by omega
      have hsl := slice_both s m n n1 hmn
      obtain ⟨c1, c2⟩ := cut_bytes s m n n1 hmn
      have hc1 : (s.extract m n).data.toList = R.drop 1 := by
        rw [c1]
        have h3 := congrArg (List.drop 1) hRd.out
        rw [List.drop_drop, hm, List.drop_append_of_le_length (by omega)] at h3
        rw [h3, List.take_append_of_le_length (by rw [List.length_drop]; omega), List.take_of_length_le (by rw [List.length_drop]; omega)]
      obtain ⟨a, ha⟩ : ∃ a, (R.drop 1).all Lx.digit = a := ⟨_, rfl⟩
      have HE := Lib.hid fun W => kspan _ enter_digit _ kdigit (s.extract m n) W (by unfold maxLen; omega)
      have hb5 := span_all Lx.digit (s.extract m n) (b := a) (by rw [hc1]; exact ha)
      obtain ⟨v, hv⟩ : ∃ v, ((s.extract m n).data.toList.takeWhile Lx.digit).length = v := ⟨_, rfl⟩
      rw [hv] at HE hb5
      have hsub : (n : Int) - (d : Int) - 1 = ((s.extract m n).size : Int) := by omega
      have hb6 : ((v : Int) != ((s.extract m n).size : Int)) = !a := by rw [bne, hb5]
      have hNa : Lx.number S = if a = true then 5 else 0 := by
        rw [hN, ha]
        cases a with
        | true => rw [if_pos ⟨h46, by omega, rfl⟩]; rfl
        | false => rw [if_neg (fun h => by cases h.2.2)]; rfl
      obtain ⟨V, hV⟩ : ∃ V, s.extract m n = V := ⟨_, rfl⟩
      rw [hV] at hsl HE hb6 hsub
      clear hN hRc hDa hDn hd0 hRd hRh h46 c1 c2 hc1 ha hb5 hv hV hm
      cases a with
      | true =>
        rw [if_pos rfl] at hNa
        rw [if_neg (by rw [hNa]; decide), hNa]
        have HU := Lib.hid fun W => kupTo s n 5 W n1
        simp only [Bool.not_true] at hb6
        clear hNa
        rcases hzz with b1 | ⟨b1, b2⟩
        all_goals
          go_enter Tryz.func169, Tryz.ntmps169
          go_wp2_with (first
            | (go_at_call 158; (with_reducible refine (HS.out _).mono ?_); rintro e w1 ⟨rfl, rfl⟩)
            | (go_at_call 158; (with_reducible refine (HD.out _).mono ?_); rintro e w1 ⟨rfl, rfl⟩)
            | (go_at_call 158; (with_reducible refine (HE.out _).mono ?_); rintro e w1 ⟨rfl, rfl⟩)
            | (go_at_call 164; refine (HU.out _).mono ?_; rintro e w4 ⟨rfl, b4⟩; obtain ⟨z0, y0, y1, y2, y3, f0, f1, f2, f3, hl, hb⟩ := HR.out _ b4))
          obtain ⟨_, e0, e1, e2, e3⟩ := pc_cells hl.out (.int .i64 5) (.string (s.extract 0 n)) (.int .i64 (n : Nat)) (.int .i64 0)
          exact bodyPost_ret (v := piece 5 (s.extract 0 n) (n : Nat) 0) (by simp [results, Tryz.results169, go_sem, e0, e1, e2, e3]) rfl ⟨hb.out _ _ _ _, fun _ => ⟨_, n, rfl, hT.out, hn0, n1, H2.out⟩, fun h => absurd rfl h⟩
      | false =>
        rw [if_neg (by decide)] at hNa
        rw [if_pos hNa]
        simp only [Bool.not_false] at hb6
        clear hNa
        rcases hzz with b1 | ⟨b1, b2⟩
        all_goals
          go_enter Tryz.func169, Tryz.ntmps169
          go_wp2_with (first
            | (go_at_call 158; (with_reducible refine (HS.out _).mono ?_); rintro e w1 ⟨rfl, rfl⟩)
            | (go_at_call 158; (with_reducible refine (HD.out _).mono ?_); rintro e w1 ⟨rfl, rfl⟩)
            | (go_at_call 158; (with_reducible refine (HE.out _).mono ?_); rintro e w1 ⟨rfl, rfl⟩)
            | (go_at_call 170; refine (HW.out _).mono ?_; rintro e w4 ⟨rfl, b4⟩; obtain ⟨z0, y0, y1, y2, y3, f0, f1, f2, f3, hl, hb⟩ := HR.out _ b4))
          obtain ⟨_, e0, e1, e2, e3⟩ := pc_cells hl.out (.int .i64 0) (.string ⟨#[]⟩) (.int .i64 0) (.int .i64 8)
          exact bodyPost_ret (v := piece 0 ⟨#[]⟩ 0 8) (by simp [results, Tryz.results169, go_sem, e0, e1, e2, e3]) rfl (PSaid.at_start (hb.out _ _ _ _) (by decide) h0)
  · have hN0 : Lx.number S = 0 := by rw [hN, if_neg]; intro h; exact h46 h.1
    rw [if_pos hN0]
    have b4' : ((s[d].toNat : Int) != 46) = true := bne_iff_ne.2 (by omega)
    clear hN hN0 hRc hDa hDn hd0 hRd hT hRh h46
    rcases hzz with b1 | ⟨b1, b2⟩
    all_goals
      go_enter Tryz.func169, Tryz.ntmps169
      go_wp2_with (first
        | (go_at_call 158; (with_reducible refine (HS.out _).mono ?_); rintro e w1 ⟨rfl, rfl⟩)
        | (go_at_call 158; (with_reducible refine (HD.out _).mono ?_); rintro e w1 ⟨rfl, rfl⟩)
        | (go_at_call 170; refine (HW.out _).mono ?_; rintro e w4 ⟨rfl, b4⟩; obtain ⟨z0, y0, y1, y2, y3, f0, f1, f2, f3, hl, hb⟩ := HR.out _ b4))
      obtain ⟨_, e0, e1, e2, e3⟩ := pc_cells hl.out (.int .i64 0) (.string ⟨#[]⟩) (.int .i64 0) (.int .i64 8)
      exact bodyPost_ret (v := piece 0 ⟨#[]⟩ 0 8) (by simp [results, Tryz.results169, go_sem, e0, e1, e2, e3]) rfl (PSaid.at_start (hb.out _ _ _ _) (by decide) h0)
end Go.Proofs.YtfjpcjebecgglaaGreatDoor
