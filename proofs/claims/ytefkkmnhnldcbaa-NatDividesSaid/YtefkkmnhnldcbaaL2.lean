/- NatTextBack: its walk. -/
import Derived.Test.YtefkkmnhnldcbaaB6
import Derived.Test.YtefkkmnhnldcbaaL1
namespace Go.Proofs.Ytefkkmnhnldcbaa
open Go.RowKit

theorem txt_len {N n : Nat} {l : List UInt8} (h : T.Txt N l) (hN : N < M.BB ^ n) : l.length ≤ 10 * n + 1 := by
  rcases h with ⟨_, rfl⟩ | ⟨ds, f, t, ne, hv, rfl⟩
  · simp
  · have h1 := T.val_ge t ne
    have h2 : M.BB ^ n ≤ 10 ^ (10 * n) := by
      rw [Nat.pow_mul]
      exact Nat.pow_le_pow_left (by rw [M.BB_eq]; omega) n
    rw [T.BB_eq, hv] at h1
    have h3 : (T.byt (T.asc ds).reverse).length = ds.length := by simp [T.byt, T.asc]
    rw [h3]
    rcases Nat.lt_or_ge (10 * n + 1) ds.length with h4 | h4
    · have := Nat.pow_le_pow_right (n := 10) (by omega) (show 10 * n ≤ ds.length - 1 by omega)
      omega
    · exact h4
theorem txt_isT {N : Nat} {l : List UInt8} (h : T.Txt N l) (hl : l.length ≤ 2000) : isT l = true ∧ T.dv l = N := by
  obtain ⟨h1, h2, h3, h4⟩ := T.txt_all h
  exact ⟨isT_parts.2 ⟨h3, hl, h4, h1⟩, h2⟩
theorem isT_txt {l : List UInt8} (h : isT l = true) : T.Txt (T.dv l) l := by
  obtain ⟨h1, _, h3, h4⟩ := isT_parts.1 h
  exact T.all_txt h4 h1 h3
theorem dv_small {l : List UInt8} {K : Nat} (h : isT l = true) (hl : l.length ≤ K) : T.dv l < M.BB ^ K := by
  have h1 := T.dv_lt (isT_parts.1 h).2.2.2
  have h2 : 10 ^ l.length ≤ 10 ^ K := Nat.pow_le_pow_right (by omega) hl
  have h3 : 10 ^ K ≤ M.BB ^ K := Nat.pow_le_pow_left (by rw [M.BB_eq]; omega) _
  exact Nat.lt_of_lt_of_le h1 (Nat.le_trans h2 h3)
/-- Text of a number in its own form -/
theorem text_num {v : Value} {N k : Nat} {w : World} (h : Num w v N) (hN : N < M.BB ^ k) (hk : k ≤ 1000000) : ∃ A n c, v = .slice A n c ∧ Calls Try.prog 34 #[.slice A n c] w (GivesText w N) := by
  obtain ⟨A, n, c, l, rfl, h1, h2, h3, h4, h5⟩ := h
  have hn : n ≤ k := M.len_le h2 h1.1 (by rw [h3]; exact hN)
  refine ⟨A, n, c, rfl, ?_⟩
  rw [← h3]
  exact text_any A n c l w h1 h4 h5 (by omega)

theorem str_size (l : List UInt8) : (⟨l.toArray⟩ : ByteArray).size = l.length := by simp [ByteArray.size]

set_option maxHeartbeats 2000000 in
theorem natTextBack_walk (A : Option Addr) (n c : Nat) (l : List Nat) (s : ByteArray) (w : World) (h : Lims w A n l) (hn : n ≤ c) (hc : c ≤ maxLen) (hs : s.size ≤ maxLen) :
    Calls Try.prog 9 #[.slice A n c, .string s] w fun e w' => e = .returned (.bool true) ∧ Below w.heap.size w w' := by
  have hs' : s.size ≤ 9223372036854775807 := hs
  by_cases hn60 : n ≤ 60
  · by_cases hs6 : s.size ≤ 600
    · have hN : Hid (M.val l < M.BB ^ 60) := by
        have := M.val_lt h.2.1
        rw [h.1] at this
        exact Nat.lt_of_lt_of_le this (Nat.pow_le_pow_right M.BB_pos hn60)
      go_enter Try.func9, Try.ntmps9
      go_wp2_with fail
      refine (awake_any _).mono ?_
      rintro e w1 ⟨rfl, b1⟩
      go_wp2_with fail
      refine (text_any A n c l w1 (h.below b1) hn hc (by omega)).mono ?_
      rintro e w2 ⟨t, rfl, ht, b2⟩
      have htl := txt_len ht hN.out
      obtain ⟨hti, htd⟩ := txt_isT ht (by omega)
      have HP := Lib.hid (parse_good ⟨t.toArray⟩ w2 (by rw [str_size]; unfold maxLen; omega) (by simpa using hti))
      have hte : T.dv (⟨t.toArray⟩ : ByteArray).data.toList = M.val l := by simpa using htd
      rw [hte] at HP
      clear htl hti htd hte ht
      go_wp2_with fail
      refine HP.out.mono ?_
      rintro e w3 ⟨v3, rfl, n3, b3⟩
      have b2 : Below w.heap.size w w2 := b1.trans (b2.mono b1.size)
      have b3 : Below w.heap.size w w3 := b2.trans (b3.mono b2.size)
      clear b1 b2 HP
      go_wp2_with fail
      refine (norm_any A n c l w3 (h.below b3) hn hc (by omega)).mono ?_
      rintro e w4 ⟨v4, rfl, n4, b4⟩
      obtain ⟨A1, a1, c1, A2, a2, c2, rfl, rfl, S⟩ := same_nums (n3.below b4) n4
      have S := Lib.hid S
      have b4 : Below w.heap.size w w4 := b3.trans (b4.mono b3.size)
      clear b3 n3 n4
      go_wp2_with fail
      refine S.out.mono ?_
      rintro e w5 ⟨rfl, b5⟩
      have b5 : Below w.heap.size w w5 := b4.trans (b5.mono b4.size)
      clear b4 S
      cases hT : isT s.data.toList with
      | false =>
        have HP := Lib.hid (parse_bad s w5 hs hT)
        clear hT
        go_wp2_with fail
        refine HP.out.mono ?_
        rintro e w6 ⟨rfl, rfl⟩
        go_wp2_with fail
        go_ret
        exact ⟨rfl, b5⟩
      | true =>
        have HP := Lib.hid (parse_good s w5 hs hT)
        have HT := Lib.hid (isT_txt hT)
        have HD := Lib.hid (dv_small (K := 2000) hT (by rw [lenL]; omega))
        clear hT
        go_wp2_with fail
        refine HP.out.mono ?_
        rintro e w6 ⟨v6, rfl, n6, b6⟩
        have b6 : Below w.heap.size w w6 := b5.trans (b6.mono b5.size)
        obtain ⟨A6, a6, c6, rfl, X6⟩ := text_num n6 HD.out (by omega)
        have X6 := Lib.hid X6
        clear b5 n6 HP
        go_wp2_with fail
        refine X6.out.mono ?_
        rintro e w7 ⟨t7, rfl, ht7, b7⟩
        obtain rfl := ht7.uniq HT.out
        have b7 : Below w.heap.size w w7 := b6.trans (b7.mono b6.size)
        have hse : (⟨s.data.toList.toArray⟩ : ByteArray) = s := by simp
        rw [hse]
        clear b6 ht7 X6 hse
        go_wp2_with fail
        go_ret
        exact ⟨rfl, b7⟩
    · go_enter Try.func9, Try.ntmps9
      go_wp2_with fail
      refine (awake_any _).mono ?_
      rintro e w1 ⟨rfl, b1⟩
      go_wp2_with fail
      go_ret
      exact ⟨rfl, b1⟩
  · go_enter Try.func9, Try.ntmps9
    go_wp2_with fail
    refine (awake_any _).mono ?_
    rintro e w1 ⟨rfl, b1⟩
    go_wp2_with fail
    go_ret
    exact ⟨rfl, b1⟩
end Go.Proofs.Ytefkkmnhnldcbaa
