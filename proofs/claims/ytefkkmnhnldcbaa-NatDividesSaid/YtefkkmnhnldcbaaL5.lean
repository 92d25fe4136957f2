/- NatTexts: its walk. -/
import Derived.Test.YtefkkmnhnldcbaaD8
import Derived.Test.YtefkkmnhnldcbaaD9
import Derived.Test.YtefkkmnhnldcbaaL2
import Derived.Test.YtefkkmnhnldcbaaE2
namespace Go.Proofs.Ytefkkmnhnldcbaa
open Go.RowKit

/-- Parse and its reference answer alike: a number and no error, or nothing and ErrForm -/
theorem parses (s : ByteArray) (hs : s.size ≤ maxLen) :
    ∃ (v8 : Int) (N k : Nat), N < M.BB ^ k ∧ k ≤ 100000 ∧
      (∀ w, Calls Try.prog 32 #[.string s] w fun e w' => ∃ v, e = .returned (.tuple #[v, .int .i64 v8]) ∧ Num w' v N ∧ Below w.heap.size w w') ∧
      (∀ w, Calls Try.prog 33 #[.string s] w fun e w' => ∃ v, e = .returned (.tuple #[v, .int .i64 v8]) ∧ Num w' v N ∧ Below w.heap.size w w') := by
  cases h : isT s.data.toList with
  | true =>
    refine ⟨0, T.dv s.data.toList, s.data.toList.length, dv_small h (Nat.le_refl _), by have := (isT_parts.1 h).2.1; omega, fun w => parse_good s w hs h, fun w => rparse_good s w h⟩
  | false =>
    refine ⟨8, 0, 0, by rw [Nat.pow_zero]; omega, by omega, fun w => (parse_bad s w hs h).mono fun e w' ⟨h1, h2⟩ => ⟨_, h1, num_nil _, by rw [← h2]; exact Below.refl _ _⟩, fun w => (rparse_bad s w hs h).mono fun e w' ⟨h1, h2⟩ => ⟨_, h1, num_nil _, h2⟩⟩

theorem text_in {w : World} {A : Option Addr} {n c N : Nat} (h : In w A n c N) : Calls Try.prog 34 #[.slice A n c] w (GivesText w N) := by
  obtain ⟨l, h1, rfl, h3, h4, h5⟩ := h
  exact text_any _ _ _ _ _ h1 h3 h4 h5

set_option maxHeartbeats 4000000 in
theorem natTexts_walk (A : Option Addr) (n c : Nat) (l : List Nat) (s : ByteArray) (w : World) (h : Lims w A n l) (hn : n ≤ c) (hc : c ≤ maxLen) (hs : s.size ≤ maxLen) :
    Calls Try.prog 6 #[.slice A n c, .string s] w fun e w' => e = .returned (.bool true) ∧ Below w.heap.size w w' := by
  have hs' : s.size ≤ 9223372036854775807 := hs
  by_cases hn24 : n ≤ 24
  · by_cases hs2 : s.size ≤ 200
    · obtain ⟨ia, la⟩ := in_of h hn hc hn24 (by omega)
      have LA := Lib.hid la
      clear la
      obtain ⟨v8, N, k, hk1, hk2, P1, P2⟩ := parses s hs
      have HK := Lib.hid hk1
      have P1 := Lib.hid P1
      have P2 := Lib.hid P2
      clear hk1 hk2
      go_enter Try.func6, Try.ntmps6
      go_wp2_with fail
      refine (awake_any _).mono ?_
      rintro e w1 ⟨rfl, b1⟩
      go_wp2_with fail
      refine (P1.out _).mono ?_
      rintro e w2 ⟨v2, rfl, n2, b2⟩
      have b2 : Below w.heap.size w w2 := b1.trans (b2.mono b1.size)
      clear b1
      go_wp2_with fail
      refine (P2.out _).mono ?_
      rintro e w3 ⟨v3, rfl, n3, b3⟩
      have n2 := n2.below b3
      obtain ⟨A2, q2, c2, A3, q3, c3, rfl, rfl, S⟩ := same_nums n2 n3
      have S := Lib.hid S
      have b3 : Below w.heap.size w w3 := b2.trans (b3.mono b2.size)
      clear b2 n2 n3
      go_wp2_with fail
      refine S.out.mono ?_
      rintro e w4 ⟨rfl, b4⟩
      have b4 : Below w.heap.size w w4 := b3.trans (b4.mono b3.size)
      clear b3 S
      have T1 := Lib.hid (text_in (ia.below b4))
      have T2 := Lib.hid fun W (q : Below w.heap.size w W) => rtext_num A n c _ 24 W (ia.below q) LA.out (by omega)
      clear ia h
      go_wp2_with fail
      refine T1.out.mono ?_
      rintro e w5 ⟨t5, rfl, x5, b5⟩
      have b5 : Below w.heap.size w w5 := b4.trans (b5.mono b4.size)
      clear b4 T1
      go_wp2_with fail
      refine (T2.out _ b5).mono ?_
      rintro e w6 ⟨t6, rfl, x6, b6⟩
      have b6 : Below w.heap.size w w6 := b5.trans (b6.mono b5.size)
      obtain rfl := x5.uniq x6
      clear b5 T2 x5 x6
      go_wp2_with fail
      go_ret
      exact ⟨by simp, b6⟩
    · go_enter Try.func6, Try.ntmps6
      go_wp2_with fail
      refine (awake_any _).mono ?_
      rintro e w1 ⟨rfl, b1⟩
      go_wp2_with fail
      go_ret
      exact ⟨rfl, b1⟩
  · go_enter Try.func6, Try.ntmps6
    go_wp2_with fail
    refine (awake_any _).mono ?_
    rintro e w1 ⟨rfl, b1⟩
    go_wp2_with fail
    go_ret
    exact ⟨rfl, b1⟩
end Go.Proofs.Ytefkkmnhnldcbaa
