/- The code's answers as texts; the law RunsParts. -/
import Derived.Test.YtdpbglofijpfnaaF14
import Derived.OpenShut
namespace Go.Proofs.Ytdpbglofijpfnaa
open Go.RowKit Go.ChangeShapes Go.WideShapes Go.ChangeAt

theorem ksub8 (w : World) (A : Option Addr) (n c : Nat) (R : List (Int × Int)) (i k : Int) (h : Txt w A n R) (hi : (Lit.int .i64 i).wf = true) (hk : (Lit.int .i64 k).wf = true) :
    Calls Try.prog 13 #[.slice A n c, .int .i64 i, .int .i64 k] w fun e w' => (∃ (A' : Option Addr) (c' m : Nat), e = .returned (.slice A' m c') ∧ Txt w' A' m (Tx.subR R i k) ∧ m ≤ n) ∧ Below w.heap.size w w' := by
  refine (ksubstr8 w A n c R i k h hi hk).mono ?_
  rintro e w' ⟨⟨A', c', rfl, o⟩, b⟩
  have hl := Tx.subR_len (R := R) i k
  have h1 := h.runs.len
  have h2 := h.few
  exact ⟨⟨A', c', _, rfl, Txt.may (OwnR.runs o rfl) (Tx.subR_wf i k) (by omega), by omega⟩, b⟩
theorem Tx.conI_may (a b : List (Int × Int)) : Tx.May (Tx.conI a b).2 ∧ (Tx.conI a b).2.length ≤ a.length + b.length := by
  by_cases h : Tx.May a ∧ Tx.May b
  · obtain ⟨ha, hb⟩ := h
    rw [Tx.conI_is ha hb]
    split
    · rename_i hf
      have l1 := ha.len.2
      have l2 := hb.len.2
      exact ⟨Tx.may_runs (Tx.app_pts ha.own.pts hb.own.pts) (by rw [List.length_append]; omega) hf.2, Tx.runs_both ha hb⟩
    · exact ⟨Tx.May.nil, Nat.zero_le _⟩
  · have hand : (Tx.mayB a && Tx.mayB b) = false := by
      by_cases ha : Tx.May a
      · rw [Tx.mayB_false fun hb => h ⟨ha, hb⟩, Bool.and_false]
      · rw [Tx.mayB_false ha]; rfl
    rw [Tx.conI_bad hand]
    exact ⟨Tx.May.nil, Nat.zero_le _⟩
theorem kcon8 (w : World) (A : Option Addr) (n c : Nat) (R : List (Int × Int)) (B : Option Addr) (m d : Nat) (S : List (Int × Int)) (h : Txt w A n R) (h' : Txt w B m S) (hnm : n + m ≤ 2000) :
    Calls Try.prog 28 #[.slice A n c, .slice B m d] w fun e w' => (∃ (A' : Option Addr) (c' k : Nat), e = .returned (.tuple #[.slice A' k c', .int .i64 (Tx.conI R S).1]) ∧ Txt w' A' k (Tx.conI R S).2 ∧ k ≤ n + m ∧ k ≤ c') ∧ Below w.heap.size w w' := by
  refine (kconcat8 w A n c R B m d S h h').mono ?_
  rintro e w' ⟨⟨A', c', rfl, o⟩, b⟩
  obtain ⟨h1, h2⟩ := Tx.conI_may R S
  have h3 := h.runs.len
  have h4 := h'.runs.len
  exact ⟨⟨A', c', _, rfl, Txt.may (OwnR.runs o rfl) h1 (by omega), by omega, OwnR.cap8 o⟩, b⟩
theorem ktexts8 (w : World) (A : Option Addr) (n c : Nat) (R : List (Int × Int)) (B : Option Addr) (m d : Nat) (h : Txt w A n R) (h' : Txt w B m R) :
    Calls Try.prog 12 #[.slice A n c, .slice B m d] w fun e w' => e = .returned (.bool true) ∧ Below w.heap.size w w' := by
  have := rtexts w A n c R B m d R h.runs h'.runs (by have := h.few; omega)
  rw [sameR_self] at this
  exact this

set_option maxRecDepth 100000 in
set_option maxHeartbeats 3200000 in
theorem runsParts_walk (w : World) (A : Option Addr) (n c : Nat) (s : List (Int × Int)) (i k j m : Int) (h : ArgR w A n s) (hi : (Lit.int .i64 i).wf = true) (hk : (Lit.int .i64 k).wf = true) (hj : (Lit.int .i64 j).wf = true) (hm : (Lit.int .i64 m).wf = true) :
    Calls Try.prog 6 #[.slice A n c, .int .i64 i, .int .i64 k, .int .i64 j, .int .i64 m] w fun e w' => e = .returned (.bool true) ∧ Below w.heap.size w w' := by
  have HA := Lib.hid (kawake8 w)
  by_cases hl : 300 < n
  · have hl' : (300 : Int) < (n : Int) := by omega
    clear hl h hi hk hj hm
    go_enter Try.func6, Try.ntmps6
    go_wp2_with (go_at_call 10; refine HA.out.mono ?_; rintro e w1 ⟨rfl, b1⟩)
    go_ret
    exact ⟨rfl, b1⟩
  have hl' : ¬ (300 : Int) < (n : Int) := by omega
  have HT := Lib.hid fun W (hW : Below w.heap.size w W) => (h.txt (by omega)).below hW
  have KM := Lib.hid fun W (hW : Below w.heap.size w W) => kmay8 W A n c s (HT.out W hW)
  by_cases hs : Tx.May s
  case neg =>
    rw [Tx.mayB_false hs] at KM
    clear hl h hi hk hj hm hs HT
    go_enter Try.func6, Try.ntmps6
    go_wp2_with fail
    refine HA.out.mono ?_
    rintro e w1 ⟨rfl, b1⟩
    have B1 := Lib.hid b1
    clear b1 HA
    go_wp2_with (go_at_call 16; refine (KM.out _ B1.out).mono ?_; rintro e w2 ⟨rfl, b2⟩)
    go_ret
    exact ⟨rfl, B1.out.trans (b2.mono B1.out.size)⟩
  rw [Tx.mayB_true hs] at KM
  by_cases hgood : 0 ≤ i ∧ 0 ≤ k ∧ 0 ≤ j ∧ 0 ≤ m ∧ i ≤ 1099511627776 ∧ k ≤ 1099511627776 ∧ j ≤ k
  case neg =>
    have hw : i < 0 ∨ ¬ i < 0 ∧ k < 0 ∨ ¬ i < 0 ∧ ¬ k < 0 ∧ j < 0 ∨ ¬ i < 0 ∧ ¬ k < 0 ∧ ¬ j < 0 ∧ m < 0 ∨ ¬ i < 0 ∧ ¬ k < 0 ∧ ¬ j < 0 ∧ ¬ m < 0 ∧ 1099511627776 < i ∨ ¬ i < 0 ∧ ¬ k < 0 ∧ ¬ j < 0 ∧ ¬ m < 0 ∧ ¬ 1099511627776 < i ∧ 1099511627776 < k ∨ ¬ i < 0 ∧ ¬ k < 0 ∧ ¬ j < 0 ∧ ¬ m < 0 ∧ ¬ 1099511627776 < i ∧ ¬ 1099511627776 < k ∧ k < j := by omega
    clear hl h hi hk hj hm hs HT hgood
    rcases hw with g1 | ⟨g1, g2⟩ | ⟨g1, g2, g3⟩ | ⟨g1, g2, g3, g4⟩ | ⟨g1, g2, g3, g4, g5⟩ | ⟨g1, g2, g3, g4, g5, g6⟩ | ⟨g1, g2, g3, g4, g5, g6, g7⟩
    all_goals
      go_enter Try.func6, Try.ntmps6
      go_wp2_with fail
      refine HA.out.mono ?_
      rintro e w1 ⟨rfl, b1⟩
      have B1 := Lib.hid b1
      clear b1
      go_wp2_with (go_at_call 16; refine (KM.out _ B1.out).mono ?_; rintro e w2 ⟨rfl, b2⟩)
      go_ret
      exact ⟨rfl, B1.out.trans (b2.mono B1.out.size)⟩
  obtain ⟨g1, g2, g3, g4, g5, g6, g7⟩ := hgood
  have KL := Lib.hid fun W (hW : Below w.heap.size w W) => klen8 W A n c s (HT.out W hW)
  rw [Tx.lenI_may hs] at KL
  have htot := hs.most
  have htot0 := hs.len.2
  have htw : (Lit.int .i64 (Lt.total s)).wf = true := WalkArith.wf_i64 (by omega)
  have whole := Tx.parts_whole hs g1
  obtain ⟨x, hx⟩ : ∃ x, x = if k - j < m then k - j else m := ⟨_, rfl⟩
  have inner := Tx.parts_inner hs g1 g3 g4 g7 hx
  have hxw : 0 ≤ x ∧ x ≤ 9223372036854775807 := by
    have hmw : m ≤ 9223372036854775807 := by
      exact (bounds_i64 hm).2
    split at hx <;> omega
  have plen := Tx.parts_len hs g1 g2
  have K1 := Lib.hid fun W (hW : Below w.heap.size w W) => ksub8 W A n c s 0 i (HT.out W hW) (by decide) hi
  have K2 := Lib.hid fun W (hW : Below w.heap.size w W) => ksub8 W A n c s i (Lt.total s) (HT.out W hW) hi htw
  have K3 := Lib.hid fun W A1 n1 c1 A2 n2 c2 (h1 : Txt W A1 n1 (Tx.subR s 0 i)) (h2 : Txt W A2 n2 (Tx.subR s i (Lt.total s))) (hnm : n1 + n2 ≤ 2000) => kcon8 W A1 n1 c1 _ A2 n2 c2 _ h1 h2 hnm
  rw [whole] at K3
  have K4 := Lib.hid fun W (hW : Below w.heap.size w W) => ksub8 W A n c s i k (HT.out W hW) hi hk
  have K5 := Lib.hid fun W A1 n1 c1 (h1 : Txt W A1 n1 (Tx.subR s i k)) => ksub8 W A1 n1 c1 _ j m h1 hj hm
  rw [inner] at K5
  have K6 := Lib.hid fun W (hW : Below w.heap.size w W) => ksub8 W A n c s (i + j) x (HT.out W hW) (WalkArith.wf_i64 (by omega)) (WalkArith.wf_i64 (by omega))
  have K7 := Lib.hid fun W A1 n1 c1 (h1 : Txt W A1 n1 (Tx.subR s i k)) => klen8 W A1 n1 c1 _ h1
  rw [plen] at K7
  have htw2 : -1099511627776 ≤ Lt.total s - i ∧ Lt.total s - i ≤ 1099511627776 := by omega
  generalize Lt.total s = tot at *
  have e1 : IntKind.i64.wrap (k - j) = k - j := IntWalk.i64_in _ (by omega)
  have e2 : IntKind.i64.wrap (i + j) = i + j := IntWalk.i64_in _ (by omega)
  have e3 : IntKind.i64.wrap (tot - i) = tot - i := IntWalk.i64_in _ (by omega)
  have q1 : ¬ i < 0 := by omega
  have q2 : ¬ k < 0 := by omega
  have q3 : ¬ j < 0 := by omega
  have q4 : ¬ m < 0 := by omega
  have q5 : ¬ 1099511627776 < i := by omega
  have q6 : ¬ 1099511627776 < k := by omega
  have q7 : ¬ k < j := by omega
  have hxx : (k - j < m ∧ x = k - j) ∨ (¬ k - j < m ∧ x = m) := by split at hx <;> omega
  obtain ⟨wa, hwa⟩ : ∃ wa, wa = if tot - i < 0 then 0 else tot - i := ⟨_, rfl⟩
  rw [← hwa] at K7
  have hwa2 : (tot - i < 0 ∧ wa = 0) ∨ (¬ tot - i < 0 ∧ wa = tot - i) := by split at hwa <;> omega
  clear hl h hi hk hj hm hs htot htot0 htw whole inner plen g1 g2 g3 g4 g5 g6 g7 hx hxw hwa htw2
  have hn3 : n ≤ 300 := by omega
  rcases hxx with ⟨hc1, rfl⟩ | ⟨hc1, rfl⟩
  all_goals
    go_enter Try.func6, Try.ntmps6
    go_wp2_with fail
    refine HA.out.mono ?_
    rintro e w1 ⟨rfl, b1⟩
    have B1 := Lib.hid b1
    clear b1 HA
    go_wp2_with fail
    refine (KM.out _ B1.out).mono ?_
    rintro e w2 ⟨rfl, b2⟩
    have B2 := Lib.hid (B1.out.trans (b2.mono B1.out.size))
    clear b2 KM
    go_wp2_with fail
    refine (KL.out _ B2.out).mono ?_
    rintro e w3 ⟨rfl, b3⟩
    have B3 := Lib.hid (B2.out.trans (b3.mono B2.out.size))
    clear b3 KL
    go_wp2_with fail
    refine (K1.out _ B3.out).mono ?_
    rintro e w4 ⟨⟨A4, c4, n4, rfl, t4, h4⟩, b4⟩
    have B4 := Lib.hid (B3.out.trans (b4.mono B3.out.size))
    have T4 := Lib.hid (And.intro t4 h4)
    clear b4 t4 h4 K1
    go_wp2_with fail
    refine (K2.out _ B4.out).mono ?_
    rintro e w5 ⟨⟨A5, c5, n5, rfl, t5, h5⟩, b5⟩
    have B5 := Lib.hid (B4.out.trans (b5.mono B4.out.size))
    have KC := Lib.hid (K3.out w5 A4 n4 c4 A5 n5 c5 (T4.out.1.below b5) t5 (by have := T4.out.2; omega))
    clear b5 t5 h5 K2 K3 T4
    go_wp2_with fail
    refine KC.out.mono ?_
    rintro e w6 ⟨⟨A6, c6, n6, rfl, t6, _⟩, b6⟩
    have B6 := Lib.hid (B5.out.trans (b6.mono B5.out.size))
    have KT := Lib.hid (ktexts8 w6 A6 n6 c6 s A n c t6 (HT.out _ B6.out))
    clear b6 t6 KC
    go_wp2_with fail
    refine KT.out.mono ?_
    rintro e w7 ⟨rfl, b7⟩
    have B7 := Lib.hid (B6.out.trans (b7.mono B6.out.size))
    clear b7 KT
    go_wp2_with fail
    refine (K4.out _ B7.out).mono ?_
    rintro e w8 ⟨⟨A8, c8, n8, rfl, t8, h8⟩, b8⟩
    have B8 := Lib.hid (B7.out.trans (b8.mono B7.out.size))
    have K5' := Lib.hid (K5.out w8 A8 n8 c8 t8)
    clear b8 t8 K5
    go_wp2_with fail
    refine K5'.out.mono ?_
    rintro e w9 ⟨⟨A9, c9, n9, rfl, t9, _⟩, b9⟩
    have B9 := Lib.hid (B8.out.trans (b9.mono B8.out.size))
    have T9 := Lib.hid t9
    clear b9 t9 K5' h8
    go_wp2_with fail
    refine (K6.out _ B9.out).mono ?_
    rintro e w10 ⟨⟨A10, c10, n10, rfl, t10, _⟩, b10⟩
    have B10 := Lib.hid (B9.out.trans (b10.mono B9.out.size))
    have KT := Lib.hid (ktexts8 w10 A9 n9 c9 _ A10 n10 c10 (T9.out.below b10) t10)
    clear b10 t10 K6 T9
    go_wp2_with fail
    refine KT.out.mono ?_
    rintro e w11 ⟨rfl, b11⟩
    have B11 := Lib.hid (B10.out.trans (b11.mono B10.out.size))
    clear b11 KT
    go_wp2_with fail
    refine (K4.out _ B11.out).mono ?_
    rintro e w12 ⟨⟨A12, c12, n12, rfl, t12, h12⟩, b12⟩
    have B12 := Lib.hid (B11.out.trans (b12.mono B11.out.size))
    have K7' := Lib.hid (K7.out w12 A12 n12 c12 t12)
    clear b12 t12 K7 K4 h12
    rcases hwa2 with ⟨d1, rfl⟩ | ⟨d1, rfl⟩
    all_goals
      go_wp2_with (go_at_call 18; refine K7'.out.mono ?_; rintro e w13 ⟨rfl, b13⟩)
      all_goals
        go_ret
        exact ⟨rfl, B12.out.trans (b13.mono B12.out.size)⟩
end Go.Proofs.Ytdpbglofijpfnaa
