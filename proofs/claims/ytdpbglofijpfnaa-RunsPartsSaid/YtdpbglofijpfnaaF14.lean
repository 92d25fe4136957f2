/- The law RunsStands. -/
import Derived.Test.YtdpbglofijpfnaaF13
namespace Go.Proofs.Ytdpbglofijpfnaa
open Go.RowKit

theorem ret_b8 {a b : Bool} (h : a = b) : Ending.returned (.bool a) = .returned (.bool b) := by rw [h]
theorem Tx.sameT_is (a b : List (Int × Int)) : Tx.sameT a b = (Tx.mayB a && sameR a b) := by
  unfold Tx.sameT
  by_cases h : a = b
  · subst h
    rw [sameR, decide_eq_true rfl]
    cases Tx.mayB a <;> rfl
  · rw [sameR, decide_eq_false h]
    simp
set_option maxRecDepth 100000 in
set_option maxHeartbeats 3200000 in
theorem runsStands_walk (w : World) (A : Option Addr) (n c : Nat) (R : List (Int × Int)) (B : Option Addr) (m d : Nat) (S : List (Int × Int)) (i : Int) (h : ArgR w A n R) (h' : ArgR w B m S) (hi : (Lit.int .i64 i).wf = true) (hc : n ≤ c) (hd : m ≤ d) :
    Calls Try.prog 4 #[.slice A n c, .slice B m d, .int .i64 i] w fun e w' => e = .returned (.bool true) ∧ Below w.heap.size w w' := by
  have HA := Lib.hid (kawake8 w)
  have Hc := Lib.hid hc
  have Hd := Lib.hid hd
  clear hc hd
  have H1 := Lib.hid fun W (hW : Below w.heap.size w W) => ksmall8 W A n c R B m d S none 0 0 [] (h.1.below hW) (h'.1.below hW) (RunS.nil _ _)
  have HH := Lib.hid (And.intro h h')
  have HI := Lib.hid hi
  clear h h' hi
  go_enter Try.func4, Try.ntmps4
  go_wp2_with fail
  refine HA.out.mono ?_
  rintro e w1 ⟨rfl, b1⟩
  have B1 := Lib.hid b1
  clear b1 HA
  go_wp2_with fail
  refine (H1.out _ B1.out).mono ?_
  rintro e w2 ⟨⟨b, rfl, hb⟩, b2⟩
  have B2 := Lib.hid (B1.out.trans (b2.mono B1.out.size))
  clear b2 H1
  cases b with
  | false =>
    clear hb
    go_wp2
    go_ret
    exact ⟨rfl, B2.out⟩
  | true =>
    obtain ⟨⟨hn, hl⟩, ⟨hm, hl'⟩, _⟩ := hb rfl
    have HT := Lib.hid fun W (hW : Below w.heap.size w W) => And.intro ((HH.out.1.txt (by omega)).below hW) ((HH.out.2.txt (by omega)).below hW)
    have HS := Lib.hid fun W (hW : Below w.heap.size w W) => And.intro ((Sml.of HH.out.1.1 hn hl).below hW) ((Sml.of HH.out.2.1 hm hl').below hW)
    have K1 := Lib.hid fun W (hW : Below w.heap.size w W) => rmay8 W A n c R (HT.out W hW).1.runs
    have K2 := Lib.hid fun W (hW : Below w.heap.size w W) => rtexts W A n c R B m d S (HT.out W hW).1.runs (HT.out W hW).2.runs (by omega)
    have K3 := Lib.hid fun W (hW : Below w.heap.size w W) => kprefix8 W B m d S A n c R (HT.out W hW).2 (HT.out W hW).1 Hd.out Hc.out
    have K4 := Lib.hid fun W (hW : Below w.heap.size w W) => rprefix8 W B m d S A n c R (HS.out W hW).2 (HS.out W hW).1
    have K5 := Lib.hid fun W (hW : Below w.heap.size w W) => ksuffix8 W B m d S A n c R (HT.out W hW).2 (HT.out W hW).1 Hd.out Hc.out
    have K6 := Lib.hid fun W (hW : Below w.heap.size w W) => rsuffix8 W B m d S A n c R (HS.out W hW).2 (HS.out W hW).1
    have K7 := Lib.hid fun W (hW : Below w.heap.size w W) => kindex8 W A n c R B m d S i (HT.out W hW).1 (HT.out W hW).2 Hd.out HI.out
    have K8 := Lib.hid fun W (hW : Below w.heap.size w W) => rindex8 W A n c R B m d S i (HS.out W hW).1 (HS.out W hW).2
    have K9 := Lib.hid fun W (hW : Below w.heap.size w W) => kcontains8 W A n c R B m d S (HT.out W hW).1 (HT.out W hW).2 Hd.out
    have K10 := Lib.hid fun W (hW : Below w.heap.size w W) => rindex8 W A n c R B m d S 0 (HS.out W hW).1 (HS.out W hW).2
    have K11 := Lib.hid fun W (hW : Below w.heap.size w W) => ksame8 W A n c R B m d S (HT.out W hW).1 (HT.out W hW).2
    rw [Tx.sameT_is] at K11
    generalize Tx.mayB R = p at K1 K11
    generalize sameR R S = q at K2 K11
    generalize Tx.prefB S R = x at K3 K4
    generalize Tx.suffB S R = y at K5 K6
    have hx : (x == x) = true := by simp
    have hy : (y == y) = true := by simp
    clear hb hn hl hm hl' HT HS HH HI
    go_wp2_with fail
    refine (K1.out _ B2.out).mono ?_
    rintro e w3 ⟨rfl, b3⟩
    have B3 := Lib.hid (B2.out.trans (b3.mono B2.out.size))
    clear b3 K1
    go_wp2_with fail
    refine (K2.out _ B3.out).mono ?_
    rintro e w4 ⟨rfl, b4⟩
    have B4 := Lib.hid (B3.out.trans (b4.mono B3.out.size))
    clear b4 K2
    go_wp2_with fail
    refine (K3.out _ B4.out).mono ?_
    rintro e w5 ⟨rfl, b5⟩
    have B5 := Lib.hid (B4.out.trans (b5.mono B4.out.size))
    clear b5 K3
    go_wp2_with fail
    refine (K4.out _ B5.out).mono ?_
    rintro e w6 ⟨rfl, b6⟩
    have B6 := Lib.hid (B5.out.trans (b6.mono B5.out.size))
    clear b6 K4
    go_wp2_with fail
    refine (K5.out _ B6.out).mono ?_
    rintro e w7 ⟨rfl, b7⟩
    have B7 := Lib.hid (B6.out.trans (b7.mono B6.out.size))
    clear b7 K5
    go_wp2_with fail
    refine (K6.out _ B7.out).mono ?_
    rintro e w8 ⟨rfl, b8⟩
    have B8 := Lib.hid (B7.out.trans (b8.mono B7.out.size))
    clear b8 K6
    go_wp2_with fail
    refine (K7.out _ B8.out).mono ?_
    rintro e w9 ⟨⟨r, rfl, hr⟩, b9⟩
    have B9 := Lib.hid (B8.out.trans (b9.mono B8.out.size))
    have HR := Lib.hid hr
    clear b9 K7 hr
    go_wp2_with fail
    refine (K8.out _ B9.out).mono ?_
    rintro e w10 ⟨⟨r', rfl, hr'⟩, b10⟩
    have B10 := Lib.hid (B9.out.trans (b10.mono B9.out.size))
    obtain rfl := HR.out.uniq hr'
    have hrr : (r == r) = true := by simp
    clear b10 K8 hr' HR
    go_wp2_with fail
    refine (K9.out _ B10.out).mono ?_
    rintro e w11 ⟨rfl, b11⟩
    have B11 := Lib.hid (B10.out.trans (b11.mono B10.out.size))
    clear b11 K9
    obtain ⟨cb, hcb⟩ : ∃ cb, Tx.contB R S = cb := ⟨_, rfl⟩
    rw [hcb]
    have HCb := Lib.hid hcb
    clear hcb
    go_wp2_with fail
    refine (K10.out _ B11.out).mono ?_
    rintro e w12 ⟨⟨r0, rfl, hr0⟩, b12⟩
    have B12 := Lib.hid (B11.out.trans (b12.mono B11.out.size))
    have hc0 : cb = decide (0 ≤ r0) := by rw [← HCb.out]; exact Tx.contB_idx hr0
    have hways : cb = true ∧ 0 ≤ r0 ∨ cb = false ∧ r0 < 0 := by
      by_cases h : 0 ≤ r0
      · exact .inl ⟨by rw [hc0, decide_eq_true h], h⟩
      · exact .inr ⟨by rw [hc0, decide_eq_false h], by omega⟩
    clear b12 K10 hr0 HCb hc0
    rcases hways with ⟨rfl, hr0⟩ | ⟨rfl, hr0⟩
    all_goals
      go_wp2_with fail
      refine (K11.out _ B12.out).mono ?_
      rintro e w13 ⟨rfl, b13⟩
      have B13 := Lib.hid (B12.out.trans (b13.mono B12.out.size))
      clear b13 K11
      cases p <;> cases q
      all_goals
        go_wp2
        go_ret
        first | exact ⟨rfl, B13.out⟩ | exact ⟨ret_b8 (a := !decide (0 ≤ r0)) (by rw [decide_eq_false (by omega)]; rfl), B13.out⟩
end Go.Proofs.Ytdpbglofijpfnaa
