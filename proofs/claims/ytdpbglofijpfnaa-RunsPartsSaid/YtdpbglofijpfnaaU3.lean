/- The code's Len, Same, within; slices.Equal over runs. -/
import Derived.Test.YtdpbglofijpfnaaU2
namespace Go.Proofs.Ytdpbglofijpfnaa
open Go.RowKit

set_option maxRecDepth 100000 in
set_option maxHeartbeats 1600000 in
theorem kequalq (w : World) (A : Option Addr) (n c : Nat) (l : List (Int × Int)) (B : Option Addr) (m d : Nat) (l' : List (Int × Int)) (h : RunS w A n l) (h' : RunS w B m l') (hn : n ≤ 1000000000) :
    Calls Try.prog 39 #[.slice A n c, .slice B m d] w fun e w' => e = .returned (.bool (sameR l l')) ∧ ∃ q, w' = w.drewN q := by
  by_cases hnm : n = m
  · subst hnm
    have HH := Lib.hid h
    have HH' := Lib.hid h'
    have hlen : l.length = l'.length := by rw [h.len, h'.len]
    obtain ⟨X, HX⟩ : ∃ X, Hid (sameR l l' = X) := ⟨_, rfl⟩
    rw [HX.out]
    clear h h' hlen
    go_enter Try.func39, Try.ntmps39
    go_wp2
    go_loopw [13] (fun iv wr => ∃ i : Nat, i ≤ n ∧ iv = .int .i64 (i : Nat) ∧ ∃ q, wr = w.drewN q ∧ Hid (l.take i = l'.take i)) (fun iv _ => n - (intOf iv).toNat)
    case atStart => exact ⟨0, Nat.zero_le _, rfl, 0, rfl, rfl⟩
    case round =>
      obtain ⟨i, hi, rfl, q, hwr, HI⟩ := hrel
      have hbw : Below w.heap.size w wr := by rw [hwr]; exact Turn.none_ ((Turn.refl (fun _ => False) w).drewN q) (fun _ => id)
      have HQ : Hid (∀ k, wr.drewN k = w.drewN (q + k)) := fun k => by rw [hwr, World.drewN_drewN]
      clear hwr
      by_cases hlt : i < n
      · obtain ⟨b, off, ⟨x, x'⟩, rfl, hx, _, _, hc⟩ := HH.out.get hlt
        obtain ⟨b', off', ⟨y, y'⟩, rfl, hy, _, _, hc'⟩ := HH'.out.get hlt
        obtain ⟨q1, q2, q2'⟩ := hc wr hbw
        obtain ⟨q3, q4, q4'⟩ := hc' wr hbw
        have hlt' : (i : Int) < (n : Int) := by omega
        have h0 : (0 : Int) ≤ (i : Int) := by omega
        by_cases hxy : x = y ∧ x' = y'
        · obtain ⟨rfl, rfl⟩ := hxy
          have HN : Hid (l.take (i + 1) = l'.take (i + 1)) := by
            show _ = _
            rw [take_one hx, take_one hy, HI.out]
          clear hx hy hc hc' HI hbw
          go_wp2
          go_quiet (fail)
          go_wp2
          go_roundw
          case rel => exact ⟨i + 1, by omega, by go_num, _, HQ.out _, HN.out⟩
          case measure => simp [intOf]; omega
        · obtain rfl : X = false := by
            rw [← HX.out]
            refine decide_eq_false fun e => hxy ?_
            subst e
            have := Option.some.inj (hx.symm.trans hy)
            injection this with e1 e2
            exact ⟨e1, e2⟩
          clear hx hy hc hc' HI hbw HX
          rcases Classical.em (x = y) with h1 | h1
          · have h2 : ¬ x' = y' := fun e => hxy ⟨h1, e⟩
            subst h1
            clear hxy
            go_wp2
            go_quiet (fail)
            go_wp2
            go_ret
            exact ⟨rfl, _, HQ.out _⟩
          · clear hxy
            go_wp2
            go_quiet (fail)
            go_wp2
            go_ret
            exact ⟨rfl, _, HQ.out _⟩
      · obtain rfl : i = n := by omega
        obtain rfl : X = true := by
          rw [← HX.out]
          refine decide_eq_true ?_
          have := HI.out
          rwa [List.take_of_length_le (by rw [HH.out.len]; exact Nat.le_refl _), List.take_of_length_le (by rw [HH'.out.len]; exact Nat.le_refl _)] at this
        clear HI HX hbw
        go_wp2
        go_ret
        exact ⟨rfl, q, by have := HQ.out 0; rwa [Nat.add_zero] at this⟩
  · have hne : (n : Int) ≠ (m : Int) := by omega
    have hres : sameR l l' = false := by
      refine decide_eq_false fun e => hnm ?_
      rw [← h.len, ← h'.len, e]
    rw [hres]
    clear h h' hnm
    go_enter Try.func39, Try.ntmps39
    go_wp2
    go_ret
    exact ⟨rfl, 0, rfl⟩

theorem kequal8 (w : World) (A : Option Addr) (n c : Nat) (l : List (Int × Int)) (B : Option Addr) (m d : Nat) (l' : List (Int × Int)) (h : RunS w A n l) (h' : RunS w B m l') (hn : n ≤ 1000000000) :
    Calls Try.prog 39 #[.slice A n c, .slice B m d] w fun e w' => e = .returned (.bool (sameR l l')) ∧ Below w.heap.size w w' := by
  refine (kequalq w A n c l B m d l' h h' hn).mono ?_
  rintro e w' ⟨rfl, q, rfl⟩
  exact ⟨rfl, Turn.none_ ((Turn.refl (fun _ => False) w).drewN q) (fun _ => id)⟩

/-- may the run x stand in the run y? -/
def Tx.wi (x y : Int × Int) : Bool := decide (x.1 = y.1) && decide (x.2 ≤ y.2)
set_option maxRecDepth 100000 in
theorem kwithin8 (w : World) (x1 x2 y1 y2 : Int) : Calls Try.prog 40 #[.agg #[.int .i64 x1, .int .i64 x2], .agg #[.int .i64 y1, .int .i64 y2]] w fun e w' => e = .returned (.bool (Tx.wi (x1, x2) (y1, y2))) ∧ Below w.heap.size w w' := by
  have hb : Below w.heap.size w ((w.alloc (.cells #[.int .i64 x1, .int .i64 x2] 38)).alloc (.cells #[.int .i64 y1, .int .i64 y2] 38)) := ((Below.refl _ w).alloc (Nat.le_refl _) _).alloc (by simp) _
  by_cases h1 : x1 = y1
  · have d1 : (x1 == y1) = true := beq_iff_eq.2 h1
    by_cases h2 : x2 ≤ y2
    · have d2 : decide (x2 ≤ y2) = true := decide_eq_true h2
      have hr : Tx.wi (x1, x2) (y1, y2) = true := by simp [Tx.wi, h1, h2]
      rw [hr]
      clear h1
      go_enter Try.func40, Try.ntmps40
      go_wp2
      go_ret
      exact ⟨rfl, hb⟩
    · have d2 : decide (x2 ≤ y2) = false := decide_eq_false h2
      have hr : Tx.wi (x1, x2) (y1, y2) = false := by simp [Tx.wi, h2]
      rw [hr]
      clear h1
      go_enter Try.func40, Try.ntmps40
      go_wp2
      go_ret
      exact ⟨rfl, hb⟩
  · have d1 : (x1 == y1) = false := beq_eq_false_iff_ne.2 h1
    have hr : Tx.wi (x1, x2) (y1, y2) = false := by simp [Tx.wi, h1]
    rw [hr]
    go_enter Try.func40, Try.ntmps40
    go_wp2
    go_ret
    exact ⟨rfl, hb⟩

theorem klen8 (w : World) (A : Option Addr) (n c : Nat) (R : List (Int × Int)) (h : Txt w A n R) :
    Calls Try.prog 18 #[.slice A n c] w fun e w' => e = .returned (.int .i64 (Tx.lenI R)) ∧ Below w.heap.size w w' := by
  have HM := Lib.hid (kmayr w A n c R h.runs (by have := h.few; omega))
  by_cases hm : Tx.May R
  · have HL := Lib.hid fun W (hW : Below w.heap.size w W) => klength_may W A n c R (h.runs.below hW) hm
    rw [Tx.mayB_true hm] at HM
    rw [Tx.lenI_may hm]
    clear h hm
    go_enter Try.func18, Try.ntmps18
    go_wp2_with fail
    refine HM.out.mono ?_
    rintro e w1 ⟨rfl, b1⟩
    have HL1 := Lib.hid (HL.out w1 b1)
    have B1 := Lib.hid b1
    clear b1 HL HM
    go_wp2_with fail
    refine HL1.out.mono ?_
    rintro e w2 ⟨rfl, b2⟩
    go_wp2
    go_ret
    exact ⟨rfl, B1.out.trans (b2.mono B1.out.size)⟩
  · rw [Tx.mayB_false hm] at HM
    have h0 : Tx.lenI R = 0 := by unfold Tx.lenI; rw [Tx.mayB_false hm]; rfl
    rw [h0]
    clear h hm
    go_enter Try.func18, Try.ntmps18
    go_wp2_with fail
    refine HM.out.mono ?_
    rintro e w1 ⟨rfl, b1⟩
    go_wp2
    go_ret
    exact ⟨rfl, b1⟩
theorem ksame8 (w : World) (A : Option Addr) (n c : Nat) (R : List (Int × Int)) (B : Option Addr) (m d : Nat) (S : List (Int × Int)) (h : Txt w A n R) (h' : Txt w B m S) :
    Calls Try.prog 27 #[.slice A n c, .slice B m d] w fun e w' => e = .returned (.bool (Tx.sameT R S)) ∧ Below w.heap.size w w' := by
  have HM := Lib.hid (kmayr w A n c R h.runs (by have := h.few; omega))
  have HE := Lib.hid fun W (hW : Below w.heap.size w W) => kequal8 W A n c R B m d S (h.runs.below hW) (h'.runs.below hW) (by have := h.few; omega)
  have hr : Tx.sameT R S = (Tx.mayB R && sameR R S) := by
    unfold Tx.sameT
    by_cases h : R = S
    · subst h
      rw [sameR, decide_eq_true rfl]
      cases Tx.mayB R <;> rfl
    · rw [sameR, decide_eq_false h, Bool.and_false, Bool.and_false]
  rw [hr]
  clear hr h h'
  generalize Tx.mayB R = x at HM ⊢
  generalize sameR R S = y at HE ⊢
  cases x
  · go_enter Try.func27, Try.ntmps27
    go_wp2_with fail
    refine HM.out.mono ?_
    rintro e w1 ⟨rfl, b1⟩
    go_wp2
    go_ret
    exact ⟨rfl, b1⟩
  · go_enter Try.func27, Try.ntmps27
    go_wp2_with fail
    refine HM.out.mono ?_
    rintro e w1 ⟨rfl, b1⟩
    have HE1 := Lib.hid (HE.out w1 b1)
    have B1 := Lib.hid b1
    clear b1 HE HM
    go_wp2_with fail
    refine HE1.out.mono ?_
    rintro e w2 ⟨rfl, b2⟩
    go_wp2
    go_ret
    exact ⟨rfl, B1.out.trans (b2.mono B1.out.size)⟩
end Go.Proofs.Ytdpbglofijpfnaa
