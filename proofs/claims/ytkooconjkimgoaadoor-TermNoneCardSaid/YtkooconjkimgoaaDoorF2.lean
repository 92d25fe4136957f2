/- The reference of runs: May, Len, Small. -/
import Derived.Test.YtkooconjkimgoaaDoorF1
import Derived.Test.YtkooconjkimgoaaDoorJ7
namespace Go.Proofs.YtkooconjkimgoaaDoor
open Go.RowKit

noncomputable def Tx.mayB (R : List (Int × Int)) : Bool := @decide (Tx.May R) (Classical.propDecidable _)
theorem Tx.mayB_true {R : List (Int × Int)} (h : Tx.May R) : Tx.mayB R = true := @decide_eq_true _ (Classical.propDecidable _) h
theorem Tx.mayB_false {R : List (Int × Int)} (h : ¬ Tx.May R) : Tx.mayB R = false := @decide_eq_false _ (Classical.propDecidable _) h
theorem Tx.mayB_iff {R : List (Int × Int)} : Tx.mayB R = true ↔ Tx.May R := by unfold Tx.mayB; exact @decide_eq_true_iff _ (Classical.propDecidable _)
theorem Tx.Own.take {R : List (Int × Int)} (h : Tx.Own R) (i : Nat) : Tx.Own (R.take i) :=
  ⟨fun x hx => h.pos x (List.mem_of_mem_take hx), fun j x y h1 h2 => by
    rw [List.getElem?_take] at h1 h2
    split at h1
    · split at h2
      · exact h.adj j x y h1 h2
      · cases h2
    · cases h1⟩
theorem Tx.Own.nil : Tx.Own [] := ⟨fun _ h => absurd h List.not_mem_nil, fun i x y h => by simp at h⟩
theorem Tx.Own.snoc {R : List (Int × Int)} {i : Nat} {x : Int × Int} (hx : R[i]? = some x) (h : Tx.Own (R.take i)) (hp : Lt.pt x.1 = true) (hn : 1 ≤ x.2) (ha : ∀ j y, i = j + 1 → R[j]? = some y → y.1 ≠ x.1) : Tx.Own (R.take (i + 1)) := by
  have hl := (List.getElem?_eq_some_iff.1 hx).1
  refine ⟨fun y hy => ?_, fun j y z h1 h2 => ?_⟩
  · rw [take_one hx] at hy
    rcases List.mem_append.1 hy with hy | hy
    · exact h.pos y hy
    · rw [List.mem_singleton.1 hy]
      exact ⟨hp, hn⟩
  · have hj : j + 1 < i + 1 := by
      have := (List.getElem?_eq_some_iff.1 h2).1
      rw [List.length_take] at this
      omega
    rw [List.getElem?_take, if_pos (by omega)] at h1 h2
    by_cases hji : j + 1 = i
    · subst hji
      obtain rfl := Option.some.inj (hx.symm.trans h2)
      exact ha j y rfl h1
    · exact h.adj j y z (by rw [List.getElem?_take, if_pos (by omega)]; exact h1) (by rw [List.getElem?_take, if_pos (by omega)]; exact h2)
theorem Tx.take_tot {R : List (Int × Int)} {i : Nat} {x : Int × Int} (h : R[i]? = some x) : Lt.total (R.take (i + 1)) = Lt.total (R.take i) + x.2 := by
  rw [take_one h, Lt.total_app, Lt.total, Lt.total]
  omega
theorem Tx.May.part {R : List (Int × Int)} (h : Tx.May R) (i : Nat) : Lt.total (R.take i) ≤ 1099511627776 := by
  have e : Lt.total (R.take i) + Lt.total (R.drop i) = Lt.total R := by rw [← Lt.total_app, List.take_append_drop]
  have := Lt.total_pos (R := R.drop i) fun x hx => Int.not_lt.2 (h.own.pos x (List.mem_of_mem_drop hx)).2
  have := h.most
  omega

set_option maxRecDepth 100000 in
set_option maxHeartbeats 3200000 in
theorem rmay8 (w : World) (A : Option Addr) (n c : Nat) (R : List (Int × Int)) (h : RunS w A n R) :
    Calls Tryd.prog 46 #[.slice A n c] w fun e w' => e = .returned (.bool (Tx.mayB R)) ∧ Below w.heap.size w w' := by
  have HH := Lib.hid h
  have hlen := h.len
  clear h
  by_cases hl : 65536 < n
  · have hl' : (65536 : Int) < (n : Int) := by omega
    rw [Tx.mayB_false fun h => by have := h.few; omega]
    clear hl hlen HH
    go_enter Tryd.func46, Tryd.ntmps46
    go_wp2
    go_ret
    exact ⟨rfl, Below.refl _ w⟩
  have hl' : ¬ (65536 : Int) < (n : Int) := by omega
  have hnn : n ≤ 65536 := by omega
  obtain ⟨X, HX⟩ : ∃ X, Hid (Tx.mayB R = X) := ⟨_, rfl⟩
  rw [HX.out]
  have HF : Hid (¬ Tx.May R → X = false) := fun h => HX.out ▸ Tx.mayB_false h
  have HT : Hid (Tx.May R → X = true) := fun h => HX.out ▸ Tx.mayB_true h
  have HLen := Lib.hid hlen
  clear hl hlen HX
  go_enter Tryd.func46, Tryd.ntmps46
  go_wp2
  go_loopw [3, 4] (fun sv iv wr => ∃ (i : Nat) (s : Int), i ≤ n ∧ iv = .int .i64 (i : Nat) ∧ sv = .int .i64 s ∧ 0 ≤ s ∧ s ≤ 1099511627776 ∧ Hid (Below w.heap.size w wr ∧ Tx.Own (R.take i) ∧ Lt.total (R.take i) = s)) (fun _ iv _ => n - (intOf iv).toNat)
  case atStart => exact ⟨0, 0, Nat.zero_le _, rfl, rfl, Int.le_refl _, by decide, Below.refl _ _, Tx.Own.nil, rfl⟩
  case round =>
    obtain ⟨i, s, hi, rfl, rfl, hs0, hs1, HI⟩ := hrel
    obtain ⟨hI0, hI1, hI2⟩ := HI.out
    by_cases hlt : i < n
    · obtain ⟨b, off, ⟨x1, x2⟩, rfl, hx, hmem, _, hc⟩ := HH.out.get hlt
      obtain ⟨q1, q2, q3⟩ := hc wr hI0
      have hlt' : (i : Int) < (n : Int) := by omega
      have h0 : (0 : Int) ≤ (i : Int) := by omega
      have HPt := Lib.hid (rpoint x1 wr)
      have HBn : Hid (∀ k, Below w.heap.size w (wr.drewN k)) := fun k => hI0.trans ((Turn.none_ ((Turn.refl (fun _ => False) wr).drewN k) (fun _ => id)).mono hI0.size)
      have ht := Tx.take_tot hx
      rw [hI2] at ht
      have hsub : IntKind.i64.wrap (1099511627776 - s) = 1099511627776 - s := IntWalk.i64_in _ (by omega)
      by_cases hgood : Lt.pt x1 = true ∧ 1 ≤ x2 ∧ x2 ≤ 1099511627776 - s
      case neg =>
        have hX := HF.out fun h => hgood ⟨(h.own.pos _ hmem).1, (h.own.pos _ hmem).2, by have := h.part (i + 1); simp only at ht; omega⟩
        subst hX
        have hways : Lt.pt x1 = false ∨ Lt.pt x1 = true ∧ x2 < 1 ∨ Lt.pt x1 = true ∧ 1 ≤ x2 ∧ 1099511627776 - s < x2 := by
          by_cases e : Lt.pt x1 = true
          · by_cases e2 : 1 ≤ x2
            · exact .inr (.inr ⟨e, e2, Int.not_le.1 fun h => hgood ⟨e, e2, h⟩⟩)
            · exact .inr (.inl ⟨e, by omega⟩)
          · exact .inl (Bool.eq_false_iff.2 e)
        clear hI0 hI1 hI2 HI hx hmem hc ht hgood HF HT HLen HH
        rcases hways with hp | ⟨hp, h2⟩ | ⟨hp, h2, h3⟩
        all_goals
          rw [hp] at HPt
          clear hp
          go_wp2_with (go_at_call 61; refine HPt.out.mono ?_; rintro e w2 ⟨rfl, rfl⟩)
          try have d1 : decide (x2 < 1) = false := decide_eq_false (by omega)
          try have d2 : decide (x2 < 1) = true := decide_eq_true (by omega)
          try have d3 : decide (1099511627776 - s < x2) = true := decide_eq_true (by omega)
          go_quiet (fail)
          go_wp2
          go_ret
          exact ⟨rfl, HBn.out _⟩
      case pos =>
        obtain ⟨hp, h2, h3⟩ := hgood
        rw [hp] at HPt
        have hs2 : 0 ≤ s + x2 := by omega
        have hs3 : s + x2 ≤ 1099511627776 := by omega
        have hadd : IntKind.i64.wrap (s + x2) = s + x2 := IntWalk.i64_in _ (by omega)
        by_cases hi0 : i = 0
        · have HO : Hid (Tx.Own (R.take (i + 1)) ∧ Lt.total (R.take (i + 1)) = s + x2) := ⟨Tx.Own.snoc hx hI1 hp h2 (fun j y e => by omega), ht⟩
          have hz0 : ¬ 0 < i := by omega
          clear hI0 hI1 hI2 HI hx hmem hc ht HF HT HLen HH hp hi0
          go_wp2_with (go_at_call 61; refine HPt.out.mono ?_; rintro e w2 ⟨rfl, rfl⟩)
          have d1 : decide (x2 < 1) = false := decide_eq_false (by omega)
          have d3 : decide (1099511627776 - s < x2) = false := decide_eq_false (by omega)
          go_quiet (fail)
          go_wp2
          go_roundw
          case rel => exact ⟨i + 1, s + x2, by omega, by go_num, by go_num, hs2, hs3, HBn.out _, HO.out⟩
          case measure => simp [intOf]; omega
        · obtain ⟨j, hj⟩ : ∃ j, i = j + 1 := ⟨i - 1, by omega⟩
          obtain ⟨b', off', ⟨y1, y2⟩, e, hy, _, _, hc'⟩ := HH.out.get (i := j) (by omega)
          injection e with e
          injection e with e1 e2
          subst e1
          subst e2
          obtain ⟨_, q4, q5⟩ := hc' wr hI0
          have hi1 : (i : Int) - 1 = (j : Int) := by omega
          have hi2 : 0 < i := by omega
          have hji : (j : Int) < (n : Int) := by omega
          have hj0 : (0 : Int) ≤ (j : Int) := by omega
          by_cases hxy : x1 = y1
          · have hX := HF.out fun h => h.own.adj j (y1, y2) (x1, x2) hy (by rw [← hj]; exact hx) hxy.symm
            subst hX
            subst hxy
            clear hI0 hI1 hI2 HI hx hmem hc ht HF HT HLen HH hp hi0 hy hc' hj
            go_wp2_with (go_at_call 61; refine HPt.out.mono ?_; rintro e w2 ⟨rfl, rfl⟩)
            have d1 : decide (x2 < 1) = false := decide_eq_false (by omega)
            have d3 : decide (1099511627776 - s < x2) = false := decide_eq_false (by omega)
            go_quiet (fail)
            go_wp2
            go_ret
            exact ⟨rfl, HBn.out _⟩
          · have HO : Hid (Tx.Own (R.take (i + 1)) ∧ Lt.total (R.take (i + 1)) = s + x2) := ⟨Tx.Own.snoc hx hI1 hp h2 (fun j' y e hy' => by
              have : j' = j := by omega
              subst this
              obtain rfl := Option.some.inj (hy.symm.trans hy')
              exact fun e => hxy e.symm), ht⟩
            have hne : (x1 == y1) = false := beq_eq_false_iff_ne.2 hxy
            clear hI0 hI1 hI2 HI hx hmem hc ht HF HT HLen HH hp hi0 hy hc' hj
            go_wp2_with (go_at_call 61; refine HPt.out.mono ?_; rintro e w2 ⟨rfl, rfl⟩)
            have d1 : decide (x2 < 1) = false := decide_eq_false (by omega)
            have d3 : decide (1099511627776 - s < x2) = false := decide_eq_false (by omega)
            go_quiet (fail)
            go_wp2
            go_roundw
            case rel => exact ⟨i + 1, s + x2, by omega, by go_num, by go_num, hs2, hs3, HBn.out _, HO.out⟩
            case measure => simp [intOf]; omega
    · obtain rfl : i = n := by omega
      rw [List.take_of_length_le (by rw [HLen.out]; exact Nat.le_refl _)] at hI1 hI2
      have hX := HT.out ⟨hI1, by rw [HLen.out]; exact hnn, by omega⟩
      subst hX
      have HB := Lib.hid hI0
      clear hI0 hI1 hI2 HI HF HT HLen HH
      go_wp2
      go_ret
      exact ⟨rfl, HB.out⟩
end Go.Proofs.YtkooconjkimgoaaDoor
