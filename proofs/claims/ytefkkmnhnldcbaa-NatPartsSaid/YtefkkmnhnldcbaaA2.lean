/- nat: Of, Int, Cmp, Norm; the reference's Same: what each answers. -/
import Derived.Test.YtefkkmnhnldcbaaA1
namespace Go.Proofs.Ytefkkmnhnldcbaa
open Go.RowKit

/-- v is the number N in memory, in its own form -/
def Num (w : World) (v : Value) (N : Nat) : Prop :=
  ∃ A n c l, v = .slice A n c ∧ Lims w A n l ∧ M.Top l ∧ M.val l = N ∧ n ≤ c ∧ c ≤ maxLen
/-- the call answers the number N, and leaves what was there -/
def Gives (W : World) (N : Nat) (e : Ending) (w' : World) : Prop := ∃ v, e = .returned v ∧ Num w' v N ∧ Below W.heap.size W w'

theorem Num.below {w w' : World} {v : Value} {N : Nat} (h : Num w v N) (hb : Below w.heap.size w w') : Num w' v N := by
  obtain ⟨A, n, c, l, e, h1, h2⟩ := h
  exact ⟨A, n, c, l, e, h1.below hb, h2⟩
theorem Trimmed.gives {W w : World} {l : List Nat} {cap : Nat} {e : Ending} {w' : World} (h : Trimmed w l cap e w') (hc : cap ≤ maxLen) (hb : Below W.heap.size W w) : Gives W (M.val l) e w' := by
  obtain ⟨A, n, c, rfl, h1, h2, h3, h4, h5, h6, rfl⟩ := h
  exact ⟨_, rfl, ⟨A, n, c, _, rfl, h1, h2, h3, h5, by omega⟩, hb⟩

theorem of_any (x : Nat) (w : World) (hx : x ≤ 18446744073709551615) :
    Calls Try.prog 28 #[.int .u64 x] w (Gives w x) := by
  have hv : M.val [x % 4294967296, x / 4294967296] = x := by simp [M.val, M.BB_eq]; omega
  have HT := Lib.hid (trim_any (some ⟨w.heap.size, 0, none⟩) 2 2 [x % 4294967296, x / 4294967296] _ (lims_two w (x % 4294967296) (x / 4294967296) (by omega) (by omega)) (by omega) (by unfold maxLen; omega))
  have HV := Lib.hid hv
  clear hv
  go_enter Try.func28, Try.ntmps28
  go_wp2_with fail
  refine HT.out.mono ?_
  rintro e w1 ⟨A, n, c, rfl, h⟩
  go_wp2_with fail
  go_ret
  have := Trimmed.gives (W := w) ⟨A, n, c, rfl, h⟩ (by unfold maxLen; omega) ((Below.refl _ _).alloc (Nat.le_refl _) _)
  rw [HV.out] at this
  exact this

set_option maxRecDepth 100000 in
theorem int_small (A : Option Addr) (n c : Nat) (l : List Nat) (w : World) (h : Lims w A n l) (hn : n ≤ c) (hc : c ≤ maxLen) (hv : (M.val l : Int) < 4611686018427387904) :
    Calls Try.prog 30 #[.slice A n c] w fun e w' => e = .returned (.tuple #[.int .i64 (M.val l : Nat), .bool true]) ∧ w = w' := by
  obtain ⟨x, HX⟩ : ∃ x, Hid (x = M.val l) := ⟨_, rfl⟩
  rw [← HX.out] at hv ⊢
  have HV := Lib.hid hv
  clear hv
  go_enter Try.func30, Try.ntmps30
  go_wp2_with fail
  refine (trim_any _ _ _ _ _ h hn hc).mono ?_
  rintro e w1 ⟨A', n', c', rfl, h1, h2, h3, h4, h5, h6, rfl⟩
  have hn2 : n' ≤ 2 := M.len_le h2 h1.1 (k := 2) (by rw [h3, ← HX.out]; simp [M.BB_eq]; have := HV.out; omega)
  have HS := Lib.hid (small_yes A' n' c' _ w h1 hn2)
  rw [h3, ← HX.out] at HS
  clear h3 h2
  go_wp2_with fail
  refine HS.out.mono ?_
  rintro e w1 ⟨rfl, rfl⟩
  have hb : decide ((4611686018427387904 : Int) ≤ (x : Int)) = false := by rw [decide_eq_false_iff_not]; have := HV.out; omega
  have hw : IntKind.i64.wrap (x : Int) = (x : Int) := IntWalk.i64_in _ (by have := HV.out; omega)
  go_wp2_with fail
  go_ret2
  exact ⟨rfl, rfl⟩

set_option maxRecDepth 100000 in
theorem int_great (A : Option Addr) (n c : Nat) (l : List Nat) (w : World) (h : Lims w A n l) (hn : n ≤ c) (hc : c ≤ maxLen) (hv : 4611686018427387904 ≤ (M.val l : Int)) :
    Calls Try.prog 30 #[.slice A n c] w fun e w' => e = .returned (.tuple #[.int .i64 0, .bool false]) ∧ w = w' := by
  obtain ⟨x, HX⟩ : ∃ x, Hid (x = M.val l) := ⟨_, rfl⟩
  rw [← HX.out] at hv
  have HV := Lib.hid hv
  clear hv
  go_enter Try.func30, Try.ntmps30
  go_wp2_with fail
  refine (trim_any _ _ _ _ _ h hn hc).mono ?_
  rintro e w1 ⟨A', n', c', rfl, h1, h2, h3, h4, h5, h6, rfl⟩
  by_cases hn2 : n' ≤ 2
  · have HS := Lib.hid (small_yes A' n' c' _ w h1 hn2)
    have hx : x < 18446744073709551616 := by
      have := M.val_lt h1.2.1
      rw [h3, ← HX.out, h1.1] at this
      exact Nat.lt_of_lt_of_le this (Nat.le_trans (Nat.pow_le_pow_right M.BB_pos hn2) (by simp [M.BB_eq]))
    rw [h3, ← HX.out] at HS
    clear h3 h2
    have HX2 := Lib.hid hx
    clear hx
    go_wp2_with fail
    refine HS.out.mono ?_
    rintro e w1 ⟨rfl, rfl⟩
    have hv := HV.out
    go_wp2_with fail
    go_ret2
    exact ⟨rfl, rfl⟩
  · clear h3 h2
    go_wp2_with fail
    refine (small_no A' n' c' w (by omega)).mono ?_
    rintro e w1 ⟨rfl, rfl⟩
    go_wp2_with fail
    go_ret2
    exact ⟨rfl, rfl⟩

/-- Same: are two lists the same? -/
theorem same_any (A B : Option Addr) (n m c d : Nat) (k l : List Nat) (w : World) (hk : Lims w A n k) (hl : Lims w B m l) (hn : n ≤ maxLen) (hm : m ≤ maxLen) :
    Calls Try.prog 13 #[.slice A n c, .slice B m d] w fun e w' => e = .returned (.bool (decide (k = l))) ∧ ∃ j, w' = w.drewN j := by
  unfold maxLen at hn hm
  by_cases hnm : n = m
  · subst hnm
    go_enter Try.func13, Try.ntmps13
    go_wp2_with fail
    go_loopw [5] (fun i wr => ∃ k' : Nat, k' ≤ n ∧ i = .int .i64 k' ∧ (∀ j, j < k' → k.getD j 0 = l.getD j 0) ∧ ∃ q, wr = w.drewN q) (fun i _ => n - (intOf i).toNat)
    case atStart => exact ⟨0, Nat.zero_le _, rfl, fun j hj => by omega, 0, rfl⟩
    case round =>
      obtain ⟨i, hi, rfl, hz, q, rfl⟩ := hrel
      have HZ := Lib.hid hz
      clear hz
      by_cases hlt : i < n
      · obtain ⟨b, off, rfl, _, hc1⟩ := hk.at_ (by omega)
        obtain ⟨x, HX, hx, hcx⟩ := hc1 i hlt
        obtain ⟨b', off', rfl, _, hc2⟩ := hl.at_ (by omega)
        obtain ⟨y, HY, hy, hcy⟩ := hc2 i hlt
        clear hc1 hc2
        by_cases hxy : x = y
        · subst hxy
          go_wp2_with fail
          go_quiet (fail)
          go_wp2
          go_roundw
          case rel => exact ⟨i + 1, by omega, by go_num, fun j hj => by
            by_cases e : j = i
            · subst e; rw [← HX.out, ← HY.out]
            · exact HZ.out j (by omega), _, rfl⟩
          case measure => simp [intOf]; omega
        · have hxy' : ((x : Int) == (y : Int)) = false := by simp; omega
          have hne : decide (k = l) = false := by
            rw [decide_eq_false_iff_not]; rintro rfl; exact hxy (HX.out.trans HY.out.symm)
          clear hxy
          have HN := Lib.hid hne
          clear hne
          go_wp2_with fail
          go_quiet (fail)
          go_wp2
          go_ret
          rw [HN.out]
          exact ⟨rfl, _, World.drewN_drewN _ _ _⟩
      · have hkl : decide (k = l) = true := by
          rw [decide_eq_true_iff]
          have e1 := hk.1
          have e2 := hl.1
          refine List.ext_getElem (by omega) fun j h1 h2 => ?_
          have := HZ.out j (by omega)
          rwa [M.getD_lt h1, M.getD_lt h2] at this
        have HK := Lib.hid hkl
        clear hkl
        go_wp2
        go_ret
        rw [HK.out]
        exact ⟨rfl, _, rfl⟩
  · have e : decide (k = l) = false := by
      rw [decide_eq_false_iff_not]; rintro rfl; exact hnm (hk.1.symm.trans hl.1)
    rw [e]
    have hnm' : ((n : Int) == (m : Int)) = false := by simp; omega
    clear hnm e
    go_enter Try.func13, Try.ntmps13
    go_wp2
    go_ret
    exact ⟨rfl, 0, rfl⟩
end Go.Proofs.Ytefkkmnhnldcbaa
