/- nat: trim, limb, sign, small: what each answers. -/
import Derived.Test.YtefkkmnhnldcbaaBase
namespace Go.Proofs.Ytefkkmnhnldcbaa
open Go.RowKit

/-- trim's answer -/
def Trimmed (w : World) (l : List Nat) (cap : Nat) (e : Ending) (w' : World) : Prop :=
  ∃ A n c, e = .returned (.slice A n c) ∧ Lims w A n (l.take n) ∧ M.Top (l.take n) ∧ M.val (l.take n) = M.val l ∧ n ≤ l.length ∧ n ≤ c ∧ c ≤ cap ∧ w = w'

theorem trimmed_zero {w : World} {l : List Nat} {cap : Nat} (hz : ∀ j, 0 ≤ j → l.getD j 0 = 0) : Trimmed w l cap (.returned (.slice none 0 0)) w :=
  ⟨none, 0, 0, rfl, by simpa using Lims.nil_ w none, by simpa using M.Top.nil, M.val_zeros l 0 hz, by omega, by omega, by omega, rfl⟩
theorem trimmed_some {w : World} {A : Option Addr} {n c k : Nat} {l : List Nat} (h : Lims w A n l) (hk : k ≤ n) (hn : n ≤ c) (h0 : 0 < k) (hx : l.getD (k - 1) 0 ≠ 0) (hz : ∀ j, k ≤ j → l.getD j 0 = 0) :
    Trimmed w l c (.returned (.slice A k c)) w := by
  refine ⟨A, k, c, rfl, h.take hk, fun _ => ?_, M.val_zeros l k hz, by rw [h.1]; exact hk, by omega, by omega, rfl⟩
  rw [List.length_take, h.1, Nat.min_eq_left hk]
  simpa [List.getD_eq_getElem?_getD, List.getElem?_take, show k - 1 < k from by omega] using hx

/-- and where it lies -/
def TrimmedAt (w : World) (A : Option Addr) (l : List Nat) (cap : Nat) (e : Ending) (w' : World) : Prop :=
  Trimmed w l cap e w' ∧ (e = .returned (.slice none 0 0) ∨ ∃ n c, 0 < n ∧ e = .returned (.slice A n c))

theorem trim_at (A : Option Addr) (n c : Nat) (l : List Nat) (w : World) (h : Lims w A n l) (hn : n ≤ c) (hc : c ≤ maxLen) :
    Calls Try.prog 36 #[.slice A n c] w (TrimmedAt w A l c) := by
  unfold maxLen at hc
  go_enter Try.func36, Try.ntmps36
  go_wp2
  go_loop [3] (fun t => ∃ k : Nat, k ≤ n ∧ t = .int .i64 k ∧ ∀ j, k ≤ j → l.getD j 0 = 0) (fun t => (intOf t).toNat)
  case atStart => exact ⟨n, Nat.le_refl _, rfl, fun j hj => M.getD_ge (by rw [h.1]; exact hj)⟩
  case round =>
    obtain ⟨k, hk, rfl, hz⟩ := hrel
    have HZ := Lib.hid hz
    clear hz
    by_cases h0 : 0 < k
    · obtain ⟨b, off, rfl, hb, hcs⟩ := h.at_ (by omega)
      obtain ⟨x, HX, hx, hcell⟩ := hcs (k - 1) (by omega)
      clear hcs
      by_cases hx0 : x = 0
      · subst hx0
        go_wp2
        go_round
        case rel => exact ⟨k - 1, by omega, by go_num, fun j hj => by
          by_cases e : j = k - 1
          · subst e; exact HX.out.symm
          · exact HZ.out j (by omega)⟩
        case measure => simp [intOf]; omega
      · have hx1 : ((x : Int) == 0) = false := by simpa using hx0
        have hk1 : ((k : Int) == 0) = false := by simp; omega
        clear hx0
        go_wp2
        go_ret
        exact ⟨trimmed_some h hk hn h0 (by rw [← HX.out]; simpa using hx1) HZ.out, .inr ⟨k, c, h0, rfl⟩⟩
    · go_wp2
      go_ret
      exact ⟨trimmed_zero fun j _ => HZ.out j (by omega), .inl rfl⟩
theorem trim_any (A : Option Addr) (n c : Nat) (l : List Nat) (w : World) (h : Lims w A n l) (hn : n ≤ c) (hc : c ≤ maxLen) :
    Calls Try.prog 36 #[.slice A n c] w (Trimmed w l c) := (trim_at A n c l w h hn hc).mono fun _ _ h => h.1

/-- limb's answer -/
theorem limb_any (A : Option Addr) (n c i : Nat) (l : List Nat) (w : World) (h : Lims w A n l) (hc : n ≤ maxLen) (hi : i ≤ maxLen) :
    Calls Try.prog 39 #[.slice A n c, .int .i64 i] w fun e w' => e = .returned (.int .u64 (l.getD i 0 : Nat)) ∧ w = w' := by
  unfold maxLen at hc hi
  by_cases hlt : i < n
  · obtain ⟨b, off, rfl, hb, hcs⟩ := h.at_ (by omega)
    obtain ⟨x, HX, hx, hcell⟩ := hcs i hlt
    rw [← HX.out]
    clear hcs
    go_enter Try.func39, Try.ntmps39
    go_wp2
    go_ret
    exact ⟨rfl, rfl⟩
  · rw [M.getD_ge (by rw [h.1]; omega)]
    go_enter Try.func39, Try.ntmps39
    go_wp2
    go_ret
    exact ⟨rfl, rfl⟩

theorem sign_any (b : Bool) (w : World) : Calls Try.prog 45 #[.bool b] w fun e w' => e = .returned (.int .i64 (if b then -1 else 1)) ∧ w = w' := by
  cases b
  · go_enter Try.func45, Try.ntmps45
    go_wp2
    go_ret
    exact ⟨rfl, rfl⟩
  · go_enter Try.func45, Try.ntmps45
    go_wp2
    go_ret
    exact ⟨rfl, rfl⟩

theorem limb_at {A : Option Addr} {n c i x : Nat} {l : List Nat} {w : World} (h : Lims w A n l) (hc : n ≤ maxLen) (hi : i ≤ maxLen) (hx : Hid (x = l.getD i 0)) :
    Calls Try.prog 39 #[.slice A n c, .int .i64 i] w fun e w' => e = .returned (.int .u64 (x : Nat)) ∧ w = w' := by
  rw [hx.out]
  exact limb_any A n c i l w h hc hi

theorem or_val (x y : Nat) (hx : x ≤ 4294967295) (hy : y ≤ 4294967295) : bits .or .u64 ((y : Int) * 4294967296) (x : Int) = ((x + 4294967296 * y : Nat) : Int) := by
  rw [show (y : Int) * 4294967296 = ((4294967296 * y : Nat) : Int) from by omega, Go.u64_or_nat _ _ (by omega) (by omega)]
  congr 1
  have := Nat.two_pow_add_eq_or_of_lt (i := 32) (b := x) (by omega) y
  simp only [show (2 : Nat) ^ 32 = 4294967296 from rfl] at this
  rw [← this]
  omega

theorem small_yes (A : Option Addr) (n c : Nat) (l : List Nat) (w : World) (h : Lims w A n l) (hn : n ≤ 2) :
    Calls Try.prog 46 #[.slice A n c] w fun e w' => e = .returned (.tuple #[.int .u64 (M.val l : Nat), .bool true]) ∧ w = w' := by
  obtain ⟨x, HX⟩ : ∃ x, Hid (x = l.getD 0 0) := ⟨_, rfl⟩
  obtain ⟨y, HY⟩ : ∃ y, Hid (y = l.getD 1 0) := ⟨_, rfl⟩
  have hx : x ≤ 4294967295 := by have := h.2.1 0; rw [← HX.out, M.BB_eq] at this; omega
  have hy : y ≤ 4294967295 := by have := h.2.1 1; rw [← HY.out, M.BB_eq] at this; omega
  have hv : M.val l = x + 4294967296 * y := by
    rw [HX.out, HY.out]
    have := h.1
    match l, this with
    | [], _ => simp [M.val]
    | [a], _ => simp [M.val]
    | [a, b], _ => simp [M.val, M.BB_eq]
    | _ :: _ :: _ :: _, e => simp at e; omega
  rw [hv]
  clear hv
  have ho := or_val x y hx hy
  go_enter Try.func46, Try.ntmps46
  go_wp2_with fail
  refine (limb_at h (by unfold maxLen; omega) (by unfold maxLen; omega) HY).mono ?_
  rintro e w1 ⟨rfl, rfl⟩
  go_wp2_with fail
  refine (limb_at h (by unfold maxLen; omega) (by unfold maxLen; omega) HX).mono ?_
  rintro e w1 ⟨rfl, rfl⟩
  go_wp2_with fail
  go_ret2
  exact ⟨rfl, rfl⟩

theorem small_no (A : Option Addr) (n c : Nat) (w : World) (hn : 2 < n) :
    Calls Try.prog 46 #[.slice A n c] w fun e w' => e = .returned (.tuple #[.int .u64 0, .bool false]) ∧ w = w' := by
  go_enter Try.func46, Try.ntmps46
  go_wp2
  go_ret2
  exact ⟨rfl, rfl⟩

end Go.Proofs.Ytefkkmnhnldcbaa
