/- the reference's at, cmp, add, sub, over bits: what each answers. -/
import Derived.Test.YtefkkmnhnldcbaaD1
import Derived.Test.YtefkkmnhnldcbaaMathC
namespace Go.Proofs.Ytefkkmnhnldcbaa
open Go.RowKit

theorem at_at {A : Option Addr} {n c i : Nat} {x : Bool} {l : List Bool} {w : World} (h : Bts w A n c l) (hi : i ≤ 1000000000) (hx : Hid (x = l.getD i false)) :
    Calls Try.prog 55 #[.slice A n c, .int .i64 i] w fun e w' => e = .returned (.bool x) ∧ w = w' := by
  have hc : c ≤ 9223372036854775807 := h.2.2.1
  have hn := h.2.1
  by_cases hlt : i < n
  · obtain ⟨b, off, rfl, _, hcs⟩ := h.at_ (by omega)
    obtain ⟨y, HY, hcell⟩ := hcs i hlt
    obtain rfl : y = x := HY.out.trans hx.out.symm
    clear hcs
    go_enter Try.func55, Try.ntmps55
    go_wp2
    go_ret
    exact ⟨rfl, rfl⟩
  · obtain rfl : x = false := by rw [hx.out]; exact Bt.getD_ge (by rw [h.1]; omega)
    go_enter Try.func55, Try.ntmps55
    go_wp2
    go_ret
    exact ⟨rfl, rfl⟩

theorem rcmp_any (A B : Option Addr) (n m c d : Nat) (k l : List Bool) (w : World) (hk : Bts w A n c k) (hl : Bts w B m d l) (hn : n ≤ 100000000) (hm : m ≤ 100000000) :
    Calls Try.prog 43 #[.slice A n c, .slice B m d] w fun e w' => e = .returned (.int .i64 (M.cmpI (Bt.val k) (Bt.val l))) ∧ w = w' := by
  obtain ⟨p, hp, hp1, hp2⟩ : ∃ p : Nat, Hid ((p = n ∧ m ≤ n) ∨ (p = m ∧ n < m)) ∧ n ≤ p ∧ m ≤ p := by
    by_cases h : n < m
    · exact ⟨m, .inr ⟨rfl, h⟩, by omega, by omega⟩
    · exact ⟨n, .inl ⟨rfl, by omega⟩, by omega, by omega⟩
  have hpb : p ≤ 100000000 := by rcases hp.out with h | h <;> omega
  obtain ⟨z, HZ⟩ : ∃ z, Hid (M.cmpI (Bt.val k) (Bt.val l) = z) := ⟨_, rfl⟩
  rw [HZ.out]
  rcases (show (p = n ∧ m ≤ n ∧ decide (n < m) = false) ∨ (p = m ∧ n < m ∧ decide (n < m) = true) from by
    rcases hp.out with ⟨h1, h2⟩ | ⟨h1, h2⟩
    · exact .inl ⟨h1, h2, by simp; omega⟩
    · exact .inr ⟨h1, h2, by simp; omega⟩) with ⟨rfl, hq, hdb⟩ | ⟨rfl, hq, hdb⟩
  all_goals
    clear hp
    go_enter Try.func43, Try.ntmps43
    go_wp2_with fail
    go_loopw [6] (fun iv wr => ∃ i : Nat, i ≤ p ∧ iv = .int .i64 ((i : Int) - 1) ∧ Hid (∀ j, i ≤ j → k.getD j false = l.getD j false) ∧ wr = w) (fun iv _ => (intOf iv + 1).toNat)
    case atStart => exact ⟨p, by omega, rfl, fun j hj => by rw [Bt.getD_ge (by rw [hk.1]; omega), Bt.getD_ge (by rw [hl.1]; omega)], rfl⟩
    case round =>
      obtain ⟨i, hi, rfl, HE, rfl⟩ := hrel
      by_cases h0 : 0 < i
      · obtain ⟨j, hj⟩ : ∃ j : Nat, Hid (i - 1 = j) := ⟨_, rfl⟩
        have he : (i : Int) - 1 = (j : Int) := by have := hj.out; omega
        have hjb : j ≤ 100000000 := by have := hj.out; omega
        obtain ⟨x, HX⟩ : ∃ x, Hid (x = k.getD j false) := ⟨_, rfl⟩
        obtain ⟨y, HY⟩ : ∃ y, Hid (y = l.getD j false) := ⟨_, rfl⟩
        have H1 := Lib.hid (at_at hk (show j ≤ 1000000000 by omega) HX)
        have H2 := Lib.hid (at_at hl (show j ≤ 1000000000 by omega) HY)
        have HE' : Hid (∀ q, j < q → k.getD q false = l.getD q false) := fun q hq => HE.out q (by have := hj.out; omega)
        have hz : Hid ((x = false ∧ y = true → z = -1) ∧ (x = true ∧ y = false → z = 1)) := by
          constructor
          · rintro ⟨rfl, rfl⟩
            rw [← HZ.out, M.cmpI_lt (Bt.lt_of_top j HE'.out HX.out.symm HY.out.symm)]
          · rintro ⟨rfl, rfl⟩
            rw [← HZ.out, M.cmpI_gt (Bt.lt_of_top j (fun q hq => (HE'.out q hq).symm) HY.out.symm HX.out.symm)]
        cases x <;> cases y
        · go_wp2_with fail
          refine H1.out.mono ?_
          rintro e w1 ⟨rfl, rfl⟩
          go_wp2_with fail
          refine H2.out.mono ?_
          rintro e w1 ⟨rfl, rfl⟩
          go_wp2_with fail
          go_roundw
          case rel => exact ⟨j, by omega, by go_num, fun q hq => by
            by_cases e : q = j
            · subst e; rw [← HX.out, ← HY.out]
            · exact HE'.out q (by omega), by trivial⟩
          case measure => simp [intOf]; omega
        · go_wp2_with fail
          refine H1.out.mono ?_
          rintro e w1 ⟨rfl, rfl⟩
          go_wp2_with fail
          refine H2.out.mono ?_
          rintro e w1 ⟨rfl, rfl⟩
          go_wp2_with fail
          go_ret
          exact ⟨ret_int (hz.out.1 ⟨by trivial, by trivial⟩).symm, by trivial⟩
        · go_wp2_with fail
          refine H1.out.mono ?_
          rintro e w1 ⟨rfl, rfl⟩
          go_wp2_with fail
          refine H2.out.mono ?_
          rintro e w1 ⟨rfl, rfl⟩
          go_wp2_with fail
          go_ret
          exact ⟨ret_int (hz.out.2 ⟨by trivial, by trivial⟩).symm, by trivial⟩
        · go_wp2_with fail
          refine H1.out.mono ?_
          rintro e w1 ⟨rfl, rfl⟩
          go_wp2_with fail
          refine H2.out.mono ?_
          rintro e w1 ⟨rfl, rfl⟩
          go_wp2_with fail
          go_roundw
          case rel => exact ⟨j, by omega, by go_num, fun q hq => by
            by_cases e : q = j
            · subst e; rw [← HX.out, ← HY.out]
            · exact HE'.out q (by omega), by trivial⟩
          case measure => simp [intOf]; omega
      · obtain rfl : i = 0 := by omega
        have hz : Hid (z = 0) := by
          rw [← HZ.out, Bt.val_ext fun j => HE.out j (by omega)]
          exact M.cmpI_eq _
        have hneg : ((0 : Nat) : Int) - 1 < 0 := by omega
        go_wp2_with fail
        go_ret
        exact ⟨ret_int hz.out.symm, by trivial⟩
end Go.Proofs.Ytefkkmnhnldcbaa
