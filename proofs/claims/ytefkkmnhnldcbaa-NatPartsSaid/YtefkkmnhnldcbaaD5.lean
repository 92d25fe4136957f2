/- the reference's add and sub, over bits: what each answers. -/
import Derived.Test.YtefkkmnhnldcbaaD4
namespace Go.Proofs.Ytefkkmnhnldcbaa
open Go.RowKit

theorem bts_lit (bb : Bool) (W : World) : Bts (W.alloc (.cells #[.bool bb] 4)) (some ⟨W.heap.size, 0, none⟩) 1 1 [bb] := by
  obtain ⟨A', c', e, h⟩ := (OwnB.lit W (B := W.heap.size) bb (Nat.le_refl _)).bts
  injection e with e1 _ e2
  subst e1 e2
  exact h

set_option maxHeartbeats 4000000 in
theorem radd_any (A B : Option Addr) (n m c d : Nat) (k l : List Bool) (w : World) (hk : Bts w A n c k) (hl : Bts w B m d l) (hn : n ≤ 90000000) (hm : m ≤ 90000000) :
    Calls Try.prog 40 #[.slice A n c, .slice B m d] w (GivesB w (Bt.val k + Bt.val l)) := by
  obtain ⟨p, hpn, hpm, hpb⟩ : ∃ p : Nat, n ≤ p ∧ m ≤ p ∧ p ≤ 90000000 := ⟨max n m, by omega, by omega, by omega⟩
  have HLIT := Lib.hid bts_lit
  go_enter Try.func40, Try.ntmps40
  go_wp2_with fail
  go_loopw [5, 6, 7] (fun dv cv iv wr => ∃ (i : Nat) (cy : Bool) (out : List Bool), i ≤ p + 1 ∧ (i ≤ p ∨ cy = false) ∧ iv = .int .i64 i ∧ cv = .bool cy ∧ Bt.AddInv k l out i cy ∧ OwnB wr w.heap.size dv out ∧ Below w.heap.size w wr) (fun _ _ iv _ => p + 1 - (intOf iv).toNat)
  case atStart => exact ⟨0, false, [], by omega, .inl (by omega), rfl, rfl, Bt.AddInv.start k l, OwnB.nil_ _ _, Below.refl _ _⟩
  case round =>
    obtain ⟨i, cy, out, hi, hst, rfl, rfl, hinv, hown, hbel⟩ := hrel
    have hol := hinv.len
    have hol2 : out.length ≤ 90000001 := by omega
    clear hol
    by_cases hgo : i < n ∨ i < m ∨ cy = true
    · have hip : i ≤ p := by
        rcases hgo with h | h | h
        · omega
        · omega
        · rcases hst with h2 | h2
          · exact h2
          · rw [h] at h2; cases h2
      obtain ⟨x, HX⟩ : ∃ x, Hid (x = k.getD i false) := ⟨_, rfl⟩
      obtain ⟨y, HY⟩ : ∃ y, Hid (y = l.getD i false) := ⟨_, rfl⟩
      have H1 := Lib.hid (at_at (hk.below hbel) (show i ≤ 1000000000 by omega) HX)
      have H2 := Lib.hid (at_at (hl.below hbel) (show i ≤ 1000000000 by omega) HY)
      have hstep := hinv.step HX.out HY.out rfl
      have HS := Lib.hid hstep
      have hnx : i + 1 ≤ p ∨ (decide (1 < x.toNat + y.toNat + cy.toNat)) = false := by
        rcases Nat.lt_or_ge i p with h | h
        · exact .inl h
        · right
          have hx : x = false := by rw [HX.out]; exact Bt.getD_ge (by rw [hk.1]; omega)
          have hy : y = false := by rw [HY.out]; exact Bt.getD_ge (by rw [hl.1]; omega)
          subst hx hy
          cases cy <;> rfl
      have HNX := Lib.hid hnx
      clear hstep hnx hst
      rcases (show i < n ∨ (¬ i < n ∧ i < m) ∨ (¬ i < n ∧ ¬ i < m ∧ cy = true) from by
        rcases hgo with h | h | h
        · exact .inl h
        · by_cases h1 : i < n
          · exact .inl h1
          · exact .inr (.inl ⟨h1, h⟩)
        · by_cases h1 : i < n
          · exact .inl h1
          · by_cases h2 : i < m
            · exact .inr (.inl ⟨h1, h2⟩)
            · exact .inr (.inr ⟨h1, h2, h⟩)) with hc1 | ⟨hc1, hc2⟩ | ⟨hc1, hc2, rfl⟩
      all_goals
        clear hgo
        try cases cy
        all_goals
          cases x <;> cases y
          all_goals
            go_wp2_with fail
            refine H1.out.mono ?_
            rintro e w1 ⟨rfl, rfl⟩
            go_wp2_with fail
            refine H2.out.mono ?_
            rintro e w1 ⟨rfl, rfl⟩
            go_wp2_with (refine appendB rfl (.tmp 41) (.tmp 45) rfl (N := 90000002) rfl (hown.alloc _) rfl (HLIT.out _ _) (by omega) (by omega) (by simp; have := hbel.size; omega) ?_; intro v4 w4 ho4 hg4)
            have hbel4 := (hbel.alloc hbel.size _).grown hg4 (by simp; have := hbel.size; omega) (hown.own_ge (Nat.le_refl _))
            go_roundw
            case rel => exact ⟨i + 1, _, _, by omega, HNX.out, by go_num, rfl, HS.out, ho4, hbel4⟩
            case measure => simp [intOf]; omega
    · have hcy : cy = false := by
        cases cy with
        | false => rfl
        | true => exact absurd (.inr (.inr rfl)) hgo
      subst hcy
      have h1 : ¬ i < n := fun h => hgo (.inl h)
      have h2 : ¬ i < m := fun h => hgo (.inr (.inl h))
      have HE := Lib.hid (hinv.end_ (by rw [hk.1]; omega) (by rw [hl.1]; omega))
      obtain ⟨A', c', rfl, hb⟩ := hown.bts
      clear hgo hst
      go_wp2_with fail
      refine (rtrim_any _ _ _ _ _ hb (by omega)).mono ?_
      rintro e w2 ⟨v, rfl, hv, hb2⟩
      rw [HE.out] at hv
      go_wp2_with fail
      go_ret
      exact ⟨v, rfl, hv, hbel.trans (hb2.mono hbel.size)⟩
end Go.Proofs.Ytefkkmnhnldcbaa
