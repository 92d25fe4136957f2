/- WholeOrder, whatever comes in. -/
import Derived.Test.YtiehkciofggonaaW11
namespace Go.Proofs.Ytiehkciofggonaa
open Go.RowKit

set_option maxHeartbeats 2000000 in
theorem wholeOrder_walk (ga : Bool) (Aa : Option Addr) (na ca : Nat) (gb : Bool) (Ab : Option Addr) (nb cb : Nat) (gc : Bool) (Ac : Option Addr) (nc cc : Nat) (k l q : List Nat) (w : World) (ha : Lims w Aa na k) (hb : Lims w Ab nb l) (hc : Lims w Ac nc q) (h1 : na ≤ ca) (h2 : nb ≤ cb) (h3 : nc ≤ cc) (h4 : ca ≤ maxLen) (h5 : cb ≤ maxLen) (h6 : cc ≤ maxLen) :
    Calls Try.prog 7 #[.agg #[.bool ga, .slice Aa na ca], .agg #[.bool gb, .slice Ab nb cb], .agg #[.bool gc, .slice Ac nc cc]] w fun e w' => e = .returned (.bool true) ∧ Below w.heap.size w w' := by
  by_cases g : na ≤ 40 ∧ nb ≤ 40 ∧ nc ≤ 40
  · obtain ⟨g1, g2, g3⟩ := g
    obtain ⟨ia, la⟩ := win_of (g := ga) ha h1 h4 g1 (by omega)
    obtain ⟨ib, lb⟩ := win_of (g := gb) hb h2 h5 g2 (by omega)
    obtain ⟨ic, lc⟩ := win_of (g := gc) hc h3 h6 g3 (by omega)
    exact wholeOrder_yes ga Aa na ca gb Ab nb cb gc Ac nc cc _ _ _ 40 w ia ib ic la lb lc (by omega) g1 g2 g3
  · have ho : nc ≤ 9223372036854775807 := Nat.le_trans h3 h6
    obtain ⟨b, hbv⟩ : ∃ b, Hid (b = (decide (na ≤ 40) && decide (nb ≤ 40))) := ⟨_, rfl⟩
    have HF := Lib.hid fun W : World => few_w ga gb Aa Ab na nb ca cb b 40 W (by omega) (by omega) (by omega) hbv.out
    have hcase : b = false ∨ (b = true ∧ 40 < nc) := by
      cases hb2 : b with
      | false => exact .inl rfl
      | true =>
        have := hbv.out
        rw [hb2] at this
        simp at this
        exact .inr ⟨rfl, by omega⟩
    clear g
    rcases hcase with rfl | ⟨rfl, ho6⟩
    all_goals
      go_enter Try.func7, Try.ntmps7
      obtain ⟨bl, Ba, Bb, Bc⟩ := loc3 w ga Aa na ca gb Ab nb cb gc Ac nc cc
      go_wp2_with fail
      refine (awake_w _).mono ?_
      rintro e w1 ⟨rfl, b1⟩
      replace Ba := Ba.below b1 Ba.lt
      replace Bb := Bb.below b1 Bb.lt
      replace Bc := Bc.below b1 Bc.lt
      replace bl := bl.trans (b1.mono bl.size)
      clear b1
      obtain ⟨a0, a1, a2, _⟩ := id Ba
      obtain ⟨b0, b1, b2, _⟩ := id Bb
      obtain ⟨c0, c1, c2, _⟩ := id Bc
      go_wp2_with fail
      clear a0 a1 a2 b0 b1 b2 c0 c1 c2
      refine (HF.out _).mono ?_
      rintro e w2 ⟨rfl, b1⟩
      replace Ba := Ba.below b1 Ba.lt
      replace Bb := Bb.below b1 Bb.lt
      replace Bc := Bc.below b1 Bc.lt
      replace bl := bl.trans (b1.mono bl.size)
      clear b1
      obtain ⟨a0, a1, a2, _⟩ := id Ba
      obtain ⟨b0, b1, b2, _⟩ := id Bb
      obtain ⟨c0, c1, c2, _⟩ := id Bc
      go_wp2_with fail
      go_ret
      exact ⟨rfl, bl⟩
end Go.Proofs.Ytiehkciofggonaa
