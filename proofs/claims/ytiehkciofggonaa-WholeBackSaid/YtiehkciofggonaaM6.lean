/- WholeBack, whatever comes in. -/
import Derived.Test.YtiehkciofggonaaW23
namespace Go.Proofs.Ytiehkciofggonaa
open Go.RowKit

set_option maxHeartbeats 2000000 in
theorem wholeBack_walk (ga : Bool) (Aa : Option Addr) (na ca : Nat) (gb : Bool) (Ab : Option Addr) (nb cb : Nat) (k l : List Nat) (w : World) (ha : Lims w Aa na k) (hb : Lims w Ab nb l) (h1 : na ≤ ca) (h2 : nb ≤ cb) (h4 : ca ≤ maxLen) (h5 : cb ≤ maxLen) :
    Calls Try.prog 6 #[.agg #[.bool ga, .slice Aa na ca], .agg #[.bool gb, .slice Ab nb cb]] w fun e w' => e = .returned (.bool true) ∧ Below w.heap.size w w' := by
  by_cases g : na ≤ 60 ∧ nb ≤ 60
  · obtain ⟨g1, g2⟩ := g
    obtain ⟨ia, la⟩ := win_of (g := ga) ha h1 h4 g1 (by omega)
    obtain ⟨ib, lb⟩ := win_of (g := gb) hb h2 h5 g2 (by omega)
    rcases Int.lt_trichotomy (Z.sg gb (M.val l)) 0 with hy | hy | hy
    · exact wholeBack_neg ga Aa na ca gb Ab nb cb _ _ 60 w ia ib la lb (by omega) g1 g2 hy
    · exact wholeBack_zero ga Aa na ca gb Ab nb cb _ _ w ia ib g1 g2 hy
    · exact wholeBack_pos ga Aa na ca gb Ab nb cb _ _ 60 w ia ib la lb (by omega) g1 g2 hy
  · have HF := Lib.hid fun W : World => few_w ga gb Aa Ab na nb ca cb false 60 W (by omega) (by omega) (by omega) (by
      symm; rw [Bool.and_eq_false_iff]
      by_cases g1 : na ≤ 60
      · right; exact decide_eq_false fun g2 => g ⟨g1, g2⟩
      · left; exact decide_eq_false g1)
    clear g
    go_enter Try.func6, Try.ntmps6
    obtain ⟨bl, Ba, Bb⟩ := loc2 w ga Aa na ca gb Ab nb cb
    go_wp2_with fail
    refine (awake_w _).mono ?_
    rintro e w1 ⟨rfl, b1⟩
    replace Ba := Ba.below b1 Ba.lt
    replace Bb := Bb.below b1 Bb.lt
    replace bl := bl.trans (b1.mono bl.size)
    clear b1
    obtain ⟨a0, a1, a2, _⟩ := id Ba
    obtain ⟨b0, b1, b2, _⟩ := id Bb
    go_wp2_with fail
    clear a0 a1 a2 b0 b1 b2
    refine (HF.out _).mono ?_
    rintro e w2 ⟨rfl, b1⟩
    replace bl := bl.trans (b1.mono bl.size)
    clear b1
    go_wp2_with fail
    go_ret
    exact ⟨rfl, bl⟩
end Go.Proofs.Ytiehkciofggonaa
