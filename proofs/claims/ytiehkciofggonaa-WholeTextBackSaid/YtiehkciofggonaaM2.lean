/- WholeTextBack, whatever comes in. -/
import Derived.Test.YtiehkciofggonaaW12
namespace Go.Proofs.Ytiehkciofggonaa
open Go.RowKit

set_option maxHeartbeats 2000000 in
theorem wholeTextBack_walk (ga : Bool) (Aa : Option Addr) (na ca : Nat) (k : List Nat) (s : ByteArray) (z : Int) (w : World) (ha : Lims w Aa na k) (h1 : na ≤ ca) (h4 : ca ≤ maxLen) (hs : s.size ≤ maxLen) (hz : (Lit.int .i64 z).wf = true) :
    Calls Try.prog 8 #[.agg #[.bool ga, .slice Aa na ca], .string s, .int .i64 z] w fun e w' => e = .returned (.bool true) ∧ Below w.heap.size w w' := by
  by_cases g : na ≤ 60 ∧ s.size ≤ 600
  · obtain ⟨g1, g2⟩ := g
    obtain ⟨ia, la⟩ := win_of (g := ga) ha h1 h4 g1 (by omega)
    obtain ⟨l, rfl⟩ : ∃ l : List UInt8, s = ⟨l.toArray⟩ := ⟨s.data.toList, by rw [Array.toArray_toList]⟩
    rw [str_size] at g2
    exact wholeTextBack_yes ga Aa na ca l z _ 60 w ia la (by omega) g1 g2 (bounds_i64 hz)
  · have ho : na ≤ 9223372036854775807 := Nat.le_trans h1 h4
    have hs' : s.size ≤ 9223372036854775807 := hs
    by_cases g1 : na ≤ 60
    · have g2 : 600 < s.size := by omega
      clear g
      go_enter Try.func8, Try.ntmps8
      obtain ⟨bl, Ba⟩ := loc1 w ga Aa na ca
      go_wp2_with fail
      refine (awake_w _).mono ?_
      rintro e w1 ⟨rfl, b1⟩
      replace Ba := Ba.below b1 Ba.lt
      replace bl := bl.trans (b1.mono bl.size)
      clear b1
      obtain ⟨a0, a1, a2, _⟩ := id Ba
      go_wp2_with fail
      go_ret
      exact ⟨rfl, bl⟩
    · clear g
      go_enter Try.func8, Try.ntmps8
      obtain ⟨bl, Ba⟩ := loc1 w ga Aa na ca
      go_wp2_with fail
      refine (awake_w _).mono ?_
      rintro e w1 ⟨rfl, b1⟩
      replace Ba := Ba.below b1 Ba.lt
      replace bl := bl.trans (b1.mono bl.size)
      clear b1
      obtain ⟨a0, a1, a2, _⟩ := id Ba
      go_wp2_with fail
      go_ret
      exact ⟨rfl, bl⟩
end Go.Proofs.Ytiehkciofggonaa
