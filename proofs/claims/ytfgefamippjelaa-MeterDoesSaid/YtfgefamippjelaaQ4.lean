/- Stage 4's awake; MeterNone. -/
import Derived.Test.YtfgefamippjelaaQ3
namespace Go.Proofs.Ytfgefamippjelaa
open Go.RowKit

set_option maxRecDepth 100000 in
theorem awake4 (w : World) : Calls Try.prog 8 #[] w fun e w' => e = .returned (.bool true) ∧ Below w.heap.size w w' := by
  have HN := Lib.hid fun W (hW : Below w.heap.size w W) => OwnM.new (b := 5) hW (by decide)
  have H1 := Lib.hid fun W g (h : OwnM w W g 5 0 false) => h.spend 3 3 true false (by decide)
  have H2 := Lib.hid fun W g (h : OwnM w W g 5 3 false) => h.spend 3 3 false true (by decide)
  have H3 := Lib.hid fun W g (h : OwnM w W g 5 3 true) => h.spend 0 3 false true (by decide)
  have HB := Lib.hid (Below.refl w.heap.size w)
  go_enter Try.func8, Try.ntmps8
  go_wp2_with (first
    | (go_at_call 9; refine (new_meter _ _).mono ?_; rintro e w1 ⟨rfl, rfl⟩; have Q := Lib.hid (HN.out _ HB.out))
    | (go_at_call 10; refine (H1.out _ _ Q.out).mono ?_; clear H1 Q; rintro e w1 ⟨rfl, q, _⟩; have Q := Lib.hid q; clear q)
    | (go_at_call 10; refine (H2.out _ _ Q.out).mono ?_; clear H2 Q; rintro e w2 ⟨rfl, q, _⟩; have Q := Lib.hid q; clear q)
    | (go_at_call 10; refine (H3.out _ _ Q.out).mono ?_; clear H3; rintro e w3 ⟨rfl, q, _⟩; have R := Lib.hid q; clear q)
    | (go_at_call 12; refine R.out.over.mono ?_; rintro e w4 ⟨rfl, rfl⟩)
    | (go_at_call 13; refine R.out.spent.mono ?_; rintro e w4 ⟨rfl, rfl⟩))
  go_ret
  exact ⟨rfl, R.out.below⟩

theorem meterNone_walk (n : Int) (w : World) :
    Calls Try.prog 5 #[.int .i64 n] w fun e w' => e = .returned (.bool true) ∧ Below w.heap.size w w' := by
  have HA := Lib.hid (awake4 w)
  go_enter Try.func5, Try.ntmps5
  go_wp2_with (first
    | (go_at_call 8; refine HA.out.mono ?_; rintro e w1 ⟨rfl, b1⟩)
    | (go_at_call 10; refine (spend_nil _ _).mono ?_; rintro e w2 ⟨rfl, rfl⟩)
    | (go_at_call 12; refine (over_nil _).mono ?_; rintro e w2 ⟨rfl, rfl⟩)
    | (go_at_call 13; refine (spent_nil _).mono ?_; rintro e w2 ⟨rfl, rfl⟩))
  go_ret
  exact ⟨rfl, b1⟩
end Go.Proofs.Ytfgefamippjelaa
