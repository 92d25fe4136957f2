/- The reference's Spend. -/
import Derived.Test.YtfgefamippjelaaQ6
namespace Go.Proofs.Ytfgefamippjelaa
open Go.RowKit

theorem below_pair (w : World) (x y : Obj) : Below w.heap.size w ((w.alloc x).alloc y) := ((Below.refl _ w).alloc (Nat.le_refl _) x).alloc (by simp) y
/-- what the reference answers -/
abbrev RSaid (w : World) (b t : Int) (a o : Bool) : Ending → World → Prop := fun e w' => e = .returned (.tuple #[.agg #[.int .i64 b, .int .i64 t, .bool o], .bool a]) ∧ Below w.heap.size w w'

set_option maxRecDepth 100000 in
theorem ref_over (b s n : Int) (w : World) : Calls Try.prog 11 #[.agg #[.int .i64 b, .int .i64 s, .bool true], .int .i64 n] w (RSaid w b s false true) := by
  go_enter Try.func11, Try.ntmps11
  go_wp2
  exact bodyPost_ret (v := .tuple #[.agg #[.int .i64 b, .int .i64 s, .bool true], .bool false]) (by simp [results, Try.results11, go_sem]) rfl ⟨rfl, below_pair w _ _⟩

set_option maxRecDepth 100000 in
theorem ref_ends (b s n r : Int) (w : World) (hb : decide (1 ≤ b) = true) (hn : decide (n < 0) = false) (hr : IntKind.i64.wrap (b - s) = r) (hd : decide (r < n) = true) :
    Calls Try.prog 11 #[.agg #[.int .i64 b, .int .i64 s, .bool false], .int .i64 n] w (RSaid w b s false true) := by
  go_enter Try.func11, Try.ntmps11
  go_wp2
  exact bodyPost_ret (v := .tuple #[.agg #[.int .i64 b, .int .i64 s, .bool true], .bool false]) (by simp [results, Try.results11, go_sem]) rfl ⟨rfl, below_pair w _ _⟩

set_option maxRecDepth 100000 in
theorem ref_fits (b s n m r u k t : Int) (w : World) (hn : decide (n < 0) = false ∧ m = n ∨ decide (n < 0) = true ∧ m = 0) (hb : decide (1 ≤ b) = false ∨ decide (1 ≤ b) = true ∧ IntKind.i64.wrap (b - s) = r ∧ decide (r < m) = false)
    (hu : IntKind.i64.wrap (4611686018427387904 - s) = u) (hk : decide (u < m) = false ∧ k = m ∨ decide (u < m) = true ∧ k = u) (ht : IntKind.i64.wrap (s + k) = t) :
    Calls Try.prog 11 #[.agg #[.int .i64 b, .int .i64 s, .bool false], .int .i64 n] w (RSaid w b t true false) := by
  rcases hn with ⟨hn, rfl⟩ | ⟨hn, rfl⟩ <;> rcases hb with hb | ⟨hb, hr, hd⟩ <;> rcases hk with ⟨hk, rfl⟩ | ⟨hk, rfl⟩
  all_goals
    try rw [Int.add_zero] at ht
    try (have ht' : wrap64 s = t := ht)
    go_enter Try.func11, Try.ntmps11
    go_wp2
    exact bodyPost_ret (v := .tuple #[.agg #[.int .i64 b, .int .i64 t, .bool false], .bool true]) (by simp [results, Try.results11, go_sem]) rfl ⟨rfl, below_pair w _ _⟩

/-- the reference's Spend does what the meter's does -/
theorem ref_does (b s n t : Int) (o a o' : Bool) (w : World) (hf : MFits b s) (hd : mdoes b s n o = (a, t, o')) :
    Calls Try.prog 11 #[.agg #[.int .i64 b, .int .i64 s, .bool o], .int .i64 n] w (RSaid w b t a o') := by
  have f1 := hf.b63
  have f2 := hf.s0
  have f3 := hf.s62
  have f4 := hf.sb
  obtain ⟨a1, o1, t1, hd1, hw⟩ := does_cases b s n o
  rw [hd] at hd1
  injection hd1 with e1 e2
  injection e2 with e2 e3
  subst e1
  subst e2
  subst e3
  rcases hw with ⟨rfl, rfl, rfl, rfl⟩ | ⟨rfl, h1, h2, rfl, rfl, rfl⟩ | ⟨rfl, h1, rfl, h2, rfl⟩
  · exact ref_over b t n w
  · have := f4 h1
    exact ref_ends b t n (b - t) w (decide_eq_true (by omega)) (decide_eq_false (by omega)) (IntWalk.i64_in _ (by omega)) (decide_eq_true (by omega))
  · refine ref_fits b s n (max n 0) (b - s) (4611686018427387904 - s) (min (max n 0) (4611686018427387904 - s)) t w ?_ ?_ (IntWalk.i64_in _ (by omega)) ?_ ((IntWalk.i64_in _ (by omega)).trans h2.symm)
    · by_cases h : n < 0
      · exact .inr ⟨decide_eq_true h, by omega⟩
      · exact .inl ⟨decide_eq_false h, by omega⟩
    · by_cases h : 1 ≤ b
      · have := f4 (by omega)
        exact .inr ⟨decide_eq_true h, IntWalk.i64_in _ (by omega), decide_eq_false (by omega)⟩
      · exact .inl (decide_eq_false h)
    · by_cases h : 4611686018427387904 - s < max n 0
      · exact .inr ⟨decide_eq_true h, by omega⟩
      · exact .inl ⟨decide_eq_false h, by omega⟩
end Go.Proofs.Ytfgefamippjelaa
