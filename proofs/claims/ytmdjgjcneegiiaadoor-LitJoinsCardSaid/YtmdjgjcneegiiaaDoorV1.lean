/- The code of literals: what the world must hold, and the small questions: point, itself, the closures, lower. -/
import Derived.Test.YtmdjgjcneegiiaaDoorJ3
namespace Go.Proofs.YtmdjgjcneegiiaaDoor
open Go.RowKit

/-- what the library's own variables must hold: ErrSyntax is some error, the table of trailing zeros tells 4 of 16 -/
structure Gl (w : World) : Prop where
  syn : ∃ v, w.cell? ⟨1, 0, none⟩ = some v ∧ (v = .nilIface ∨ ∃ t p, v = .iface t p)
  bru : w.cell? ⟨5, 15, none⟩ = some (.int .u8 4)
  max : ∃ m : Int, w.cell? ⟨3, 0, none⟩ = some (.int .i64 m)
theorem Gl.below {w w' : World} (h : Gl w) (hb : Below w.heap.size w w') : Gl w' := by
  obtain ⟨⟨v, h1, h2⟩, h3, ⟨m, h4⟩⟩ := h
  exact ⟨⟨v, (hb.cell (p := ⟨1, 0, none⟩) (World.block_lt_of_cell? w _ h1)).trans h1, h2⟩, (hb.cell (p := ⟨5, 15, none⟩) (World.block_lt_of_cell? w _ h3)).trans h3, ⟨m, (hb.cell (p := ⟨3, 0, none⟩) (World.block_lt_of_cell? w _ h4)).trans h4⟩⟩

theorem kpoint7 (z : Int) (w : World) : Calls Tryd.prog 23 #[.int .i64 z] w fun e w' => e = .returned (.bool (Lt.pt z)) ∧ w' = w := by
  by_cases h0 : 0 ≤ z
  · by_cases h1 : z ≤ 196607
    · have hp : Lt.pt z = true := decide_eq_true ⟨h0, h1⟩
      rw [hp]
      go_enter Tryd.func23, Tryd.ntmps23
      go_wp2
      go_ret
      exact ⟨rfl, rfl⟩
    · have hp : Lt.pt z = false := decide_eq_false (by omega)
      rw [hp]
      go_enter Tryd.func23, Tryd.ntmps23
      go_wp2
      go_ret
      exact ⟨rfl, rfl⟩
  · have hp : Lt.pt z = false := decide_eq_false (by omega)
    rw [hp]
    go_enter Tryd.func23, Tryd.ntmps23
    go_wp2
    go_ret
    exact ⟨rfl, rfl⟩

/-- is a code point written as its byte? -/
def Lt.self (z : Int) : Bool := decide (32 ≤ z ∧ z ≤ 126 ∧ z ≠ 92)
theorem kitself7 (z : Int) (w : World) : Calls Tryd.prog 24 #[.int .i64 z] w fun e w' => e = .returned (.bool (Lt.self z)) ∧ w' = w := by
  by_cases h0 : 32 ≤ z
  · by_cases h1 : z ≤ 126
    · by_cases h2 : z = 92
      · subst h2
        have hp : Lt.self 92 = false := by decide
        rw [hp]
        clear h0 h1
        go_enter Tryd.func24, Tryd.ntmps24
        go_wp2
        go_ret
        exact ⟨rfl, rfl⟩
      · have hp : Lt.self z = true := decide_eq_true ⟨h0, h1, h2⟩
        have h2' : (z != 92) = true := bne_iff_ne.2 h2
        rw [hp]
        go_enter Tryd.func24, Tryd.ntmps24
        go_wp2
        go_ret
        exact ⟨rfl, rfl⟩
    · have hp : Lt.self z = false := decide_eq_false (by omega)
      rw [hp]
      go_enter Tryd.func24, Tryd.ntmps24
      go_wp2
      go_ret
      exact ⟨rfl, rfl⟩
  · have hp : Lt.self z = false := decide_eq_false (by omega)
    rw [hp]
    go_enter Tryd.func24, Tryd.ntmps24
    go_wp2
    go_ret
    exact ⟨rfl, rfl⟩

theorem kruns1 (z : Int) (w : World) : Calls Tryd.prog 32 #[.int .i64 z] w fun e w' => e = .returned (.bool (!Lt.pt z)) ∧ w' = w := by
  have HP := Lib.hid fun W => kpoint7 z W
  generalize Lt.pt z = b at HP
  cases b
  all_goals
    go_enter Tryd.func32, Tryd.ntmps32
    go_wp2_with (go_at_call 23; refine (HP.out _).mono ?_; rintro e w1 ⟨rfl, rfl⟩)
    go_ret
    exact ⟨rfl, rfl⟩

/-- a run that is none -/
def Lt.off (x : Int × Int) : Bool := !Lt.pt x.1 || decide (x.2 < 1)
set_option maxRecDepth 100000 in
theorem klist1 (x y : Int) (w : World) : Calls Tryd.prog 34 #[.agg #[.int .i64 x, .int .i64 y]] w fun e w' => e = .returned (.bool (Lt.off (x, y))) ∧ Below w.heap.size w w' := by
  have HP := Lib.hid fun W => kpoint7 x W
  have hB : Below w.heap.size w (w.alloc (.cells #[.int .i64 x, .int .i64 y] 40)) := (Below.refl _ w).alloc (Nat.le_refl _) _
  have hL := Lies.new w 40 #[.int .i64 x, .int .i64 y]
  have c0 := hL.cell 0
  have c1 := hL.cell 1
  simp at c0 c1
  have HB := Lib.hid hB
  clear hB hL
  rw [Lt.off]
  generalize Lt.pt x = b at HP
  by_cases hy : y < 1
  · cases b
    all_goals
      go_enter Tryd.func34, Tryd.ntmps34
      go_wp2_with (go_at_call 23; refine (HP.out _).mono ?_; rintro e w1 ⟨rfl, rfl⟩)
      go_ret
      exact ⟨by first | rfl | simp [hy], HB.out⟩
  · cases b
    all_goals
      go_enter Tryd.func34, Tryd.ntmps34
      go_wp2_with (go_at_call 23; refine (HP.out _).mono ?_; rintro e w1 ⟨rfl, rfl⟩)
      go_ret
      exact ⟨by first | rfl | simp [hy], HB.out⟩

/-- a letter made small -/
def Lt.low (n : Nat) : Nat := if n / 32 % 2 = 1 then n else n + 32
theorem Lt.low_all : ((List.range 256).all fun n => decide (bits .or .u8 (n : Int) 32 = (Lt.low n : Int)) && decide (Lt.low n < 256)) = true := by decide +kernel
theorem Lt.low_bits {n : Nat} (h : n < 256) : bits .or .u8 (n : Int) 32 = (Lt.low n : Int) ∧ Lt.low n < 256 := by
  have := List.all_eq_true.1 Lt.low_all n (List.mem_range.2 h)
  simpa using this
theorem klower7 (n : Nat) (h : n < 256) (w : World) : Calls Tryd.prog 55 #[.int .u8 (n : Nat)] w fun e w' => e = .returned (.int .u8 (Lt.low n : Nat)) ∧ w' = w := by
  obtain ⟨h1, h2⟩ := Lt.low_bits h
  go_enter Tryd.func55, Tryd.ntmps55
  go_wp2
  go_ret
  exact ⟨by first | rfl | rw [h1], rfl⟩
end Go.Proofs.YtmdjgjcneegiiaaDoor
