/- What a stack is in memory; floor, Marks, Push. -/
import Derived.Test.YtgijagdnhajkhaaT5
import Derived.Deep.QuietTactic
import Derived.BigQuiet
namespace Go.Proofs.Ytgijagdnhajkhaa
open Go.RowKit

abbrev i64s (l : List Int) : List Value := l.map fun x => .int .i64 x
abbrev nats (l : List Nat) : List Value := l.map fun (x : Nat) => .int .i64 (x : Int)
theorem i64s_one {l : List Int} : ∀ u ∈ i64s l, u.oneCell' = true := by
  intro u hu
  obtain ⟨x, _, rfl⟩ := List.mem_map.1 hu
  rfl

/-- the marks above these levels: how many things lie below each -/
def marksOf (d : List (List Int)) : List Nat := (List.range d.length).map fun j => (d.take (j + 1)).flatten.length
theorem marksOf_length (d : List (List Int)) : (marksOf d).length = d.length := by simp [marksOf]
theorem marksOf_snoc (d : List (List Int)) (l : List Int) : marksOf (d ++ [l]) = marksOf d ++ [(d ++ [l]).flatten.length] := by
  unfold marksOf
  rw [List.length_append, List.length_singleton, List.range_succ, List.map_append, List.map_singleton]
  congr 1
  · apply List.map_congr_left
    intro j hj
    rw [List.mem_range] at hj
    rw [List.take_append_of_le_length (by omega)]
  · rw [List.take_of_length_le (by simp)]
theorem marksOf_last (d : List (List Int)) (h : 0 < d.length) : (marksOf d)[d.length - 1]? = some d.flatten.length := by
  obtain ⟨d', l, rfl⟩ : ∃ d' l, d = d' ++ [l] := ⟨d.dropLast, d.getLast (by intro e; rw [e] at h; simp at h), (List.dropLast_concat_getLast _).symm⟩
  rw [marksOf_snoc, List.length_append, List.length_singleton, Nat.add_sub_cancel, List.getElem?_append_right (by rw [marksOf_length]; exact Nat.le_refl _), marksOf_length]
  simp

/-- a stack of the levels d, and one more, top, lies in block sb; what it reaches lies in blocks of F -/
structure Stk (w : World) (F : Nat → Prop) (sb : Nat) (d : List (List Int)) (top : List Int) : Prop where
  lies : ∃ A n c B m e, Lies w sb 46 #[.slice A n c, .slice B m e] ∧ n = (d.flatten ++ top).length ∧ m = d.length ∧ w.ownsRow 0 3 1 (.slice A n c) n (i64s (d.flatten ++ top)) ∧ w.ownsRow 0 3 1 (.slice B m e) m (nats (marksOf d)) ∧
    (∀ g, (Value.slice A n c).ownBlock = some g → F g) ∧ (∀ g, (Value.slice B m e).ownBlock = some g → F g) ∧ (∀ g, (Value.slice A n c).ownBlock = some g → (Value.slice B m e).ownBlock ≠ some g)
  inn : F sb
  lt : ∀ i, F i → i < w.heap.size
  few : (d.flatten ++ top).length ≤ 1000000
  few' : d.length ≤ 1000000

theorem Stk.turn {w w' : World} {F G : Nat → Prop} {sb : Nat} {d : List (List Int)} {top : List Int} (h : Stk w F sb d top) (ht : Turn G w w') (hG : ∀ i, F i → ¬ G i) : Stk w' F sb d top := by
  obtain ⟨⟨A, n, c, B, m, e, h1, hn, hm, h2, h3, h4, h5, h6⟩, inn, lt, few, few'⟩ := h
  exact ⟨⟨A, n, c, B, m, e, ht.lies h1 (hG sb inn), hn, hm, ht.own h2 (fun g hg => hG g (h4 g hg)), ht.own h3 (fun g hg => hG g (h5 g hg)), h4, h5, h6⟩, inn, fun i hi => Nat.lt_of_lt_of_le (lt i hi) ht.size, few, few'⟩
theorem Stk.below {w w' : World} {F : Nat → Prop} {sb : Nat} {d : List (List Int)} {top : List Int} (h : Stk w F sb d top) (hb : Below w.heap.size w w') : Stk w' F sb d top :=
  h.turn (G := fun _ => False) (Turn.of_below hb) (fun _ _ e => e)
theorem Stk.new (w : World) : Stk (w.alloc (.cells #[.slice none 0 0, .slice none 0 0] 46)) (fun i => i = w.heap.size) w.heap.size [] [] :=
  ⟨⟨none, 0, 0, none, 0, 0, Lies.new _ _ _, rfl, rfl, World.ownsRow_nil _ _ _ _, World.ownsRow_nil _ _ _ _, fun g hg => (by cases hg), fun g hg => (by cases hg), fun g hg => (by cases hg)⟩, rfl, fun i hi => by subst hi; simp, by simp, by simp⟩

/-- what a call leaves of a stack -/
def LeftK (w : World) (F : Nat → Prop) (sb : Nat) (d : List (List Int)) (top : List Int) (w' : World) : Prop :=
  ∃ F' : Nat → Prop, Stk w' F' sb d top ∧ Turn F w w' ∧ (∀ i, F i → F' i) ∧ ∀ i, F' i → F i ∨ w.heap.size ≤ i
theorem LeftK.after {w w1 w2 : World} {F F1 : Nat → Prop} {sb : Nat} {d : List (List Int)} {top : List Int} (h : LeftK w1 F1 sb d top w2) (ht : Turn F w w1) (hF : ∀ i, F i → F1 i) (hF1 : ∀ i, F1 i → F i ∨ w.heap.size ≤ i) : LeftK w F sb d top w2 := by
  obtain ⟨F2, h1, h2, h3, h4⟩ := h
  exact ⟨F2, h1, ht.trans h2 hF1, fun i hi => h3 i (hF i hi), fun i hi => (h4 i hi).elim (hF1 i) (fun e => .inr (Nat.le_trans ht.size e))⟩

theorem marks_any (w : World) (F : Nat → Prop) (sb : Nat) (d : List (List Int)) (top : List Int) (h : Stk w F sb d top) :
    Calls Try.prog 30 #[.pointer (some ⟨sb, 0, none⟩)] w fun e w' => e = .returned (.int .i64 (d.length : Nat)) ∧ w' = w := by
  obtain ⟨⟨A, n, c, B, m, e, h1, hn, hm, h2, h3, h4, h5, h6⟩, inn, lt, few, few'⟩ := h
  have hlt := h1.lt
  have c1 := h1.cell 1
  simp at c1
  rw [← hm]
  clear h1 h2 h3 h4 h5 h6 inn lt few few' hn hm
  go_enter Try.func30, Try.ntmps30
  go_wp2
  go_ret
  exact ⟨rfl, rfl⟩

theorem floor_any (w : World) (F : Nat → Prop) (sb : Nat) (d : List (List Int)) (top : List Int) (h : Stk w F sb d top) :
    Calls Try.prog 39 #[.pointer (some ⟨sb, 0, none⟩)] w fun e w' => e = .returned (.int .i64 (d.flatten.length : Nat)) ∧ ∃ q, w' = w.drewN q := by
  obtain ⟨⟨A, n, c, B, m, e, h1, hn, hm, h2, h3, h4, h5, h6⟩, inn, lt, few, few'⟩ := h
  have hlt := h1.lt
  have c1 := h1.cell 1
  simp at c1
  by_cases h0 : m = 0
  · have hres : Hid (d.flatten.length = 0) := by
      show d.flatten.length = 0
      rw [List.eq_nil_of_length_eq_zero (hm.symm.trans h0)]
      rfl
    subst h0
    clear h1 h2 h3 h4 h5 h6 inn lt few few' hn hm
    go_enter Try.func39, Try.ntmps39
    go_wp2
    go_ret
    exact ⟨by rw [hres.out]; rfl, 0, rfl⟩
  · obtain ⟨g, hB⟩ : ∃ g, B = some ⟨g, 0, none⟩ := by
      rcases h3.2 with ⟨_, e⟩ | ⟨g, cap, cur, e, _⟩
      · exact absurd e h0
      · injection e with e1
        exact ⟨g, e1⟩
    subst hB
    obtain ⟨p, rfl⟩ : ∃ p, m = p + 1 := ⟨m - 1, by omega⟩
    obtain ⟨r, HR⟩ : ∃ r, Hid (r = d.flatten.length) := ⟨_, rfl⟩
    have hcell : w.cell? ⟨g, p, none⟩ = some (.int .i64 (r : Int)) := by
      have h7 := marksOf_last d (by omega)
      have h8 := h3.cells (g := g) rfl p (.int .i64 (r : Int)) (by
        rw [List.getElem?_map, show p = d.length - 1 by omega, h7, HR.out]
        rfl)
      rw [show (⟨g, 0, none⟩ : Addr).add p = ⟨g, p, none⟩ by unfold Addr.add; split <;> simp_all] at h8
      exact h8
    have hp : p ≤ 1000000 := by omega
    rw [← HR.out]
    clear h1 h2 h3 h4 h5 h6 inn lt few few' hn hm h0
    go_enter Try.func39, Try.ntmps39
    go_wp2
    go_quiet (fail)
    go_wp2
    go_ret
    exact ⟨rfl, _, rfl⟩
end Go.Proofs.Ytgijagdnhajkhaa
