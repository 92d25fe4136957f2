/- Two meters side by side; MeterParts. -/
import Derived.Test.YtfgefamippjelaaQ4
namespace Go.Proofs.Ytfgefamippjelaa
open Go.RowKit

theorem OwnM.other {w0 w w' : World} {g g' : Nat} {b s b' s' : Int} {o o' : Bool} (h : OwnM w0 w g b s o) (h' : OwnM w0 w g' b' s' o') (hne : g ≠ g') (ht : Turn (fun i => i = g) w w') : OwnM w0 w' g' b' s' o' := by
  obtain ⟨c, h1, _, h3, h4, _⟩ := h
  obtain ⟨c', k1, k2, k3, k4, k5⟩ := h'
  refine ⟨c', k1.turn ht fun i e => ?_, k2, h3.trans (ht.below h3.size fun i e => by rw [e]; exact h4), k4, k5⟩
  subst e
  refine ⟨hne, fun e => ?_⟩
  have q1 := k1.shut _ e
  have q2 : w.heap[i]? = some (.cells _ _ (0, 0)) := h1.lies
  rw [q1] at q2
  cases q2

/-- two meters of one budget -/
structure TwoM (w0 w : World) (b : Int) (gx : Nat) (sx : Int) (ox : Bool) (gy : Nat) (sy : Int) (oy : Bool) : Prop where
  x : OwnM w0 w gx b sx ox
  y : OwnM w0 w gy b sy oy
  ne : gx ≠ gy
theorem TwoM.new {w0 w : World} {b : Int} {Z : Array Value} (hZ : Z = #[.int .i64 b, .int .i64 0, .chan none]) (h : Below w0.heap.size w0 w) (hb : (Lit.int .i64 b).wf = true) :
    TwoM w0 ((w.alloc (.cells Z 36)).alloc (.cells Z 36)) b w.heap.size 0 false (w.heap.size + 1) 0 false := by
  subst hZ
  have hx := OwnM.new h hb
  have hy := OwnM.new (hx.below) hb
  refine ⟨hx.step ((Below.refl _ _).alloc (Nat.le_refl _) _), by simpa using hy, by omega⟩
theorem TwoM.spendX {w0 w : World} {b sx sy t n : Int} {x y : Nat} {ox oy a o' : Bool} (h : TwoM w0 w b x sx ox y sy oy) (hr : mdoes b sx n ox = (a, t, o')) :
    Calls Try.prog 10 #[.pointer (some ⟨x, 0, none⟩), .int .i64 n] w fun e w' => e = .returned (.bool a) ∧ TwoM w0 w' b x t o' y sy oy :=
  (h.x.spend n t a o' hr).mono fun _ _ ⟨e, q, ht⟩ => ⟨e, q, h.x.other h.y h.ne ht, h.ne⟩
theorem TwoM.spendY {w0 w : World} {b sx sy t n : Int} {x y : Nat} {ox oy a o' : Bool} (h : TwoM w0 w b x sx ox y sy oy) (hr : mdoes b sy n oy = (a, t, o')) :
    Calls Try.prog 10 #[.pointer (some ⟨y, 0, none⟩), .int .i64 n] w fun e w' => e = .returned (.bool a) ∧ TwoM w0 w' b x sx ox y t o' :=
  (h.y.spend n t a o' hr).mono fun _ _ ⟨e, q, ht⟩ => ⟨e, h.y.other h.x (Ne.symm h.ne) ht, q, h.ne⟩

theorem does_fits {b s n : Int} (h : ¬ (0 < b ∧ b - s < max n 0)) : mdoes b s n false = (true, s + min (max n 0) (4611686018427387904 - s), false) := by simp [mdoes, mspends, h]
theorem does_ends {b s n : Int} (h : 0 < b ∧ b - s < max n 0) : mdoes b s n false = (false, s, true) := by simp [mdoes, mspends, h]
theorem does_over {b s n : Int} : mdoes b s n true = (false, s, true) := rfl

/-- what the two meters do: at once, and in two parts -/
theorem mparts (B a b : Int) (ha : 0 ≤ a) (hb : 0 ≤ b) (ha1 : a ≤ 1152921504606846976) (hb1 : b ≤ 1152921504606846976) :
    ∃ (one two three o o2 : Bool) (sx s2 sy : Int), mdoes B 0 (a + b) false = (one, sx, o) ∧ mdoes B 0 a false = (two, s2, o2) ∧ mdoes B s2 b o2 = (three, sy, o) ∧
      (one = true ∧ two = true ∧ three = true ∧ sx = sy ∨ one = false ∧ two = true ∧ three = false ∨ one = false ∧ two = false ∧ three = false) := by
  by_cases h1 : 0 < B ∧ B < a
  · exact ⟨_, _, _, _, _, _, _, _, does_ends ⟨h1.1, by omega⟩, does_ends ⟨h1.1, by omega⟩, does_over, .inr (.inr ⟨rfl, rfl, rfl⟩)⟩
  · have e2 : mdoes B 0 a false = (true, a, false) := by
      rw [does_fits (by omega), show (0 : Int) + min (max a 0) (4611686018427387904 - 0) = a by omega]
    by_cases h2 : 0 < B ∧ B < a + b
    · exact ⟨_, _, _, _, _, _, _, _, does_ends ⟨h2.1, by omega⟩, e2, does_ends ⟨h2.1, by omega⟩, .inr (.inl ⟨rfl, rfl, rfl⟩)⟩
    · exact ⟨_, _, _, _, _, _, _, _, does_fits (by omega), e2, does_fits (by omega), .inl ⟨rfl, rfl, rfl, by omega⟩⟩

set_option maxRecDepth 100000 in
set_option maxHeartbeats 3200000 in
theorem meterParts_walk (B a b : Int) (w : World) (hB : (Lit.int .i64 B).wf = true) :
    Calls Try.prog 6 #[.int .i64 B, .int .i64 a, .int .i64 b] w fun e w' => e = .returned (.bool true) ∧ Below w.heap.size w w' := by
  have HA := Lib.hid (awake4 w)
  have HN := Lib.hid fun W (hW : Below w.heap.size w W) => TwoM.new (b := B) rfl hW hB
  have small : ∀ W, Below w.heap.size w W → Hid (Below w.heap.size w ((W.alloc (.cells #[.int .i64 B, .int .i64 0, .chan none] 36)).alloc (.cells #[.int .i64 B, .int .i64 0, .chan none] 36))) := fun W hW => Lib.hid (HN.out _ hW).x.below
  have HS := Lib.hid small
  clear small
  by_cases ha : a < 0
  · have hd1 : decide (a < 0) = true := decide_eq_true ha
    clear hB HN
    go_enter Try.func6, Try.ntmps6
    go_wp2_with (first
      | (go_at_call 8; refine HA.out.mono ?_; rintro e w1 ⟨rfl, b1⟩; have B1 := HS.out _ b1)
      | (go_at_call 9; refine (new_meter _ _).mono ?_; rintro e w2 ⟨rfl, rfl⟩))
    go_ret
    exact ⟨rfl, B1.out⟩
  by_cases hb : b < 0
  · have hd1 : decide (a < 0) = false := decide_eq_false ha
    have hd2 : decide (b < 0) = true := decide_eq_true hb
    clear hB HN ha
    go_enter Try.func6, Try.ntmps6
    go_wp2_with (first
      | (go_at_call 8; refine HA.out.mono ?_; rintro e w1 ⟨rfl, b1⟩; have B1 := HS.out _ b1)
      | (go_at_call 9; refine (new_meter _ _).mono ?_; rintro e w2 ⟨rfl, rfl⟩))
    go_ret
    exact ⟨rfl, B1.out⟩
  by_cases ha1 : 1152921504606846976 < a
  · have hd1 : decide (a < 0) = false := decide_eq_false ha
    have hd2 : decide (b < 0) = false := decide_eq_false hb
    have hd3 : decide (1152921504606846976 < a) = true := decide_eq_true ha1
    clear hB HN ha hb ha1
    go_enter Try.func6, Try.ntmps6
    go_wp2_with (first
      | (go_at_call 8; refine HA.out.mono ?_; rintro e w1 ⟨rfl, b1⟩; have B1 := HS.out _ b1)
      | (go_at_call 9; refine (new_meter _ _).mono ?_; rintro e w2 ⟨rfl, rfl⟩))
    go_ret
    exact ⟨rfl, B1.out⟩
  by_cases hb1 : 1152921504606846976 < b
  · have hd1 : decide (a < 0) = false := decide_eq_false ha
    have hd2 : decide (b < 0) = false := decide_eq_false hb
    have hd3 : decide (1152921504606846976 < a) = false := decide_eq_false ha1
    have hd4 : decide (1152921504606846976 < b) = true := decide_eq_true hb1
    clear hB HN ha hb ha1 hb1
    go_enter Try.func6, Try.ntmps6
    go_wp2_with (first
      | (go_at_call 8; refine HA.out.mono ?_; rintro e w1 ⟨rfl, b1⟩; have B1 := HS.out _ b1)
      | (go_at_call 9; refine (new_meter _ _).mono ?_; rintro e w2 ⟨rfl, rfl⟩))
    go_ret
    exact ⟨rfl, B1.out⟩
  · have hd1 : decide (a < 0) = false := decide_eq_false ha
    have hd2 : decide (b < 0) = false := decide_eq_false hb
    have hd3 : decide (1152921504606846976 < a) = false := decide_eq_false ha1
    have hd4 : decide (1152921504606846976 < b) = false := decide_eq_false hb1
    obtain ⟨ab, hab⟩ : ∃ ab, ab = a + b := ⟨_, rfl⟩
    have hw : IntKind.i64.wrap (a + b) = ab := (IntWalk.i64_in _ (by omega)).trans hab.symm
    obtain ⟨one, two, three, o, o2, sx, s2, sy, h1, h2, h3, hc⟩ := mparts B a b (by omega) (by omega) (by omega) (by omega)
    rw [← hab] at h1
    have H1 := Lib.hid fun W x y (h : TwoM w W B x 0 false y 0 false) => h.spendX h1
    have H2 := Lib.hid fun W x y (h : TwoM w W B x sx o y 0 false) => h.spendY h2
    have H3 := Lib.hid fun W x y (h : TwoM w W B x sx o y s2 o2) => h.spendY h3
    clear hB h1 h2 h3 hab ha hb ha1 hb1 HS
    rcases hc with ⟨rfl, rfl, rfl, rfl⟩ | ⟨rfl, rfl, rfl⟩ | ⟨rfl, rfl, rfl⟩
    all_goals
      go_enter Try.func6, Try.ntmps6
      go_wp2_with (first
        | (go_at_call 8; refine HA.out.mono ?_; rintro e w1 ⟨rfl, b1⟩; have QN := Lib.hid (HN.out _ b1); clear b1)
        | (go_at_call 9; refine (new_meter _ _).mono ?_; rintro e w2 ⟨rfl, rfl⟩)
        | (go_at_call 10; (with_reducible refine (H1.out _ _ _ QN.out).mono ?_); clear H1 QN; rintro e w2 ⟨rfl, q⟩; have Q2 := Lib.hid q; clear q)
        | (go_at_call 10; (with_reducible refine (H2.out _ _ _ Q2.out).mono ?_); clear H2 Q2; rintro e w3 ⟨rfl, q⟩; have Q3 := Lib.hid q; clear q)
        | (go_at_call 10; (with_reducible refine (H3.out _ _ _ Q3.out).mono ?_); clear H3 Q3; rintro e w4 ⟨rfl, q⟩; have Q4 := Lib.hid q; clear q)
        | (go_at_call 12; (with_reducible refine Q4.out.x.over.mono ?_); rintro e w5 ⟨rfl, rfl⟩)
        | (go_at_call 12; (with_reducible refine Q4.out.y.over.mono ?_); rintro e w5 ⟨rfl, rfl⟩)
        | (go_at_call 13; (with_reducible refine Q4.out.x.spent.mono ?_); rintro e w5 ⟨rfl, rfl⟩)
        | (go_at_call 13; (with_reducible refine Q4.out.y.spent.mono ?_); rintro e w5 ⟨rfl, rfl⟩))
      go_ret
      exact ⟨rfl, Q4.out.x.below⟩
end Go.Proofs.Ytfgefamippjelaa
