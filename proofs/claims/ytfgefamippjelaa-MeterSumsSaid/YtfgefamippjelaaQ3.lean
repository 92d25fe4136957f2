/- Spend. -/
import Derived.Test.YtfgefamippjelaaQ2
import Derived.Deep.QuietTactic
import Derived.BigQuiet
import Derived.Lib.MinMax
namespace Go.Proofs.Ytfgefamippjelaa
open Go.RowKit

theorem Met.turn {w w' : World} {F : Nat → Prop} {g : Nat} {b s : Int} {o : Option Nat} (h : Met w g b s o) (ht : Turn F w w') (hF : ∀ i, F i → i ≠ g ∧ o ≠ some i) : Met w' g b s o :=
  ⟨ht.lies h.lies (fun f => (hF g f).1 rfl), fun c hc => (ht.block c (Array.getElem?_eq_some_iff.1 (h.shut c hc)).1 (fun f => (hF c f).2 hc)).trans (h.shut c hc)⟩
theorem Met.below {w w' : World} {g : Nat} {b s : Int} {o : Option Nat} (h : Met w g b s o) (hb : Below w.heap.size w w') : Met w' g b s o :=
  h.turn (F := fun _ => False) (Turn.of_below hb) (fun _ e => e.elim)
theorem Met.drewN {w : World} {g : Nat} {b s : Int} {o : Option Nat} (h : Met w g b s o) (n : Nat) : Met (w.drewN n) g b s o := ⟨h.lies, h.shut⟩
theorem Met.new (w : World) (b : Int) : Met (w.alloc (.cells #[.int .i64 b, .int .i64 0, .chan none] 36)) w.heap.size b 0 none := ⟨Lies.new _ _ _, fun c hc => by cases hc⟩

theorem spend_nil (n : Int) (w : World) : Calls Try.prog 10 #[.pointer none, .int .i64 n] w fun e w' => e = .returned (.bool true) ∧ w' = w := by
  go_enter Try.func10, Try.ntmps10
  go_wp2
  go_ret
  exact ⟨rfl, rfl⟩

theorem spend_over (w : World) (g : Nat) (b s n : Int) (c : Nat) (h : Met w g b s (some c)) :
    Calls Try.prog 10 #[.pointer (some ⟨g, 0, none⟩), .int .i64 n] w fun e w' => e = .returned (.bool false) ∧ w' = w := by
  have HO := Lib.hid (over_any w g b s (some c) h)
  clear h
  go_enter Try.func10, Try.ntmps10
  go_wp2_with (go_at_call 12; refine HO.out.mono ?_; rintro e w1 ⟨rfl, rfl⟩)
  go_ret
  exact ⟨rfl, rfl⟩

set_option maxHeartbeats 1600000 in
theorem spend_ends (w : World) (g : Nat) (b s n m r : Int) (hm : max n 0 = m) (hb : 0 < b) (hs : 0 ≤ s) (hsb : s ≤ b) (hr : r = b - s) (hwb : b ≤ 9223372036854775807) (hn : r < m) (h : Met w g b s none) :
    Calls Try.prog 10 #[.pointer (some ⟨g, 0, none⟩), .int .i64 n] w fun e w' => e = .returned (.bool false) ∧ ∃ c, Met w' g b s (some c) ∧ Turn (fun i => i = g) w w' := by
  have HO := Lib.hid (over_any w g b s none h)
  have HE := Lib.hid fun W (hW : Met W g b s none) => end_any W g b s hW
  have hlt := h.lies.lt
  have c0 := h.lies.cell 0
  have c1 := h.lies.cell 1
  simp at c0 c1
  have H := Lib.hid h
  have hd1 : decide (0 < b) = true := decide_eq_true hb
  have hd2 : decide (r < m) = true := decide_eq_true hn
  have hw : IntKind.i64.wrap (b - s) = r := (IntWalk.i64_in _ (by omega)).trans hr.symm
  clear hwb hr hs hsb h
  go_enter Try.func10, Try.ntmps10
  go_wp2_with (go_at_call 12; refine HO.out.mono ?_; rintro e w1 ⟨rfl, rfl⟩)
  go_quiet (fail)
  go_wp2_with (go_at_call 14; refine (HE.out _ (H.out.drewN _)).mono ?_; rintro e w2 ⟨rfl, q⟩)
  go_ret
  exact ⟨rfl, _, q.1, (((Turn.refl (fun i => i = g) w1).drewN _).trans q.2 fun i e => .inl e)⟩

set_option maxHeartbeats 1600000 in
theorem spend_fits (w : World) (g : Nat) (b s n m r u k t : Int) (hm : max n 0 = m) (hs : 0 ≤ s) (hs2 : s ≤ 4611686018427387904) (hb : b ≤ 0 ∨ 0 < b ∧ s ≤ b ∧ m ≤ r) (hr : r = b - s) (hwb : b ≤ 9223372036854775807)
    (hu : u = 4611686018427387904 - s) (hk : min m u = k) (ht : t = s + k) (h : Met w g b s none) :
    Calls Try.prog 10 #[.pointer (some ⟨g, 0, none⟩), .int .i64 n] w fun e w' => e = .returned (.bool true) ∧ Met w' g b t none ∧ Turn (fun i => i = g) w w' := by
  have HO := Lib.hid (over_any w g b s none h)
  have hlt := h.lies.lt
  have c0 := h.lies.cell 0
  have c1 := h.lies.cell 1
  simp at c0 c1
  have hfr := h.lies.free 1
  have HT : Hid (∀ q W, W = (w.drewN q).setCell ⟨g, 1, none⟩ (.int .i64 t) → Met W g b t none ∧ Turn (fun i => i = g) w W) := fun q W hW => by
    subst hW
    have l := (h.drewN q).lies.put 1 (.int .i64 t)
    exact ⟨⟨by simpa using l, fun c hc => by cases hc⟩, (((Turn.refl (fun i => i = g) w).drewN q).put (p := ⟨g, 1, none⟩) (.inl rfl) _)⟩
  have hwu : IntKind.i64.wrap (4611686018427387904 - s) = u := (IntWalk.i64_in _ (by omega)).trans hu.symm
  have hwt : IntKind.i64.wrap (s + k) = t := (IntWalk.i64_in _ (by omega)).trans ht.symm
  rcases hb with hb | ⟨hb, hsb, hmr⟩
  · have hd1 : decide (0 < b) = false := decide_eq_false (by omega)
    clear hwb hr hs hs2 hu ht h hb
    go_enter Try.func10, Try.ntmps10
    go_wp2_with (go_at_call 12; refine HO.out.mono ?_; rintro e w1 ⟨rfl, rfl⟩)
    go_quiet (fail)
    go_wp2
    go_region
    go_wp2
    go_ret
    exact ⟨rfl, HT.out _ _ rfl⟩
  · have hd1 : decide (0 < b) = true := decide_eq_true hb
    have hd2 : decide (r < m) = false := decide_eq_false (by omega)
    have hw : IntKind.i64.wrap (b - s) = r := (IntWalk.i64_in _ (by omega)).trans hr.symm
    clear hwb hr hs hs2 hu ht h hb hsb hmr
    go_enter Try.func10, Try.ntmps10
    go_wp2_with (go_at_call 12; refine HO.out.mono ?_; rintro e w1 ⟨rfl, rfl⟩)
    go_quiet (fail)
    go_wp2
    go_region
    go_wp2
    go_ret
    exact ⟨rfl, HT.out _ _ rfl⟩

/-- what is left when n is spent of a budget b, of which s is spent already: what is spent then; none: it is over now -/
def mspends (b s n : Int) : Option Int := if 0 < b ∧ b - s < max n 0 then none else some (s + min (max n 0) (4611686018427387904 - s))
/-- Spend: what it answers, what is spent then, whether it is over then -/
def mdoes (b s n : Int) (o : Bool) : Bool × Int × Bool := if o then (false, s, true) else match mspends b s n with
  | none => (false, s, true)
  | some u => (true, u, false)
/-- what is so of every meter: what is spent fits -/
structure MFits (b s : Int) : Prop where
  b63 : b ≤ 9223372036854775807
  s0 : 0 ≤ s
  s62 : s ≤ 4611686018427387904
  sb : 0 < b → s ≤ b
theorem MFits.new {b : Int} (h : (Lit.int .i64 b).wf = true) : MFits b 0 := ⟨by have := bounds_i64 h; omega, by omega, by omega, fun h => by omega⟩
theorem MFits.step {b s n t : Int} (h : MFits b s) (ht : mspends b s n = some t) : MFits b t ∧ s ≤ t := by
  have h1 := h.s0
  have h2 := h.s62
  have h3 := h.sb
  unfold mspends at ht
  split at ht
  · cases ht
  · obtain rfl := Option.some.inj ht
    exact ⟨⟨h.b63, by omega, by omega, fun hb => by have := h3 hb; omega⟩, by omega⟩

/-- a meter of the call's own, which began at w0: o: it is over -/
def OwnM (w0 w : World) (g : Nat) (b s : Int) (o : Bool) : Prop := ∃ c : Option Nat, Met w g b s c ∧ c.isSome = o ∧ Below w0.heap.size w0 w ∧ w0.heap.size ≤ g ∧ MFits b s
theorem OwnM.new {w0 w : World} {b : Int} (h : Below w0.heap.size w0 w) (hb : (Lit.int .i64 b).wf = true) :
    OwnM w0 (w.alloc (.cells #[.int .i64 b, .int .i64 0, .chan none] 36)) w.heap.size b 0 false :=
  ⟨none, Met.new w b, rfl, h.alloc h.size _, h.size, MFits.new hb⟩
theorem OwnM.below {w0 w : World} {g : Nat} {b s : Int} {o : Bool} (h : OwnM w0 w g b s o) : Below w0.heap.size w0 w := by
  obtain ⟨c, _, _, h, _⟩ := h
  exact h
theorem OwnM.fits {w0 w : World} {g : Nat} {b s : Int} {o : Bool} (h : OwnM w0 w g b s o) : MFits b s := by
  obtain ⟨c, _, _, _, _, h⟩ := h
  exact h
theorem OwnM.step {w0 w w' : World} {g : Nat} {b s : Int} {o : Bool} (h : OwnM w0 w g b s o) (hb : Below w.heap.size w w') : OwnM w0 w' g b s o := by
  obtain ⟨c, h1, h2, h3, h4, h5⟩ := h
  exact ⟨c, h1.below hb, h2, h3.trans (hb.mono h3.size), h4, h5⟩
theorem OwnM.over {w0 w : World} {g : Nat} {b s : Int} {o : Bool} (h : OwnM w0 w g b s o) :
    Calls Try.prog 12 #[.pointer (some ⟨g, 0, none⟩)] w fun e w' => e = .returned (.bool o) ∧ w' = w := by
  obtain ⟨c, h1, rfl, _⟩ := h
  exact over_any w g b s c h1
theorem OwnM.spent {w0 w : World} {g : Nat} {b s : Int} {o : Bool} (h : OwnM w0 w g b s o) :
    Calls Try.prog 13 #[.pointer (some ⟨g, 0, none⟩)] w fun e w' => e = .returned (.int .i64 s) ∧ w' = w := by
  obtain ⟨c, h1, rfl, _⟩ := h
  exact spent_any w g b s c h1

/-- Spend, whatever is spent: what it answers, what is spent then, whether it is over then -/
theorem OwnM.spend {w0 w : World} {g : Nat} {b s : Int} {o : Bool} (n t : Int) (a o' : Bool)
    (hr : mdoes b s n o = (a, t, o')) (h : OwnM w0 w g b s o) :
    Calls Try.prog 10 #[.pointer (some ⟨g, 0, none⟩), .int .i64 n] w fun e w' => e = .returned (.bool a) ∧ OwnM w0 w' g b t o' ∧ Turn (fun i => i = g) w w' := by
  have H := h
  obtain ⟨c, h1, ho, h3, h4, h5⟩ := h
  have f1 := h5.b63
  have f2 := h5.s0
  have f3 := h5.s62
  have f4 := h5.sb
  have hB : ∀ w', Turn (fun i => i = g) w w' → Below w0.heap.size w0 w' := fun w' ht => h3.trans (ht.below h3.size fun i e => by rw [e]; exact h4)
  cases c with
  | some c =>
    obtain rfl : o = true := by rw [← ho]; rfl
    obtain ⟨rfl, rfl, rfl⟩ : a = false ∧ t = s ∧ o' = true := by simpa [mdoes, eq_comm] using hr
    refine (spend_over w g b t n c h1).mono fun _ _ ⟨e, hw⟩ => ⟨e, ?_, ?_⟩
    · subst hw
      exact ⟨some c, h1, rfl, h3, h4, h5⟩
    · subst hw
      exact Turn.refl _ _
  | none =>
    obtain rfl : o = false := by rw [← ho]; rfl
    cases hs : mspends b s n with
    | none =>
      obtain ⟨rfl, rfl, rfl⟩ : a = false ∧ t = s ∧ o' = true := by simpa [mdoes, hs, eq_comm] using hr
      have hc : 0 < b ∧ b - t < max n 0 := by
        unfold mspends at hs
        split at hs
        · assumption
        · cases hs
      exact (spend_ends w g b t n _ _ rfl hc.1 f2 (f4 hc.1) rfl f1 hc.2 h1).mono fun _ _ ⟨e, c, hm, ht⟩ => ⟨e, ⟨some c, hm, rfl, hB _ ht, h4, h5⟩, ht⟩
    | some u =>
      obtain ⟨rfl, rfl, rfl⟩ : a = true ∧ t = u ∧ o' = false := by simpa [mdoes, hs, eq_comm] using hr
      have h6 := (h5.step hs).1
      have hc : ¬ (0 < b ∧ b - s < max n 0) ∧ t = s + min (max n 0) (4611686018427387904 - s) := by
        unfold mspends at hs
        split at hs
        · cases hs
        · exact ⟨by assumption, (Option.some.inj hs).symm⟩
      have hfit : b ≤ 0 ∨ 0 < b ∧ s ≤ b ∧ max n 0 ≤ b - s := by
        by_cases hb : 0 < b
        · exact .inr ⟨hb, f4 hb, by have := hc.1; omega⟩
        · exact .inl (by omega)
      exact (spend_fits w g b s n _ _ _ _ t rfl f2 f3 hfit rfl f1 rfl rfl hc.2 h1).mono fun _ _ ⟨e, hm, ht⟩ => ⟨e, ⟨none, hm, rfl, hB _ ht, h4, h6⟩, ht⟩
end Go.Proofs.Ytfgefamippjelaa
