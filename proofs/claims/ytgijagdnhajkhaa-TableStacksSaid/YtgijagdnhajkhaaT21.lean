/- A stack, and a stack of the reference's in a variable of the call's own, side by side. -/
import Derived.Test.YtgijagdnhajkhaaT19
namespace Go.Proofs.Ytgijagdnhajkhaa
open Go.RowKit

/-- a stack of the levels d and top in block sb; in the variable rb a struct that reads as ls, apart from it -/
def TwoK (w0 w : World) (sb : Nat) (d : List (List Int)) (top : List Int) (rb : Nat) (A : Option Addr) (c : Nat) (ls : List (List Int)) : Prop :=
  ∃ F : Nat → Prop, Stk w F sb d top ∧ Lies w rb 49 #[.slice A ls.length c] ∧ RS w (fun b => ¬ F b ∧ b ≠ rb) (.agg #[.slice A ls.length c]) ls ∧ Below w0.heap.size w0 w ∧ (∀ i, F i → w0.heap.size ≤ i) ∧ w0.heap.size ≤ rb ∧ ¬ F rb
/-- .. and a struct that is to be stored there, and reads as ls' -/
def Pend (w0 w : World) (sb : Nat) (d : List (List Int)) (top : List Int) (rb : Nat) (A : Option Addr) (c : Nat) (ls : List (List Int)) (A' : Option Addr) (c' : Nat) (ls' : List (List Int)) : Prop :=
  ∃ F : Nat → Prop, Stk w F sb d top ∧ Lies w rb 49 #[.slice A ls.length c] ∧ RS w (fun b => ¬ F b ∧ b ≠ rb) (.agg #[.slice A' ls'.length c']) ls' ∧ Below w0.heap.size w0 w ∧ (∀ i, F i → w0.heap.size ≤ i) ∧ w0.heap.size ≤ rb ∧ ¬ F rb

theorem TwoK.own {w0 w : World} {sb rb c : Nat} {d ls : List (List Int)} {top : List Int} {A : Option Addr} (h : TwoK w0 w sb d top rb A c ls) : OwnK w0 w sb d top := by
  obtain ⟨F, h1, _, _, h4, h5, _⟩ := h
  exact ⟨F, h1, h4, h5⟩
theorem TwoK.room {w0 w : World} {sb rb c : Nat} {d ls : List (List Int)} {top : List Int} {A : Option Addr} (h : TwoK w0 w sb d top rb A c ls) : rb < w.heap.size ∧ w.cell? ⟨rb, 0, none⟩ = some (.slice A ls.length c) ∧ w.frozen? ⟨rb, 0, none⟩ = false := by
  obtain ⟨F, _, h2, _⟩ := h
  exact ⟨h2.lt, h2.cell 0, h2.free 0⟩
theorem Pend.room {w0 w : World} {sb rb c c' : Nat} {d ls ls' : List (List Int)} {top : List Int} {A A' : Option Addr} (h : Pend w0 w sb d top rb A c ls A' c' ls') : rb < w.heap.size ∧ w.cell? ⟨rb, 0, none⟩ = some (.slice A ls.length c) ∧ w.frozen? ⟨rb, 0, none⟩ = false := by
  obtain ⟨F, _, h2, _⟩ := h
  exact ⟨h2.lt, h2.cell 0, h2.free 0⟩
theorem Pend.below {w0 w : World} {sb rb c c' : Nat} {d ls ls' : List (List Int)} {top : List Int} {A A' : Option Addr} (h : Pend w0 w sb d top rb A c ls A' c' ls') : Below w0.heap.size w0 w := by
  obtain ⟨F, _, _, _, h, _⟩ := h
  exact h
theorem TwoK.step {w0 w w' : World} {sb rb c : Nat} {d ls : List (List Int)} {top : List Int} {A : Option Addr} (h : TwoK w0 w sb d top rb A c ls) (hb : Below w.heap.size w w') : TwoK w0 w' sb d top rb A c ls := by
  obtain ⟨F, h1, h2, h3, h4, h5, h6, h7⟩ := h
  exact ⟨F, h1.below hb, (Turn.of_below (F := fun _ => False) hb).lies h2 id, h3.turn (F := fun _ => False) (Turn.of_below hb) (fun _ _ _ e => e), h4.trans (hb.mono h4.size), h5, h6, h7⟩
theorem Pend.step {w0 w w' : World} {sb rb c c' : Nat} {d ls ls' : List (List Int)} {top : List Int} {A A' : Option Addr} (h : Pend w0 w sb d top rb A c ls A' c' ls') (hb : Below w.heap.size w w') : Pend w0 w' sb d top rb A c ls A' c' ls' := by
  obtain ⟨F, h1, h2, h3, h4, h5, h6, h7⟩ := h
  exact ⟨F, h1.below hb, (Turn.of_below (F := fun _ => False) hb).lies h2 id, h3.turn (F := fun _ => False) (Turn.of_below hb) (fun _ _ _ e => e), h4.trans (hb.mono h4.size), h5, h6, h7⟩
theorem Pend.put {w0 w : World} {sb rb c c' : Nat} {d ls ls' : List (List Int)} {top : List Int} {A A' : Option Addr} (h : Pend w0 w sb d top rb A c ls A' c' ls') : TwoK w0 (w.setCell ⟨rb, 0, none⟩ (.slice A' ls'.length c')) sb d top rb A' c' ls' := by
  obtain ⟨F, h1, h2, h3, h4, h5, h6, h7⟩ := h
  have t : Turn (fun i => i = rb) w (w.setCell ⟨rb, 0, none⟩ (.slice A' ls'.length c')) := (Turn.refl (fun i => i = rb) w).put (p := ⟨rb, 0, none⟩) (.inl rfl) _
  exact ⟨F, h1.turn t (fun i hi e => h7 (e ▸ hi)), h2.put 0 _, h3.turn t (fun _ _ q e => q.2 e), h4.trans (t.below h4.size (fun i e => e ▸ h6)), h5, h6, h7⟩
/-- a stack's call: the variable stays -/
theorem TwoK.left {w0 w w' : World} {F : Nat → Prop} {sb rb c : Nat} {d' ls : List (List Int)} {top' : List Int} {A : Option Addr} (q : LeftK w F sb d' top' w') (h2 : Lies w rb 49 #[.slice A ls.length c]) (h3 : RS w (fun b => ¬ F b ∧ b ≠ rb) (.agg #[.slice A ls.length c]) ls)
    (h4 : Below w0.heap.size w0 w) (h5 : ∀ i, F i → w0.heap.size ≤ i) (h6 : w0.heap.size ≤ rb) (h7 : ¬ F rb) : TwoK w0 w' sb d' top' rb A c ls := by
  obtain ⟨F', q1, q2, q3, q4⟩ := q
  have hlt := h2.lt
  refine ⟨F', q1, q2.lies h2 h7, ((h3.mono (G' := fun b => (¬ F b ∧ b ≠ rb) ∧ b < w.heap.size) (fun b hb q => ⟨q, hb⟩)).turn q2 (fun b _ q => q.1.1)).mono (fun b _ q => ⟨fun e => (q4 b e).elim q.1.1 (fun e => by omega), q.1.2⟩), h4.trans (q2.below h4.size h5), fun i hi => (q4 i hi).elim (h5 i) (fun e => Nat.le_trans h4.size e), h6, fun e => (q4 rb e).elim h7 (fun e => by omega)⟩
/-- a call of the reference's: what it answers waits to be stored -/
theorem TwoK.gives {w0 w w' : World} {F : Nat → Prop} {sb rb c : Nat} {d ls ls' : List (List Int)} {top : List Int} {A : Option Addr} {v : Value} (h1 : Stk w F sb d top) (h2 : Lies w rb 49 #[.slice A ls.length c])
    (h4 : Below w0.heap.size w0 w) (h5 : ∀ i, F i → w0.heap.size ≤ i) (h6 : w0.heap.size ≤ rb) (h7 : ¬ F rb) (q : SGives w (fun b => ¬ F b ∧ b ≠ rb) ls' v w') : ∃ A' c', v = .agg #[.slice A' ls'.length c'] ∧ Pend w0 w' sb d top rb A c ls A' c' ls' := by
  obtain ⟨⟨A', n', c', vs, e, r, he⟩, b⟩ := q
  obtain rfl : n' = ls'.length := by rw [← r.len, he.1]
  have hlt := h2.lt
  refine ⟨A', c', e, F, h1.below b, (Turn.of_below (F := fun _ => False) b).lies h2 id, ⟨A', _, c', vs, rfl, r.mono (fun x _ q => ?_), he.mono (fun x _ q => ?_)⟩, h4.trans (b.mono h4.size), h5, h6, h7⟩
  all_goals
    rcases q with q | q
    · exact q
    · exact ⟨fun e => by have := h1.lt x e; omega, by omega⟩

theorem TwoK.push {w0 w : World} {sb rb c : Nat} {d ls : List (List Int)} {top : List Int} {A : Option Addr} (x : Int) (hl : (d.flatten ++ top).length < 1000000) (h : TwoK w0 w sb d top rb A c ls) :
    Calls Try.prog 19 #[.pointer (some ⟨sb, 0, none⟩), .int .i64 x] w fun e w' => e = .returned (.tuple #[]) ∧ TwoK w0 w' sb d (top ++ [x]) rb A c ls := by
  obtain ⟨F, h1, h2, h3, h4, h5, h6, h7⟩ := h
  exact (push_any w F sb d top x hl h1).mono fun _ _ ⟨e, q⟩ => ⟨e, TwoK.left q h2 h3 h4 h5 h6 h7⟩
theorem TwoK.mark {w0 w : World} {sb rb c : Nat} {d ls : List (List Int)} {top : List Int} {A : Option Addr} (hl : d.length < 1000000) (h : TwoK w0 w sb d top rb A c ls) :
    Calls Try.prog 23 #[.pointer (some ⟨sb, 0, none⟩)] w fun e w' => e = .returned (.tuple #[]) ∧ TwoK w0 w' sb (d ++ [top]) [] rb A c ls := by
  obtain ⟨F, h1, h2, h3, h4, h5, h6, h7⟩ := h
  exact (mark_any w F sb d top hl h1).mono fun _ _ ⟨e, q⟩ => ⟨e, TwoK.left q h2 h3 h4 h5 h6 h7⟩
theorem TwoK.pop {w0 w : World} {sb rb c : Nat} {d ls : List (List Int)} {top : List Int} {A : Option Addr} {x : Int} (h : TwoK w0 w sb d (top ++ [x]) rb A c ls) :
    Calls Try.prog 21 #[.pointer (some ⟨sb, 0, none⟩)] w fun e w' => e = .returned (.tuple #[.int .i64 x, .bool true]) ∧ TwoK w0 w' sb d top rb A c ls := by
  obtain ⟨F, h1, h2, h3, h4, h5, h6, h7⟩ := h
  exact (pop_some w F sb d top x h1).mono fun _ _ ⟨e, q⟩ => ⟨e, TwoK.left q h2 h3 h4 h5 h6 h7⟩
theorem TwoK.pop0 {w0 w : World} {sb rb c : Nat} {d ls : List (List Int)} {A : Option Addr} (h : TwoK w0 w sb d [] rb A c ls) :
    Calls Try.prog 21 #[.pointer (some ⟨sb, 0, none⟩)] w fun e w' => e = .returned (.tuple #[.int .i64 0, .bool false]) ∧ TwoK w0 w' sb d [] rb A c ls := by
  have H := h
  obtain ⟨F, h1, h2, h3, h4, h5, h6, h7⟩ := h
  refine (pop_none w F sb d h1).mono fun _ _ ⟨e, q, hq⟩ => ⟨e, ?_⟩
  subst hq
  exact H.step (Turn.none_ ((Turn.refl (fun _ => False) w).drewN q) (fun _ => id))
theorem TwoK.back {w0 w : World} {sb rb c : Nat} {d ls : List (List Int)} {l top : List Int} {A : Option Addr} (h : TwoK w0 w sb (d ++ [l]) top rb A c ls) :
    Calls Try.prog 25 #[.pointer (some ⟨sb, 0, none⟩)] w fun e w' => e = .returned (.bool true) ∧ TwoK w0 w' sb d l rb A c ls := by
  obtain ⟨F, h1, h2, h3, h4, h5, h6, h7⟩ := h
  exact (back_some w F sb d l top h1).mono fun _ _ ⟨e, q⟩ => ⟨e, TwoK.left q h2 h3 h4 h5 h6 h7⟩

theorem TwoK.pushR {w0 w : World} {sb rb c : Nat} {d d' : List (List Int)} {top l : List Int} {A : Option Addr} (x : Int) (hd : d'.length ≤ 100000) (hl : l.length ≤ 100000) (h : TwoK w0 w sb d top rb A c (d' ++ [l])) :
    Calls Try.prog 20 #[.agg #[.slice A (d' ++ [l]).length c], .int .i64 x] w fun e w' => ∃ A' c', e = .returned (.agg #[.slice A' (d' ++ [l ++ [x]]).length c']) ∧ Pend w0 w' sb d top rb A c (d' ++ [l]) A' c' (d' ++ [l ++ [x]]) := by
  obtain ⟨F, h1, h2, h3, h4, h5, h6, h7⟩ := h
  refine (push_ref w _ _ d' l x hd hl h3).mono fun _ _ ⟨v, e, q⟩ => ?_
  obtain ⟨A', c', e2, q'⟩ := TwoK.gives h1 h2 h4 h5 h6 h7 q
  exact ⟨A', c', by rw [e, e2], q'⟩
theorem TwoK.markR {w0 w : World} {sb rb c : Nat} {d ls : List (List Int)} {top : List Int} {A : Option Addr} (hd : ls.length ≤ 100000) (h : TwoK w0 w sb d top rb A c ls) :
    Calls Try.prog 24 #[.agg #[.slice A ls.length c]] w fun e w' => ∃ A' c', e = .returned (.agg #[.slice A' (ls ++ [[]]).length c']) ∧ Pend w0 w' sb d top rb A c ls A' c' (ls ++ [[]]) := by
  obtain ⟨F, h1, h2, h3, h4, h5, h6, h7⟩ := h
  refine (mark_ref w _ _ ls hd h3).mono fun _ _ ⟨v, e, q⟩ => ?_
  obtain ⟨A', c', e2, q'⟩ := TwoK.gives h1 h2 h4 h5 h6 h7 q
  exact ⟨A', c', by rw [e, e2], q'⟩
theorem TwoK.popR {w0 w : World} {sb rb c : Nat} {d d' : List (List Int)} {top l : List Int} {A : Option Addr} {x : Int} (hd : d'.length ≤ 100000) (hl : l.length ≤ 100000) (h : TwoK w0 w sb d top rb A c (d' ++ [l ++ [x]])) :
    Calls Try.prog 22 #[.agg #[.slice A (d' ++ [l ++ [x]]).length c]] w fun e w' => ∃ A' c', e = .returned (.tuple #[.agg #[.slice A' (d' ++ [l]).length c'], .int .i64 x, .bool true]) ∧ Pend w0 w' sb d top rb A c (d' ++ [l ++ [x]]) A' c' (d' ++ [l]) := by
  obtain ⟨F, h1, h2, h3, h4, h5, h6, h7⟩ := h
  refine (pop_ref_some w _ _ d' l x hd hl h3).mono fun _ _ ⟨v, e, q⟩ => ?_
  obtain ⟨A', c', e2, q'⟩ := TwoK.gives h1 h2 h4 h5 h6 h7 q
  exact ⟨A', c', by rw [e, e2], q'⟩
theorem TwoK.popR0 {w0 w : World} {sb rb c : Nat} {d d' : List (List Int)} {top : List Int} {A : Option Addr} (hd : d'.length ≤ 100000) (h : TwoK w0 w sb d top rb A c (d' ++ [[]])) :
    Calls Try.prog 22 #[.agg #[.slice A (d' ++ [[]]).length c]] w fun e w' => ∃ A' c', e = .returned (.tuple #[.agg #[.slice A' (d' ++ [[]]).length c'], .int .i64 0, .bool false]) ∧ Pend w0 w' sb d top rb A c (d' ++ [[]]) A' c' (d' ++ [[]]) := by
  obtain ⟨F, h1, h2, h3, h4, h5, h6, h7⟩ := h
  refine (pop_ref_none w _ _ d' hd h3).mono fun _ _ ⟨v, e, q⟩ => ?_
  obtain ⟨A', c', e2, q'⟩ := TwoK.gives h1 h2 h4 h5 h6 h7 q
  exact ⟨A', c', by rw [e, e2], q'⟩
theorem TwoK.backR {w0 w : World} {sb rb c : Nat} {d d' : List (List Int)} {top l l' : List Int} {A : Option Addr} (hd : d'.length ≤ 100000) (h : TwoK w0 w sb d top rb A c (d' ++ [l] ++ [l'])) :
    Calls Try.prog 26 #[.agg #[.slice A (d' ++ [l] ++ [l']).length c]] w fun e w' => ∃ A' c', e = .returned (.tuple #[.agg #[.slice A' (d' ++ [l]).length c'], .bool true]) ∧ Pend w0 w' sb d top rb A c (d' ++ [l] ++ [l']) A' c' (d' ++ [l]) := by
  obtain ⟨F, h1, h2, h3, h4, h5, h6, h7⟩ := h
  refine (back_ref_some w _ _ d' l l' hd h3).mono fun _ _ ⟨v, e, q⟩ => ?_
  obtain ⟨A', c', e2, q'⟩ := TwoK.gives h1 h2 h4 h5 h6 h7 q
  exact ⟨A', c', by rw [e, e2], q'⟩
theorem TwoK.backR0 {w0 w : World} {sb rb c : Nat} {d : List (List Int)} {top l : List Int} {A : Option Addr} (h : TwoK w0 w sb d top rb A c [l]) :
    Calls Try.prog 26 #[.agg #[.slice A 1 c]] w fun e w' => ∃ A' c', e = .returned (.tuple #[.agg #[.slice A' 1 c'], .bool false]) ∧ Pend w0 w' sb d top rb A c [l] A' c' [l] := by
  obtain ⟨F, h1, h2, h3, h4, h5, h6, h7⟩ := h
  refine (back_ref_none w _ _ l h3).mono fun _ _ ⟨v, e, q⟩ => ?_
  obtain ⟨A', c', e2, q'⟩ := TwoK.gives h1 h2 h4 h5 h6 h7 q
  exact ⟨A', c', by rw [e, e2]; rfl, q'⟩
theorem TwoK.all {w0 w : World} {sb rb c : Nat} {d ls : List (List Int)} {top : List Int} {A : Option Addr} (h : TwoK w0 w sb d top rb A c ls) :
    Calls Try.prog 28 #[.pointer (some ⟨sb, 0, none⟩)] w fun e w' => ∃ B b, e = .returned (.slice B (d.flatten ++ top).length b) ∧ Rd w' (fun _ => True) B (d.flatten ++ top).length b (i64s (d.flatten ++ top)) ∧ Below w.heap.size w w' := by
  obtain ⟨F, h1, h2, h3, h4, h5, h6, h7⟩ := h
  refine (all_any w F sb d top h1).mono fun e w' ⟨v, e1, ⟨B, n, b, e2, q⟩, hb⟩ => ?_
  obtain rfl : n = (d.flatten ++ top).length := by have := q.len; rw [List.length_map] at this; exact this.symm
  exact ⟨B, b, by rw [e1, e2], q.mono (fun _ _ _ => trivial), hb⟩
theorem TwoK.allR {w0 w : World} {sb rb c : Nat} {d ls : List (List Int)} {top : List Int} {A : Option Addr} (hd : ls.length ≤ 100000) (hf : ls.flatten.length ≤ 1000000) (h : TwoK w0 w sb d top rb A c ls) :
    Calls Try.prog 29 #[.agg #[.slice A ls.length c]] w fun e w' => ∃ B b, e = .returned (.slice B ls.flatten.length b) ∧ Rd w' (fun _ => True) B ls.flatten.length b (i64s ls.flatten) ∧ Below w.heap.size w w' := by
  obtain ⟨F, h1, h2, h3, h4, h5, h6, h7⟩ := h
  refine (all_ref w _ _ ls hd hf h3).mono fun e w' ⟨v, e1, ⟨B, n, b, e2, q⟩, hb⟩ => ?_
  obtain rfl : n = ls.flatten.length := by have := q.len; rw [List.length_map] at this; exact this.symm
  exact ⟨B, b, by rw [e1, e2], q.mono (fun _ _ _ => trivial), hb⟩
/-- at the start: a new stack, and a variable that holds the reference's new stack -/
theorem TwoK.new {w0 w W : World} {v : Value} (h : Below w0.heap.size w0 w) (q : SGives (w.alloc (.cells #[.slice none 0 0, .slice none 0 0] 46)) (fun _ => False) [[]] v W) :
    ∃ A c, v = .agg #[.slice A 1 c] ∧ TwoK w0 (W.alloc (.cells #[.slice A 1 c] 49)) w.heap.size [] [] W.heap.size A c [[]] := by
  obtain ⟨⟨A, n, c, vs, e, r, he⟩, b⟩ := q
  obtain rfl : n = 1 := by rw [← r.len, he.1]; rfl
  have hb : Below W.heap.size W (W.alloc (.cells #[.slice A 1 c] 49)) := (Below.refl _ _).alloc (Nat.le_refl _) _
  have s1 : (w.alloc (.cells #[.slice none 0 0, .slice none 0 0] 46)).heap.size = w.heap.size + 1 := by simp
  have s2 := b.size
  have hs := h.size
  refine ⟨A, c, e, fun i => i = w.heap.size, ((Stk.new w).below b).below hb, Lies.new _ _ _, ⟨A, 1, c, vs, rfl, ?_, ?_⟩, ((h.alloc h.size _).trans (b.mono (by omega))).alloc (by omega) _, fun i e => by omega, by omega, by omega⟩
  · exact ((r.mono (G' := fun b => w.heap.size + 1 ≤ b ∧ b < W.heap.size) (fun b hb q => ⟨q.elim (fun e => e.elim) (fun e => Nat.le_trans (Nat.le_of_eq s1.symm) e), hb⟩)).below hb).mono (fun b _ q => ⟨by omega, by omega⟩)
  · exact ((he.mono (G' := fun b => w.heap.size + 1 ≤ b ∧ b < W.heap.size) (fun b hb q => ⟨q.elim (fun e => e.elim) (fun e => Nat.le_trans (Nat.le_of_eq s1.symm) e), hb⟩)).turn (F := fun _ => False) (Turn.of_below hb) (fun _ _ _ e => e)).mono (fun b _ q => ⟨by omega, by omega⟩)
end Go.Proofs.Ytgijagdnhajkhaa
