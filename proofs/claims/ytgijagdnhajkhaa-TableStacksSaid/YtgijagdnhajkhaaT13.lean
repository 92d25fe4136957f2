/- A table, or a stack, of a call's own: each method by one contract. -/
import Derived.Test.YtgijagdnhajkhaaT12
import Derived.Test.YtgijagdnhajkhaaT6
namespace Go.Proofs.Ytgijagdnhajkhaa
open Go.RowKit

/-- a stack of the call's own, which began at w0 -/
def OwnK (w0 w : World) (sb : Nat) (d : List (List Int)) (top : List Int) : Prop := ∃ F : Nat → Prop, Stk w F sb d top ∧ Below w0.heap.size w0 w ∧ ∀ i, F i → w0.heap.size ≤ i
theorem OwnK.new {w0 w : World} (h : Below w0.heap.size w0 w) : OwnK w0 (w.alloc (.cells #[.slice none 0 0, .slice none 0 0] 46)) w.heap.size [] [] :=
  ⟨_, Stk.new w, h.alloc h.size _, fun i e => by rw [e]; exact h.size⟩
theorem OwnK.below {w0 w : World} {sb : Nat} {d : List (List Int)} {top : List Int} (h : OwnK w0 w sb d top) : Below w0.heap.size w0 w := by
  obtain ⟨F, _, h, _⟩ := h
  exact h
theorem OwnK.step {w0 w w' : World} {sb : Nat} {d : List (List Int)} {top : List Int} (h : OwnK w0 w sb d top) (hb : Below w.heap.size w w') : OwnK w0 w' sb d top := by
  obtain ⟨F, h1, h2, h3⟩ := h
  exact ⟨F, h1.below hb, h2.trans (hb.mono h2.size), h3⟩
theorem OwnK.left {w0 w w' : World} {F : Nat → Prop} {sb : Nat} {d : List (List Int)} {top : List Int} (h : LeftK w F sb d top w') (hb : Below w0.heap.size w0 w) (hF : ∀ i, F i → w0.heap.size ≤ i) : OwnK w0 w' sb d top := by
  obtain ⟨F', h1, h2, _, h4⟩ := h
  exact ⟨F', h1, hb.trans (h2.below hb.size hF), fun i hi => (h4 i hi).elim (hF i) (fun e => Nat.le_trans hb.size e)⟩
theorem OwnK.push {w0 w : World} {sb : Nat} {d : List (List Int)} {top : List Int} (x : Int) (h : OwnK w0 w sb d top) (hl : (d.flatten ++ top).length < 1000000) :
    Calls Try.prog 19 #[.pointer (some ⟨sb, 0, none⟩), .int .i64 x] w fun e w' => e = .returned (.tuple #[]) ∧ OwnK w0 w' sb d (top ++ [x]) := by
  obtain ⟨F, h1, h2, h3⟩ := h
  exact (push_any w F sb d top x hl h1).mono fun _ _ ⟨e, q⟩ => ⟨e, OwnK.left q h2 h3⟩
theorem OwnK.mark {w0 w : World} {sb : Nat} {d : List (List Int)} {top : List Int} (h : OwnK w0 w sb d top) (hl : d.length < 1000000) :
    Calls Try.prog 23 #[.pointer (some ⟨sb, 0, none⟩)] w fun e w' => e = .returned (.tuple #[]) ∧ OwnK w0 w' sb (d ++ [top]) [] := by
  obtain ⟨F, h1, h2, h3⟩ := h
  exact (mark_any w F sb d top hl h1).mono fun _ _ ⟨e, q⟩ => ⟨e, OwnK.left q h2 h3⟩
theorem OwnK.pop {w0 w : World} {sb : Nat} {d : List (List Int)} {top : List Int} {x : Int} (h : OwnK w0 w sb d (top ++ [x])) :
    Calls Try.prog 21 #[.pointer (some ⟨sb, 0, none⟩)] w fun e w' => e = .returned (.tuple #[.int .i64 x, .bool true]) ∧ OwnK w0 w' sb d top := by
  obtain ⟨F, h1, h2, h3⟩ := h
  exact (pop_some w F sb d top x h1).mono fun _ _ ⟨e, q⟩ => ⟨e, OwnK.left q h2 h3⟩
theorem OwnK.pop0 {w0 w : World} {sb : Nat} {d : List (List Int)} (h : OwnK w0 w sb d []) :
    Calls Try.prog 21 #[.pointer (some ⟨sb, 0, none⟩)] w fun e w' => e = .returned (.tuple #[.int .i64 0, .bool false]) ∧ OwnK w0 w' sb d [] := by
  obtain ⟨F, h1, h2, h3⟩ := h
  refine (pop_none w F sb d h1).mono fun _ _ ⟨e, q, hq⟩ => ⟨e, ?_⟩
  subst hq
  exact ⟨F, h1.drewN q, ⟨h2.os, h2.tape, h2.output, h2.size, h2.block⟩, h3⟩
theorem OwnK.back {w0 w : World} {sb : Nat} {d : List (List Int)} {l top : List Int} (h : OwnK w0 w sb (d ++ [l]) top) :
    Calls Try.prog 25 #[.pointer (some ⟨sb, 0, none⟩)] w fun e w' => e = .returned (.bool true) ∧ OwnK w0 w' sb d l := by
  obtain ⟨F, h1, h2, h3⟩ := h
  exact (back_some w F sb d l top h1).mono fun _ _ ⟨e, q⟩ => ⟨e, OwnK.left q h2 h3⟩
theorem OwnK.back0 {w0 w : World} {sb : Nat} {top : List Int} (h : OwnK w0 w sb [] top) :
    Calls Try.prog 25 #[.pointer (some ⟨sb, 0, none⟩)] w fun e w' => e = .returned (.bool false) ∧ w' = w := by
  obtain ⟨F, h1, h2, h3⟩ := h
  exact back_none w F sb top h1
theorem OwnK.marks {w0 w : World} {sb : Nat} {d : List (List Int)} {top : List Int} (h : OwnK w0 w sb d top) :
    Calls Try.prog 30 #[.pointer (some ⟨sb, 0, none⟩)] w fun e w' => e = .returned (.int .i64 (d.length : Nat)) ∧ w' = w := by
  obtain ⟨F, h1, h2, h3⟩ := h
  exact marks_any w F sb d top h1
theorem OwnK.all {w0 w : World} {sb : Nat} {d : List (List Int)} {top : List Int} (h : OwnK w0 w sb d top) :
    Calls Try.prog 28 #[.pointer (some ⟨sb, 0, none⟩)] w fun e w' => ∃ A c, e = .returned (.slice A (d.flatten ++ top).length c) ∧ Rd w' (fun _ => True) A (d.flatten ++ top).length c (i64s (d.flatten ++ top)) ∧ OwnK w0 w' sb d top := by
  have H := h
  obtain ⟨F, h1, h2, h3⟩ := h
  refine (all_any w F sb d top h1).mono fun e w' ⟨v, e1, ⟨A, n, c, e2, q⟩, b⟩ => ?_
  obtain rfl : n = (d.flatten ++ top).length := by have := q.len; rw [List.length_map] at this; exact this.symm
  exact ⟨A, c, by rw [e1, e2], q.mono (fun _ _ _ => trivial), H.step b⟩

/-- a table of the call's own, which began at w0 -/
def OwnTs (w0 w : World) (tb : Nat) (ks : List ByteArray) : Prop := ∃ F : Nat → Prop, Tabs w F tb ks ∧ Below w0.heap.size w0 w ∧ ∀ i, F i → w0.heap.size ≤ i
theorem OwnTs.new {w0 w : World} (h : Below w0.heap.size w0 w) : OwnTs w0 (w.alloc (.cells #[.map none, .slice none 0 0] 28)) w.heap.size [] :=
  ⟨_, Tabs.new w, h.alloc h.size _, fun i e => by rw [e]; exact h.size⟩
theorem OwnTs.below {w0 w : World} {tb : Nat} {ks : List ByteArray} (h : OwnTs w0 w tb ks) : Below w0.heap.size w0 w := by
  obtain ⟨F, _, h, _⟩ := h
  exact h
theorem OwnTs.nd {w0 w : World} {tb : Nat} {ks : List ByteArray} (h : OwnTs w0 w tb ks) : ks.Nodup := by
  obtain ⟨F, h, _, _⟩ := h
  exact h.nd
theorem OwnTs.step {w0 w w' : World} {tb : Nat} {ks : List ByteArray} (h : OwnTs w0 w tb ks) (hb : Below w.heap.size w w') : OwnTs w0 w' tb ks := by
  obtain ⟨F, h1, h2, h3⟩ := h
  exact ⟨F, h1.below hb, h2.trans (hb.mono h2.size), h3⟩
theorem OwnTs.left {w0 w w' : World} {F : Nat → Prop} {tb : Nat} {ks : List ByteArray} (h : Lefts w F tb ks w') (hb : Below w0.heap.size w0 w) (hF : ∀ i, F i → w0.heap.size ≤ i) : OwnTs w0 w' tb ks := by
  obtain ⟨F', h1, h2, _, h4⟩ := h
  exact ⟨F', h1, hb.trans (h2.below hb.size hF), fun i hi => (h4 i hi).elim (hF i) (fun e => Nat.le_trans hb.size e)⟩
theorem OwnTs.old {w0 w : World} {tb : Nat} {ks : List ByteArray} (x : ByteArray) (hx : x ∈ ks) (h : OwnTs w0 w tb ks) :
    Calls Try.prog 12 #[.pointer (some ⟨tb, 0, none⟩), (.string x)] w fun e w' => e = .returned (.tuple #[.int .i64 (ks.idxOf x : Nat), .bool false]) ∧ OwnTs w0 w' tb ks := by
  have H := h
  obtain ⟨F, h1, h2, h3⟩ := h
  exact (adds_old w F tb ks x hx h1).mono fun _ _ ⟨e, q⟩ => ⟨e, H.step q⟩
theorem OwnTs.add {w0 w : World} {tb : Nat} {ks : List ByteArray} (x : ByteArray) (hx : x ∉ ks) (hok : x.size ≤ maxLen) (hl : ks.length < 1000000) (h : OwnTs w0 w tb ks) :
    Calls Try.prog 12 #[.pointer (some ⟨tb, 0, none⟩), (.string x)] w fun e w' => e = .returned (.tuple #[.int .i64 (ks.length : Nat), .bool true]) ∧ OwnTs w0 w' tb (ks ++ [x]) := by
  obtain ⟨F, h1, h2, h3⟩ := h
  exact (adds_new w F tb ks x hx hok hl h1).mono fun _ _ ⟨e, q⟩ => ⟨e, OwnTs.left q h2 h3⟩
theorem OwnTs.cut {w0 w : World} {tb : Nat} {ks : List ByteArray} (i : Int) (n : Nat) (hi : i.toNat = n) (h : OwnTs w0 w tb ks) :
    Calls Try.prog 10 #[.pointer (some ⟨tb, 0, none⟩), .int .i64 i] w fun e w' => e = .returned (.tuple #[]) ∧ OwnTs w0 w' tb (ks.take n) := by
  obtain ⟨F, h1, h2, h3⟩ := h
  exact (cuts w F tb ks i n hi h1).mono fun _ _ ⟨e, q⟩ => ⟨e, OwnTs.left q h2 h3⟩
theorem OwnTs.find {w0 w : World} {tb : Nat} {ks : List ByteArray} (x : ByteArray) (i : Int) (b : Bool) (hb : Places ks x i b) (hx : x.size ≤ maxLen) (h : OwnTs w0 w tb ks) :
    Calls Try.prog 14 #[.pointer (some ⟨tb, 0, none⟩), (.string x)] w fun e w' => e = .returned (.tuple #[.int .i64 i, .bool b]) ∧ OwnTs w0 w' tb ks := by
  have H := h
  obtain ⟨F, h1, h2, h3⟩ := h
  exact (finds w F tb ks x i b hb hx h1).mono fun _ _ ⟨e, q⟩ => ⟨e, H.step q⟩
theorem OwnTs.len {w0 w : World} {tb : Nat} {ks : List ByteArray} (h : OwnTs w0 w tb ks) :
    Calls Try.prog 16 #[.pointer (some ⟨tb, 0, none⟩)] w fun e w' => e = .returned (.int .i64 (ks.length : Nat)) ∧ w' = w := by
  obtain ⟨F, h1, h2, h3⟩ := h
  exact lens w F tb ks h1
theorem OwnTs.hit {w0 w : World} {tb : Nat} {ks : List ByteArray} (j : Nat) (x : ByteArray) (hj : ks[j]? = some x) (h : OwnTs w0 w tb ks) :
    Calls Try.prog 17 #[.pointer (some ⟨tb, 0, none⟩), .int .i64 (j : Nat)] w fun e w' => e = .returned (.tuple #[(.string x), .bool true]) ∧ w' = w := by
  obtain ⟨F, h1, h2, h3⟩ := h
  exact ats_hit w F tb ks j x hj h1
theorem OwnTs.miss {w0 w : World} {tb : Nat} {ks : List ByteArray} (i : Int) (hi : i < 0 ∨ (ks.length : Int) ≤ i) (h : OwnTs w0 w tb ks) :
    Calls Try.prog 17 #[.pointer (some ⟨tb, 0, none⟩), .int .i64 i] w fun e w' => e = .returned (.tuple #[(.string ByteArray.empty), .bool false]) ∧ w' = w := by
  obtain ⟨F, h1, h2, h3⟩ := h
  exact ats_miss w F tb ks i hi h1

/-- a table of the call's own, which began at w0 -/
def OwnTi (w0 w : World) (tb : Nat) (ks : List Int) : Prop := ∃ F : Nat → Prop, Tabi w F tb ks ∧ Below w0.heap.size w0 w ∧ ∀ i, F i → w0.heap.size ≤ i
theorem OwnTi.new {w0 w : World} (h : Below w0.heap.size w0 w) : OwnTi w0 (w.alloc (.cells #[.map none, .slice none 0 0] 67)) w.heap.size [] :=
  ⟨_, Tabi.new w, h.alloc h.size _, fun i e => by rw [e]; exact h.size⟩
theorem OwnTi.below {w0 w : World} {tb : Nat} {ks : List Int} (h : OwnTi w0 w tb ks) : Below w0.heap.size w0 w := by
  obtain ⟨F, _, h, _⟩ := h
  exact h
theorem OwnTi.nd {w0 w : World} {tb : Nat} {ks : List Int} (h : OwnTi w0 w tb ks) : ks.Nodup := by
  obtain ⟨F, h, _, _⟩ := h
  exact h.nd
theorem OwnTi.step {w0 w w' : World} {tb : Nat} {ks : List Int} (h : OwnTi w0 w tb ks) (hb : Below w.heap.size w w') : OwnTi w0 w' tb ks := by
  obtain ⟨F, h1, h2, h3⟩ := h
  exact ⟨F, h1.below hb, h2.trans (hb.mono h2.size), h3⟩
theorem OwnTi.left {w0 w w' : World} {F : Nat → Prop} {tb : Nat} {ks : List Int} (h : Lefti w F tb ks w') (hb : Below w0.heap.size w0 w) (hF : ∀ i, F i → w0.heap.size ≤ i) : OwnTi w0 w' tb ks := by
  obtain ⟨F', h1, h2, _, h4⟩ := h
  exact ⟨F', h1, hb.trans (h2.below hb.size hF), fun i hi => (h4 i hi).elim (hF i) (fun e => Nat.le_trans hb.size e)⟩
theorem OwnTi.old {w0 w : World} {tb : Nat} {ks : List Int} (x : Int) (hx : x ∈ ks) (h : OwnTi w0 w tb ks) :
    Calls Try.prog 31 #[.pointer (some ⟨tb, 0, none⟩), (.int .i64 x)] w fun e w' => e = .returned (.tuple #[.int .i64 (ks.idxOf x : Nat), .bool false]) ∧ OwnTi w0 w' tb ks := by
  have H := h
  obtain ⟨F, h1, h2, h3⟩ := h
  exact (addi_old w F tb ks x hx h1).mono fun _ _ ⟨e, q⟩ => ⟨e, H.step q⟩
theorem OwnTi.add {w0 w : World} {tb : Nat} {ks : List Int} (x : Int) (hx : x ∉ ks) (hok : (Lit.int .i64 x).wf = true) (hl : ks.length < 1000000) (h : OwnTi w0 w tb ks) :
    Calls Try.prog 31 #[.pointer (some ⟨tb, 0, none⟩), (.int .i64 x)] w fun e w' => e = .returned (.tuple #[.int .i64 (ks.length : Nat), .bool true]) ∧ OwnTi w0 w' tb (ks ++ [x]) := by
  obtain ⟨F, h1, h2, h3⟩ := h
  exact (addi_new w F tb ks x hx hok hl h1).mono fun _ _ ⟨e, q⟩ => ⟨e, OwnTi.left q h2 h3⟩
theorem OwnTi.cut {w0 w : World} {tb : Nat} {ks : List Int} (i : Int) (n : Nat) (hi : i.toNat = n) (h : OwnTi w0 w tb ks) :
    Calls Try.prog 35 #[.pointer (some ⟨tb, 0, none⟩), .int .i64 i] w fun e w' => e = .returned (.tuple #[]) ∧ OwnTi w0 w' tb (ks.take n) := by
  obtain ⟨F, h1, h2, h3⟩ := h
  exact (cuti w F tb ks i n hi h1).mono fun _ _ ⟨e, q⟩ => ⟨e, OwnTi.left q h2 h3⟩
theorem OwnTi.find {w0 w : World} {tb : Nat} {ks : List Int} (x : Int) (i : Int) (b : Bool) (hb : Placei ks x i b) (hx : (Lit.int .i64 x).wf = true) (h : OwnTi w0 w tb ks) :
    Calls Try.prog 33 #[.pointer (some ⟨tb, 0, none⟩), (.int .i64 x)] w fun e w' => e = .returned (.tuple #[.int .i64 i, .bool b]) ∧ OwnTi w0 w' tb ks := by
  have H := h
  obtain ⟨F, h1, h2, h3⟩ := h
  exact (findi w F tb ks x i b hb hx h1).mono fun _ _ ⟨e, q⟩ => ⟨e, H.step q⟩
theorem OwnTi.len {w0 w : World} {tb : Nat} {ks : List Int} (h : OwnTi w0 w tb ks) :
    Calls Try.prog 34 #[.pointer (some ⟨tb, 0, none⟩)] w fun e w' => e = .returned (.int .i64 (ks.length : Nat)) ∧ w' = w := by
  obtain ⟨F, h1, h2, h3⟩ := h
  exact leni w F tb ks h1
theorem OwnTi.hit {w0 w : World} {tb : Nat} {ks : List Int} (j : Nat) (x : Int) (hj : ks[j]? = some x) (h : OwnTi w0 w tb ks) :
    Calls Try.prog 32 #[.pointer (some ⟨tb, 0, none⟩), .int .i64 (j : Nat)] w fun e w' => e = .returned (.tuple #[(.int .i64 x), .bool true]) ∧ w' = w := by
  obtain ⟨F, h1, h2, h3⟩ := h
  exact ati_hit w F tb ks j x hj h1
theorem OwnTi.miss {w0 w : World} {tb : Nat} {ks : List Int} (i : Int) (hi : i < 0 ∨ (ks.length : Int) ≤ i) (h : OwnTi w0 w tb ks) :
    Calls Try.prog 32 #[.pointer (some ⟨tb, 0, none⟩), .int .i64 i] w fun e w' => e = .returned (.tuple #[(.int .i64 0), .bool false]) ∧ w' = w := by
  obtain ⟨F, h1, h2, h3⟩ := h
  exact ati_miss w F tb ks i hi h1
end Go.Proofs.Ytgijagdnhajkhaa
