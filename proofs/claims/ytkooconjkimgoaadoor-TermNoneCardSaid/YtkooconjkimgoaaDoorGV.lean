/- several texts in one. -/
import Derived.Test.YtkooconjkimgoaaDoorGS
import Derived.Test.YtkooconjkimgoaaDoorGM
import Derived.Deep.RegionHeld3
import Derived.IntWalk
/- whole: signed, teller, the closure that it makes, Sign: what each answers. -/
namespace Go.Proofs.YtkooconjkimgoaaDoor
open Go.RowKit

/-- a struct of a sign and limbs lies in block b -/
structure Box (w : World) (b : Nat) (g : Bool) (A : Option Addr) (n c : Nat) : Prop where
  c0 : w.cell? ⟨b, 0, none⟩ = some (.bool g)
  c1 : w.cell? ⟨b, 1, none⟩ = some (.slice A n c)
  lt : b < w.heap.size
  fr : ∀ i, w.frozen? ⟨b, i, none⟩ = false

theorem Box.new (w : World) (g : Bool) (A : Option Addr) (n c : Nat) : Box (w.alloc (.cells #[.bool g, .slice A n c] 39)) w.heap.size g A n c := ⟨by simp, by simp, by simp, fun i => by simp⟩
theorem Box.below {w w' : World} {b B : Nat} {g : Bool} {A : Option Addr} {n c : Nat} (h : Box w b g A n c) (hb : Below B w w') (hB : b < B) : Box w' b g A n c :=
  ⟨(hb.cell (p := ⟨b, 0, none⟩) hB).trans h.c0, (hb.cell (p := ⟨b, 1, none⟩) hB).trans h.c1, Nat.lt_of_lt_of_le h.lt hb.size, fun i => (hb.frozen (p := ⟨b, i, none⟩) hB).trans (h.fr i)⟩

/-- one box lasts: what 'go_region_held3' keeps -/
theorem keep1 {w W w1 : World} {b : Nat} {g : Bool} {A : Option Addr} {n c : Nat} (hk : Below W.heap.size W w1)
    (h : W.cell? ⟨b, 0, none⟩ = some (.bool g) ∧ W.cell? ⟨b, 1, none⟩ = some (.slice A n c) ∧ b < W.heap.size ∧ Below w.heap.size w W) :
    w1.cell? ⟨b, 0, none⟩ = some (.bool g) ∧ w1.cell? ⟨b, 1, none⟩ = some (.slice A n c) ∧ b < w1.heap.size ∧ Below w.heap.size w w1 :=
  ⟨(hk.cell (p := ⟨b, 0, none⟩) h.2.2.1).trans h.1, (hk.cell (p := ⟨b, 1, none⟩) h.2.2.1).trans h.2.1, Nat.lt_of_lt_of_le h.2.2.1 hk.size, h.2.2.2.trans (hk.mono h.2.2.2.size)⟩

/-- v is the whole number z in memory, in its own form -/
def WNum (w : World) (v : Value) (z : Int) : Prop := ∃ u, v = .agg #[.bool (decide (z < 0)), u] ∧ Num w u z.natAbs
/-- a whole number, in any form -/
def WIn (w : World) (g : Bool) (A : Option Addr) (n c : Nat) (z : Int) : Prop := In w A n c z.natAbs ∧ Z.sg g z.natAbs = z
def WGives (W : World) (z : Int) (e : Ending) (w' : World) : Prop := ∃ v, e = .returned v ∧ WNum w' v z ∧ Below W.heap.size W w'

theorem WNum.below {w w' : World} {v : Value} {z : Int} (h : WNum w v z) (hb : Below w.heap.size w w') : WNum w' v z := by
  obtain ⟨u, e, h⟩ := h
  exact ⟨u, e, h.below hb⟩
theorem WIn.below {w w' : World} {g : Bool} {A : Option Addr} {n c : Nat} {z : Int} (h : WIn w g A n c z) (hb : Below w.heap.size w w') : WIn w' g A n c z := ⟨h.1.below hb, h.2⟩
theorem WNum.inn {w : World} {v : Value} {z : Int} {k : Nat} (h : WNum w v z) (hz : z.natAbs < M.BB ^ k) (hk : k ≤ 1000000) : ∃ A n c, v = .agg #[.bool (decide (z < 0)), .slice A n c] ∧ WIn w (decide (z < 0)) A n c z := by
  obtain ⟨u, rfl, h⟩ := h
  obtain ⟨A, n, c, rfl, h'⟩ := h.inn hz hk
  refine ⟨A, n, c, rfl, h', ?_⟩
  by_cases hn : z < 0
  · rw [decide_eq_true hn, Z.sg_true]; omega
  · rw [decide_eq_false hn, Z.sg_false]; omega

theorem signed_any (s : Int) (A : Option Addr) (n c N : Nat) (w : World) (h : Num w (.slice A n c) N) :
    Calls Tryd.prog 40 #[.int .i64 s, .slice A n c] w (WGives w (Z.sig s N)) := by
  obtain ⟨A', n', c', l, e, h1, h2, h3, h4, h5⟩ := id h
  obtain ⟨rfl, rfl, rfl⟩ : A = A' ∧ n = n' ∧ c = c' := by injection e with e1 e2 e3; exact ⟨e1, e2, e3⟩
  have h6 : n ≤ 9223372036854775807 := Nat.le_trans h4 h5
  have hN : 0 < n ↔ 0 < N := by
    rw [← h3]
    constructor
    · intro hp
      exact h2.pos (by intro e; rw [e] at h1; have := h1.1; simp at this; omega)
    · intro hp
      rcases Nat.eq_zero_or_pos n with e | e
      · have := M.Top.eq_nil h2
        have hl : l = [] := List.eq_nil_of_length_eq_zero (by rw [h1.1]; exact e)
        rw [hl, M.val_nil] at hp
        omega
      · exact e
  have hb : ∀ cs, Below w.heap.size w (w.alloc (Obj.cells cs 39)) := fun cs => (Below.refl _ _).alloc (Nat.le_refl _) _
  have H := Lib.hid h
  have HN := Lib.hid hN
  have hout : ∀ g : Bool, g = decide (Z.sig s N < 0) → WGives w (Z.sig s N) (.returned (.agg #[.bool g, .slice A n c])) (w.alloc (Obj.cells #[.bool g, .slice A n c] 39)) := fun g hg => by
    subst hg
    refine ⟨_, rfl, ⟨_, rfl, ?_⟩, hb _⟩
    rw [Z.sig_abs]
    exact H.out.below (hb _)
  have HO := Lib.hid hout
  clear hout hb h h1 h2 h3 hN
  by_cases hs0 : s < 0
  · by_cases hn0 : 0 < n
    · have hd := HO.out true (by unfold Z.sig; rw [if_pos hs0, decide_eq_true]; have := HN.out.1 hn0; omega)
      have hd := Lib.hid hd
      go_enter Tryd.func40, Tryd.ntmps40
      go_wp2
      exact bodyPost_ret (v := .agg #[.bool true, .slice A n c]) (by simp [results, Tryd.results40, go_sem]) rfl hd.out
    · have hd := HO.out false (by unfold Z.sig; rw [if_pos hs0, decide_eq_false]; have := mt HN.out.2 hn0; omega)
      have hd := Lib.hid hd
      go_enter Tryd.func40, Tryd.ntmps40
      go_wp2
      exact bodyPost_ret (v := .agg #[.bool false, .slice A n c]) (by simp [results, Tryd.results40, go_sem]) rfl hd.out
  · have hd := HO.out false (by unfold Z.sig; rw [if_neg hs0, decide_eq_false]; omega)
    have hd := Lib.hid hd
    go_enter Tryd.func40, Tryd.ntmps40
    go_wp2
    exact bodyPost_ret (v := .agg #[.bool false, .slice A n c]) (by simp [results, Tryd.results40, go_sem]) rfl hd.out

theorem teller_any (d : Bool) (w : World) :
    Calls Tryd.prog 55 #[.bool d] w fun e w' => ∃ b, e = .returned (.func (.func 65) #[] #[.pointer (some ⟨b, 0, none⟩)]) ∧ w'.cell? ⟨b, 0, none⟩ = some (.bool d) ∧ b < w'.heap.size ∧ w.heap.size ≤ b ∧ Below w.heap.size w w' := by
  go_enter Tryd.func55, Tryd.ntmps55
  go_wp2
  go_ret
  exact ⟨w.heap.size, rfl, by simp, by simp, Nat.le_refl _, (Below.refl _ _).alloc (Nat.le_refl _) _⟩

theorem tell_any (d g : Bool) (A : Option Addr) (n c b : Nat) (z : Int) (w : World) (h : WIn w g A n c z) (hb : b < w.heap.size) (hc : w.cell? ⟨b, 0, none⟩ = some (.bool d)) :
    Calls Tryd.prog 65 #[.agg #[.bool g, .slice A n c], .pointer (some ⟨b, 0, none⟩)] w fun e w' => e = .returned (.int .i64 (Z.sgn (if d then -z else z))) ∧ Below w.heap.size w w' := by
  have hC := Lib.hid fun (W : World) (q : In W A n c z.natAbs) => cmp_num q (show In W none 0 0 0 from ⟨[], Lims.nil_ _ _, rfl, Nat.le_refl _, by unfold maxLen; omega, by omega⟩)
  obtain ⟨hI, hs⟩ := h
  have hI := Lib.hid (hI.below ((Below.refl _ _).alloc (Nat.le_refl _) (Obj.cells #[.bool g, .slice A n c] 39)))
  have hB := Box.new w g A n c
  have hb0 : Below w.heap.size w (w.alloc (Obj.cells #[.bool g, .slice A n c] 39)) := (Below.refl _ _).alloc (Nat.le_refl _) _
  have hsz : (w.alloc (Obj.cells #[.bool g, .slice A n c] 39)).heap.size = w.heap.size + 1 := by simp
  obtain ⟨r, HR⟩ : ∃ r, Hid (r = Z.sgn (if d then -z else z)) := ⟨_, rfl⟩
  rw [← HR.out]
  obtain ⟨k, HK⟩ : ∃ k, Hid (M.cmpI z.natAbs 0 = k) := ⟨_, rfl⟩
  rw [HK.out] at hC
  have hcase : (k = 0 ∧ r = 0) ∨ (k ≠ 0 ∧ (g != d) = true ∧ r = -1) ∨ (k ≠ 0 ∧ (g != d) = false ∧ r = 1) := by
    rw [HR.out, ← HK.out]
    rcases Nat.eq_zero_or_pos z.natAbs with e | e
    · left
      rw [e]
      obtain rfl : z = 0 := by omega
      cases d <;> exact ⟨rfl, rfl⟩
    · rw [M.cmpI_gt e]
      right
      revert hs
      cases g <;> cases d <;> simp only [Z.sg_true, Z.sg_false, Bool.false_eq_true, if_true, if_false] <;> intro hs
      · exact .inr ⟨by omega, rfl, Z.sgn_pos (by omega)⟩
      · exact .inl ⟨by omega, rfl, Z.sgn_neg (by omega)⟩
      · exact .inl ⟨by omega, rfl, Z.sgn_neg (by omega)⟩
      · exact .inr ⟨by omega, rfl, Z.sgn_pos (by omega)⟩
  rcases hcase with ⟨rfl, rfl⟩ | ⟨hk, hg, rfl⟩ | ⟨hk, hg, rfl⟩
  · go_enter Tryd.func65, Tryd.ntmps65
    go_wp2_with fail
    refine (hC.out _ hI.out).mono ?_
    rintro e w1 ⟨rfl, b1⟩
    have b2 : Below w.heap.size w w1 := hb0.trans (b1.mono (by omega))
    clear hB hb0 hsz
    go_wp2_with fail
    go_ret
    exact ⟨rfl, b2⟩
  all_goals
    clear hs HR HK
    revert hg
    cases g <;> cases d <;> intro hg <;> first
    | exact absurd hg (by decide)
    | clear hg
      go_enter Tryd.func65, Tryd.ntmps65
      go_wp2_with fail
      refine (hC.out _ hI.out).mono ?_
      rintro e w1 ⟨rfl, b1⟩
      have b2 : Below w.heap.size w w1 := hb0.trans (b1.mono (by omega))
      obtain ⟨x0, x1, x2, x3⟩ := hB.below b1 (by omega)
      have y0 := b2.cell (p := ⟨b, 0, none⟩) hb
      rw [hc] at y0
      have y1 : b < w1.heap.size := Nat.lt_of_lt_of_le hb b2.size
      clear hB hb0 hsz
      go_wp2_with fail
      go_ret
      exact ⟨rfl, b2⟩

theorem sign_w (g : Bool) (A : Option Addr) (n c : Nat) (z : Int) (w : World) (h : WIn w g A n c z) :
    Calls Tryd.prog 38 #[.agg #[.bool g, .slice A n c]] w fun e w' => e = .returned (.int .i64 (Z.sgn z)) ∧ Below w.heap.size w w' := by
  have hT := Lib.hid fun (W : World) => teller_any false W
  have hU := Lib.hid fun (b : Nat) (W : World) (q1 : W.cell? ⟨w.heap.size, 0, none⟩ = some (.bool g) ∧ W.cell? ⟨w.heap.size, 1, none⟩ = some (.slice A n c) ∧ w.heap.size < W.heap.size ∧ Below w.heap.size w W) (q2 : b < W.heap.size) (q3 : W.cell? ⟨b, 0, none⟩ = some (.bool false)) => tell_any false g A n c b z W (h.below q1.2.2.2) q2 q3
  clear h
  have hb0 : Below w.heap.size w (w.alloc (Obj.cells #[.bool g, .slice A n c] 39)).drew := ((Below.refl _ _).alloc (Nat.le_refl _) _).drew
  go_enter Tryd.func38, Tryd.ntmps38
  go_wp2_with fail
  go_region_held3 (fun w' => w'.cell? ⟨w.heap.size, 0, none⟩ = some (.bool g) ∧ w'.cell? ⟨w.heap.size, 1, none⟩ = some (.slice A n c) ∧ w.heap.size < w'.heap.size ∧ Below w.heap.size w w')
    (first | exact keep1 (by assumption) (by assumption) | exact ⟨by simp, by simp, by simp, by assumption⟩)
    (first | (go_at_call 55; refine (hT.out _).mono ?_; rintro e w1 ⟨b, rfl, t1, t2, t3, b1⟩) | (go_at_call 65; refine (hU.out _ _ ?_ ?_ ?_).mono ?_; assumption; assumption; assumption; rintro e w2 ⟨rfl, b2⟩))
  rename_i hh
  go_wp2_with fail
  go_ret
  exact ⟨rfl, hh.2.2.2⟩

/-- signed, whatever its limbs' value is -/
theorem signed_num {s : Int} {v : Value} {N : Nat} {w : World} (h : Num w v N) : Calls Tryd.prog 40 #[.int .i64 s, v] w (WGives w (Z.sig s N)) := by
  obtain ⟨A, n, c, l, rfl, h1, h2, h3, h4, h5⟩ := h
  exact signed_any s A n c N w ⟨A, n, c, l, rfl, h1, h2, h3, h4, h5⟩

/-- some struct of a sign and limbs lies in block R: a result's room -/
def Room (w : World) (R : Nat) : Prop := ∃ g A n c, Box w R g A n c
theorem Room.new (w : World) (g : Bool) (A : Option Addr) (n c : Nat) : Room (w.alloc (.cells #[.bool g, .slice A n c] 39)) w.heap.size := ⟨_, _, _, _, Box.new w g A n c⟩
theorem Room.below {w w' : World} {R B : Nat} (h : Room w R) (hb : Below B w w') (hB : R < B) : Room w' R := by
  obtain ⟨g, A, n, c, h⟩ := h
  exact ⟨g, A, n, c, h.below hb hB⟩
/-- what is stored into a room -/
abbrev World.room (w : World) (R : Nat) (x u : Value) : World := (w.setCell ⟨R, 0, none⟩ x).setCell ⟨R, 1, none⟩ u
theorem far_room (w : World) (R : Nat) (x u : Value) {p : Addr} (h : p.block ≠ R) : (World.room w R x u).cell? p = w.cell? p := by
  have h0 : (w.setCell ⟨R, 0, none⟩ x).heap[p.block]? = w.heap[p.block]? := Below.heap_setCell w ⟨R, 0, none⟩ x p.block h
  have h1 : (World.room w R x u).heap[p.block]? = (w.setCell ⟨R, 0, none⟩ x).heap[p.block]? := Below.heap_setCell _ ⟨R, 1, none⟩ u p.block h
  exact World.cell?_of_block (h1.trans h0)
theorem room_size (w : World) (R : Nat) (x u : Value) : (World.room w R x u).heap.size = w.heap.size := by simp [World.room, World.setCell]
end Go.Proofs.YtkooconjkimgoaaDoor

/- whole: what is held through a region that draws: the boxes of parameters, the rooms of results. -/
namespace Go.Proofs.YtkooconjkimgoaaDoor
open Go.RowKit

theorem num_room {w : World} {R : Nat} {x u v : Value} {N : Nat} (h : Num w v N) (r : Room w R) : Num (World.room w R x u) v N := by
  obtain ⟨A, n, c, l, rfl, ⟨h1, h2, h3⟩, h4, h5, h6⟩ := h
  obtain ⟨g, A', n', c', r0, r1, r2, r3⟩ := r
  refine ⟨A, n, c, l, rfl, ⟨h1, h2, fun hn => ?_⟩, h4, h5, h6⟩
  obtain ⟨b, off, e, hb, hc⟩ := h3 hn
  refine ⟨b, off, e, by rw [room_size]; exact hb, fun j hj => ?_⟩
  have hj := hc j hj
  rw [World.cell?_setCell_other _ _ _ _ (fun e => by rw [e] at r1; rw [r1] at hj; cases hj), World.cell?_setCell_other _ _ _ _ (fun e => by rw [e] at r0; rw [r0] at hj; cases hj)]
  exact hj
theorem wnum_room {w : World} {R : Nat} {x u v : Value} {z : Int} (h : WNum w v z) (r : Room w R) : WNum (World.room w R x u) v z := by
  obtain ⟨t, e, h⟩ := h
  exact ⟨t, e, num_room h r⟩
theorem box_room {w : World} {R b : Nat} {x u : Value} {g : Bool} {A : Option Addr} {n c : Nat} (h : Box w b g A n c) (hne : b ≠ R) : Box (World.room w R x u) b g A n c :=
  ⟨(far_room w R x u (p := ⟨b, 0, none⟩) hne).trans h.c0, (far_room w R x u (p := ⟨b, 1, none⟩) hne).trans h.c1, by rw [room_size]; exact h.lt, fun i => by simp [World.room, h.fr i]⟩
theorem room_room {w : World} {R b : Nat} {x : Bool} {A : Option Addr} {n c : Nat} (h : Room w b) (r : Room w R) : Room (World.room w R (.bool x) (.slice A n c)) b := by
  by_cases e : b = R
  · subst e
    obtain ⟨g, A', n', c', r0, r1, r2, r3⟩ := r
    refine ⟨x, A, n, c, ?_, ?_, by rw [room_size]; exact r2, fun i => by simp [World.room, r3 i]⟩
    · rw [World.cell?_setCell_other _ _ _ _ (fun e => by injection e with _ e; omega)]
      exact World.cell?_setCell_same _ _ _ r0
    · exact World.cell?_setCell_same _ _ _ ((World.cell?_setCell_other _ _ _ _ (fun e => by injection e with _ e; omega)).trans r1)
  · obtain ⟨g, A', n', c', h⟩ := h
    exact ⟨g, A', n', c', box_room h e⟩
theorem below_room {B : Nat} {a w : World} (h : Below B a w) {R : Nat} (hR : B ≤ R) (x u : Value) : Below B a (World.room w R x u) := (h.setCell hR x).setCell hR u

/-- one parameter's box at the first new block, k results' rooms behind it -/
structure Held1 (w : World) (g : Bool) (A : Option Addr) (n c k : Nat) (W : World) : Prop where
  box : Box W w.heap.size g A n c
  room : ∀ i, i < k → Room W (w.heap.size + 1 + i)
  bel : Below w.heap.size w W
theorem Held1.below {w W w1 : World} {g : Bool} {A : Option Addr} {n c k : Nat} (h : Held1 w g A n c k W) (hk : Below W.heap.size W w1) : Held1 w g A n c k w1 :=
  ⟨h.box.below hk h.box.lt, fun i hi => by obtain ⟨g', A', n', c', r⟩ := h.room i hi; exact ⟨g', A', n', c', r.below hk r.lt⟩, h.bel.trans (hk.mono h.bel.size)⟩
theorem Held1.s {w W : World} {g : Bool} {A : Option Addr} {n c k : Nat} (h : Held1 w g A n c k W) : W.cell? ⟨w.heap.size, 0, none⟩ = some (.bool g) ∧ W.cell? ⟨w.heap.size, 1, none⟩ = some (.slice A n c) ∧ Held1 w g A n c k W := ⟨h.box.c0, h.box.c1, h⟩
theorem Held1.keep {w W w1 : World} {g : Bool} {A : Option Addr} {n c k : Nat} (hk : Below W.heap.size W w1) (h : W.cell? ⟨w.heap.size, 0, none⟩ = some (.bool g) ∧ W.cell? ⟨w.heap.size, 1, none⟩ = some (.slice A n c) ∧ Held1 w g A n c k W) : w1.cell? ⟨w.heap.size, 0, none⟩ = some (.bool g) ∧ w1.cell? ⟨w.heap.size, 1, none⟩ = some (.slice A n c) ∧ Held1 w g A n c k w1 := (h.2.2.below hk).s
theorem Held1.zero (w : World) (g : Bool) (A : Option Addr) (n c : Nat) : Held1 w g A n c 0 (w.alloc (.cells #[.bool g, .slice A n c] 39)) :=
  ⟨Box.new w g A n c, fun i hi => absurd hi (by omega), (Below.refl _ _).alloc (Nat.le_refl _) _⟩
theorem Held1.one (w : World) (g : Bool) (A : Option Addr) (n c : Nat) : Held1 w g A n c 1 ((w.alloc (.cells #[.bool g, .slice A n c] 39)).alloc (.cells #[.bool false, .slice none 0 0] 39)) := by
  have h := (Held1.zero w g A n c).below ((Below.refl _ _).alloc (Nat.le_refl _) (.cells #[.bool false, .slice none 0 0] 39))
  refine ⟨h.box, fun i hi => ?_, h.bel⟩
  obtain rfl : i = 0 := by omega
  have := Room.new (w.alloc (.cells #[.bool g, .slice A n c] 39)) false none 0 0
  simpa using this
theorem Held1.drew {w W : World} {g : Bool} {A : Option Addr} {n c k : Nat} (h : Held1 w g A n c k W) : Held1 w g A n c k W.drew := h.below (Below.refl _ _).drew
theorem Held1.set {w W : World} {g : Bool} {A : Option Addr} {n c k : Nat} (h : Held1 w g A n c k W) {i : Nat} (hi : i < k) {x : Bool} {A' : Option Addr} {n' c' : Nat} : Held1 w g A n c k (World.room W (w.heap.size + 1 + i) (.bool x) (.slice A' n' c')) :=
  ⟨box_room h.box (by omega), fun j hj => room_room (h.room j hj) (h.room i hi), below_room h.bel (by omega) _ _⟩
theorem Held1.set1 {w W : World} {g : Bool} {A : Option Addr} {n c : Nat} {x : Bool} {A' : Option Addr} {n' c' : Nat} (h : W.cell? ⟨w.heap.size, 0, none⟩ = some (.bool g) ∧ W.cell? ⟨w.heap.size, 1, none⟩ = some (.slice A n c) ∧ Held1 w g A n c 1 W) : (World.room W (w.heap.size + 1) (.bool x) (.slice A' n' c')).cell? ⟨w.heap.size, 0, none⟩ = some (.bool g) ∧ (World.room W (w.heap.size + 1) (.bool x) (.slice A' n' c')).cell? ⟨w.heap.size, 1, none⟩ = some (.slice A n c) ∧ Held1 w g A n c 1 (World.room W (w.heap.size + 1) (.bool x) (.slice A' n' c')) := (h.2.2.set (i := 0) (by omega)).s

/-- two parameters' boxes, k rooms behind them -/
structure Held2 (w : World) (g : Bool) (A : Option Addr) (n c : Nat) (h : Bool) (B : Option Addr) (m d k : Nat) (W : World) : Prop where
  box : Box W w.heap.size g A n c
  box2 : Box W (w.heap.size + 1) h B m d
  room : ∀ i, i < k → Room W (w.heap.size + 2 + i)
  bel : Below w.heap.size w W
theorem Held2.below {w W w1 : World} {g h : Bool} {A B : Option Addr} {n c m d k : Nat} (q : Held2 w g A n c h B m d k W) (hk : Below W.heap.size W w1) : Held2 w g A n c h B m d k w1 :=
  ⟨q.box.below hk q.box.lt, q.box2.below hk q.box2.lt, fun i hi => by obtain ⟨g', A', n', c', r⟩ := q.room i hi; exact ⟨g', A', n', c', r.below hk r.lt⟩, q.bel.trans (hk.mono q.bel.size)⟩
theorem Held2.s {w W : World} {g h : Bool} {A B : Option Addr} {n c m d k : Nat} (q : Held2 w g A n c h B m d k W) : W.cell? ⟨w.heap.size, 0, none⟩ = some (.bool g) ∧ W.cell? ⟨w.heap.size, 1, none⟩ = some (.slice A n c) ∧ W.cell? ⟨w.heap.size + 1, 0, none⟩ = some (.bool h) ∧ W.cell? ⟨w.heap.size + 1, 1, none⟩ = some (.slice B m d) ∧ Held2 w g A n c h B m d k W := ⟨q.box.c0, q.box.c1, q.box2.c0, q.box2.c1, q⟩
theorem Held2.keep {w W w1 : World} {g h : Bool} {A B : Option Addr} {n c m d k : Nat} (hk : Below W.heap.size W w1) (q : W.cell? ⟨w.heap.size, 0, none⟩ = some (.bool g) ∧ W.cell? ⟨w.heap.size, 1, none⟩ = some (.slice A n c) ∧ W.cell? ⟨w.heap.size + 1, 0, none⟩ = some (.bool h) ∧ W.cell? ⟨w.heap.size + 1, 1, none⟩ = some (.slice B m d) ∧ Held2 w g A n c h B m d k W) : w1.cell? ⟨w.heap.size, 0, none⟩ = some (.bool g) ∧ w1.cell? ⟨w.heap.size, 1, none⟩ = some (.slice A n c) ∧ w1.cell? ⟨w.heap.size + 1, 0, none⟩ = some (.bool h) ∧ w1.cell? ⟨w.heap.size + 1, 1, none⟩ = some (.slice B m d) ∧ Held2 w g A n c h B m d k w1 := (q.2.2.2.2.below hk).s
theorem Held2.zero (w : World) (g h : Bool) (A B : Option Addr) (n c m d : Nat) : Held2 w g A n c h B m d 0 ((w.alloc (.cells #[.bool g, .slice A n c] 39)).alloc (.cells #[.bool h, .slice B m d] 39)) := by
  have q := (Held1.zero w g A n c).below ((Below.refl _ _).alloc (Nat.le_refl _) (.cells #[.bool h, .slice B m d] 39))
  refine ⟨q.box, ?_, fun i hi => absurd hi (by omega), q.bel⟩
  have := Box.new (w.alloc (.cells #[.bool g, .slice A n c] 39)) h B m d
  simpa using this
theorem Held2.more {w W : World} {g h : Bool} {A B : Option Addr} {n c m d k : Nat} (q : Held2 w g A n c h B m d k W) (hs : W.heap.size = w.heap.size + 2 + k) : Held2 w g A n c h B m d (k + 1) (W.alloc (.cells #[.bool false, .slice none 0 0] 39)) := by
  have q' := q.below ((Below.refl _ _).alloc (Nat.le_refl _) (.cells #[.bool false, .slice none 0 0] 39))
  refine ⟨q'.box, q'.box2, fun i hi => ?_, q'.bel⟩
  by_cases e : i < k
  · exact q'.room i e
  · obtain rfl : i = k := by omega
    have := Room.new W false none 0 0
    rw [hs] at this
    exact this
theorem Held2.one (w : World) (g h : Bool) (A B : Option Addr) (n c m d : Nat) : Held2 w g A n c h B m d 1 (((w.alloc (.cells #[.bool g, .slice A n c] 39)).alloc (.cells #[.bool h, .slice B m d] 39)).alloc (.cells #[.bool false, .slice none 0 0] 39)) := (Held2.zero w g h A B n c m d).more (by simp)
theorem Held2.two (w : World) (g h : Bool) (A B : Option Addr) (n c m d : Nat) : Held2 w g A n c h B m d 2 ((((w.alloc (.cells #[.bool g, .slice A n c] 39)).alloc (.cells #[.bool h, .slice B m d] 39)).alloc (.cells #[.bool false, .slice none 0 0] 39)).alloc (.cells #[.bool false, .slice none 0 0] 39)) := (Held2.one w g h A B n c m d).more (by simp)
theorem Held2.drew {w W : World} {g h : Bool} {A B : Option Addr} {n c m d k : Nat} (q : Held2 w g A n c h B m d k W) : Held2 w g A n c h B m d k W.drew := q.below (Below.refl _ _).drew
theorem Held2.set {w W : World} {g h : Bool} {A B : Option Addr} {n c m d k : Nat} (q : Held2 w g A n c h B m d k W) {i : Nat} (hi : i < k) {x : Bool} {A' : Option Addr} {n' c' : Nat} : Held2 w g A n c h B m d k (World.room W (w.heap.size + 2 + i) (.bool x) (.slice A' n' c')) :=
  ⟨box_room q.box (by omega), box_room q.box2 (by omega), fun j hj => room_room (q.room j hj) (q.room i hi), below_room q.bel (by omega) _ _⟩
theorem Held2.set1 {w W : World} {g h : Bool} {A B : Option Addr} {n c m d k : Nat} {x : Bool} {A' : Option Addr} {n' c' : Nat} (hk : 0 < k) (q : W.cell? ⟨w.heap.size, 0, none⟩ = some (.bool g) ∧ W.cell? ⟨w.heap.size, 1, none⟩ = some (.slice A n c) ∧ W.cell? ⟨w.heap.size + 1, 0, none⟩ = some (.bool h) ∧ W.cell? ⟨w.heap.size + 1, 1, none⟩ = some (.slice B m d) ∧ Held2 w g A n c h B m d k W) : (World.room W (w.heap.size + 2) (.bool x) (.slice A' n' c')).cell? ⟨w.heap.size, 0, none⟩ = some (.bool g) ∧ (World.room W (w.heap.size + 2) (.bool x) (.slice A' n' c')).cell? ⟨w.heap.size, 1, none⟩ = some (.slice A n c) ∧ (World.room W (w.heap.size + 2) (.bool x) (.slice A' n' c')).cell? ⟨w.heap.size + 1, 0, none⟩ = some (.bool h) ∧ (World.room W (w.heap.size + 2) (.bool x) (.slice A' n' c')).cell? ⟨w.heap.size + 1, 1, none⟩ = some (.slice B m d) ∧ Held2 w g A n c h B m d k (World.room W (w.heap.size + 2) (.bool x) (.slice A' n' c')) := (q.2.2.2.2.set (i := 0) hk).s
theorem Held2.set2 {w W : World} {g h : Bool} {A B : Option Addr} {n c m d k : Nat} {x : Bool} {A' : Option Addr} {n' c' : Nat} (hk : 1 < k) (q : W.cell? ⟨w.heap.size, 0, none⟩ = some (.bool g) ∧ W.cell? ⟨w.heap.size, 1, none⟩ = some (.slice A n c) ∧ W.cell? ⟨w.heap.size + 1, 0, none⟩ = some (.bool h) ∧ W.cell? ⟨w.heap.size + 1, 1, none⟩ = some (.slice B m d) ∧ Held2 w g A n c h B m d k W) : (World.room W (w.heap.size + 3) (.bool x) (.slice A' n' c')).cell? ⟨w.heap.size, 0, none⟩ = some (.bool g) ∧ (World.room W (w.heap.size + 3) (.bool x) (.slice A' n' c')).cell? ⟨w.heap.size, 1, none⟩ = some (.slice A n c) ∧ (World.room W (w.heap.size + 3) (.bool x) (.slice A' n' c')).cell? ⟨w.heap.size + 1, 0, none⟩ = some (.bool h) ∧ (World.room W (w.heap.size + 3) (.bool x) (.slice A' n' c')).cell? ⟨w.heap.size + 1, 1, none⟩ = some (.slice B m d) ∧ Held2 w g A n c h B m d k (World.room W (w.heap.size + 3) (.bool x) (.slice A' n' c')) := (q.2.2.2.2.set (i := 1) hk).s
end Go.Proofs.YtkooconjkimgoaaDoor

/- whole: Norm, Neg, Mul: what each answers. -/
namespace Go.Proofs.YtkooconjkimgoaaDoor
open Go.RowKit

theorem room_cells {w : World} {R : Nat} {x u : Value} (r : Room w R) : (World.room w R x u).cell? ⟨R, 0, none⟩ = some x ∧ (World.room w R x u).cell? ⟨R, 1, none⟩ = some u ∧ R < (World.room w R x u).heap.size := by
  obtain ⟨g, A', n', c', r0, r1, r2, r3⟩ := r
  refine ⟨?_, ?_, by rw [room_size]; exact r2⟩
  · rw [World.cell?_setCell_other _ _ _ _ (fun e => by injection e with _ e; omega)]
    exact World.cell?_setCell_same _ _ _ r0
  · exact World.cell?_setCell_same _ _ _ ((World.cell?_setCell_other _ _ _ _ (fun e => by injection e with _ e; omega)).trans r1)
theorem gives_room {w W : World} {R : Nat} {z z' : Int} {A : Option Addr} {n c : Nat} (m : Num W (.slice A n c) z'.natAbs) (hz : z' = z) (r : Room W R) (hb : Below w.heap.size w W) (hR : w.heap.size ≤ R) :
    WGives w z (.returned (.agg #[.bool (decide (z' < 0)), .slice A n c])) (World.room W R (.bool (decide (z' < 0))) (.slice A n c)) := by
  subst hz
  exact ⟨_, rfl, ⟨_, rfl, num_room m r⟩, below_room hb hR _ _⟩
theorem Z.sig_sgn (z : Int) : Z.sig (Z.sgn z) z.natAbs = z := by
  unfold Z.sig
  rcases Z.sgn_cases z with ⟨h1, h2⟩ | ⟨h1, h2⟩ | ⟨h1, h2⟩ <;> rw [h2]
  · rw [if_pos (by omega)]; omega
  · rw [if_neg (by omega)]; omega
  · rw [if_neg (by omega)]; omega
theorem Z.sig_mul (z y : Int) : Z.sig (Z.sgn z * Z.sgn y) (z.natAbs * y.natAbs) = z * y := by
  unfold Z.sig
  rw [Int.natCast_mul]
  rcases Z.sgn_cases z with ⟨h1, h2⟩ | ⟨h1, h2⟩ | ⟨h1, h2⟩ <;> rcases Z.sgn_cases y with ⟨h3, h4⟩ | ⟨h3, h4⟩ | ⟨h3, h4⟩ <;> rw [h2, h4]
  · rw [if_neg (by omega), show (z.natAbs : Int) = -z by omega, show (y.natAbs : Int) = -y by omega, Int.neg_mul_neg]
  · subst h3; simp
  · rw [if_pos (by omega), show (z.natAbs : Int) = -z by omega, show (y.natAbs : Int) = y by omega, Int.neg_mul, Int.neg_neg]
  · subst h1; simp
  · subst h1; simp
  · subst h1; simp
  · rw [if_pos (by omega), show (z.natAbs : Int) = z by omega, show (y.natAbs : Int) = -y by omega, Int.mul_neg, Int.neg_neg]
  · subst h3; simp
  · rw [if_neg (by omega), show (z.natAbs : Int) = z by omega, show (y.natAbs : Int) = y by omega]
theorem Z.sig_neg (z : Int) : Z.sig (-Z.sgn z) z.natAbs = -z := by
  unfold Z.sig
  rcases Z.sgn_cases z with ⟨h1, h2⟩ | ⟨h1, h2⟩ | ⟨h1, h2⟩ <;> rw [h2]
  · rw [if_neg (by omega)]; omega
  · rw [if_neg (by omega)]; omega
  · rw [if_pos (by omega)]; omega

theorem norm_w (g : Bool) (A : Option Addr) (n c : Nat) (z : Int) (w : World) (h : WIn w g A n c z) :
    Calls Tryd.prog 39 #[.agg #[.bool g, .slice A n c]] w (WGives w z) := by
  have HG := Lib.hid fun (W : World) (q : W.cell? ⟨w.heap.size, 0, none⟩ = some (.bool g) ∧ W.cell? ⟨w.heap.size, 1, none⟩ = some (.slice A n c) ∧ Held1 w g A n c 1 W) => sign_w g A n c z W (h.below q.2.2.bel)
  have HN := Lib.hid fun (W : World) (q : W.cell? ⟨w.heap.size, 0, none⟩ = some (.bool g) ∧ W.cell? ⟨w.heap.size, 1, none⟩ = some (.slice A n c) ∧ Held1 w g A n c 1 W) => norm_num (h.below q.2.2.bel).1
  have HS := Lib.hid (Held1.one w g A n c).drew.s
  clear h
  go_enter Tryd.func39, Tryd.ntmps39
  go_wp2_with fail
  go_region_held3 (fun w' => w'.cell? ⟨w.heap.size, 0, none⟩ = some (.bool g) ∧ w'.cell? ⟨w.heap.size, 1, none⟩ = some (.slice A n c) ∧ Held1 w g A n c 1 w')
    (first | exact Held1.keep (by assumption) (by assumption) | exact HS.out | exact Held1.set1 (by assumption))
    (first | (go_at_call 38; refine (HG.out _ ?_).mono ?_; assumption; rintro e w1 ⟨rfl, b1⟩) | (go_at_call 56; refine (HN.out _ ?_).mono ?_; assumption; rintro e w2 ⟨v2, rfl, n2, b2⟩) | (go_at_call 40; refine (signed_num n2).mono ?_; rintro e w3 ⟨v3, rfl, n3, b3⟩; obtain ⟨u3, rfl, m3⟩ := n3; obtain ⟨A3, a3, c3, l3, rfl, p3⟩ := id m3; have s3 := Held1.keep b3 (by assumption); obtain ⟨x3, y3, z3, q3, ⟨f0, f1, f2, f3⟩⟩ := s3.2.2.room 0 (by omega); have f4 := f3 0; have f5 := f3 1))
  have r3 : Room w3 (w.heap.size + 1) := s3.2.2.room 0 (by omega)
  obtain ⟨k0, k1, _⟩ := room_cells (x := .bool (decide (Z.sig (Z.sgn z) z.natAbs < 0))) (u := .slice A3 a3 c3) r3
  unfold World.room at k0 k1
  go_wp2_with fail
  exact bodyPost_ret (v := .agg #[.bool (decide (Z.sig (Z.sgn z) z.natAbs < 0)), .slice A3 a3 c3]) (by simp [results, Tryd.results39, go_sem, k0, k1]) rfl (gives_room m3 (Z.sig_sgn z) r3 s3.2.2.bel (by omega))


end Go.Proofs.YtkooconjkimgoaaDoor

/- whole: sum, Add, Sub: what each answers. -/
namespace Go.Proofs.YtkooconjkimgoaaDoor
open Go.RowKit

theorem Z.add_same (z y s t : Int) (hs : Z.sgn z = s) (ht : Z.sgn y = t) (h : 0 ≤ s * t) : Z.sig (s + t) (z.natAbs + y.natAbs) = z + y := by
  subst hs ht
  revert h
  unfold Z.sig
  rw [Int.natCast_add]
  rcases Z.sgn_cases z with ⟨h1, h2⟩ | ⟨h1, h2⟩ | ⟨h1, h2⟩ <;> rcases Z.sgn_cases y with ⟨h3, h4⟩ | ⟨h3, h4⟩ | ⟨h3, h4⟩ <;> rw [h2, h4] <;> intro h
  · rw [if_pos (by omega)]; omega
  · rw [if_pos (by omega)]; omega
  · omega
  · rw [if_pos (by omega)]; omega
  · rw [if_neg (by omega)]; omega
  · rw [if_neg (by omega)]; omega
  · omega
  · rw [if_neg (by omega)]; omega
  · rw [if_neg (by omega)]; omega
theorem Z.add_left (z y s t : Int) (hs : Z.sgn z = s) (ht : Z.sgn y = t) (h : s * t < 0) (hlt : y.natAbs ≤ z.natAbs) : Z.sig s (z.natAbs - y.natAbs) = z + y := by
  subst hs ht
  revert h
  unfold Z.sig
  rcases Z.sgn_cases z with ⟨h1, h2⟩ | ⟨h1, h2⟩ | ⟨h1, h2⟩ <;> rcases Z.sgn_cases y with ⟨h3, h4⟩ | ⟨h3, h4⟩ | ⟨h3, h4⟩ <;> rw [h2, h4] <;> intro h
  · omega
  · omega
  · rw [if_pos (by omega)]; omega
  · omega
  · omega
  · omega
  · rw [if_neg (by omega)]; omega
  · omega
  · omega
theorem Z.add_right (z y s t : Int) (hs : Z.sgn z = s) (ht : Z.sgn y = t) (h : s * t < 0) (hlt : z.natAbs ≤ y.natAbs) : Z.sig t (y.natAbs - z.natAbs) = z + y := by
  rw [Int.add_comm]
  exact Z.add_left y z t s ht hs (by rw [Int.mul_comm]; exact h) hlt


end Go.Proofs.YtkooconjkimgoaaDoor
