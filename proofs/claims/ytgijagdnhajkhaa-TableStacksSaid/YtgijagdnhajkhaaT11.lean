/- The reference's stacks: lists one above the other; New, Push, Mark. -/
import Derived.Test.YtgijagdnhajkhaaT10
namespace Go.Proofs.Ytgijagdnhajkhaa
open Go.RowKit

/-- a row's slices read as these lists, in blocks of G -/
def Els (w : World) (G : Nat → Prop) (vs : List Value) (ls : List (List Int)) : Prop := vs.length = ls.length ∧ ∀ (i : Nat) (l : List Int), ls[i]? = some l → ∃ u, vs[i]? = some u ∧ RI w G u l
theorem Els.turn {w w' : World} {F G : Nat → Prop} {vs : List Value} {ls : List (List Int)} (h : Els w G vs ls) (ht : Turn F w w') (hG : ∀ b, b < w.heap.size → G b → ¬ F b) : Els w' G vs ls :=
  ⟨h.1, fun i l hi => by
    obtain ⟨u, h1, h2⟩ := h.2 i l hi
    exact ⟨u, h1, h2.turn ht hG⟩⟩
theorem Els.mono {w : World} {G G' : Nat → Prop} {vs : List Value} {ls : List (List Int)} (h : Els w G vs ls) (hG : ∀ b, b < w.heap.size → G b → G' b) : Els w G' vs ls :=
  ⟨h.1, fun i l hi => by
    obtain ⟨u, h1, h2⟩ := h.2 i l hi
    exact ⟨u, h1, h2.mono hG⟩⟩
theorem Els.nil_ (w : World) (G : Nat → Prop) : Els w G [] [] := ⟨rfl, fun i l h => by simp at h⟩
theorem Els.snoc {w : World} {G : Nat → Prop} {vs : List Value} {ls : List (List Int)} {u : Value} {l : List Int} (h : Els w G vs ls) (hu : RI w G u l) : Els w G (vs ++ [u]) (ls ++ [l]) := by
  refine ⟨by simp [h.1], fun i l' hi => ?_⟩
  by_cases hlt : i < ls.length
  · rw [List.getElem?_append_left hlt] at hi
    obtain ⟨u', h1, h2⟩ := h.2 i l' hi
    exact ⟨u', by rw [List.getElem?_append_left (by rw [h.1]; exact hlt)]; exact h1, h2⟩
  · have hi0 := (List.getElem?_eq_some_iff.1 hi).1
    rw [List.length_append, List.length_singleton] at hi0
    obtain rfl : i = ls.length := by omega
    rw [List.getElem?_append_right (Nat.le_refl _), Nat.sub_self] at hi
    have : l = l' := by simpa using hi
    subst this
    exact ⟨u, by rw [← h.1, List.getElem?_append_right (Nat.le_refl _), Nat.sub_self]; rfl, hu⟩
theorem Els.split {w : World} {G : Nat → Prop} {vs : List Value} {ls : List (List Int)} {l : List Int} (h : Els w G vs (ls ++ [l])) : ∃ vs' u, vs = vs' ++ [u] ∧ Els w G vs' ls ∧ RI w G u l := by
  have hl := h.1
  rw [List.length_append, List.length_singleton] at hl
  obtain ⟨u, h1, h2⟩ := h.2 ls.length l (by simp)
  have hne : vs ≠ [] := by rintro rfl; simp at hl
  refine ⟨vs.dropLast, u, ?_, ⟨by rw [List.length_dropLast]; omega, fun i l' hi => ?_⟩, h2⟩
  · have e := List.dropLast_concat_getLast hne
    have hu : vs.getLast hne = u := by
      rw [List.getLast_eq_getElem]
      obtain ⟨hlt, e2⟩ := List.getElem?_eq_some_iff.1 h1
      rw [← e2]
      congr 1
      omega
    rw [← hu, e]
  · have hlt := (List.getElem?_eq_some_iff.1 hi).1
    obtain ⟨u', q1, q2⟩ := h.2 i l' (by rw [List.getElem?_append_left hlt]; exact hi)
    exact ⟨u', by rw [List.getElem?_dropLast, if_pos (by omega)]; exact q1, q2⟩
theorem Els.one {w : World} {G : Nat → Prop} {vs : List Value} {ls : List (List Int)} (h : Els w G vs ls) : ∀ u ∈ vs, u.oneCell' = true := by
  intro u hu
  obtain ⟨i, hi⟩ := List.mem_iff_getElem?.1 hu
  have hlt := (List.getElem?_eq_some_iff.1 hi).1
  rw [h.1] at hlt
  obtain ⟨u', h1, A, n, c, rfl, _⟩ := h.2 i _ (List.getElem?_eq_getElem hlt)
  rw [hi] at h1
  rw [Option.some.inj h1]
  rfl

/-- a stack of the reference's: a struct of a row of slices -/
def RS (w : World) (G : Nat → Prop) (v : Value) (ls : List (List Int)) : Prop := ∃ A n c vs, v = .agg #[.slice A n c] ∧ Rd w G A n c vs ∧ Els w G vs ls
theorem RS.turn {w w' : World} {F G : Nat → Prop} {v : Value} {ls : List (List Int)} (h : RS w G v ls) (ht : Turn F w w') (hG : ∀ b, b < w.heap.size → G b → ¬ F b) : RS w' G v ls := by
  obtain ⟨A, n, c, vs, e, h1, h2⟩ := h
  exact ⟨A, n, c, vs, e, h1.turn ht hG, h2.turn ht hG⟩
theorem RS.mono {w : World} {G G' : Nat → Prop} {v : Value} {ls : List (List Int)} (h : RS w G v ls) (hG : ∀ b, b < w.heap.size → G b → G' b) : RS w G' v ls := by
  obtain ⟨A, n, c, vs, e, h1, h2⟩ := h
  exact ⟨A, n, c, vs, e, h1.mono hG, h2.mono hG⟩
/-- a stack that a call answers: what it reaches lies where the old one's lay, or is new -/
def SGives (w : World) (G : Nat → Prop) (ls : List (List Int)) (v : Value) (w' : World) : Prop := RS w' (fun b => G b ∨ w.heap.size ≤ b) v ls ∧ Below w.heap.size w w'

theorem infoR : (Try.prog.info? 44).map (fun i => (i.zero, i.size, i.bytes)) = some (some (.slice none 0 0), 1, 24) := by kernel_rfl

theorem new_ref (w : World) (G : Nat → Prop) :
    Calls Try.prog 18 #[] w fun e w' => ∃ v, e = .returned v ∧ SGives w G [[]] v w' := by
  go_enter Try.func18, Try.ntmps18
  go_wp2
  refine bodyPost_ret (v := .agg #[.slice (some ⟨w.heap.size + 1, 0, none⟩) 1 1]) (by simp [results, Try.results18, go_sem]) rfl ?_
  refine ⟨_, rfl, ⟨_, 1, 1, [.slice none 0 0], rfl, ⟨rfl, fun e => (by cases e), Nat.le_refl _, by unfold maxLen; omega, fun _ => ⟨w.heap.size + 1, 0, rfl, .inr (by omega), by simp, fun j u hj => ?_⟩⟩, (Els.nil_ _ _).snoc (u := .slice none 0 0) (l := []) ⟨none, 0, 0, rfl, Rd.nil_ _ _⟩⟩, ((Below.refl _ _).alloc (Nat.le_refl _) _).alloc (by simp) _⟩
  match j, hj with
  | 0, hj =>
    simp at hj
    subst hj
    simp

/-- the blocks that a call of the reference's lays first: its parameter's, its result's -/
theorem boxes {w W : World} {T : TypeId} {p z : Value} (hb : Below (w.heap.size + 2) ((w.alloc (.cells #[p] T)).alloc (.cells #[z] T)) W) :
    w.heap.size + 2 ≤ W.heap.size ∧ W.cell? ⟨w.heap.size, 0, none⟩ = some p ∧ W.cell? ⟨w.heap.size + 1, 0, none⟩ = some z ∧ W.frozen? ⟨w.heap.size + 1, 0, none⟩ = false := by
  have h1 := (Lies.new (w.alloc (.cells #[p] T)) T #[z])
  have e1 : (w.alloc (.cells #[p] T)).heap.size = w.heap.size + 1 := by simp
  rw [e1] at h1
  have h0 : Lies ((w.alloc (.cells #[p] T)).alloc (.cells #[z] T)) w.heap.size T #[p] := ((Turn.refl (fun _ => False) (w.alloc (.cells #[p] T))).alloc _).lies (Lies.new w T #[p]) id
  have hs := hb.size
  have q0 := (hb.block _ (by omega)).trans h0
  have q1 := (hb.block _ (by omega)).trans h1
  exact ⟨by simp at hs; exact hs, (Lies.cell (cs := #[p]) q0 0).trans rfl, (Lies.cell (cs := #[z]) q1 0).trans rfl, Lies.free (cs := #[z]) q1 0⟩
theorem boxes_below {w W : World} {T : TypeId} {p z : Value} (hb : Below (w.heap.size + 2) ((w.alloc (.cells #[p] T)).alloc (.cells #[z] T)) W) : Below w.heap.size w W :=
  (((Below.refl _ _).alloc (Nat.le_refl _) _).alloc (by simp) _).trans (hb.mono (by omega))

/-- the end of a call that answers a new stack: its row reads as vs, and lies behind the boxes -/
theorem room_end {w W : World} {G : Nat → Prop} {T : TypeId} {p z : Value} {A : Option Addr} {n c : Nat} {vs : List Value} {ls : List (List Int)} (hb : Below (w.heap.size + 2) ((w.alloc (.cells #[p] T)).alloc (.cells #[z] T)) W)
    (hr : Rd W (fun b => w.heap.size + 2 ≤ b) A n c vs) (he : Els W (fun b => b < w.heap.size ∧ G b ∨ w.heap.size + 2 ≤ b) vs ls) :
    SGives w G ls (.agg #[.slice A n c]) (W.setCell ⟨w.heap.size + 1, 0, none⟩ (.slice A n c)) := by
  have tp : Turn (fun i => i = w.heap.size + 1) W (W.setCell ⟨w.heap.size + 1, 0, none⟩ (.slice A n c)) := (Turn.refl (fun i => i = w.heap.size + 1) W).put (p := ⟨w.heap.size + 1, 0, none⟩) (.inl rfl) _
  refine ⟨⟨A, n, c, vs, rfl, (hr.turn tp (fun b _ q e => by omega)).mono (fun b _ q => .inr (by omega)), (he.turn tp (fun b _ q e => ?_)).mono (fun b _ q => ?_)⟩, (boxes_below hb).trans (tp.below (by have := hb.size; simp at this; omega) (fun i e => by omega))⟩
  · rcases q with q | q <;> omega
  · rcases q with q | q
    · exact .inl q.2
    · exact .inr (by omega)

theorem push_ref (w : World) (G : Nat → Prop) (s : Value) (d : List (List Int)) (l : List Int) (x : Int) (hd : d.length ≤ 100000) (hl : l.length ≤ 100000) (h : RS w G s (d ++ [l])) :
    Calls Try.prog 20 #[s, .int .i64 x] w fun e w' => ∃ v, e = .returned v ∧ SGives w G (d ++ [l ++ [x]]) v w' := by
  obtain ⟨A, n, c, vs, rfl, hr, he⟩ := h
  obtain ⟨vs', u, rfl, he', hu⟩ := he.split
  obtain ⟨Al, nl, cl, rfl, hrl⟩ := hu
  have hk : vs'.length = d.length := he'.1
  obtain ⟨k, hk0⟩ : ∃ k, k = d.length := ⟨_, rfl⟩
  obtain rfl : n = k + 1 := by have := hr.len; simp at this; omega
  obtain ⟨b, off, rfl, hbG, hb, hc⟩ := hr.at_ (by omega)
  have hcl := hc k (.slice Al nl cl) (by rw [List.getElem?_append_right (by omega)]; simp [hk, hk0])
  have hrt : Rd w G (some ⟨b, off, none⟩) k c vs' := by have := hr.take (k := k) (by omega); rwa [List.take_left' (by omega)] at this
  have hnl : nl ≤ 100000 := by have := hrl.len; simp at this; omega
  have hcc := hr.le
  have hcm := hr.cm
  unfold maxLen at hcm
  have hkm : k ≤ 100000 := by omega
  obtain ⟨i1, hi, hz0, hz1, hz2⟩ := info_parts infoR
  obtain ⟨i0, ji, jz0, jz1, jz2⟩ := info_parts infoi
  have ha : Below w.heap.size w ((w.alloc (.cells #[.slice (some ⟨b, off, none⟩) (k + 1) c] 49)).alloc (.cells #[.slice none 0 0] 49)) := ((Below.refl _ _).alloc (Nat.le_refl _) _).alloc (by simp) _
  have HR1 := Lib.hid (hrt.below ha)
  have HRl := Lib.hid fun (W : World) (q : Below w.heap.size w W) => hrl.below q
  have HCl : Hid (∀ W, Below w.heap.size w W → b < W.heap.size ∧ W.cell? ⟨b, off + k, none⟩ = some (.slice Al nl cl)) := fun W q => ⟨Nat.lt_of_lt_of_le hb q.size, (q.cell (p := ⟨b, off + k, none⟩) hb).trans hcl⟩
  have HO1 := Lib.hid he'.one
  have HO2 := Lib.hid (@i64s_one l)
  have HEl := Lib.hid fun (W : World) (q : Below w.heap.size w W) => (he'.mono (G' := fun b => b < w.heap.size ∧ G b) (fun _ hb q => ⟨hb, q⟩)).turn (F := fun _ => False) (Turn.of_below q) (fun _ _ _ e => e)
  obtain ⟨L, HL⟩ : ∃ L : List Value, Hid (L = i64s l) := ⟨_, rfl⟩
  rw [← HL.out] at HRl HO2
  have m1 : 0 + k ≤ maxLen := by unfold maxLen; omega
  have m2 : (0 + k) * 24 ≤ 140737488355328 := by omega
  have m3 : 0 + nl ≤ maxLen := by unfold maxLen; omega
  have m4 : (0 + nl) * 8 ≤ 140737488355328 := by omega
  have m5 : nl + 1 ≤ maxLen := by unfold maxLen; omega
  have m6 : (nl + 1) * 8 ≤ 140737488355328 := by omega
  have m7 : k + 1 ≤ maxLen := by unfold maxLen; omega
  have m8 : (k + 1) * 24 ≤ 140737488355328 := by omega
  have hkc : k ≤ c := by omega
  have HF : Hid (∀ w4 A3 c3 A4 c4, Below (w.heap.size + 2) ((w.alloc (.cells #[.slice (some ⟨b, off, none⟩) (k + 1) c] 49)).alloc (.cells #[.slice none 0 0] 49)) w4 →
      w4.ownsRow (w.heap.size + 2) 3 1 (.slice A3 (nl + 1) c3) (nl + 1) (L ++ [.int .i64 x]) → w4.ownsRow (w.heap.size + 2) 44 1 (.slice A4 (k + 1) c4) (k + 1) (vs' ++ [.slice A3 (nl + 1) c3]) → SGives w G (d ++ [l ++ [x]]) (.agg #[.slice A4 (k + 1) c4]) (w4.setCell ⟨w.heap.size + 1, 0, none⟩ (.slice A4 (k + 1) c4))) := fun w4 A3 c3 A4 c4 b4 o3 o4 =>
    room_end b4 (Rd.of_own o4) (((HEl.out w4 (boxes_below b4)).mono (fun _ _ q => .inl q)).snoc ((RI.of_own (zs := l ++ [x]) (by rw [i64s, List.map_append, ← i64s, ← HL.out]; exact o3)).mono (fun b _ q => .inr q)))
  have HB0 := Lib.hid fun (W : World) (q : Below (w.heap.size + 2) ((w.alloc (.cells #[.slice (some ⟨b, off, none⟩) (k + 1) c] 49)).alloc (.cells #[.slice none 0 0] 49)) W) => boxes q
  have HBB := Lib.hid fun (W : World) (q : Below (w.heap.size + 2) ((w.alloc (.cells #[.slice (some ⟨b, off, none⟩) (k + 1) c] 49)).alloc (.cells #[.slice none 0 0] 49)) W) => boxes_below q
  have hs0 : ((w.alloc (.cells #[.slice (some ⟨b, off, none⟩) (k + 1) c] 49)).alloc (.cells #[.slice none 0 0] 49)).heap.size = w.heap.size + 2 := by simp
  have hle0 : w.heap.size + 2 ≤ ((w.alloc (.cells #[.slice (some ⟨b, off, none⟩) (k + 1) c] 49)).alloc (.cells #[.slice none 0 0] 49)).heap.size := Nat.le_of_eq hs0.symm
  have B0 : Below (w.heap.size + 2) ((w.alloc (.cells #[.slice (some ⟨b, off, none⟩) (k + 1) c] 49)).alloc (.cells #[.slice none 0 0] 49)) ((w.alloc (.cells #[.slice (some ⟨b, off, none⟩) (k + 1) c] 49)).alloc (.cells #[.slice none 0 0] 49)) := Below.refl _ _
  have HS0 := Lib.hid hs0
  obtain ⟨x0, x1⟩ := HCl.out ((w.alloc (.cells #[.slice (some ⟨b, off, none⟩) (k + 1) c] 49)).alloc (.cells #[.slice none 0 0] 49)) ha
  clear hr he he' hrl hrt hcl hc hb ha hk0 hk hbG hd hl hcc hs0
  go_enter Try.func20, Try.ntmps20
  go_wp2_with (first
    | (at_builtin; refine append_any _ rfl (.const (.slice none 0 0)) (.tmp 15) 47 rfl (w.heap.size + 2) 44 i1 (.slice none 0 0) 24 Try.underlying47 hi hz0 hz1 hz2 rfl (.slice none 0 0) 0 [] rfl (World.ownsRow_nil _ _ _ _) G _ k c vs' rfl HR1.out HO1.out m1 m2 hle0 ?_; intro A1 c1 w1 o1 g1 _; simp only [Nat.zero_add, List.nil_append] at o1 ⊢; have O1 := Lib.hid o1; have b1 : Below (w.heap.size + 2) ((w.alloc (.cells #[.slice (some ⟨b, off, none⟩) (k + 1) c] 49)).alloc (.cells #[.slice none 0 0] 49)) w1 := B0.grown g1 hle0 (fun k hk => by cases hk); obtain ⟨s1, y1, r1, f1⟩ := HB0.out w1 b1; obtain ⟨t1, u1⟩ := HCl.out w1 (HBB.out w1 b1); clear o1)
    | (at_builtin; refine append_any _ rfl (.const (.slice none 0 0)) (.tmp 21) 44 rfl (w.heap.size + 2) 3 i0 (.int .i64 0) 8 Try.underlying44 ji jz0 jz1 jz2 rfl (.slice none 0 0) 0 [] rfl (World.ownsRow_nil _ _ _ _) G _ nl cl L rfl (HRl.out w1 (HBB.out w1 b1)) HO2.out m3 m4 s1 ?_; intro A2 c2 w2 o2 g2 _; simp only [Nat.zero_add, List.nil_append] at o2 ⊢; have O2 := Lib.hid o2; have O12 := Lib.hid ((Turn.of_grown (F := fun _ => False) g2 (fun g e _ => by cases e)).own O1.out (fun _ _ => id)); have b2 : Below (w.heap.size + 2) ((w.alloc (.cells #[.slice (some ⟨b, off, none⟩) (k + 1) c] 49)).alloc (.cells #[.slice none 0 0] 49)) w2 := b1.grown g2 s1 (fun k hk => by cases hk); obtain ⟨s2, y2, r2, f2⟩ := HB0.out w2 b2; clear o2)
    | (at_builtin; refine append_row _ rfl (.tmp 24) (.tmp 26) 44 rfl (w.heap.size + 2) 3 i0 (.int .i64 0) 8 Try.underlying44 ji jz0 jz1 jz2 rfl _ nl L rfl (O2.out.alloc _) ⟨w2.heap.size, 0, none⟩ 1 1 [.int .i64 x] rfl rfl (cell_one_new _ _ _) (fun u hu => by simp at hu; subst hu; rfl) m5 m6 (by simp; omega) ?_; intro A3 c3 w3 o3 g3 _; have O3 := Lib.hid o3; have O13 := Lib.hid ((Turn.of_grown (F := fun i => (Value.slice A2 nl c2).ownBlock = some i) g3 (fun g e _ => e)).own (O12.out.alloc _) (fun g hg e => own_apart O12.out O2.out (by decide) g hg e)); have b3 : Below (w.heap.size + 2) ((w.alloc (.cells #[.slice (some ⟨b, off, none⟩) (k + 1) c] 49)).alloc (.cells #[.slice none 0 0] 49)) w3 := (b2.alloc s2 _).grown g3 (by simp; omega) (fun k hk => (O2.out.lt k hk).1); obtain ⟨s3, y3, r3, f3⟩ := HB0.out w3 b3; clear o3)
    | (at_builtin; refine append_row _ rfl (.tmp 23) (.tmp 28) 47 rfl (w.heap.size + 2) 44 i1 (.slice none 0 0) 24 Try.underlying47 hi hz0 hz1 hz2 rfl _ k vs' rfl (O13.out.alloc _) ⟨w3.heap.size, 0, none⟩ 1 1 [.slice A3 (nl + 1) c3] rfl rfl (cell_one_new _ _ _) (fun u hu => by simp at hu; subst hu; rfl) m7 m8 (by simp; omega) ?_; intro A4 c4 w4 o4 g4 _; have O4 := Lib.hid o4; have O34 := Lib.hid ((Turn.of_grown (F := fun i => (Value.slice A1 k c1).ownBlock = some i) g4 (fun g e _ => e)).own (O3.out.alloc _) (fun g hg e => own_apart O3.out O13.out (by decide) g hg e)); have b4 : Below (w.heap.size + 2) ((w.alloc (.cells #[.slice (some ⟨b, off, none⟩) (k + 1) c] 49)).alloc (.cells #[.slice none 0 0] 49)) w4 := (b3.alloc s3 _).grown g4 (by simp; omega) (fun k hk => (O13.out.lt k hk).1); obtain ⟨s4, y4, r4, f4⟩ := HB0.out w4 b4; clear o4))
  refine bodyPost_ret (v := .agg #[.slice A4 (k + 1) c4]) (by simp [results, Try.results20, go_sem, r4]) rfl ⟨_, rfl, HF.out w4 A3 c3 A4 c4 b4 O34.out O4.out⟩

theorem mark_ref (w : World) (G : Nat → Prop) (s : Value) (ls : List (List Int)) (hd : ls.length ≤ 100000) (h : RS w G s ls) :
    Calls Try.prog 24 #[s] w fun e w' => ∃ v, e = .returned v ∧ SGives w G (ls ++ [[]]) v w' := by
  obtain ⟨A, n, c, vs, rfl, hr, he⟩ := h
  have hnm : n ≤ 100000 := by have := hr.len; have := he.1; omega
  obtain ⟨i1, hi, hz0, hz1, hz2⟩ := info_parts infoR
  have ha : Below w.heap.size w ((w.alloc (.cells #[.slice A n c] 49)).alloc (.cells #[.slice none 0 0] 49)) := ((Below.refl _ _).alloc (Nat.le_refl _) _).alloc (by simp) _
  have HR1 := Lib.hid (hr.below ha)
  have HO1 := Lib.hid he.one
  have HEl := Lib.hid fun (W : World) (q : Below w.heap.size w W) => (he.mono (G' := fun b => b < w.heap.size ∧ G b) (fun _ hb q => ⟨hb, q⟩)).turn (F := fun _ => False) (Turn.of_below q) (fun _ _ _ e => e)
  have m1 : 0 + n ≤ maxLen := by unfold maxLen; omega
  have m2 : (0 + n) * 24 ≤ 140737488355328 := by omega
  have m7 : n + 1 ≤ maxLen := by unfold maxLen; omega
  have m8 : (n + 1) * 24 ≤ 140737488355328 := by omega
  have HF : Hid (∀ w4 A4 c4, Below (w.heap.size + 2) ((w.alloc (.cells #[.slice A n c] 49)).alloc (.cells #[.slice none 0 0] 49)) w4 → w4.ownsRow (w.heap.size + 2) 44 1 (.slice A4 (n + 1) c4) (n + 1) (vs ++ [.slice none 0 0]) → SGives w G (ls ++ [[]]) (.agg #[.slice A4 (n + 1) c4]) (w4.setCell ⟨w.heap.size + 1, 0, none⟩ (.slice A4 (n + 1) c4))) := fun w4 A4 c4 b4 o4 =>
    room_end b4 (Rd.of_own o4) (((HEl.out w4 (boxes_below b4)).mono (fun _ _ q => .inl q)).snoc (u := .slice none 0 0) (l := []) ⟨none, 0, 0, rfl, Rd.nil_ _ _⟩)
  have HB0 := Lib.hid fun (W : World) (q : Below (w.heap.size + 2) ((w.alloc (.cells #[.slice A n c] 49)).alloc (.cells #[.slice none 0 0] 49)) W) => boxes q
  have hs0 : ((w.alloc (.cells #[.slice A n c] 49)).alloc (.cells #[.slice none 0 0] 49)).heap.size = w.heap.size + 2 := by simp
  have hle0 : w.heap.size + 2 ≤ ((w.alloc (.cells #[.slice A n c] 49)).alloc (.cells #[.slice none 0 0] 49)).heap.size := Nat.le_of_eq hs0.symm
  have B0 : Below (w.heap.size + 2) ((w.alloc (.cells #[.slice A n c] 49)).alloc (.cells #[.slice none 0 0] 49)) ((w.alloc (.cells #[.slice A n c] 49)).alloc (.cells #[.slice none 0 0] 49)) := Below.refl _ _
  clear hr he ha hd hs0
  go_enter Try.func24, Try.ntmps24
  go_wp2_with (first
    | (at_builtin; refine append_any _ rfl (.const (.slice none 0 0)) (.tmp 5) 47 rfl (w.heap.size + 2) 44 i1 (.slice none 0 0) 24 Try.underlying47 hi hz0 hz1 hz2 rfl (.slice none 0 0) 0 [] rfl (World.ownsRow_nil _ _ _ _) G _ n c vs rfl HR1.out HO1.out m1 m2 hle0 ?_; intro A1 c1 w1 o1 g1 _; simp only [Nat.zero_add, List.nil_append] at o1 ⊢; have O1 := Lib.hid o1; have b1 : Below (w.heap.size + 2) ((w.alloc (.cells #[.slice A n c] 49)).alloc (.cells #[.slice none 0 0] 49)) w1 := B0.grown g1 hle0 (fun k hk => by cases hk); obtain ⟨s1, y1, r1, f1⟩ := HB0.out w1 b1; clear o1)
    | (at_builtin; refine append_row _ rfl (.tmp 7) (.tmp 8) 47 rfl (w.heap.size + 2) 44 i1 (.slice none 0 0) 24 Try.underlying47 hi hz0 hz1 hz2 rfl _ n vs rfl (O1.out.alloc _) ⟨w1.heap.size, 0, none⟩ 1 1 [.slice none 0 0] rfl rfl (cell_one_new _ _ _) (fun u hu => by simp at hu; subst hu; rfl) m7 m8 (by simp; omega) ?_; intro A4 c4 w4 o4 g4 _; have O4 := Lib.hid o4; have b4 : Below (w.heap.size + 2) ((w.alloc (.cells #[.slice A n c] 49)).alloc (.cells #[.slice none 0 0] 49)) w4 := (b1.alloc s1 _).grown g4 (by simp; omega) (fun k hk => (O1.out.lt k hk).1); obtain ⟨s4, y4, r4, f4⟩ := HB0.out w4 b4; clear o4))
  refine bodyPost_ret (v := .agg #[.slice A4 (n + 1) c4]) (by simp [results, Try.results24, go_sem, r4]) rfl ⟨_, rfl, HF.out w4 A4 c4 b4 O4.out⟩

/-- what a struct of one slice is in memory, behind its parameter's box and its result's room -/
theorem back_ref_none (w : World) (G : Nat → Prop) (s : Value) (l : List Int) (h : RS w G s [l]) :
    Calls Try.prog 26 #[s] w fun e w' => ∃ v, e = .returned (.tuple #[v, .bool false]) ∧ SGives w G [l] v w' := by
  obtain ⟨A, n, c, vs, rfl, hr, he⟩ := h
  obtain rfl : n = 1 := by have := hr.len; have := he.1; simp at this; omega
  have HF : Hid (SGives w G [l] (.agg #[.slice A 1 c]) ((w.alloc (.cells #[.slice A 1 c] 49)).alloc (.cells #[.slice A 1 c] 49))) := by
    have ha : Below w.heap.size w ((w.alloc (.cells #[.slice A 1 c] 49)).alloc (.cells #[.slice A 1 c] 49)) := ((Below.refl _ _).alloc (Nat.le_refl _) _).alloc (by simp) _
    exact ⟨⟨A, 1, c, vs, rfl, (hr.below ha).mono (fun _ _ q => .inl q), (he.turn (F := fun _ => False) (Turn.of_below ha) (fun _ _ _ e => e)).mono (fun _ _ q => .inl q)⟩, ha⟩
  clear hr he
  go_enter Try.func26, Try.ntmps26
  go_wp2
  refine bodyPost_ret (v := .tuple #[.agg #[.slice A 1 c], .bool false]) (by simp [results, Try.results26, go_sem]) rfl ⟨_, rfl, HF.out⟩

theorem back_ref_some (w : World) (G : Nat → Prop) (s : Value) (d : List (List Int)) (l l' : List Int) (hd : d.length ≤ 100000) (h : RS w G s (d ++ [l] ++ [l'])) :
    Calls Try.prog 26 #[s] w fun e w' => ∃ v, e = .returned (.tuple #[v, .bool true]) ∧ SGives w G (d ++ [l]) v w' := by
  obtain ⟨A, n, c, vs, rfl, hr, he⟩ := h
  obtain ⟨vs', u, rfl, he', _⟩ := he.split
  have hk : vs'.length = d.length + 1 := by have := he'.1; simpa using this
  obtain ⟨k, hk0⟩ : ∃ k, k = d.length := ⟨_, rfl⟩
  obtain rfl : n = k + 2 := by have := hr.len; simp at this; omega
  have hrt : Rd w G A (k + 1) c vs' := by have := hr.take (k := k + 1) (by omega); rwa [List.take_left' (by omega)] at this
  have hcc : k + 1 ≤ c := by have := hr.le; omega
  have hcm := hr.cm
  unfold maxLen at hcm
  have hkm : k ≤ 100000 := by omega
  obtain ⟨b, off, rfl, _⟩ := hr.at_ (by omega)
  have HF : Hid (SGives w G (d ++ [l]) (.agg #[.slice (some ⟨b, off, none⟩) (k + 1) c]) ((w.alloc (.cells #[.slice (some ⟨b, off, none⟩) (k + 2) c] 49)).alloc (.cells #[.slice (some ⟨b, off, none⟩) (k + 1) c] 49))) := by
    have ha : Below w.heap.size w ((w.alloc (.cells #[.slice (some ⟨b, off, none⟩) (k + 2) c] 49)).alloc (.cells #[.slice (some ⟨b, off, none⟩) (k + 1) c] 49)) := ((Below.refl _ _).alloc (Nat.le_refl _) _).alloc (by simp) _
    exact ⟨⟨_, k + 1, c, vs', rfl, (hrt.below ha).mono (fun _ _ q => .inl q), (he'.turn (F := fun _ => False) (Turn.of_below ha) (fun _ _ _ e => e)).mono (fun _ _ q => .inl q)⟩, ha⟩
  have hnl : ¬ ((k : Int) + 2 < 2) := by omega
  clear hr he he' hrt hk hk0 hd
  go_enter Try.func26, Try.ntmps26
  go_wp2
  refine bodyPost_ret (v := .tuple #[.agg #[.slice (some ⟨b, off, none⟩) (k + 1) c], .bool true]) (by simp [results, Try.results26, go_sem]) rfl ⟨_, rfl, HF.out⟩
end Go.Proofs.Ytgijagdnhajkhaa
