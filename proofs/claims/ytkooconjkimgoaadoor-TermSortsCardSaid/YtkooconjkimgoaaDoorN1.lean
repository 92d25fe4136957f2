/- Terms by numbers: banks as lists, over plain data. Nothing of the program's text. -/
import Derived.Test.YtkooconjkimgoaaDoorF2
namespace Go.Proofs.YtkooconjkimgoaaDoor

/-- a term -/
structure Nd where
  op : Int
  sort : Int
  a : List Int
  name : ByteArray
  num : Nat
  str : List (Int × Int)
/-- a call of a bank -/
structure Cl where
  kind : Int
  op : Int
  sort : Int
  a : List Int
  s : ByteArray
  b : Bool
  z : Int
  t : List (Int × Int)

open Classical in
noncomputable def Tm.idx (x : Nd) : List Nd → Nat
  | [] => 0
  | y :: l => if y = x then 0 else Tm.idx x l + 1
theorem Tm.idx_hit {x : Nd} : ∀ (l : List Nd) (i : Nat), l[i]? = some x → (∀ j, j < i → l[j]? ≠ some x) → Tm.idx x l = i
  | [], i, h, _ => by simp at h
  | y :: l, 0, h, _ => by
    have e : y = x := by simpa using h
    rw [Tm.idx, if_pos e]
  | y :: l, i + 1, h, hn => by
    have e : ¬ y = x := fun e => hn 0 (Nat.succ_pos _) (by simp [e])
    rw [Tm.idx, if_neg e, Tm.idx_hit l i (by simpa using h) fun j hj => by simpa using hn (j + 1) (by omega)]
theorem Tm.idx_mem {x : Nd} : ∀ {l : List Nd}, x ∈ l → l[Tm.idx x l]? = some x ∧ Tm.idx x l < l.length
  | [], h => by cases h
  | y :: l, h => by
    rw [Tm.idx]
    split
    · rename_i e
      subst e
      simp
    · rename_i e
      have := Tm.idx_mem ((List.mem_cons.1 h).resolve_left fun e2 => e e2.symm)
      simpa using this
theorem Tm.idx_app {x : Nd} : ∀ {l : List Nd} (m : List Nd), x ∈ l → Tm.idx x (l ++ m) = Tm.idx x l
  | [], _, h => by cases h
  | y :: l, m, h => by
    rw [List.cons_append, Tm.idx, Tm.idx]
    split
    · rfl
    · rename_i e
      rw [Tm.idx_app m ((List.mem_cons.1 h).resolve_left fun e2 => e e2.symm)]
theorem Tm.idx_new {x : Nd} : ∀ {l : List Nd}, x ∉ l → Tm.idx x (l ++ [x]) = l.length
  | [], _ => by simp [Tm.idx]
  | y :: l, h => by
    rw [List.cons_append, Tm.idx, if_neg fun e => h (by simp [e]), Tm.idx_new fun e => h (List.mem_cons_of_mem _ e)]
    rfl
/-- a term's number; it is there then -/
noncomputable def Tm.has (l : List Nd) (x : Nd) : Bool := @decide (x ∈ l) (Classical.propDecidable _)
theorem Tm.has_iff {l : List Nd} {x : Nd} : Tm.has l x = true ↔ x ∈ l := by unfold Tm.has; exact @decide_eq_true_iff _ (Classical.propDecidable _)
noncomputable def Tm.add (l : List Nd) (x : Nd) : List Nd × Int × Int :=
  if Tm.has l x = true then (l, ((Tm.idx x l : Nat) : Int), 0) else if 20000 ≤ l.length then (l, 0, 2) else (l ++ [x], (l.length : Int), 0)
theorem Tm.add_hit {l : List Nd} {x : Nd} {i : Nat} (h : l[i]? = some x) (hn : ∀ j, j < i → l[j]? ≠ some x) : Tm.add l x = (l, (i : Int), 0) := by
  rw [Tm.add, if_pos (Tm.has_iff.2 (List.mem_of_getElem? h)), Tm.idx_hit l i h hn]
theorem Tm.add_full {l : List Nd} {x : Nd} (h : x ∉ l) (hl : 20000 ≤ l.length) : Tm.add l x = (l, 0, 2) := by
  rw [Tm.add, if_neg fun e => h (Tm.has_iff.1 e), if_pos hl]
theorem Tm.add_new {l : List Nd} {x : Nd} (h : x ∉ l) (hl : l.length < 20000) : Tm.add l x = (l ++ [x], (l.length : Int), 0) := by
  rw [Tm.add, if_neg fun e => h (Tm.has_iff.1 e), if_neg (by omega)]
theorem Tm.not_mem {l : List Nd} {x : Nd} (h : ∀ j : Nat, j < l.length → l[j]? ≠ some x) : x ∉ l := fun hx => by
  obtain ⟨j, hj, e⟩ := List.getElem_of_mem hx
  exact h j hj (by rw [List.getElem?_eq_getElem hj, e])
/-- the ways of add -/
theorem Tm.add_ways (l : List Nd) (x : Nd) : (x ∈ l ∧ Tm.add l x = (l, ((Tm.idx x l : Nat) : Int), 0)) ∨ (x ∉ l ∧ 20000 ≤ l.length ∧ Tm.add l x = (l, 0, 2)) ∨ (x ∉ l ∧ l.length < 20000 ∧ Tm.add l x = (l ++ [x], (l.length : Int), 0)) := by
  by_cases h : x ∈ l
  · exact .inl ⟨h, by rw [Tm.add, if_pos (Tm.has_iff.2 h)]⟩
  · rcases Nat.lt_or_ge l.length 20000 with e | e
    · exact .inr (.inr ⟨h, e, Tm.add_new h e⟩)
    · exact .inr (.inl ⟨h, e, Tm.add_full h e⟩)

/-- what an operation asks: the sorts of its parts by letters (66, 73, 83; 97: any one; 61: the one ahead), whether more of the last one may follow, its own -/
def Tm.asks (op : Int) : Option (List Nat × Bool × Nat) :=
  if op = 6 then some ([66], false, 66) else if 7 ≤ op ∧ op ≤ 10 then some ([66, 66], true, 66) else if op = 11 ∨ op = 12 then some ([97, 61], true, 66)
  else if op = 13 then some ([66, 97, 61], false, 61) else if op = 14 then some ([73], false, 73) else if 15 ≤ op ∧ op ≤ 17 then some ([73, 73], true, 73)
  else if 18 ≤ op ∧ op ≤ 21 then some ([73, 73], true, 66) else if op = 22 then some ([83, 83], true, 83) else if op = 23 then some ([83], false, 73)
  else if op = 24 then some ([83, 73], false, 83) else if op = 25 then some ([83, 73, 73], false, 83) else if 26 ≤ op ∧ op ≤ 28 then some ([83, 83], false, 66)
  else if op = 29 then some ([83, 83, 73], false, 73) else if op = 30 then some ([83, 83, 83], false, 83) else none
def Tm.letter (s : Int) : Nat := if s = 1 then 66 else if s = 2 then 73 else 83
def Tm.sortOf (c : Nat) : Int := if c = 66 then 1 else if c = 73 then 2 else 3
theorem Tm.sort_letter {s : Int} (h1 : 1 ≤ s) (h3 : s ≤ 3) : Tm.sortOf (Tm.letter s) = s := by
  unfold Tm.sortOf Tm.letter
  have : s = 1 ∨ s = 2 ∨ s = 3 := by omega
  rcases this with rfl | rfl | rfl <;> decide
theorem Tm.letter_inj {s t : Int} (h1 : 1 ≤ s) (h3 : s ≤ 3) (k1 : 1 ≤ t) (k3 : t ≤ 3) : Tm.letter s = Tm.letter t ↔ s = t :=
  ⟨fun e => by rw [← Tm.sort_letter h1 h3, e, Tm.sort_letter k1 k3], fun e => by rw [e]⟩
/-- what is asked of part i -/
def Tm.want (w : List Nat) (i : Nat) : Nat := w.getD (if i < w.length then i else w.length - 1) 0
/-- one part's letter, and that of the one ahead -/
def Tm.okOne (q last c : Nat) : Bool := !((decide (q ≠ 97) && decide (q ≠ 61) && decide (c ≠ q)) || (decide (q = 61) && decide (c ≠ last)))
def Tm.oks (w : List Nat) : Nat → Nat → List Nat → Bool
  | _, _, [] => true
  | i, last, c :: cs => Tm.okOne (Tm.want w i) last c && Tm.oks w (i + 1) c cs
theorem Tm.oks_app (w : List Nat) : ∀ (cs : List Nat) (i last c : Nat), Tm.oks w i last (cs ++ [c]) = (Tm.oks w i last cs && Tm.okOne (Tm.want w (i + cs.length)) (cs.getLast?.getD last) c)
  | [], i, last, c => by simp [Tm.oks]
  | x :: cs, i, last, c => by
    rw [List.cons_append, Tm.oks, Tm.oks, Tm.oks_app w cs (i + 1) x c, Bool.and_assoc]
    have e : i + 1 + cs.length = i + (x :: cs).length := by simp; omega
    have e2 : cs.getLast?.getD x = (x :: cs).getLast?.getD last := by
      cases cs with
      | nil => rfl
      | cons y cs => simp [List.getLast?_eq_some_getLast]
    rw [e, e2]
theorem Tm.oks_pre (w : List Nat) : ∀ (cs ds : List Nat) (i last : Nat), Tm.oks w i last (cs ++ ds) = true → Tm.oks w i last cs = true
  | [], _, _, _, _ => rfl
  | c :: cs, ds, i, last, h => by
    rw [List.cons_append, Tm.oks, Bool.and_eq_true] at h
    rw [Tm.oks, Bool.and_eq_true]
    exact ⟨h.1, Tm.oks_pre w cs ds (i + 1) c h.2⟩
def Tm.opAt (l : List Nd) (p : Int) : Int := (l[p.toNat]?.map (·.op)).getD 0
def Tm.letAt (l : List Nd) (p : Int) : Nat := Tm.letter ((l[p.toNat]?.map (·.sort)).getD 0)
/-- is a term a number, or the contrary of one? -/
def Tm.isNum (l : List Nd) (p : Int) : Bool := decide (Tm.opAt l p = 4) || (decide (Tm.opAt l p = 14) && decide (Tm.opAt l (((l[p.toNat]?.map (·.a)).getD []).headD 0) = 4))
def Tm.free (l : List Nd) (a : List Int) : Nat := (a.filter fun p => !Tm.isNum l p).length
theorem Tm.free_app (l : List Nd) (a : List Int) (p : Int) : Tm.free l (a ++ [p]) = Tm.free l a + if Tm.isNum l p = true then 0 else 1 := by
  unfold Tm.free
  rw [List.filter_append, List.length_append]
  cases h : Tm.isNum l p <;> simp [h]
def Tm.allIn (l : List Nd) (a : List Int) : Bool := a.all fun p => decide (0 ≤ p ∧ p < l.length)
def Tm.own (own : Nat) (cs : List Nat) : Int := Tm.sortOf (if own = 61 then cs.getLast?.getD 63 else own)
def Tm.node (op : Int) (own : Nat) (l : List Nd) (a : List Int) : Nd := ⟨op, Tm.own own (a.map (Tm.letAt l)), a, ByteArray.empty, 0, []⟩
noncomputable def Tm.app (l : List Nd) (op : Int) (a : List Int) : List Nd × Int × Int :=
  match Tm.asks op with
  | none => (l, 0, 101)
  | some (w, more, own) =>
    if a.length < w.length ∨ (w.length < a.length ∧ more = false) ∨ 200 < a.length then (l, 0, 1)
    else if Tm.allIn l a = false then (l, 0, 1)
    else if Tm.oks w 0 63 (a.map (Tm.letAt l)) = false then (l, 0, 90)
    else if op = 17 ∧ 1 < Tm.free l a then (l, 0, 101)
    else Tm.add l (Tm.node op own l a)
noncomputable def Tm.const (l : List Nd) (s : ByteArray) (sort : Int) : List Nd × Int × Int :=
  if sort < 1 ∨ 3 < sort ∨ 16384 < s.size then (l, 0, 1) else Tm.add l ⟨1, sort, [], s, 0, []⟩
noncomputable def Tm.bool (l : List Nd) (b : Bool) : List Nd × Int × Int := Tm.add l ⟨if b = true then 2 else 3, 1, [], ByteArray.empty, 0, []⟩
noncomputable def Tm.num (l : List Nd) (z : Int) : List Nd × Int × Int := if z < 0 then (l, 0, 1) else Tm.add l ⟨4, 2, [], ByteArray.empty, z.natAbs, []⟩
noncomputable def Tm.str (l : List Nd) (t : List (Int × Int)) : List Nd × Int × Int := if Tx.mayB t = true then Tm.add l ⟨5, 3, [], ByteArray.empty, 0, t⟩ else (l, 0, 1)
noncomputable def Tm.does (l : List Nd) (c : Cl) : List Nd × Int × Int :=
  if c.kind = 0 then Tm.const l c.s c.sort else if c.kind = 1 then Tm.bool l c.b else if c.kind = 2 then Tm.num l c.z else if c.kind = 3 then Tm.str l c.t else Tm.app l c.op c.a

/-- what holds of a bank -/
structure Tm.Inv (l : List Nd) : Prop where
  sort : ∀ x ∈ l, 1 ≤ x.sort ∧ x.sort ≤ 3
  part : ∀ (i : Nat) x, l[i]? = some x → ∀ p ∈ x.a, 0 ≤ p ∧ p < i
  neg : ∀ x ∈ l, x.op = 14 → x.a ≠ []
  once : l.Nodup
theorem Tm.Inv.nil : Tm.Inv [] := ⟨fun x h => (List.not_mem_nil h).elim, fun i x h => by simp at h, fun x h => (List.not_mem_nil h).elim, List.nodup_nil⟩
theorem Tm.Inv.snoc {l : List Nd} {x : Nd} (h : Tm.Inv l) (hx : x ∉ l) (h1 : 1 ≤ x.sort ∧ x.sort ≤ 3) (h2 : ∀ p ∈ x.a, 0 ≤ p ∧ p < l.length) (h3 : x.op = 14 → x.a ≠ []) : Tm.Inv (l ++ [x]) := by
  refine ⟨fun y hy => ?_, fun i y hy => ?_, fun y hy => ?_, ?_⟩
  · rcases List.mem_append.1 hy with hy | hy
    · exact h.sort y hy
    · rw [List.mem_singleton.1 hy]; exact h1
  · rcases Nat.lt_or_ge i l.length with e | e
    · rw [List.getElem?_append_left e] at hy
      exact h.part i y hy
    · rw [List.getElem?_append_right e] at hy
      have hi : i - l.length = 0 := by
        have := (List.getElem?_eq_some_iff.1 hy).1
        simpa using this
      rw [hi] at hy
      obtain rfl : x = y := by simpa using hy
      intro p hp
      have := h2 p hp
      omega
  · rcases List.mem_append.1 hy with hy | hy
    · exact h.neg y hy
    · rw [List.mem_singleton.1 hy]; exact h3
  · rw [List.nodup_append]
    exact ⟨h.once, by simp, fun a ha b hb e => hx (by rw [← List.mem_singleton.1 hb, ← e]; exact ha)⟩
theorem Tm.add_inv {l : List Nd} {x : Nd} (h : Tm.Inv l) (h1 : 1 ≤ x.sort ∧ x.sort ≤ 3) (h2 : ∀ p ∈ x.a, 0 ≤ p ∧ p < l.length) (h3 : x.op = 14 → x.a ≠ []) : Tm.Inv (Tm.add l x).1 := by
  rcases Tm.add_ways l x with ⟨_, e⟩ | ⟨_, _, e⟩ | ⟨hx, _, e⟩
  · rw [e]; exact h
  · rw [e]; exact h
  · rw [e]; exact h.snoc hx h1 h2 h3
theorem Tm.sortOf_ok (c : Nat) : 1 ≤ Tm.sortOf c ∧ Tm.sortOf c ≤ 3 := by unfold Tm.sortOf; split <;> (try split) <;> decide
theorem Tm.allIn_spec {l : List Nd} {a : List Int} (h : Tm.allIn l a = true) : ∀ p ∈ a, 0 ≤ p ∧ p < l.length := fun p hp => of_decide_eq_true (List.all_eq_true.1 h p hp)
theorem Tm.asks_neg {w : List Nat} {more : Bool} {own : Nat} (h : Tm.asks 14 = some (w, more, own)) : w = [73] := by
  have : Tm.asks 14 = some ([73], false, 73) := by decide
  rw [this] at h
  cases h
  rfl
/-- the ways of app -/
theorem Tm.app_ways (l : List Nd) (op : Int) (a : List Int) : (∃ e, e ≠ 0 ∧ Tm.app l op a = (l, 0, e)) ∨
    ∃ w more own, Tm.asks op = some (w, more, own) ∧ ¬ (a.length < w.length ∨ (w.length < a.length ∧ more = false) ∨ 200 < a.length) ∧ Tm.allIn l a = true ∧ Tm.oks w 0 63 (a.map (Tm.letAt l)) = true ∧ ¬ (op = 17 ∧ 1 < Tm.free l a) ∧ Tm.app l op a = Tm.add l (Tm.node op own l a) := by
  unfold Tm.app
  cases h : Tm.asks op with
  | none => exact .inl ⟨101, by decide, rfl⟩
  | some q =>
    obtain ⟨w, more, own⟩ := q
    simp only
    split
    · exact .inl ⟨1, by decide, rfl⟩
    · rename_i h1
      split
      · exact .inl ⟨1, by decide, rfl⟩
      · rename_i h2
        split
        · exact .inl ⟨90, by decide, rfl⟩
        · rename_i h3
          split
          · exact .inl ⟨101, by decide, rfl⟩
          · rename_i h4
            exact .inr ⟨w, more, own, rfl, h1, by simpa using h2, by simpa using h3, h4, rfl⟩
theorem Tm.app_inv {l : List Nd} (h : Tm.Inv l) (op : Int) (a : List Int) : Tm.Inv (Tm.app l op a).1 := by
  rcases Tm.app_ways l op a with ⟨e, _, h1⟩ | ⟨w, more, own, h1, h2, h3, h4, h5, h6⟩
  · rw [h1]; exact h
  · rw [h6]
    refine Tm.add_inv h (Tm.sortOf_ok _) (Tm.allIn_spec h3) fun ho => ?_
    simp only [Tm.node] at ho ⊢
    subst ho
    rw [Tm.asks_neg h1] at h2
    intro e
    rw [e] at h2
    simp at h2
theorem Tm.does_inv {l : List Nd} (h : Tm.Inv l) (c : Cl) : Tm.Inv (Tm.does l c).1 := by
  unfold Tm.does
  split
  · unfold Tm.const
    split
    · exact h
    · rename_i h1
      exact Tm.add_inv h ⟨by simp only; omega, by simp only; omega⟩ (fun p hp => (List.not_mem_nil hp).elim) (fun e => by simp at e)
  split
  · exact Tm.add_inv h ⟨by simp only; decide, by simp only; decide⟩ (fun p hp => (List.not_mem_nil hp).elim) (fun e => by simp only at e; split at e <;> cases e)
  split
  · unfold Tm.num
    split
    · exact h
    · exact Tm.add_inv h ⟨by simp only; decide, by simp only; decide⟩ (fun p hp => (List.not_mem_nil hp).elim) (fun e => by simp at e)
  split
  · unfold Tm.str
    split
    · exact Tm.add_inv h ⟨by simp only; decide, by simp only; decide⟩ (fun p hp => (List.not_mem_nil hp).elim) (fun e => by simp at e)
    · exact h
  · exact Tm.app_inv h _ _
/-- what is said twice has one number -/
theorem Tm.add_again (l : List Nd) (x : Nd) : Tm.add (Tm.add l x).1 x = Tm.add l x ∧ ((Tm.add l x).2.2 ≠ 0 → (Tm.add l x).2.1 = 0) := by
  rcases Tm.add_ways l x with ⟨hx, e⟩ | ⟨_, _, e⟩ | ⟨hx, _, e⟩
  · rw [e]; exact ⟨e, fun h => absurd rfl h⟩
  · rw [e]; exact ⟨e, fun _ => rfl⟩
  · rw [e]
    refine ⟨?_, fun h => absurd rfl h⟩
    rw [Tm.add, if_pos (Tm.has_iff.2 (by simp)), Tm.idx_new hx]
theorem Tm.add_ext (l : List Nd) (x : Nd) : ∃ m, (Tm.add l x).1 = l ++ m := by
  rcases Tm.add_ways l x with ⟨_, e⟩ | ⟨_, _, e⟩ | ⟨_, _, e⟩
  · exact ⟨[], by rw [e, List.append_nil]⟩
  · exact ⟨[], by rw [e, List.append_nil]⟩
  · exact ⟨[x], by rw [e]⟩
theorem Tm.get_ext {l m : List Nd} {p : Int} (h : p < l.length) (h0 : 0 ≤ p) : (l ++ m)[p.toNat]? = l[p.toNat]? := List.getElem?_append_left (by omega)
theorem Tm.isNum_ext {l m : List Nd} (hl : Tm.Inv l) {p : Int} (h0 : 0 ≤ p) (h : p < l.length) : Tm.isNum (l ++ m) p = Tm.isNum l p := by
  obtain ⟨x, hx⟩ : ∃ x, l[p.toNat]? = some x := ⟨_, List.getElem?_eq_getElem (by omega)⟩
  unfold Tm.isNum Tm.opAt
  rw [Tm.get_ext h h0, hx]
  simp only [Option.map_some, Option.getD_some]
  by_cases hop : x.op = 14
  · obtain ⟨q, a, ha⟩ : ∃ q a, x.a = q :: a := by
      cases e : x.a with
      | nil => exact absurd e (hl.neg x (List.mem_of_getElem? hx) hop)
      | cons q a => exact ⟨q, a, rfl⟩
    have hq := hl.part _ x hx q (by rw [ha]; simp)
    have e1 : ((some x).map (fun x => x.a)).getD [] = q :: a := by rw [Option.map_some, Option.getD_some, ha]
    have e2 : (l ++ m)[q.toNat]? = l[q.toNat]? := Tm.get_ext (p := q) (by omega) hq.1
    simp only [ha, List.headD_cons, e2]
  · simp [hop]
theorem Tm.app_again {l : List Nd} (hl : Tm.Inv l) (op : Int) (a : List Int) : Tm.app (Tm.app l op a).1 op a = Tm.app l op a ∧ ((Tm.app l op a).2.2 ≠ 0 → (Tm.app l op a).2.1 = 0) := by
  rcases Tm.app_ways l op a with ⟨e, _, h1⟩ | ⟨w, more, own, h1, h2, h3, h4, h5, h6⟩
  · rw [h1]; exact ⟨h1, fun _ => rfl⟩
  · obtain ⟨m, hm⟩ := Tm.add_ext l (Tm.node op own l a)
    have hin := Tm.allIn_spec h3
    have hmap : a.map (Tm.letAt (l ++ m)) = a.map (Tm.letAt l) := List.map_congr_left fun p hp => by
      have := hin p hp
      unfold Tm.letAt
      rw [Tm.get_ext this.2 this.1]
    have hfree : Tm.free (l ++ m) a = Tm.free l a := by
      unfold Tm.free
      congr 1
      refine List.filter_congr fun p hp => ?_
      rw [Tm.isNum_ext hl (hin p hp).1 (hin p hp).2]
    have hall : Tm.allIn (l ++ m) a = true := List.all_eq_true.2 fun p hp => decide_eq_true (by have := hin p hp; simp; omega)
    have hnode : Tm.node op own (l ++ m) a = Tm.node op own l a := by unfold Tm.node; rw [hmap]
    rw [h6]
    obtain ⟨g1, g2⟩ := Tm.add_again l (Tm.node op own l a)
    refine ⟨?_, g2⟩
    rw [hm] at g1 ⊢
    unfold Tm.app
    rw [h1]
    simp only
    rw [if_neg h2, if_neg (by rw [hall]; decide), hmap, if_neg (by rw [h4]; decide), hfree, if_neg h5, hnode, g1]
theorem Tm.does_again {l : List Nd} (hl : Tm.Inv l) (c : Cl) : Tm.does (Tm.does l c).1 c = Tm.does l c ∧ ((Tm.does l c).2.2 ≠ 0 → (Tm.does l c).2.1 = 0) := by
  have hdoes : ∀ l', Tm.does l' c = if c.kind = 0 then Tm.const l' c.s c.sort else if c.kind = 1 then Tm.bool l' c.b else if c.kind = 2 then Tm.num l' c.z else if c.kind = 3 then Tm.str l' c.t else Tm.app l' c.op c.a := fun _ => rfl
  rw [hdoes (Tm.does l c).1, hdoes l]
  split
  · unfold Tm.const
    split
    · exact ⟨rfl, fun _ => rfl⟩
    · exact Tm.add_again _ _
  split
  · exact Tm.add_again _ _
  split
  · unfold Tm.num
    split
    · exact ⟨rfl, fun _ => rfl⟩
    · exact Tm.add_again _ _
  split
  · unfold Tm.str
    split
    · exact Tm.add_again _ _
    · exact ⟨rfl, fun _ => rfl⟩
  · exact Tm.app_again hl _ _
theorem Tm.does_len (l : List Nd) (c : Cl) : (Tm.does l c).1.length ≤ l.length + 1 ∧ l.length ≤ (Tm.does l c).1.length := by
  have hadd : ∀ x, (Tm.add l x).1.length ≤ l.length + 1 ∧ l.length ≤ (Tm.add l x).1.length := fun x => by
    rcases Tm.add_ways l x with ⟨_, e⟩ | ⟨_, _, e⟩ | ⟨_, _, e⟩ <;> rw [e] <;> simp
  have h0 : l.length ≤ l.length + 1 ∧ l.length ≤ l.length := ⟨by omega, by omega⟩
  unfold Tm.does
  split
  · unfold Tm.const; split
    · exact h0
    · exact hadd _
  split
  · exact hadd _
  split
  · unfold Tm.num; split
    · exact h0
    · exact hadd _
  split
  · unfold Tm.str; split
    · exact hadd _
    · exact h0
  · rcases Tm.app_ways l c.op c.a with ⟨e, _, h1⟩ | ⟨w, more, own, h1, h2, h3, h4, h5, h6⟩
    · rw [h1]; exact h0
    · rw [h6]; exact hadd _
end Go.Proofs.YtkooconjkimgoaaDoor
