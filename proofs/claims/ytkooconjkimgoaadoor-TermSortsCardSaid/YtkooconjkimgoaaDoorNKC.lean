/- several texts in one. -/
import Derived.Test.YtkooconjkimgoaaDoorNK8
import Derived.Test.YtkooconjkimgoaaDoorN6
/- The table of operations, by numbers; what is asked of the parts. -/
namespace Go.Proofs.YtkooconjkimgoaaDoor
open Go.RowKit

/-- the code's table: least, most, the sorts of the first part, of the second, of all behind (0: that of the last part), its own -/
def Tm.tabL : List (List Nat) := List.replicate 6 [0, 0, 0, 0, 0, 0] ++
  [[1, 1, 1, 0, 0, 1], [2, 200, 1, 1, 1, 1], [2, 200, 1, 1, 1, 1], [2, 200, 1, 1, 1, 1], [2, 200, 1, 1, 1, 1], [2, 200, 0, 0, 0, 1], [2, 200, 0, 0, 0, 1], [3, 3, 1, 0, 0, 0],
   [1, 1, 2, 0, 0, 2], [2, 200, 2, 2, 2, 2], [2, 200, 2, 2, 2, 2], [2, 200, 2, 2, 2, 2], [2, 200, 2, 2, 2, 1], [2, 200, 2, 2, 2, 1], [2, 200, 2, 2, 2, 1], [2, 200, 2, 2, 2, 1],
   [2, 200, 3, 3, 3, 3], [1, 1, 3, 0, 0, 2], [2, 2, 3, 2, 0, 3], [3, 3, 3, 2, 2, 3], [2, 2, 3, 3, 0, 1], [2, 2, 3, 3, 0, 1], [2, 2, 3, 3, 0, 1], [3, 3, 3, 3, 2, 2], [3, 3, 3, 3, 3, 3]]
/-- a sort of the table, if the last part is of the sort last -/
def Tm.fix (s : Nat) (last : Int) : Int := if s = 0 then last else (s : Int)
/-- one row: what it says in the document's letters -/
structure Tm.RowIs (w : List Nat) (more : Bool) (own : Nat) (a0 a1 p0 p1 p2 ow : Nat) : Prop where
  len : a0 = w.length
  most : a1 = if more = true then 200 else w.length
  pos : 0 < w.length ∧ w.length ≤ 3
  parts : ∀ ss : List Int, (∀ s ∈ ss, 1 ≤ s ∧ s ≤ 3) → ¬ (ss.length < w.length ∨ (w.length < ss.length ∧ more = false)) → (Tm.oks w 0 63 (ss.map Tm.letter) = true ↔ ∀ (i : Nat) s, ss[i]? = some s → s = Tm.fix (if i = 0 then p0 else if i = 1 then p1 else p2) (ss.getLast?.getD 0))
  own_ : ∀ ss : List Int, (∀ s ∈ ss, 1 ≤ s ∧ s ≤ 3) → ss ≠ [] → Tm.own own (ss.map Tm.letter) = Tm.fix ow (ss.getLast?.getD 0)
def Tm.code (c : Nat) : Nat := if c = 66 then 1 else if c = 73 then 2 else if c = 83 then 3 else 0
theorem Tm.okOne_fix {q last : Nat} {s : Int} (hq : q = 66 ∨ q = 73 ∨ q = 83) (h : 1 ≤ s ∧ s ≤ 3) (l : Int) : Tm.okOne q last (Tm.letter s) = true ↔ s = Tm.fix (Tm.code q) l := by
  have : s = 1 ∨ s = 2 ∨ s = 3 := by omega
  rcases hq with rfl | rfl | rfl <;> rcases this with rfl | rfl | rfl <;> simp [Tm.okOne, Tm.letter, Tm.fix, Tm.code]
/-- all parts of one sort -/
theorem Tm.oks_one {q : Nat} (hq : q = 66 ∨ q = 73 ∨ q = 83) (l : Int) : ∀ (ss : List Int) (i last : Nat), (∀ s ∈ ss, 1 ≤ s ∧ s ≤ 3) → (Tm.oks [q, q] i last (ss.map Tm.letter) = true ↔ ∀ s ∈ ss, s = Tm.fix (Tm.code q) l)
  | [], i, last, _ => by simp [Tm.oks]
  | s :: ss, i, last, h => by
    have hw : Tm.want [q, q] i = q := by
      unfold Tm.want
      rcases i with _ | _ | i
      · rfl
      · rfl
      · simp [List.getD, show ¬ (i + 1 + 1 < 2) by omega]
    rw [List.map_cons, Tm.oks, Bool.and_eq_true, hw, Tm.okOne_fix hq (h s (by simp)) l, Tm.oks_one hq l ss (i + 1) (Tm.letter s) (fun y hy => h y (List.mem_cons_of_mem _ hy))]
    simp
/-- all parts alike -/
theorem Tm.oks_alike : ∀ (ss : List Int) (i : Nat) (t : Int), 0 < i → 1 ≤ t ∧ t ≤ 3 → (∀ s ∈ ss, 1 ≤ s ∧ s ≤ 3) → (Tm.oks [97, 61] i (Tm.letter t) (ss.map Tm.letter) = true ↔ ∀ s ∈ ss, s = t)
  | [], i, t, _, _, _ => by simp [Tm.oks]
  | s :: ss, i, t, hi, ht, h => by
    have hw : Tm.want [97, 61] i = 61 := by
      unfold Tm.want
      rcases i with _ | _ | i
      · omega
      · rfl
      · simp [List.getD, show ¬ (i + 1 + 1 < 2) by omega]
    have hs := h s (by simp)
    have e1 : Tm.okOne 61 (Tm.letter t) (Tm.letter s) = true ↔ s = t := by
      rw [← Tm.letter_inj hs.1 hs.2 ht.1 ht.2]
      unfold Tm.okOne
      simp
    rw [List.map_cons, Tm.oks, Bool.and_eq_true, hw, e1, Tm.oks_alike ss (i + 1) s (by omega) hs (fun y hy => h y (List.mem_cons_of_mem _ hy))]
    constructor
    · rintro ⟨rfl, h2⟩ y hy
      rcases List.mem_cons.1 hy with rfl | hy
      · rfl
      · exact h2 y hy
    · intro h2
      have := h2 s (by simp)
      subst this
      exact ⟨rfl, fun y hy => h2 y (List.mem_cons_of_mem _ hy)⟩
theorem all_get {ss : List Int} {p : Int → Prop} : (∀ s ∈ ss, p s) ↔ ∀ (i : Nat) s, ss[i]? = some s → p s :=
  ⟨fun h i s hs => h s (List.mem_of_getElem? hs), fun h s hs => by obtain ⟨i, hi⟩ := List.getElem?_of_mem hs; exact h i s hi⟩
theorem Tm.own_plain {own : Nat} (h : own = 66 ∨ own = 73 ∨ own = 83) (cs : List Nat) (l : Int) : Tm.own own cs = Tm.fix (Tm.code own) l := by
  unfold Tm.own
  rcases h with rfl | rfl | rfl <;> simp [Tm.sortOf, Tm.fix, Tm.code]
theorem Tm.row_one {q own : Nat} (hq : q = 66 ∨ q = 73 ∨ q = 83) (ho : own = 66 ∨ own = 73 ∨ own = 83) (p1 p2 : Nat) : Tm.RowIs [q] false own 1 1 (Tm.code q) p1 p2 (Tm.code own) :=
  ⟨rfl, rfl, by simp, fun ss hs hl => by
    obtain ⟨s, rfl⟩ : ∃ s, ss = [s] := by
      match ss, hl with
      | [], hl => exact absurd (Or.inl (by simp)) hl
      | [s], _ => exact ⟨s, rfl⟩
      | _ :: _ :: _, hl => exact absurd (Or.inr ⟨by simp, rfl⟩) hl
    have := Tm.okOne_fix (last := 63) hq (hs s (by simp)) s
    rw [List.map_cons, List.map_nil, Tm.oks, Tm.oks, Bool.and_true, show Tm.want [q] 0 = q from rfl, this]
    constructor
    · intro h i y hy
      rcases i with _ | i
      · obtain rfl : s = y := by simpa using hy
        exact h
      · simp at hy
    · intro h
      exact h 0 s rfl, fun ss _ _ => Tm.own_plain ho _ _⟩
theorem Tm.row_many {q own : Nat} (hq : q = 66 ∨ q = 73 ∨ q = 83) (ho : own = 66 ∨ own = 73 ∨ own = 83) : Tm.RowIs [q, q] true own 2 200 (Tm.code q) (Tm.code q) (Tm.code q) (Tm.code own) :=
  ⟨rfl, rfl, by simp, fun ss hs _ => by
    rw [Tm.oks_one hq (ss.getLast?.getD 0) ss 0 63 hs, all_get]
    simp, fun ss _ _ => Tm.own_plain ho _ _⟩
theorem Tm.row_alike : Tm.RowIs [97, 61] true 66 2 200 0 0 0 1 :=
  ⟨rfl, rfl, by simp, fun ss hs hl => by
    obtain ⟨s, ss, rfl⟩ : ∃ s r, ss = s :: r := by
      match ss, hl with
      | [], hl => exact absurd (Or.inl (by simp)) hl
      | s :: r, _ => exact ⟨s, r, rfl⟩
    have hs0 := hs s (by simp)
    have h0 : Tm.okOne (Tm.want [97, 61] 0) 63 (Tm.letter s) = true := by simp [Tm.okOne, Tm.want]
    rw [List.map_cons, Tm.oks, Bool.and_eq_true, h0, Tm.oks_alike ss 1 s (by decide) hs0 (fun y hy => hs y (List.mem_cons_of_mem _ hy))]
    have hf : ∀ i (l : Int), Tm.fix (if i = 0 then 0 else if i = 1 then 0 else 0) l = l := fun i l => by simp [Tm.fix]
    obtain ⟨z, hz⟩ : ∃ z, (s :: ss).getLast?.getD 0 = z := ⟨_, rfl⟩
    have hzm : z ∈ s :: ss := by
      rw [List.getLast?_eq_some_getLast (by simp), Option.getD_some] at hz
      rw [← hz]
      exact List.getLast_mem _
    rw [hz]
    constructor
    · rintro ⟨_, h⟩ i y hy
      rw [hf]
      have hall : ∀ t ∈ s :: ss, t = s := fun t ht => by
        rcases List.mem_cons.1 ht with rfl | ht
        · rfl
        · exact h t ht
      rw [hall y (List.mem_of_getElem? hy), hall z hzm]
    · intro h
      refine ⟨rfl, fun y hy => ?_⟩
      have h1 := h 0 s rfl
      obtain ⟨i, hi⟩ := List.getElem?_of_mem (List.mem_cons_of_mem s hy)
      have h2 := h i y hi
      rw [hf] at h1 h2
      rw [h1, h2], fun ss _ _ => Tm.own_plain (.inl rfl) _ _⟩
theorem Tm.row_ite : Tm.RowIs [66, 97, 61] false 61 3 3 1 0 0 0 :=
  ⟨rfl, rfl, by simp, fun ss hs hl => by
    obtain ⟨a, b, c, rfl⟩ : ∃ a b c, ss = [a, b, c] := by
      match ss, hl with
      | [], hl => exact absurd (Or.inl (by simp)) hl
      | [_], hl => exact absurd (Or.inl (by simp)) hl
      | [_, _], hl => exact absurd (Or.inl (by simp)) hl
      | [a, b, c], _ => exact ⟨a, b, c, rfl⟩
      | _ :: _ :: _ :: _ :: _, hl => exact absurd (Or.inr ⟨by simp, rfl⟩) hl
    have ha := hs a (by simp)
    have hb := hs b (by simp)
    have hc := hs c (by simp)
    have e1 := Tm.okOne_fix (q := 66) (last := 63) (.inl rfl) ha c
    have e2 : Tm.okOne 97 (Tm.letter a) (Tm.letter b) = true := by simp [Tm.okOne]
    have e3 : Tm.okOne 61 (Tm.letter b) (Tm.letter c) = true ↔ c = b := by
      rw [← Tm.letter_inj hc.1 hc.2 hb.1 hb.2]
      simp [Tm.okOne]
    simp only [List.map_cons, List.map_nil, Tm.oks, Bool.and_true, Bool.and_eq_true, show Tm.want [66, 97, 61] 0 = 66 from rfl, show Tm.want [66, 97, 61] (0 + 1) = 97 from rfl, show Tm.want [66, 97, 61] (0 + 1 + 1) = 61 from rfl, e1, e2, e3, true_and]
    have hl : ([a, b, c] : List Int).getLast?.getD 0 = c := rfl
    rw [hl]
    constructor
    · rintro ⟨h1, h2⟩ i y hy
      rcases i with _ | _ | _ | i
      · obtain rfl : a = y := by simpa using hy
        exact h1
      · obtain rfl : b = y := by simpa using hy
        simp [Tm.fix, h2]
      · obtain rfl : c = y := by simpa using hy
        simp [Tm.fix]
      · simp at hy
    · intro h
      refine ⟨h 0 a rfl, ?_⟩
      have := h 1 b rfl
      simpa [Tm.fix, eq_comm] using this, fun ss hs hne => by
    obtain ⟨z, hz⟩ : ∃ z, ss.getLast? = some z := ⟨_, List.getLast?_eq_some_getLast hne⟩
    have hzm : z ∈ ss := List.mem_of_getLast? hz
    unfold Tm.own
    rw [if_pos rfl, List.getLast?_map, hz]
    simp only [Option.map_some, Option.getD_some]
    rw [Tm.sort_letter (hs z hzm).1 (hs z hzm).2]
    simp [Tm.fix]⟩
theorem Tm.row_two {q r own : Nat} (hq : q = 66 ∨ q = 73 ∨ q = 83) (hr : r = 66 ∨ r = 73 ∨ r = 83) (ho : own = 66 ∨ own = 73 ∨ own = 83) (p2 : Nat) : Tm.RowIs [q, r] false own 2 2 (Tm.code q) (Tm.code r) p2 (Tm.code own) :=
  ⟨rfl, rfl, by simp, fun ss hs hl => by
    obtain ⟨a, b, rfl⟩ : ∃ a b, ss = [a, b] := by
      match ss, hl with
      | [], hl => exact absurd (Or.inl (by simp)) hl
      | [_], hl => exact absurd (Or.inl (by simp)) hl
      | [a, b], _ => exact ⟨a, b, rfl⟩
      | _ :: _ :: _ :: _, hl => exact absurd (Or.inr ⟨by simp, rfl⟩) hl
    have e1 := Tm.okOne_fix (last := 63) hq (hs a (by simp)) b
    have e2 := Tm.okOne_fix (last := Tm.letter a) hr (hs b (by simp)) b
    simp only [List.map_cons, List.map_nil, Tm.oks, Bool.and_true, Bool.and_eq_true, show Tm.want [q, r] 0 = q from rfl, show Tm.want [q, r] (0 + 1) = r from rfl, e1, e2]
    have hl : ([a, b] : List Int).getLast?.getD 0 = b := rfl
    rw [hl]
    constructor
    · rintro ⟨h1, h2⟩ i y hy
      rcases i with _ | _ | i
      · obtain rfl : a = y := by simpa using hy
        exact h1
      · obtain rfl : b = y := by simpa using hy
        exact h2
      · simp at hy
    · intro h
      exact ⟨h 0 a rfl, h 1 b rfl⟩, fun ss _ _ => Tm.own_plain ho _ _⟩
theorem Tm.row_three {q r t own : Nat} (hq : q = 66 ∨ q = 73 ∨ q = 83) (hr : r = 66 ∨ r = 73 ∨ r = 83) (ht : t = 66 ∨ t = 73 ∨ t = 83) (ho : own = 66 ∨ own = 73 ∨ own = 83) : Tm.RowIs [q, r, t] false own 3 3 (Tm.code q) (Tm.code r) (Tm.code t) (Tm.code own) :=
  ⟨rfl, rfl, by simp, fun ss hs hl => by
    obtain ⟨a, b, c, rfl⟩ : ∃ a b c, ss = [a, b, c] := by
      match ss, hl with
      | [], hl => exact absurd (Or.inl (by simp)) hl
      | [_], hl => exact absurd (Or.inl (by simp)) hl
      | [_, _], hl => exact absurd (Or.inl (by simp)) hl
      | [a, b, c], _ => exact ⟨a, b, c, rfl⟩
      | _ :: _ :: _ :: _ :: _, hl => exact absurd (Or.inr ⟨by simp, rfl⟩) hl
    have e1 := Tm.okOne_fix (last := 63) hq (hs a (by simp)) c
    have e2 := Tm.okOne_fix (last := Tm.letter a) hr (hs b (by simp)) c
    have e3 := Tm.okOne_fix (last := Tm.letter b) ht (hs c (by simp)) c
    simp only [List.map_cons, List.map_nil, Tm.oks, Bool.and_true, Bool.and_eq_true, show Tm.want [q, r, t] 0 = q from rfl, show Tm.want [q, r, t] (0 + 1) = r from rfl, show Tm.want [q, r, t] (0 + 1 + 1) = t from rfl, e1, e2, e3]
    have hl : ([a, b, c] : List Int).getLast?.getD 0 = c := rfl
    rw [hl]
    constructor
    · rintro ⟨h1, h2, h3⟩ i y hy
      rcases i with _ | _ | _ | i
      · obtain rfl : a = y := by simpa using hy
        exact h1
      · obtain rfl : b = y := by simpa using hy
        exact h2
      · obtain rfl : c = y := by simpa using hy
        exact h3
      · simp at hy
    · intro h
      exact ⟨h 0 a rfl, h 1 b rfl, h 2 c rfl⟩, fun ss _ _ => Tm.own_plain ho _ _⟩
/-- a row of the table -/
theorem Tm.row_is {op : Int} (h0 : 0 ≤ op) (h1 : op < 31) : ∃ a0 a1 p0 p1 p2 ow, Tm.tabL[op.toNat]? = some [a0, a1, p0, p1, p2, ow] ∧ a0 ≤ 200 ∧ a1 ≤ 200 ∧ p0 ≤ 3 ∧ p1 ≤ 3 ∧ p2 ≤ 3 ∧ ow ≤ 3 ∧ ((a1 = 0 ∧ Tm.asks op = none) ∨ (0 < a1 ∧ ∃ w more own, Tm.asks op = some (w, more, own) ∧ Tm.RowIs w more own a0 a1 p0 p1 p2 ow)) := by
  have B : (66 : Nat) = 66 ∨ (66 : Nat) = 73 ∨ (66 : Nat) = 83 := by decide
  have I : (73 : Nat) = 66 ∨ (73 : Nat) = 73 ∨ (73 : Nat) = 83 := by decide
  have S : (83 : Nat) = 66 ∨ (83 : Nat) = 73 ∨ (83 : Nat) = 83 := by decide
  obtain ⟨o, rfl⟩ : ∃ o : Nat, op = o := ⟨op.toNat, by omega⟩
  have ho : o < 31 := by omega
  match o, ho with
  | 0, _ | 1, _ | 2, _ | 3, _ | 4, _ | 5, _ => exact ⟨_, _, _, _, _, _, rfl, by decide, by decide, by decide, by decide, by decide, by decide, .inl ⟨rfl, by decide⟩⟩
  | 6, _ => exact ⟨_, _, _, _, _, _, rfl, by decide, by decide, by decide, by decide, by decide, by decide, .inr ⟨by decide, _, _, _, by decide, Tm.row_one B B 0 0⟩⟩
  | 7, _ | 8, _ | 9, _ | 10, _ => exact ⟨_, _, _, _, _, _, rfl, by decide, by decide, by decide, by decide, by decide, by decide, .inr ⟨by decide, _, _, _, by decide, Tm.row_many B B⟩⟩
  | 11, _ | 12, _ => exact ⟨_, _, _, _, _, _, rfl, by decide, by decide, by decide, by decide, by decide, by decide, .inr ⟨by decide, _, _, _, by decide, Tm.row_alike⟩⟩
  | 13, _ => exact ⟨_, _, _, _, _, _, rfl, by decide, by decide, by decide, by decide, by decide, by decide, .inr ⟨by decide, _, _, _, by decide, Tm.row_ite⟩⟩
  | 14, _ => exact ⟨_, _, _, _, _, _, rfl, by decide, by decide, by decide, by decide, by decide, by decide, .inr ⟨by decide, _, _, _, by decide, Tm.row_one I I 0 0⟩⟩
  | 15, _ | 16, _ | 17, _ => exact ⟨_, _, _, _, _, _, rfl, by decide, by decide, by decide, by decide, by decide, by decide, .inr ⟨by decide, _, _, _, by decide, Tm.row_many I I⟩⟩
  | 18, _ | 19, _ | 20, _ | 21, _ => exact ⟨_, _, _, _, _, _, rfl, by decide, by decide, by decide, by decide, by decide, by decide, .inr ⟨by decide, _, _, _, by decide, Tm.row_many I B⟩⟩
  | 22, _ => exact ⟨_, _, _, _, _, _, rfl, by decide, by decide, by decide, by decide, by decide, by decide, .inr ⟨by decide, _, _, _, by decide, Tm.row_many S S⟩⟩
  | 23, _ => exact ⟨_, _, _, _, _, _, rfl, by decide, by decide, by decide, by decide, by decide, by decide, .inr ⟨by decide, _, _, _, by decide, Tm.row_one S I 0 0⟩⟩
  | 24, _ => exact ⟨_, _, _, _, _, _, rfl, by decide, by decide, by decide, by decide, by decide, by decide, .inr ⟨by decide, _, _, _, by decide, Tm.row_two S I S 0⟩⟩
  | 25, _ => exact ⟨_, _, _, _, _, _, rfl, by decide, by decide, by decide, by decide, by decide, by decide, .inr ⟨by decide, _, _, _, by decide, Tm.row_three S I I S⟩⟩
  | 26, _ | 27, _ | 28, _ => exact ⟨_, _, _, _, _, _, rfl, by decide, by decide, by decide, by decide, by decide, by decide, .inr ⟨by decide, _, _, _, by decide, Tm.row_two S S B 0⟩⟩
  | 29, _ => exact ⟨_, _, _, _, _, _, rfl, by decide, by decide, by decide, by decide, by decide, by decide, .inr ⟨by decide, _, _, _, by decide, Tm.row_three S S I I⟩⟩
  | 30, _ => exact ⟨_, _, _, _, _, _, rfl, by decide, by decide, by decide, by decide, by decide, by decide, .inr ⟨by decide, _, _, _, by decide, Tm.row_three S S S S⟩⟩
end Go.Proofs.YtkooconjkimgoaaDoor

/- What is asked of the parts: fixed, part, sort; unknowns. -/
namespace Go.Proofs.YtkooconjkimgoaaDoor
open Go.RowKit

/-- the program's table of operations, as it was laid -/
def Ask9 (w : World) : Prop := ∀ (o : Nat) r, Tm.tabL[o]? = some r → ∀ (j v : Nat), r[j]? = some v → w.cell? ⟨0, o * 6 + j, none⟩ = some (.int .u8 (v : Int))
theorem Ask9.below {w w' : World} (h : Ask9 w) (hb : Below w.heap.size w w') : Ask9 w' := fun o r hr j v hv =>
  have := h o r hr j v hv
  (hb.cell (p := ⟨0, o * 6 + j, none⟩) (World.block_lt_of_cell? w _ this)).trans this
theorem Ask9.lt {w : World} (h : Ask9 w) : 0 < w.heap.size := World.block_lt_of_cell? w _ (h 0 _ rfl 0 0 rfl)

theorem kfixed9 (s : Nat) (last : Int) (hs : s ≤ 255) (w : World) : Calls Tryd.prog 51 #[.int .u8 (s : Int), .int .i64 last] w fun e w' => e = .returned (.int .i64 (Tm.fix s last)) ∧ w' = w := by
  by_cases h0 : s = 0
  · subst h0
    rw [show Tm.fix 0 last = last from rfl]
    go_enter Tryd.func51, Tryd.ntmps51
    go_wp2
    go_ret
    exact ⟨rfl, rfl⟩
  · rw [show Tm.fix s last = (s : Int) by unfold Tm.fix; rw [if_neg h0]]
    have d0 : ((s : Int) == 0) = false := beq_eq_false_iff_ne.2 (by omega)
    have hw : IntKind.i64.wrap (s : Int) = (s : Int) := IntWalk.i64_in _ (by omega)
    clear h0
    go_enter Tryd.func51, Tryd.ntmps51
    go_wp2
    go_ret
    exact ⟨rfl, rfl⟩
set_option maxRecDepth 100000 in
theorem kpart9 (a0 a1 p0 p1 p2 ow : Nat) (i : Nat) (last : Int) (h0 : p0 ≤ 3) (h1 : p1 ≤ 3) (h2 : p2 ≤ 3) (hi : i ≤ 1000000) (w : World) :
    Calls Tryd.prog 34 #[.agg #[.int .u8 (a0 : Int), .int .u8 (a1 : Int), .int .u8 (p0 : Int), .int .u8 (p1 : Int), .int .u8 (p2 : Int), .int .u8 (ow : Int)], .int .i64 (i : Int), .int .i64 last] w fun e w' => e = .returned (.int .i64 (Tm.fix (if i = 0 then p0 else if i = 1 then p1 else p2) last)) ∧ Below w.heap.size w w' := by
  obtain ⟨W, hW⟩ : ∃ W, w.alloc (.cells #[.int .u8 (a0 : Int), .int .u8 (a1 : Int), .int .u8 (p0 : Int), .int .u8 (p1 : Int), .int .u8 (p2 : Int), .int .u8 (ow : Int)] 77) = W := ⟨_, rfl⟩
  have hB : Below w.heap.size w W := by rw [← hW]; exact (Below.refl _ w).alloc (Nat.le_refl _) _
  have hL : Lies W w.heap.size 77 #[.int .u8 (a0 : Int), .int .u8 (a1 : Int), .int .u8 (p0 : Int), .int .u8 (p1 : Int), .int .u8 (p2 : Int), .int .u8 (ow : Int)] := by rw [← hW]; exact Lies.new w _ _
  have c2 := hL.cell 2
  have c3 := hL.cell 3
  have c4 := hL.cell 4
  simp at c2 c3 c4
  have HB := Lib.hid hB
  rcases i with _ | _ | i
  · have HF := Lib.hid (kfixed9 p0 last (by omega) W)
    have hmin : min (0 : Int) 2 = 0 := rfl
    rw [if_pos rfl]
    clear hB hL
    go_enter Tryd.func34, Tryd.ntmps34
    go_wp2_with (go_at_call 51; refine HF.out.mono ?_; rintro e w1 ⟨rfl, rfl⟩)
    go_ret
    exact ⟨rfl, HB.out⟩
  · have HF := Lib.hid (kfixed9 p1 last (by omega) W)
    have e1 : (if 0 + 1 = 0 then p0 else if 0 + 1 = 1 then p1 else p2) = p1 := rfl
    rw [e1]
    have hmin : min (1 : Int) 2 = 1 := rfl
    clear hB hL e1
    go_enter Tryd.func34, Tryd.ntmps34
    go_wp2_with (go_at_call 51; refine HF.out.mono ?_; rintro e w1 ⟨rfl, rfl⟩)
    go_ret
    exact ⟨rfl, HB.out⟩
  · have HF := Lib.hid (kfixed9 p2 last (by omega) W)
    have e1 : (if i + 1 + 1 = 0 then p0 else if i + 1 + 1 = 1 then p1 else p2) = p2 := by rw [if_neg (by omega), if_neg (by omega)]
    rw [e1]
    obtain ⟨k, hk⟩ : ∃ k, i + 1 + 1 = k := ⟨_, rfl⟩
    rw [hk]
    have hk2 : (2 : Int) ≤ (k : Int) := by omega
    have hmin : min (k : Int) 2 = 2 := by omega
    clear hB hL e1 hk
    go_enter Tryd.func34, Tryd.ntmps34
    go_wp2_with (go_at_call 51; refine HF.out.mono ?_; rintro e w1 ⟨rfl, rfl⟩)
    go_ret
    exact ⟨rfl, HB.out⟩
set_option maxRecDepth 100000 in
theorem ksort9 (a0 a1 p0 p1 p2 ow : Nat) (last : Int) (h0 : ow ≤ 3) (w : World) :
    Calls Tryd.prog 37 #[.agg #[.int .u8 (a0 : Int), .int .u8 (a1 : Int), .int .u8 (p0 : Int), .int .u8 (p1 : Int), .int .u8 (p2 : Int), .int .u8 (ow : Int)], .int .i64 last] w fun e w' => e = .returned (.int .i64 (Tm.fix ow last)) ∧ Below w.heap.size w w' := by
  obtain ⟨W, hW⟩ : ∃ W, w.alloc (.cells #[.int .u8 (a0 : Int), .int .u8 (a1 : Int), .int .u8 (p0 : Int), .int .u8 (p1 : Int), .int .u8 (p2 : Int), .int .u8 (ow : Int)] 77) = W := ⟨_, rfl⟩
  have hB : Below w.heap.size w W := by rw [← hW]; exact (Below.refl _ w).alloc (Nat.le_refl _) _
  have hL : Lies W w.heap.size 77 #[.int .u8 (a0 : Int), .int .u8 (a1 : Int), .int .u8 (p0 : Int), .int .u8 (p1 : Int), .int .u8 (p2 : Int), .int .u8 (ow : Int)] := by rw [← hW]; exact Lies.new w _ _
  have c5 := hL.cell 5
  simp at c5
  have HB := Lib.hid hB
  have HF := Lib.hid (kfixed9 ow last (by omega) W)
  clear hB hL
  go_enter Tryd.func37, Tryd.ntmps37
  go_wp2_with (go_at_call 51; refine HF.out.mono ?_; rintro e w1 ⟨rfl, rfl⟩)
  go_ret
  exact ⟨rfl, HB.out⟩
end Go.Proofs.YtkooconjkimgoaaDoor
