/- What the laws TermSorts and TermOnce ask, over plain data. -/
import Derived.Test.YtkooconjkimgoaaDoorN6
namespace Go.Proofs.YtkooconjkimgoaaDoor

theorem Tm.asks_six {op : Int} {q : List Nat × Bool × Nat} (h : Tm.asks op = some q) : 6 ≤ op ∧ op ≤ 30 := by
  by_cases e : 6 ≤ op ∧ op ≤ 30
  · exact e
  · rw [Tm.asks_none e] at h
    cases h
/-- of constants alone an operation makes a new term, or nothing -/
theorem Tm.app_new {l : List Nd} {op : Int} {a : List Int} (hl : ∀ x ∈ l, x.op = 1) (hlen : l.length < 20000) : (∃ e, e ≠ 0 ∧ Tm.app l op a = (l, 0, e)) ∨
    ∃ w more own, Tm.asks op = some (w, more, own) ∧ w.length ≤ a.length ∧ Tm.allIn l a = true ∧ Tm.app l op a = (l ++ [Tm.node op own l a], (l.length : Int), 0) := by
  rcases Tm.app_ways l op a with h | ⟨w, more, own, h1, h2, h3, _, _, h6⟩
  · exact .inl h
  · refine .inr ⟨w, more, own, h1, by omega, h3, ?_⟩
    rw [h6, Tm.add_new (fun hm => ?_) hlen]
    have e1 := hl _ hm
    have e2 := Tm.asks_six h1
    simp only [Tm.node] at e1
    omega
/-- the sort of what is made -/
theorem Tm.own_sort {op : Int} {w : List Nat} {more : Bool} {own : Nat} (h : Tm.asks op = some (w, more, own)) {l : List Nd} (hI : Tm.Inv l) {a : List Int} (ha : Tm.allIn l a = true) (hw : w.length ≤ a.length) :
    (own = 66 ∧ Tm.own own (a.map (Tm.letAt l)) = 1) ∨ (own = 73 ∧ Tm.own own (a.map (Tm.letAt l)) = 2) ∨ (own = 83 ∧ Tm.own own (a.map (Tm.letAt l)) = 3) ∨
    (own = 61 ∧ ∃ p x, a.getLast? = some p ∧ l[p.toNat]? = some x ∧ Tm.own own (a.map (Tm.letAt l)) = x.sort) := by
  obtain ⟨w1, _, _, ow⟩ := Tm.asks_form h
  rcases ow with rfl | rfl | rfl | rfl
  · exact .inl ⟨rfl, rfl⟩
  · exact .inr (.inl ⟨rfl, rfl⟩)
  · exact .inr (.inr (.inl ⟨rfl, rfl⟩))
  · refine .inr (.inr (.inr ⟨rfl, ?_⟩))
    have hne : a ≠ [] := fun e => by rw [e, List.length_nil] at hw; omega
    have hp := Tm.allIn_spec ha (a.getLast hne) (List.getLast_mem hne)
    obtain ⟨x, hx⟩ : ∃ x, l[(a.getLast hne).toNat]? = some x := ⟨_, List.getElem?_eq_getElem (by omega)⟩
    refine ⟨a.getLast hne, x, List.getLast?_eq_some_getLast hne, hx, ?_⟩
    have hs := hI.sort x (List.mem_of_getElem? hx)
    unfold Tm.own
    rw [if_pos rfl, List.getLast?_map, List.getLast?_eq_some_getLast hne]
    show Tm.sortOf (Tm.letAt l (a.getLast hne)) = x.sort
    unfold Tm.letAt
    rw [hx]
    exact Tm.sort_letter hs.1 hs.2
/-- no term is there twice -/
theorem Tm.Inv.two {l : List Nd} (h : Tm.Inv l) {i k : Nat} {x y : Nd} (hx : l[i]? = some x) (hy : l[k]? = some y) (hk : k < i) : x ≠ y := fun e => by
  subst e
  have hi := (List.getElem?_eq_some_iff.1 hx).1
  have := (List.getElem_inj (h₀ := by omega) (h₁ := hi) h.once (i := k) (j := i)).1 (by
    have e1 := (List.getElem?_eq_some_iff.1 hx).2
    have e2 := (List.getElem?_eq_some_iff.1 hy).2
    rw [e1, e2])
  omega
end Go.Proofs.YtkooconjkimgoaaDoor
