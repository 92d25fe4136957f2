/- Texts that begin with, end with, hold others, by runs; how much of a text's beginning is the end of another one. Nothing of the program's text. -/
import Derived.Test.YtdpbglofijpfnaaU3
namespace Go.Proofs.Ytdpbglofijpfnaa

theorem Lt.expand_cons (x : Int × Int) (R : List (Int × Int)) : Lt.expand (x :: R) = List.replicate x.2.toNat x.1 ++ Lt.expand R := by simp [Lt.expand]
theorem Tx.Own.tail {x : Int × Int} {R : List (Int × Int)} (h : Tx.Own (x :: R)) : Tx.Own R :=
  ⟨fun y hy => h.pos y (List.mem_cons_of_mem _ hy), fun i y z h1 h2 => h.adj (i + 1) y z h1 h2⟩
theorem Tx.Own.drop {R : List (Int × Int)} (h : Tx.Own R) (n : Nat) : Tx.Own (R.drop n) :=
  ⟨fun y hy => h.pos y (List.mem_of_mem_drop hy), fun i y z h1 h2 => by
    rw [List.getElem?_drop] at h1 h2
    exact h.adj (n + i) y z h1 (by rw [Nat.add_assoc]; exact h2)⟩
theorem Tx.Own.head {x : Int × Int} {R : List (Int × Int)} (h : Tx.Own (x :: R)) : (Lt.expand R).head? ≠ some x.1 := by
  cases R with
  | nil => simp [Lt.expand]
  | cons y R =>
    have hy := (h.pos y (by simp)).2
    have ha := h.adj 0 x y rfl rfl
    obtain ⟨n, hn⟩ : ∃ n, y.2.toNat = n + 1 := ⟨y.2.toNat - 1, by omega⟩
    rw [Lt.expand_cons, hn, List.replicate_succ]
    simp only [List.cons_append, List.head?_cons, ne_eq, Option.some.injEq]
    exact fun e => ha e.symm
theorem Tx.Own.cut {x : Int × Int} {R : List (Int × Int)} (h : Tx.Own (x :: R)) {n : Int} (hn : 1 ≤ n) : Tx.Own ((x.1, n) :: R) := by
  refine ⟨fun y hy => ?_, fun i y z h1 h2 => ?_⟩
  · rcases List.mem_cons.1 hy with rfl | hy
    · exact ⟨(h.pos x (by simp)).1, hn⟩
    · exact h.pos y (List.mem_cons_of_mem _ hy)
  · cases i with
    | zero =>
      obtain rfl : (x.1, n) = y := by simpa using h1
      exact h.adj 0 x z rfl h2
    | succ i => exact h.adj (i + 1) y z h1 h2
theorem Tx.Own.reverse {R : List (Int × Int)} (h : Tx.Own R) : Tx.Own R.reverse := by
  refine ⟨fun y hy => h.pos y (List.mem_reverse.1 hy), fun i y z h1 h2 => ?_⟩
  have hl := (List.getElem?_eq_some_iff.1 h2).1
  rw [List.length_reverse] at hl
  rw [List.getElem?_reverse (by omega)] at h1 h2
  exact fun e => h.adj (R.length - 1 - (i + 1)) z y h2 (by rw [← h1]; congr 1; omega) e.symm
theorem Lt.expand_reverse : ∀ R : List (Int × Int), Lt.expand R.reverse = (Lt.expand R).reverse
  | [] => rfl
  | x :: R => by rw [List.reverse_cons, Lt.expand_app, Lt.expand_reverse R, Lt.expand_cons x R, List.reverse_append, List.reverse_replicate, Lt.expand_cons]; simp [Lt.expand]

theorem rep_prefix {c d : Int} {A B : List Int} (hA : A.head? ≠ some c) (hB : B.head? ≠ some d) : ∀ n m : Nat, (List.replicate (n + 1) c ++ A <+: List.replicate (m + 1) d ++ B) ↔ c = d ∧ ((n = m ∧ A <+: B) ∨ (n < m ∧ A = []))
  | 0, 0 => by
    rw [List.replicate_succ, List.replicate_succ]
    simp [List.cons_prefix_cons]
  | 0, m + 1 => by
    rw [List.replicate_succ, List.replicate_succ]
    simp only [List.replicate_zero, List.cons_append, List.nil_append, List.cons_prefix_cons]
    refine and_congr_right fun e => ?_
    subst e
    cases A with
    | nil => simp
    | cons a A =>
      rw [List.replicate_succ]
      simp only [List.cons_append, List.cons_prefix_cons]
      simp at hA
      constructor
      · rintro ⟨e, _⟩
        exact absurd e hA
      · rintro (⟨e, _⟩ | ⟨_, e⟩)
        · omega
        · cases e
  | n + 1, 0 => by
    have e1 : List.replicate (n + 1 + 1) c = c :: List.replicate (n + 1) c := List.replicate_succ
    have e2 : List.replicate (0 + 1) d = [d] := rfl
    rw [e1, e2]
    simp only [List.cons_append, List.nil_append, List.cons_prefix_cons]
    refine and_congr_right fun e => ?_
    subst e
    cases B with
    | nil =>
      rw [List.replicate_succ]
      simp
    | cons b B =>
      rw [List.replicate_succ]
      simp only [List.cons_append, List.cons_prefix_cons]
      simp at hB
      constructor
      · rintro ⟨e, _⟩
        exact absurd e.symm hB
      · rintro (⟨e, _⟩ | ⟨e, _⟩) <;> omega
  | n + 1, m + 1 => by
    have e1 : List.replicate (n + 1 + 1) c = c :: List.replicate (n + 1) c := List.replicate_succ
    have e2 : List.replicate (m + 1 + 1) d = d :: List.replicate (m + 1) d := List.replicate_succ
    rw [e1, e2, List.cons_append, List.cons_append, List.cons_prefix_cons, rep_prefix hA hB n m]
    constructor
    · rintro ⟨e, _, ⟨h1, h2⟩ | ⟨h1, h2⟩⟩
      · exact ⟨e, .inl ⟨by omega, h2⟩⟩
      · exact ⟨e, .inr ⟨by omega, h2⟩⟩
    · rintro ⟨e, ⟨h1, h2⟩ | ⟨h1, h2⟩⟩
      · exact ⟨e, e, .inl ⟨by omega, h2⟩⟩
      · exact ⟨e, e, .inr ⟨by omega, h2⟩⟩

/-- does the text a begin s? by runs -/
def Tx.pre : List (Int × Int) → List (Int × Int) → Bool
  | [], _ => true
  | _ :: _, [] => false
  | [x], y :: _ => Tx.wi x y
  | x :: x' :: a, y :: s => decide (x = y) && Tx.pre (x' :: a) s
theorem Tx.pre_iff : ∀ (a s : List (Int × Int)), Tx.Own a → Tx.Own s → (Tx.pre a s = true ↔ Lt.expand a <+: Lt.expand s)
  | [], s, _, _ => by simp [Tx.pre, Lt.expand]
  | x :: a, [], ha, _ => by
    have hx := (ha.pos x (by simp)).2
    obtain ⟨n, hn⟩ : ∃ n, x.2.toNat = n + 1 := ⟨x.2.toNat - 1, by omega⟩
    have : Lt.expand ([] : List (Int × Int)) = [] := rfl
    rw [this, Lt.expand_cons, hn, List.replicate_succ]
    cases a <;> simp [Tx.pre]
  | [x], y :: s, ha, hs => by
    have hx := (ha.pos x (by simp)).2
    have hy := (hs.pos y (by simp)).2
    obtain ⟨n, hn⟩ : ∃ n, x.2.toNat = n + 1 := ⟨x.2.toNat - 1, by omega⟩
    obtain ⟨m, hm⟩ : ∃ m, y.2.toNat = m + 1 := ⟨y.2.toNat - 1, by omega⟩
    rw [Lt.expand_cons, Lt.expand_cons, hn, hm, rep_prefix ha.head hs.head]
    simp only [Tx.pre, Tx.wi, Bool.and_eq_true, decide_eq_true_eq]
    refine and_congr_right fun _ => ?_
    have : Lt.expand ([] : List (Int × Int)) = [] := rfl
    rw [this]
    constructor
    · intro h
      rcases Nat.lt_or_ge n m with h1 | h1
      · exact .inr ⟨h1, rfl⟩
      · exact .inl ⟨by omega, List.nil_prefix⟩
    · rintro (⟨h, _⟩ | ⟨h, _⟩) <;> omega
  | x :: x' :: a, y :: s, ha, hs => by
    have hx := (ha.pos x (by simp)).2
    have hy := (hs.pos y (by simp)).2
    have hx' := (ha.pos x' (by simp)).2
    obtain ⟨n, hn⟩ : ∃ n, x.2.toNat = n + 1 := ⟨x.2.toNat - 1, by omega⟩
    obtain ⟨m, hm⟩ : ∃ m, y.2.toNat = m + 1 := ⟨y.2.toNat - 1, by omega⟩
    rw [Lt.expand_cons x, Lt.expand_cons y, hn, hm, rep_prefix ha.head hs.head, Tx.pre, Bool.and_eq_true, decide_eq_true_eq, Tx.pre_iff (x' :: a) s ha.tail hs.tail]
    have hne : Lt.expand (x' :: a) ≠ [] := by
      obtain ⟨k, hk⟩ : ∃ k, x'.2.toNat = k + 1 := ⟨x'.2.toNat - 1, by omega⟩
      rw [Lt.expand_cons, hk, List.replicate_succ]
      simp
    constructor
    · rintro ⟨rfl, h⟩
      exact ⟨rfl, .inl ⟨by omega, h⟩⟩
    · rintro ⟨e, ⟨e2, h⟩ | ⟨_, h⟩⟩
      · exact ⟨Prod.ext e (by omega), h⟩
      · exact absurd h hne
theorem Tx.pre_form : ∀ (a s : List (Int × Int)), Tx.pre a s = true ↔ a = [] ∨ ∃ A x y U, a = A ++ [x] ∧ s = A ++ y :: U ∧ Tx.wi x y = true
  | [], s => by simp [Tx.pre]
  | x :: a, [] => by
    have : Tx.pre (x :: a) [] = false := by cases a <;> rfl
    rw [this]
    simp
  | [x], y :: s => by
    simp only [Tx.pre]
    constructor
    · intro h
      exact .inr ⟨[], x, y, s, rfl, rfl, h⟩
    · rintro (h | ⟨A, x', y', U, h1, h2, h3⟩)
      · cases h
      · cases A with
        | nil =>
          simp at h1 h2
          rw [h1, h2.1]
          exact h3
        | cons b A => simp at h1
  | x :: x' :: a, y :: s => by
    rw [Tx.pre, Bool.and_eq_true, decide_eq_true_eq, Tx.pre_form (x' :: a) s]
    constructor
    · rintro ⟨rfl, h | ⟨A, u, v, U, h1, h2, h3⟩⟩
      · cases h
      · exact .inr ⟨x :: A, u, v, U, by rw [h1]; rfl, by rw [h2]; rfl, h3⟩
    · rintro (h | ⟨A, u, v, U, h1, h2, h3⟩)
      · cases h
      · cases A with
        | nil => simp at h1
        | cons b A =>
          simp at h1 h2
          exact ⟨by rw [h1.1, h2.1], .inr ⟨A, u, v, U, h1.2, h2.2, h3⟩⟩
/-- .. as the code asks it -/
theorem Tx.pre_code {a s : List (Int × Int)} {k : Nat} {x y : Int × Int} (hk : a.length = k + 1) (hx : a[k]? = some x) (hy : s[k]? = some y) : Tx.pre a s = (sameR (a.take k) (s.take k) && Tx.wi x y) := by
  rw [Bool.eq_iff_iff, Tx.pre_form, Bool.and_eq_true, sameR, decide_eq_true_eq]
  have ea : a = a.take k ++ [x] := by
    rw [← take_one hx, List.take_of_length_le (by omega)]
  constructor
  · rintro (h | ⟨A, u, v, U, h1, h2, h3⟩)
    · rw [h] at hk
      cases hk
    · have hA : A.length = k := by
        rw [h1] at hk
        simpa using hk
      subst hA
      rw [h1, List.getElem?_append_right (Nat.le_refl _)] at hx
      rw [h2, List.getElem?_append_right (Nat.le_refl _)] at hy
      simp at hx hy
      subst hx
      subst hy
      refine ⟨?_, h3⟩
      rw [h1, h2, List.take_left' rfl, List.take_left' rfl]
  · rintro ⟨h1, h2⟩
    refine .inr ⟨a.take k, x, y, s.drop (k + 1), ea, ?_, h2⟩
    obtain ⟨hl, e⟩ := List.getElem?_eq_some_iff.1 hy
    rw [h1, ← e, ← List.drop_eq_getElem_cons hl, List.take_append_drop]

theorem Tx.stands_zero {l m : List Int} : Tx.standsB l m 0 = true ↔ m <+: l := by
  rw [Tx.standsB_iff]
  unfold Tx.Stands
  simp
theorem Tx.stands_end {l m : List Int} : Tx.standsB l m ((l.length : Int) - m.length) = true ↔ m <:+ l := by
  rw [Tx.standsB_iff]
  unfold Tx.Stands
  constructor
  · rintro ⟨h0, h1, h2⟩
    have e : ((l.length : Int) - m.length).toNat = l.length - m.length := by omega
    rw [e] at h2
    have : m = l.drop (l.length - m.length) := h2.eq_of_length (by rw [List.length_drop]; omega)
    rw [this]
    exact List.drop_suffix _ _
  · intro h
    have hl := h.length_le
    have e : ((l.length : Int) - m.length).toNat = l.length - m.length := by omega
    rw [e]
    refine ⟨by omega, by omega, ?_⟩
    rw [← List.suffix_iff_eq_drop.1 h]
    exact List.prefix_refl _
end Go.Proofs.Ytdpbglofijpfnaa
