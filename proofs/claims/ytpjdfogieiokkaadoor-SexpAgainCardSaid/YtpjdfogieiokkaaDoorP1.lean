/- S-expressions, whatever they hold. Nothing of the program's text. -/
import Derived.Test.YtpjdfogieiokkaaDoorT0
namespace Go.Proofs.YtpjdfogieiokkaaDoor

/-- an s-expression: is it a list; its token (kind, text, place); its place; what it has -/
structure Sx where
  list : Bool
  k : Int
  T : ByteArray
  ta : Int
  at_ : Int
  L : List Sx

def Sx.zero : Sx := ⟨false, 0, ByteArray.empty, 0, 0, []⟩
/-- how deep it is, told up to a most -/
def Sx.dep : Nat → Sx → Nat
  | 0, _ => 0
  | m + 1, x => if x.list then (x.L.map (Sx.dep m)).foldl max 0 + 1 else 0
mutual
/-- how many atoms and lists -/
def Sx.size : Sx → Nat
  | ⟨_, _, _, _, _, L⟩ => Sx.sizes L + 1
def Sx.sizes : List Sx → Nat
  | [] => 0
  | x :: l => Sx.size x + Sx.sizes l
end
mutual
/-- what of it is compared: with places, or without -/
def Sx.key (p : Bool) : Sx → Sx
  | ⟨list, k, T, ta, a, L⟩ => if list then ⟨true, 0, ByteArray.empty, 0, if p then a else 0, Sx.keys p L⟩ else ⟨false, k, T, if p then ta else 0, if p then a else 0, L.map fun _ => Sx.zero⟩
def Sx.keys (p : Bool) : List Sx → List Sx
  | [] => []
  | x :: l => Sx.key p x :: Sx.keys p l
end
theorem Sx.sizes_app : ∀ l m : List Sx, Sx.sizes (l ++ m) = Sx.sizes l + Sx.sizes m
  | [], m => by simp [Sx.sizes]
  | x :: l, m => by rw [List.cons_append, Sx.sizes, Sx.sizes, Sx.sizes_app l m]; omega
theorem Sx.size_eq (x : Sx) : x.size = Sx.sizes x.L + 1 := by cases x; rw [Sx.size]
theorem Sx.sizes_get {l : List Sx} {i : Nat} {x : Sx} (h : l[i]? = some x) : x.size + Sx.sizes (l.drop (i + 1)) = Sx.sizes (l.drop i) := by
  obtain ⟨hi, rfl⟩ := List.getElem?_eq_some_iff.1 h
  rw [List.drop_eq_getElem_cons hi, Sx.sizes]
theorem Sx.sizes_le {l : List Sx} {x : Sx} (h : x ∈ l) : x.size ≤ Sx.sizes l := by
  obtain ⟨a, b, rfl⟩ := List.append_of_mem h
  rw [Sx.sizes_app, Sx.sizes]
  omega
theorem Sx.size_lt {x y : Sx} (h : y ∈ x.L) : y.size < x.size := by
  have := Sx.sizes_le h
  rw [x.size_eq]
  omega
theorem Sx.size_pos (x : Sx) : 0 < x.size := by rw [x.size_eq]; omega
theorem Sx.sizes_length (l : List Sx) : l.length ≤ Sx.sizes l := by
  induction l with
  | nil => simp
  | cons x l ih => have := x.size_pos; rw [Sx.sizes, List.length_cons]; omega
theorem Sx.keys_map (p : Bool) (l : List Sx) : Sx.keys p l = l.map (Sx.key p) := by
  induction l with
  | nil => rfl
  | cons x l ih => rw [Sx.keys, List.map_cons, ih]
theorem Sx.key_list {p : Bool} {x : Sx} (h : x.list = true) : x.key p = ⟨true, 0, ByteArray.empty, 0, if p then x.at_ else 0, x.L.map (Sx.key p)⟩ := by
  cases x
  subst h
  rw [Sx.key, if_pos rfl, Sx.keys_map]
theorem Sx.key_atom {p : Bool} {x : Sx} (h : x.list = false) : x.key p = ⟨false, x.k, x.T, if p then x.ta else 0, if p then x.at_ else 0, x.L.map fun _ => Sx.zero⟩ := by
  cases x
  subst h
  rw [Sx.key, if_neg (by decide)]
theorem Sx.key_len {p : Bool} {x y : Sx} (h : x.key p = y.key p) : x.list = y.list ∧ (p = true → x.at_ = y.at_) ∧ x.L.length = y.L.length := by
  cases hx : x.list <;> cases hy : y.list
  · rw [Sx.key_atom hx, Sx.key_atom hy] at h
    injection h with h1 h2 h3 h4 h5 h6
    refine ⟨rfl, fun e => ?_, by simpa using congrArg List.length h6⟩
    rw [if_pos e, if_pos e] at h5
    exact h5
  · rw [Sx.key_atom hx, Sx.key_list hy] at h
    injection h with h1
    cases h1
  · rw [Sx.key_list hx, Sx.key_atom hy] at h
    injection h with h1
    cases h1
  · rw [Sx.key_list hx, Sx.key_list hy] at h
    injection h with h1 h2 h3 h4 h5 h6
    refine ⟨rfl, fun e => ?_, by simpa using congrArg List.length h6⟩
    rw [if_pos e, if_pos e] at h5
    exact h5
/-- are two the same? -/
noncomputable def Sx.same (p : Bool) (x y : Sx) : Bool := @decide (x.key p = y.key p) (Classical.propDecidable _)
noncomputable def Sx.sames (p : Bool) (l m : List Sx) : Bool := @decide (l.map (Sx.key p) = m.map (Sx.key p)) (Classical.propDecidable _)
theorem Sx.same_iff {p : Bool} {x y : Sx} : Sx.same p x y = true ↔ x.key p = y.key p := by unfold Sx.same; exact @decide_eq_true_iff _ (Classical.propDecidable _)
theorem Sx.sames_iff {p : Bool} {l m : List Sx} : Sx.sames p l m = true ↔ l.map (Sx.key p) = m.map (Sx.key p) := by unfold Sx.sames; exact @decide_eq_true_iff _ (Classical.propDecidable _)
theorem Sx.same_false {p : Bool} {x y : Sx} (h : ¬ x.key p = y.key p) : Sx.same p x y = false := by rw [← Bool.not_eq_true, Sx.same_iff]; exact h
theorem Sx.sames_cons {p : Bool} {x y : Sx} {l m : List Sx} : Sx.sames p (x :: l) (y :: m) = (Sx.same p x y && Sx.sames p l m) := by
  rw [Bool.eq_iff_iff, Bool.and_eq_true, Sx.sames_iff, Sx.sames_iff, Sx.same_iff, List.map_cons, List.map_cons, List.cons.injEq]
theorem Sx.sames_nil (p : Bool) : Sx.sames p [] [] = true := Sx.sames_iff.2 rfl
theorem Sx.same_list {p : Bool} {x y : Sx} (hx : x.list = true) (hy : y.list = true) (ha : p = true → x.at_ = y.at_) : Sx.same p x y = Sx.sames p x.L y.L := by
  rw [Bool.eq_iff_iff, Sx.same_iff, Sx.sames_iff, Sx.key_list hx, Sx.key_list hy]
  constructor
  · intro h
    injection h
  · intro h
    have e : (if p = true then x.at_ else 0) = if p = true then y.at_ else 0 := by
      split
      · rename_i hp
        exact ha hp
      · rfl
    rw [h, e]
theorem Sx.same_atom {p : Bool} {x y : Sx} (hx : x.list = false) (hy : y.list = false) (ha : p = true → x.at_ = y.at_) (hl : x.L.length = y.L.length) :
    Sx.same p x y = (decide (x.k = y.k) && decide (x.T = y.T) && (!p || decide (x.ta = y.ta))) := by
  rw [Bool.eq_iff_iff, Sx.same_iff, Sx.key_atom hx, Sx.key_atom hy]
  have e : (if p = true then x.at_ else 0) = if p = true then y.at_ else 0 := by
    split
    · rename_i hp
      exact ha hp
    · rfl
  have e2 : (x.L.map fun _ => Sx.zero) = y.L.map fun _ => Sx.zero := by
    rw [List.map_const', List.map_const', hl]
  rw [e, e2]
  simp only [Sx.mk.injEq, true_and, and_true, Bool.and_eq_true, decide_eq_true_eq, Bool.or_eq_true, Bool.not_eq_true']
  cases p <;> simp [and_assoc]

theorem foldl_max (l : List Nat) : ∀ a : Nat, l.foldl max a = max a (l.foldl max 0) := by
  induction l with
  | nil => intro a; simp
  | cons x l ih => intro a; rw [List.foldl_cons, List.foldl_cons, ih, ih (max 0 x)]; omega
theorem Sx.dep_le : ∀ (m : Nat) (x : Sx), Sx.dep m x ≤ m
  | 0, x => Nat.le_refl _
  | m + 1, x => by
    rw [Sx.dep]
    split
    · have : ∀ (l : List Sx), (l.map (Sx.dep m)).foldl max 0 ≤ m := by
        intro l
        induction l with
        | nil => simp
        | cons y l ih =>
          rw [List.map_cons, List.foldl_cons, foldl_max]
          have := Sx.dep_le m y
          omega
      exact Nat.succ_le_succ (this _)
    · omega
end Go.Proofs.YtpjdfogieiokkaaDoor
