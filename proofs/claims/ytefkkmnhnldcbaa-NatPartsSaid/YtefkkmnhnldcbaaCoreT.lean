/- Whole numbers as lists of digits to one base, the lowest first: what lists are, how they are cut. Plain mathematics, nothing of the program. -/
import Derived.WalkKit
namespace Go.Proofs.Ytefkkmnhnldcbaa
namespace T

/-- the base -/
def BB : Nat := 10
theorem BB_eq : BB = 10 := rfl
theorem BB_pos : 0 < BB := by unfold BB; omega

/-- what limbs say -/
def val : List Nat → Nat
  | [] => 0
  | x :: l => x + BB * val l

theorem getD_lt {l : List Nat} {j : Nat} (h : j < l.length) : l.getD j 0 = l[j] := by simp [List.getD_eq_getElem?_getD, h]
theorem getD_ge {l : List Nat} {j : Nat} (h : l.length ≤ j) : l.getD j 0 = 0 := by simp [List.getD_eq_getElem?_getD, h]

/-- each limb fits -/
def Fit (l : List Nat) : Prop := ∀ j, l.getD j 0 < BB

theorem Fit.nil : Fit [] := fun j => by simp [BB_pos]
theorem Fit.cons {x : Nat} {l : List Nat} (hx : x < BB) (h : Fit l) : Fit (x :: l) := fun j => by
  cases j with
  | zero => simpa using hx
  | succ j => simpa using h j
theorem Fit.head {x : Nat} {l : List Nat} (h : Fit (x :: l)) : x < BB := by simpa using h 0
theorem Fit.tail {x : Nat} {l : List Nat} (h : Fit (x :: l)) : Fit l := fun j => by simpa using h (j + 1)
theorem Fit.mem {l : List Nat} (h : Fit l) {x : Nat} (hx : x ∈ l) : x < BB := by
  obtain ⟨j, hj, rfl⟩ := List.getElem_of_mem hx
  have := h j
  rwa [getD_lt hj] at this
theorem Fit.of_mem {l : List Nat} (h : ∀ x ∈ l, x < BB) : Fit l := fun j => by
  by_cases hj : j < l.length
  · rw [getD_lt hj]; exact h _ (List.getElem_mem hj)
  · rw [getD_ge (by omega)]; exact BB_pos
theorem Fit.take {l : List Nat} (h : Fit l) (n : Nat) : Fit (l.take n) := Fit.of_mem fun _ hx => h.mem (List.mem_of_mem_take hx)
theorem Fit.drop {l : List Nat} (h : Fit l) (n : Nat) : Fit (l.drop n) := Fit.of_mem fun _ hx => h.mem (List.mem_of_mem_drop hx)
theorem Fit.append {l m : List Nat} (h : Fit l) (k : Fit m) : Fit (l ++ m) := Fit.of_mem fun x hx => by
  rcases List.mem_append.1 hx with hx | hx
  · exact h.mem hx
  · exact k.mem hx

theorem val_nil : val [] = 0 := rfl
theorem val_cons (x : Nat) (l : List Nat) : val (x :: l) = x + BB * val l := rfl
theorem val_append (l m : List Nat) : val (l ++ m) = val l + BB ^ l.length * val m := by
  induction l with
  | nil => simp [val]
  | cons x l ih =>
    rw [List.cons_append, val_cons, val_cons, ih, List.length_cons, Nat.pow_succ, Nat.mul_add, ← Nat.mul_assoc, Nat.mul_comm BB (BB ^ l.length)]
    omega
theorem val_lt {l : List Nat} (h : Fit l) : val l < BB ^ l.length := by
  induction l with
  | nil => simp [val]
  | cons x l ih =>
    have h1 := ih h.tail
    have hx := h.head
    rw [val_cons, List.length_cons, Nat.pow_succ]
    have h2 : BB * (val l + 1) ≤ BB * BB ^ l.length := Nat.mul_le_mul_left _ h1
    rw [Nat.mul_comm BB (BB ^ l.length)] at h2
    rw [Nat.mul_add] at h2
    omega
/-- a limb more -/
theorem val_snoc (l : List Nat) (x : Nat) : val (l ++ [x]) = val l + BB ^ l.length * x := by rw [val_append, val_cons, val_nil]; simp
theorem val_take_succ (l : List Nat) (k : Nat) (h : k < l.length) : val (l.take (k + 1)) = val (l.take k) + BB ^ k * l.getD k 0 := by
  rw [List.take_succ_eq_append_getElem h, val_snoc, List.length_take, getD_lt h]
  rw [Nat.min_eq_left (by omega)]
/-- noughts behind say nothing -/
theorem val_zeros (l : List Nat) (n : Nat) (h : ∀ j, n ≤ j → l.getD j 0 = 0) : val (l.take n) = val l := by
  induction l generalizing n with
  | nil => simp
  | cons x l ih =>
    cases n with
    | zero =>
      have hx : x = 0 := by simpa using h 0 (by omega)
      have := ih 0 (fun j _ => by simpa using h (j + 1) (by omega))
      simp only [List.take_zero, val_nil] at this
      rw [List.take_zero, val_nil, val_cons, ← this, hx]; simp
    | succ n =>
      rw [List.take_succ_cons, val_cons, val_cons, ih n (fun j hj => by simpa using h (j + 1) (by omega))]
theorem val_replicate_zero (n : Nat) : val (List.replicate n 0) = 0 := by
  induction n with
  | zero => rfl
  | succ n ih => rw [List.replicate_succ, val_cons, ih]; simp

/-- the highest limb isn't 0 -/
def Top (l : List Nat) : Prop := l ≠ [] → l.getD (l.length - 1) 0 ≠ 0

theorem Top.nil : Top [] := fun h => absurd rfl h
theorem Top.tail {x : Nat} {l : List Nat} (h : Top (x :: l)) : Top l := fun hl => by
  have h1 := h (by simp)
  cases l with
  | nil => exact absurd rfl hl
  | cons y l => simpa using h1
theorem Top.pos {l : List Nat} (h : Top l) (hl : l ≠ []) : 0 < val l := by
  induction l with
  | nil => exact absurd rfl hl
  | cons x l ih =>
    rw [val_cons]
    by_cases e : l = []
    · subst e
      have := h (by simp)
      simp at this
      omega
    · have := ih h.tail e
      have h2 : 0 < BB * val l := Nat.mul_pos BB_pos this
      omega
theorem Top.eq_nil {l : List Nat} (h : Top l) (hv : val l = 0) : l = [] := by
  by_cases e : l = []
  · exact e
  · have := h.pos e
    omega
/-- numbers have one list -/
theorem uniq {l m : List Nat} (hl : Fit l) (hm : Fit m) (tl : Top l) (tm : Top m) (h : val l = val m) : l = m := by
  induction l generalizing m with
  | nil => exact (tm.eq_nil h.symm).symm
  | cons x l ih =>
    cases m with
    | nil => exact tl.eq_nil h
    | cons y m =>
      rw [val_cons, val_cons] at h
      have hx := hl.head
      have hy := hm.head
      have e1 : x = y := by
        have := congrArg (· % BB) h
        simp only [Nat.add_mul_mod_self_left] at this
        rwa [Nat.mod_eq_of_lt hx, Nat.mod_eq_of_lt hy] at this
      subst e1
      have e2 : val l = val m := Nat.eq_of_mul_eq_mul_left BB_pos (by omega)
      rw [ih hl.tail hm.tail tl.tail tm.tail e2]
/-- the longer number is the greater one -/
theorem val_ge {l : List Nat} (t : Top l) (hl : l ≠ []) : BB ^ (l.length - 1) ≤ val l := by
  induction l with
  | nil => exact absurd rfl hl
  | cons x l ih =>
    by_cases e : l = []
    · subst e
      have := t (by simp)
      simp [val] at this ⊢
      omega
    · have h1 := ih t.tail e
      have hn : 0 < l.length := List.length_pos_iff.2 e
      rw [val_cons, List.length_cons, Nat.add_sub_cancel]
      have h2 : BB * BB ^ (l.length - 1) ≤ BB * val l := Nat.mul_le_mul_left _ h1
      have h3 : BB * BB ^ (l.length - 1) = BB ^ l.length := by
        rw [Nat.mul_comm, ← Nat.pow_succ]; congr 1; omega
      omega
theorem lt_of_shorter {l m : List Nat} (hl : Fit l) (tm : Top m) (h : l.length < m.length) : val l < val m := by
  have h1 := val_lt hl
  have h2 := val_ge tm (by intro e; subst e; simp at h)
  have h3 : BB ^ l.length ≤ BB ^ (m.length - 1) := Nat.pow_le_pow_right BB_pos (by omega)
  omega
theorem len_le {l : List Nat} {n k : Nat} (t : Top l) (hn : l.length = n) (h : val l < BB ^ k) : n ≤ k := by
  subst hn
  rcases Nat.lt_or_ge k l.length with h1 | h1
  · have h2 := val_ge t (by intro e; subst e; simp at h1)
    have h3 : BB ^ k ≤ BB ^ (l.length - 1) := Nat.pow_le_pow_right BB_pos (by omega)
    omega
  · exact h1
theorem val_at (l : List Nat) (i : Nat) (h : i < l.length) : val l = val (l.take i) + BB ^ i * (l.getD i 0 + BB * val (l.drop (i + 1))) := by
  have e : l = l.take i ++ (l.getD i 0 :: l.drop (i + 1)) := by
    rw [getD_lt h, List.getElem_cons_drop, List.take_append_drop]
  have hl : (l.take i).length = i := by rw [List.length_take]; omega
  have e2 := val_append (l.take i) (l.getD i 0 :: l.drop (i + 1))
  rw [← e, hl, val_cons] at e2
  exact e2
theorem drop_eq {l m : List Nat} (i : Nat) (hl : l.length = m.length) (h : ∀ j, i ≤ j → l.getD j 0 = m.getD j 0) : l.drop i = m.drop i := by
  refine List.ext_getElem (by simp [hl]) fun j h1 h2 => ?_
  rw [List.getElem_drop, List.getElem_drop]
  have := h (i + j) (by omega)
  rwa [getD_lt (by simp at h1; omega), getD_lt (by simp at h2; omega)] at this
/-- the highest limb that differs decides -/
theorem lt_of_top {l m : List Nat} (i : Nat) (hl : l.length = m.length) (hi : i < l.length) (fl : Fit l) (h : ∀ j, i + 1 ≤ j → l.getD j 0 = m.getD j 0) (hx : l.getD i 0 < m.getD i 0) : val l < val m := by
  rw [val_at l i hi, val_at m i (by omega), drop_eq (i + 1) hl h]
  have h1 := val_lt (fl.take i)
  rw [List.length_take, Nat.min_eq_left (by omega)] at h1
  generalize BB * val (m.drop (i + 1)) = t
  have h2 : BB ^ i * (l.getD i 0 + t + 1) ≤ BB ^ i * (m.getD i 0 + t) := Nat.mul_le_mul_left _ (by omega)
  rw [Nat.mul_add _ _ 1] at h2
  omega
theorem eq_of_all {l m : List Nat} (hl : l.length = m.length) (h : ∀ j, 0 ≤ j → l.getD j 0 = m.getD j 0) : l = m := by
  have := drop_eq 0 hl h
  simpa using this
/-- how two numbers stand -/
def cmpI (a b : Nat) : Int := if a < b then -1 else if a = b then 0 else 1
theorem cmpI_lt {a b : Nat} (h : a < b) : cmpI a b = -1 := by simp [cmpI, h]
theorem cmpI_eq (a : Nat) : cmpI a a = 0 := by simp [cmpI]
theorem cmpI_gt {a b : Nat} (h : b < a) : cmpI a b = 1 := by
  unfold cmpI
  rw [if_neg (by omega), if_neg (by omega)]
theorem take_set (l : List Nat) (i x : Nat) (h : i < l.length) : (l.set i x).take (i + 1) = l.take i ++ [x] := by
  rw [List.take_succ_eq_append_getElem (by simpa using h), List.getElem_set_self, List.take_set_of_le (by omega)]
theorem set_ne (l : List Nat) (i j x : Nat) (h : i ≠ j) : (l.set i x).getD j 0 = l.getD j 0 := by
  simp [List.getD_eq_getElem?_getD, List.getElem?_set_ne h]
theorem set_eq (l : List Nat) (i x : Nat) (h : i < l.length) : (l.set i x).getD i 0 = x := by
  simp [List.getD_eq_getElem?_getD, h]
theorem Fit.set {l : List Nat} (h : Fit l) (i x : Nat) (hx : x < BB) : Fit (l.set i x) := Fit.of_mem fun y hy => by
  rcases List.mem_or_eq_of_mem_set hy with h1 | rfl
  · exact h.mem h1
  · exact hx
/-- any list's first i + 1 limbs, also beyond its end -/
theorem val_take_any (l : List Nat) (i : Nat) : val (l.take (i + 1)) = val (l.take i) + BB ^ i * l.getD i 0 := by
  rcases Nat.lt_or_ge i l.length with h | h
  · exact val_take_succ l i h
  · rw [List.take_of_length_le (by omega), List.take_of_length_le h, getD_ge h]; simp
theorem val_take_len (l : List Nat) {n : Nat} (h : l.length ≤ n) : val (l.take n) = val l := by rw [List.take_of_length_le h]

end T
end Go.Proofs.Ytefkkmnhnldcbaa
