/- several texts in one. -/
import Derived.WalkKit
/- Whole numbers as lists of digits to one base, the lowest first: what lists are, how they are cut. Plain mathematics, nothing of the program. -/
namespace Go.Proofs.YtkooconjkimgoaaDoor
namespace M

/-- the base -/
def BB : Nat := 4294967296
theorem BB_eq : BB = 4294967296 := rfl
theorem BB_pos : 0 < BB := by unfold BB; omega

/-- what limbs say -/
def val : List Nat → Nat
  | [] => 0
  | x :: l => x + BB * val l

theorem getD_lt {l : List Nat} {j : Nat} (h : j < l.length) : l.getD j 0 = l[j] := by simp [List.getD_eq_getElem?_getD, h]
theorem getD_ge {l : List Nat} {j : Nat} (h : l.length ≤ j) : l.getD j 0 = 0 := by simp [List.getD_eq_getElem?_getD, h]

/-- each limb fits -/
def Fit (l : List Nat) : Prop := ∀ j, l.getD j 0 < BB

theorem Fit.nil : Fit [] := fun j => by simp [BB_pos]
theorem Fit.cons {x : Nat} {l : List Nat} (hx : x < BB) (h : Fit l) : Fit (x :: l) := fun j => by
  cases j with
  | zero => simpa using hx
  | succ j => simpa using h j
theorem Fit.head {x : Nat} {l : List Nat} (h : Fit (x :: l)) : x < BB := by simpa using h 0
theorem Fit.tail {x : Nat} {l : List Nat} (h : Fit (x :: l)) : Fit l := fun j => by simpa using h (j + 1)
theorem Fit.mem {l : List Nat} (h : Fit l) {x : Nat} (hx : x ∈ l) : x < BB := by
  obtain ⟨j, hj, rfl⟩ := List.getElem_of_mem hx
  have := h j
  rwa [getD_lt hj] at this
theorem Fit.of_mem {l : List Nat} (h : ∀ x ∈ l, x < BB) : Fit l := fun j => by
  by_cases hj : j < l.length
  · rw [getD_lt hj]; exact h _ (List.getElem_mem hj)
  · rw [getD_ge (by omega)]; exact BB_pos
theorem Fit.take {l : List Nat} (h : Fit l) (n : Nat) : Fit (l.take n) := Fit.of_mem fun _ hx => h.mem (List.mem_of_mem_take hx)
theorem Fit.drop {l : List Nat} (h : Fit l) (n : Nat) : Fit (l.drop n) := Fit.of_mem fun _ hx => h.mem (List.mem_of_mem_drop hx)
theorem Fit.append {l m : List Nat} (h : Fit l) (k : Fit m) : Fit (l ++ m) := Fit.of_mem fun x hx => by
  rcases List.mem_append.1 hx with hx | hx
  · exact h.mem hx
  · exact k.mem hx

theorem val_nil : val [] = 0 := rfl
theorem val_cons (x : Nat) (l : List Nat) : val (x :: l) = x + BB * val l := rfl
theorem val_append (l m : List Nat) : val (l ++ m) = val l + BB ^ l.length * val m := by
  induction l with
  | nil => simp [val]
  | cons x l ih =>
    rw [List.cons_append, val_cons, val_cons, ih, List.length_cons, Nat.pow_succ, Nat.mul_add, ← Nat.mul_assoc, Nat.mul_comm BB (BB ^ l.length)]
    omega
theorem val_lt {l : List Nat} (h : Fit l) : val l < BB ^ l.length := by
  induction l with
  | nil => simp [val]
  | cons x l ih =>
    have h1 := ih h.tail
    have hx := h.head
    rw [val_cons, List.length_cons, Nat.pow_succ]
    have h2 : BB * (val l + 1) ≤ BB * BB ^ l.length := Nat.mul_le_mul_left _ h1
    rw [Nat.mul_comm BB (BB ^ l.length)] at h2
    rw [Nat.mul_add] at h2
    omega
/-- a limb more -/
theorem val_snoc (l : List Nat) (x : Nat) : val (l ++ [x]) = val l + BB ^ l.length * x := by rw [val_append, val_cons, val_nil]; simp
theorem val_take_succ (l : List Nat) (k : Nat) (h : k < l.length) : val (l.take (k + 1)) = val (l.take k) + BB ^ k * l.getD k 0 := by
  rw [List.take_succ_eq_append_getElem h, val_snoc, List.length_take, getD_lt h]
  rw [Nat.min_eq_left (by omega)]
/-- noughts behind say nothing -/
theorem val_zeros (l : List Nat) (n : Nat) (h : ∀ j, n ≤ j → l.getD j 0 = 0) : val (l.take n) = val l := by
  induction l generalizing n with
  | nil => simp
  | cons x l ih =>
    cases n with
    | zero =>
      have hx : x = 0 := by simpa using h 0 (by omega)
      have := ih 0 (fun j _ => by simpa using h (j + 1) (by omega))
      simp only [List.take_zero, val_nil] at this
      rw [List.take_zero, val_nil, val_cons, ← this, hx]; simp
    | succ n =>
      rw [List.take_succ_cons, val_cons, val_cons, ih n (fun j hj => by simpa using h (j + 1) (by omega))]
theorem val_replicate_zero (n : Nat) : val (List.replicate n 0) = 0 := by
  induction n with
  | zero => rfl
  | succ n ih => rw [List.replicate_succ, val_cons, ih]; simp

/-- the highest limb isn't 0 -/
def Top (l : List Nat) : Prop := l ≠ [] → l.getD (l.length - 1) 0 ≠ 0

theorem Top.nil : Top [] := fun h => absurd rfl h
theorem Top.tail {x : Nat} {l : List Nat} (h : Top (x :: l)) : Top l := fun hl => by
  have h1 := h (by simp)
  cases l with
  | nil => exact absurd rfl hl
  | cons y l => simpa using h1
theorem Top.pos {l : List Nat} (h : Top l) (hl : l ≠ []) : 0 < val l := by
  induction l with
  | nil => exact absurd rfl hl
  | cons x l ih =>
    rw [val_cons]
    by_cases e : l = []
    · subst e
      have := h (by simp)
      simp at this
      omega
    · have := ih h.tail e
      have h2 : 0 < BB * val l := Nat.mul_pos BB_pos this
      omega
theorem Top.eq_nil {l : List Nat} (h : Top l) (hv : val l = 0) : l = [] := by
  by_cases e : l = []
  · exact e
  · have := h.pos e
    omega
/-- numbers have one list -/
theorem uniq {l m : List Nat} (hl : Fit l) (hm : Fit m) (tl : Top l) (tm : Top m) (h : val l = val m) : l = m := by
  induction l generalizing m with
  | nil => exact (tm.eq_nil h.symm).symm
  | cons x l ih =>
    cases m with
    | nil => exact tl.eq_nil h
    | cons y m =>
      rw [val_cons, val_cons] at h
      have hx := hl.head
      have hy := hm.head
      have e1 : x = y := by
        have := congrArg (· % BB) h
        simp only [Nat.add_mul_mod_self_left] at this
        rwa [Nat.mod_eq_of_lt hx, Nat.mod_eq_of_lt hy] at this
      subst e1
      have e2 : val l = val m := Nat.eq_of_mul_eq_mul_left BB_pos (by omega)
      rw [ih hl.tail hm.tail tl.tail tm.tail e2]
/-- the longer number is the greater one -/
theorem val_ge {l : List Nat} (t : Top l) (hl : l ≠ []) : BB ^ (l.length - 1) ≤ val l := by
  induction l with
  | nil => exact absurd rfl hl
  | cons x l ih =>
    by_cases e : l = []
    · subst e
      have := t (by simp)
      simp [val] at this ⊢
      omega
    · have h1 := ih t.tail e
      have hn : 0 < l.length := List.length_pos_iff.2 e
      rw [val_cons, List.length_cons, Nat.add_sub_cancel]
      have h2 : BB * BB ^ (l.length - 1) ≤ BB * val l := Nat.mul_le_mul_left _ h1
      have h3 : BB * BB ^ (l.length - 1) = BB ^ l.length := by
        rw [Nat.mul_comm, ← Nat.pow_succ]; congr 1; omega
      omega
theorem lt_of_shorter {l m : List Nat} (hl : Fit l) (tm : Top m) (h : l.length < m.length) : val l < val m := by
  have h1 := val_lt hl
  have h2 := val_ge tm (by intro e; subst e; simp at h)
  have h3 : BB ^ l.length ≤ BB ^ (m.length - 1) := Nat.pow_le_pow_right BB_pos (by omega)
  omega
theorem len_le {l : List Nat} {n k : Nat} (t : Top l) (hn : l.length = n) (h : val l < BB ^ k) : n ≤ k := by
  subst hn
  rcases Nat.lt_or_ge k l.length with h1 | h1
  · have h2 := val_ge t (by intro e; subst e; simp at h1)
    have h3 : BB ^ k ≤ BB ^ (l.length - 1) := Nat.pow_le_pow_right BB_pos (by omega)
    omega
  · exact h1
theorem val_at (l : List Nat) (i : Nat) (h : i < l.length) : val l = val (l.take i) + BB ^ i * (l.getD i 0 + BB * val (l.drop (i + 1))) := by
  have e : l = l.take i ++ (l.getD i 0 :: l.drop (i + 1)) := by
    rw [getD_lt h, List.getElem_cons_drop, List.take_append_drop]
  have hl : (l.take i).length = i := by rw [List.length_take]; omega
  have e2 := val_append (l.take i) (l.getD i 0 :: l.drop (i + 1))
  rw [← e, hl, val_cons] at e2
  exact e2
theorem drop_eq {l m : List Nat} (i : Nat) (hl : l.length = m.length) (h : ∀ j, i ≤ j → l.getD j 0 = m.getD j 0) : l.drop i = m.drop i := by
  refine List.ext_getElem (by simp [hl]) fun j h1 h2 => ?_
  rw [List.getElem_drop, List.getElem_drop]
  have := h (i + j) (by omega)
  rwa [getD_lt (by simp at h1; omega), getD_lt (by simp at h2; omega)] at this
/-- the highest limb that differs decides -/
theorem lt_of_top {l m : List Nat} (i : Nat) (hl : l.length = m.length) (hi : i < l.length) (fl : Fit l) (h : ∀ j, i + 1 ≤ j → l.getD j 0 = m.getD j 0) (hx : l.getD i 0 < m.getD i 0) : val l < val m := by
  rw [val_at l i hi, val_at m i (by omega), drop_eq (i + 1) hl h]
  have h1 := val_lt (fl.take i)
  rw [List.length_take, Nat.min_eq_left (by omega)] at h1
  generalize BB * val (m.drop (i + 1)) = t
  have h2 : BB ^ i * (l.getD i 0 + t + 1) ≤ BB ^ i * (m.getD i 0 + t) := Nat.mul_le_mul_left _ (by omega)
  rw [Nat.mul_add _ _ 1] at h2
  omega
theorem eq_of_all {l m : List Nat} (hl : l.length = m.length) (h : ∀ j, 0 ≤ j → l.getD j 0 = m.getD j 0) : l = m := by
  have := drop_eq 0 hl h
  simpa using this
/-- how two numbers stand -/
def cmpI (a b : Nat) : Int := if a < b then -1 else if a = b then 0 else 1
theorem cmpI_lt {a b : Nat} (h : a < b) : cmpI a b = -1 := by simp [cmpI, h]
theorem cmpI_eq (a : Nat) : cmpI a a = 0 := by simp [cmpI]
theorem cmpI_gt {a b : Nat} (h : b < a) : cmpI a b = 1 := by
  unfold cmpI
  rw [if_neg (by omega), if_neg (by omega)]
theorem take_set (l : List Nat) (i x : Nat) (h : i < l.length) : (l.set i x).take (i + 1) = l.take i ++ [x] := by
  rw [List.take_succ_eq_append_getElem (by simpa using h), List.getElem_set_self, List.take_set_of_le (by omega)]
theorem set_ne (l : List Nat) (i j x : Nat) (h : i ≠ j) : (l.set i x).getD j 0 = l.getD j 0 := by
  simp [List.getD_eq_getElem?_getD, List.getElem?_set_ne h]
theorem set_eq (l : List Nat) (i x : Nat) (h : i < l.length) : (l.set i x).getD i 0 = x := by
  simp [List.getD_eq_getElem?_getD, h]
theorem Fit.set {l : List Nat} (h : Fit l) (i x : Nat) (hx : x < BB) : Fit (l.set i x) := Fit.of_mem fun y hy => by
  rcases List.mem_or_eq_of_mem_set hy with h1 | rfl
  · exact h.mem h1
  · exact hx
/-- any list's first i + 1 limbs, also beyond its end -/
theorem val_take_any (l : List Nat) (i : Nat) : val (l.take (i + 1)) = val (l.take i) + BB ^ i * l.getD i 0 := by
  rcases Nat.lt_or_ge i l.length with h | h
  · exact val_take_succ l i h
  · rw [List.take_of_length_le (by omega), List.take_of_length_le h, getD_ge h]; simp
theorem val_take_len (l : List Nat) {n : Nat} (h : l.length ≤ n) : val (l.take n) = val l := by rw [List.take_of_length_le h]

end M
end Go.Proofs.YtkooconjkimgoaaDoor

/- Whole numbers as lists of digits to one base, the lowest first: what lists are, how they are cut. Plain mathematics, nothing of the program. -/
namespace Go.Proofs.YtkooconjkimgoaaDoor
namespace T

/-- the base -/
def BB : Nat := 10
theorem BB_eq : BB = 10 := rfl
theorem BB_pos : 0 < BB := by unfold BB; omega

/-- what limbs say -/
def val : List Nat → Nat
  | [] => 0
  | x :: l => x + BB * val l

theorem getD_lt {l : List Nat} {j : Nat} (h : j < l.length) : l.getD j 0 = l[j] := by simp [List.getD_eq_getElem?_getD, h]
theorem getD_ge {l : List Nat} {j : Nat} (h : l.length ≤ j) : l.getD j 0 = 0 := by simp [List.getD_eq_getElem?_getD, h]

/-- each limb fits -/
def Fit (l : List Nat) : Prop := ∀ j, l.getD j 0 < BB

theorem Fit.nil : Fit [] := fun j => by simp [BB_pos]
theorem Fit.cons {x : Nat} {l : List Nat} (hx : x < BB) (h : Fit l) : Fit (x :: l) := fun j => by
  cases j with
  | zero => simpa using hx
  | succ j => simpa using h j
theorem Fit.head {x : Nat} {l : List Nat} (h : Fit (x :: l)) : x < BB := by simpa using h 0
theorem Fit.tail {x : Nat} {l : List Nat} (h : Fit (x :: l)) : Fit l := fun j => by simpa using h (j + 1)
theorem Fit.mem {l : List Nat} (h : Fit l) {x : Nat} (hx : x ∈ l) : x < BB := by
  obtain ⟨j, hj, rfl⟩ := List.getElem_of_mem hx
  have := h j
  rwa [getD_lt hj] at this
theorem Fit.of_mem {l : List Nat} (h : ∀ x ∈ l, x < BB) : Fit l := fun j => by
  by_cases hj : j < l.length
  · rw [getD_lt hj]; exact h _ (List.getElem_mem hj)
  · rw [getD_ge (by omega)]; exact BB_pos
theorem Fit.take {l : List Nat} (h : Fit l) (n : Nat) : Fit (l.take n) := Fit.of_mem fun _ hx => h.mem (List.mem_of_mem_take hx)
theorem Fit.drop {l : List Nat} (h : Fit l) (n : Nat) : Fit (l.drop n) := Fit.of_mem fun _ hx => h.mem (List.mem_of_mem_drop hx)
theorem Fit.append {l m : List Nat} (h : Fit l) (k : Fit m) : Fit (l ++ m) := Fit.of_mem fun x hx => by
  rcases List.mem_append.1 hx with hx | hx
  · exact h.mem hx
  · exact k.mem hx

theorem val_nil : val [] = 0 := rfl
theorem val_cons (x : Nat) (l : List Nat) : val (x :: l) = x + BB * val l := rfl
theorem val_append (l m : List Nat) : val (l ++ m) = val l + BB ^ l.length * val m := by
  induction l with
  | nil => simp [val]
  | cons x l ih =>
    rw [List.cons_append, val_cons, val_cons, ih, List.length_cons, Nat.pow_succ, Nat.mul_add, ← Nat.mul_assoc, Nat.mul_comm BB (BB ^ l.length)]
    omega
theorem val_lt {l : List Nat} (h : Fit l) : val l < BB ^ l.length := by
  induction l with
  | nil => simp [val]
  | cons x l ih =>
    have h1 := ih h.tail
    have hx := h.head
    rw [val_cons, List.length_cons, Nat.pow_succ]
    have h2 : BB * (val l + 1) ≤ BB * BB ^ l.length := Nat.mul_le_mul_left _ h1
    rw [Nat.mul_comm BB (BB ^ l.length)] at h2
    rw [Nat.mul_add] at h2
    omega
/-- a limb more -/
theorem val_snoc (l : List Nat) (x : Nat) : val (l ++ [x]) = val l + BB ^ l.length * x := by rw [val_append, val_cons, val_nil]; simp
theorem val_take_succ (l : List Nat) (k : Nat) (h : k < l.length) : val (l.take (k + 1)) = val (l.take k) + BB ^ k * l.getD k 0 := by
  rw [List.take_succ_eq_append_getElem h, val_snoc, List.length_take, getD_lt h]
  rw [Nat.min_eq_left (by omega)]
/-- noughts behind say nothing -/
theorem val_zeros (l : List Nat) (n : Nat) (h : ∀ j, n ≤ j → l.getD j 0 = 0) : val (l.take n) = val l := by
  induction l generalizing n with
  | nil => simp
  | cons x l ih =>
    cases n with
    | zero =>
      have hx : x = 0 := by simpa using h 0 (by omega)
      have := ih 0 (fun j _ => by simpa using h (j + 1) (by omega))
      simp only [List.take_zero, val_nil] at this
      rw [List.take_zero, val_nil, val_cons, ← this, hx]; simp
    | succ n =>
      rw [List.take_succ_cons, val_cons, val_cons, ih n (fun j hj => by simpa using h (j + 1) (by omega))]
theorem val_replicate_zero (n : Nat) : val (List.replicate n 0) = 0 := by
  induction n with
  | zero => rfl
  | succ n ih => rw [List.replicate_succ, val_cons, ih]; simp

/-- the highest limb isn't 0 -/
def Top (l : List Nat) : Prop := l ≠ [] → l.getD (l.length - 1) 0 ≠ 0

theorem Top.nil : Top [] := fun h => absurd rfl h
theorem Top.tail {x : Nat} {l : List Nat} (h : Top (x :: l)) : Top l := fun hl => by
  have h1 := h (by simp)
  cases l with
  | nil => exact absurd rfl hl
  | cons y l => simpa using h1
theorem Top.pos {l : List Nat} (h : Top l) (hl : l ≠ []) : 0 < val l := by
  induction l with
  | nil => exact absurd rfl hl
  | cons x l ih =>
    rw [val_cons]
    by_cases e : l = []
    · subst e
      have := h (by simp)
      simp at this
      omega
    · have := ih h.tail e
      have h2 : 0 < BB * val l := Nat.mul_pos BB_pos this
      omega
theorem Top.eq_nil {l : List Nat} (h : Top l) (hv : val l = 0) : l = [] := by
  by_cases e : l = []
  · exact e
  · have := h.pos e
    omega
/-- numbers have one list -/
theorem uniq {l m : List Nat} (hl : Fit l) (hm : Fit m) (tl : Top l) (tm : Top m) (h : val l = val m) : l = m := by
  induction l generalizing m with
  | nil => exact (tm.eq_nil h.symm).symm
  | cons x l ih =>
    cases m with
    | nil => exact tl.eq_nil h
    | cons y m =>
      rw [val_cons, val_cons] at h
      have hx := hl.head
      have hy := hm.head
      have e1 : x = y := by
        have := congrArg (· % BB) h
        simp only [Nat.add_mul_mod_self_left] at this
        rwa [Nat.mod_eq_of_lt hx, Nat.mod_eq_of_lt hy] at this
      subst e1
      have e2 : val l = val m := Nat.eq_of_mul_eq_mul_left BB_pos (by omega)
      rw [ih hl.tail hm.tail tl.tail tm.tail e2]
/-- the longer number is the greater one -/
theorem val_ge {l : List Nat} (t : Top l) (hl : l ≠ []) : BB ^ (l.length - 1) ≤ val l := by
  induction l with
  | nil => exact absurd rfl hl
  | cons x l ih =>
    by_cases e : l = []
    · subst e
      have := t (by simp)
      simp [val] at this ⊢
      omega
    · have h1 := ih t.tail e
      have hn : 0 < l.length := List.length_pos_iff.2 e
      rw [val_cons, List.length_cons, Nat.add_sub_cancel]
      have h2 : BB * BB ^ (l.length - 1) ≤ BB * val l := Nat.mul_le_mul_left _ h1
      have h3 : BB * BB ^ (l.length - 1) = BB ^ l.length := by
        rw [Nat.mul_comm, ← Nat.pow_succ]; congr 1; omega
      omega
theorem lt_of_shorter {l m : List Nat} (hl : Fit l) (tm : Top m) (h : l.length < m.length) : val l < val m := by
  have h1 := val_lt hl
  have h2 := val_ge tm (by intro e; subst e; simp at h)
  have h3 : BB ^ l.length ≤ BB ^ (m.length - 1) := Nat.pow_le_pow_right BB_pos (by omega)
  omega
theorem len_le {l : List Nat} {n k : Nat} (t : Top l) (hn : l.length = n) (h : val l < BB ^ k) : n ≤ k := by
  subst hn
  rcases Nat.lt_or_ge k l.length with h1 | h1
  · have h2 := val_ge t (by intro e; subst e; simp at h1)
    have h3 : BB ^ k ≤ BB ^ (l.length - 1) := Nat.pow_le_pow_right BB_pos (by omega)
    omega
  · exact h1
theorem val_at (l : List Nat) (i : Nat) (h : i < l.length) : val l = val (l.take i) + BB ^ i * (l.getD i 0 + BB * val (l.drop (i + 1))) := by
  have e : l = l.take i ++ (l.getD i 0 :: l.drop (i + 1)) := by
    rw [getD_lt h, List.getElem_cons_drop, List.take_append_drop]
  have hl : (l.take i).length = i := by rw [List.length_take]; omega
  have e2 := val_append (l.take i) (l.getD i 0 :: l.drop (i + 1))
  rw [← e, hl, val_cons] at e2
  exact e2
theorem drop_eq {l m : List Nat} (i : Nat) (hl : l.length = m.length) (h : ∀ j, i ≤ j → l.getD j 0 = m.getD j 0) : l.drop i = m.drop i := by
  refine List.ext_getElem (by simp [hl]) fun j h1 h2 => ?_
  rw [List.getElem_drop, List.getElem_drop]
  have := h (i + j) (by omega)
  rwa [getD_lt (by simp at h1; omega), getD_lt (by simp at h2; omega)] at this
/-- the highest limb that differs decides -/
theorem lt_of_top {l m : List Nat} (i : Nat) (hl : l.length = m.length) (hi : i < l.length) (fl : Fit l) (h : ∀ j, i + 1 ≤ j → l.getD j 0 = m.getD j 0) (hx : l.getD i 0 < m.getD i 0) : val l < val m := by
  rw [val_at l i hi, val_at m i (by omega), drop_eq (i + 1) hl h]
  have h1 := val_lt (fl.take i)
  rw [List.length_take, Nat.min_eq_left (by omega)] at h1
  generalize BB * val (m.drop (i + 1)) = t
  have h2 : BB ^ i * (l.getD i 0 + t + 1) ≤ BB ^ i * (m.getD i 0 + t) := Nat.mul_le_mul_left _ (by omega)
  rw [Nat.mul_add _ _ 1] at h2
  omega
theorem eq_of_all {l m : List Nat} (hl : l.length = m.length) (h : ∀ j, 0 ≤ j → l.getD j 0 = m.getD j 0) : l = m := by
  have := drop_eq 0 hl h
  simpa using this
/-- how two numbers stand -/
def cmpI (a b : Nat) : Int := if a < b then -1 else if a = b then 0 else 1
theorem cmpI_lt {a b : Nat} (h : a < b) : cmpI a b = -1 := by simp [cmpI, h]
theorem cmpI_eq (a : Nat) : cmpI a a = 0 := by simp [cmpI]
theorem cmpI_gt {a b : Nat} (h : b < a) : cmpI a b = 1 := by
  unfold cmpI
  rw [if_neg (by omega), if_neg (by omega)]
theorem take_set (l : List Nat) (i x : Nat) (h : i < l.length) : (l.set i x).take (i + 1) = l.take i ++ [x] := by
  rw [List.take_succ_eq_append_getElem (by simpa using h), List.getElem_set_self, List.take_set_of_le (by omega)]
theorem set_ne (l : List Nat) (i j x : Nat) (h : i ≠ j) : (l.set i x).getD j 0 = l.getD j 0 := by
  simp [List.getD_eq_getElem?_getD, List.getElem?_set_ne h]
theorem set_eq (l : List Nat) (i x : Nat) (h : i < l.length) : (l.set i x).getD i 0 = x := by
  simp [List.getD_eq_getElem?_getD, h]
theorem Fit.set {l : List Nat} (h : Fit l) (i x : Nat) (hx : x < BB) : Fit (l.set i x) := Fit.of_mem fun y hy => by
  rcases List.mem_or_eq_of_mem_set hy with h1 | rfl
  · exact h.mem h1
  · exact hx
/-- any list's first i + 1 limbs, also beyond its end -/
theorem val_take_any (l : List Nat) (i : Nat) : val (l.take (i + 1)) = val (l.take i) + BB ^ i * l.getD i 0 := by
  rcases Nat.lt_or_ge i l.length with h | h
  · exact val_take_succ l i h
  · rw [List.take_of_length_le (by omega), List.take_of_length_le h, getD_ge h]; simp
theorem val_take_len (l : List Nat) {n : Nat} (h : l.length ≤ n) : val (l.take n) = val l := by rw [List.take_of_length_le h]

end T
end Go.Proofs.YtkooconjkimgoaaDoor

/- Whole numbers as lists of digits to one base, the lowest first: what lists are, how they are cut. Plain mathematics, nothing of the program. -/
namespace Go.Proofs.YtkooconjkimgoaaDoor
namespace W2

/-- the base -/
def BB : Nat := 2
theorem BB_eq : BB = 2 := rfl
theorem BB_pos : 0 < BB := by unfold BB; omega

/-- what limbs say -/
def val : List Nat → Nat
  | [] => 0
  | x :: l => x + BB * val l

theorem getD_lt {l : List Nat} {j : Nat} (h : j < l.length) : l.getD j 0 = l[j] := by simp [List.getD_eq_getElem?_getD, h]
theorem getD_ge {l : List Nat} {j : Nat} (h : l.length ≤ j) : l.getD j 0 = 0 := by simp [List.getD_eq_getElem?_getD, h]

/-- each limb fits -/
def Fit (l : List Nat) : Prop := ∀ j, l.getD j 0 < BB

theorem Fit.nil : Fit [] := fun j => by simp [BB_pos]
theorem Fit.cons {x : Nat} {l : List Nat} (hx : x < BB) (h : Fit l) : Fit (x :: l) := fun j => by
  cases j with
  | zero => simpa using hx
  | succ j => simpa using h j
theorem Fit.head {x : Nat} {l : List Nat} (h : Fit (x :: l)) : x < BB := by simpa using h 0
theorem Fit.tail {x : Nat} {l : List Nat} (h : Fit (x :: l)) : Fit l := fun j => by simpa using h (j + 1)
theorem Fit.mem {l : List Nat} (h : Fit l) {x : Nat} (hx : x ∈ l) : x < BB := by
  obtain ⟨j, hj, rfl⟩ := List.getElem_of_mem hx
  have := h j
  rwa [getD_lt hj] at this
theorem Fit.of_mem {l : List Nat} (h : ∀ x ∈ l, x < BB) : Fit l := fun j => by
  by_cases hj : j < l.length
  · rw [getD_lt hj]; exact h _ (List.getElem_mem hj)
  · rw [getD_ge (by omega)]; exact BB_pos
theorem Fit.take {l : List Nat} (h : Fit l) (n : Nat) : Fit (l.take n) := Fit.of_mem fun _ hx => h.mem (List.mem_of_mem_take hx)
theorem Fit.drop {l : List Nat} (h : Fit l) (n : Nat) : Fit (l.drop n) := Fit.of_mem fun _ hx => h.mem (List.mem_of_mem_drop hx)
theorem Fit.append {l m : List Nat} (h : Fit l) (k : Fit m) : Fit (l ++ m) := Fit.of_mem fun x hx => by
  rcases List.mem_append.1 hx with hx | hx
  · exact h.mem hx
  · exact k.mem hx

theorem val_nil : val [] = 0 := rfl
theorem val_cons (x : Nat) (l : List Nat) : val (x :: l) = x + BB * val l := rfl
theorem val_append (l m : List Nat) : val (l ++ m) = val l + BB ^ l.length * val m := by
  induction l with
  | nil => simp [val]
  | cons x l ih =>
    rw [List.cons_append, val_cons, val_cons, ih, List.length_cons, Nat.pow_succ, Nat.mul_add, ← Nat.mul_assoc, Nat.mul_comm BB (BB ^ l.length)]
    omega
theorem val_lt {l : List Nat} (h : Fit l) : val l < BB ^ l.length := by
  induction l with
  | nil => simp [val]
  | cons x l ih =>
    have h1 := ih h.tail
    have hx := h.head
    rw [val_cons, List.length_cons, Nat.pow_succ]
    have h2 : BB * (val l + 1) ≤ BB * BB ^ l.length := Nat.mul_le_mul_left _ h1
    rw [Nat.mul_comm BB (BB ^ l.length)] at h2
    rw [Nat.mul_add] at h2
    omega
/-- a limb more -/
theorem val_snoc (l : List Nat) (x : Nat) : val (l ++ [x]) = val l + BB ^ l.length * x := by rw [val_append, val_cons, val_nil]; simp
theorem val_take_succ (l : List Nat) (k : Nat) (h : k < l.length) : val (l.take (k + 1)) = val (l.take k) + BB ^ k * l.getD k 0 := by
  rw [List.take_succ_eq_append_getElem h, val_snoc, List.length_take, getD_lt h]
  rw [Nat.min_eq_left (by omega)]
/-- noughts behind say nothing -/
theorem val_zeros (l : List Nat) (n : Nat) (h : ∀ j, n ≤ j → l.getD j 0 = 0) : val (l.take n) = val l := by
  induction l generalizing n with
  | nil => simp
  | cons x l ih =>
    cases n with
    | zero =>
      have hx : x = 0 := by simpa using h 0 (by omega)
      have := ih 0 (fun j _ => by simpa using h (j + 1) (by omega))
      simp only [List.take_zero, val_nil] at this
      rw [List.take_zero, val_nil, val_cons, ← this, hx]; simp
    | succ n =>
      rw [List.take_succ_cons, val_cons, val_cons, ih n (fun j hj => by simpa using h (j + 1) (by omega))]
theorem val_replicate_zero (n : Nat) : val (List.replicate n 0) = 0 := by
  induction n with
  | zero => rfl
  | succ n ih => rw [List.replicate_succ, val_cons, ih]; simp

/-- the highest limb isn't 0 -/
def Top (l : List Nat) : Prop := l ≠ [] → l.getD (l.length - 1) 0 ≠ 0

theorem Top.nil : Top [] := fun h => absurd rfl h
theorem Top.tail {x : Nat} {l : List Nat} (h : Top (x :: l)) : Top l := fun hl => by
  have h1 := h (by simp)
  cases l with
  | nil => exact absurd rfl hl
  | cons y l => simpa using h1
theorem Top.pos {l : List Nat} (h : Top l) (hl : l ≠ []) : 0 < val l := by
  induction l with
  | nil => exact absurd rfl hl
  | cons x l ih =>
    rw [val_cons]
    by_cases e : l = []
    · subst e
      have := h (by simp)
      simp at this
      omega
    · have := ih h.tail e
      have h2 : 0 < BB * val l := Nat.mul_pos BB_pos this
      omega
theorem Top.eq_nil {l : List Nat} (h : Top l) (hv : val l = 0) : l = [] := by
  by_cases e : l = []
  · exact e
  · have := h.pos e
    omega
/-- numbers have one list -/
theorem uniq {l m : List Nat} (hl : Fit l) (hm : Fit m) (tl : Top l) (tm : Top m) (h : val l = val m) : l = m := by
  induction l generalizing m with
  | nil => exact (tm.eq_nil h.symm).symm
  | cons x l ih =>
    cases m with
    | nil => exact tl.eq_nil h
    | cons y m =>
      rw [val_cons, val_cons] at h
      have hx := hl.head
      have hy := hm.head
      have e1 : x = y := by
        have := congrArg (· % BB) h
        simp only [Nat.add_mul_mod_self_left] at this
        rwa [Nat.mod_eq_of_lt hx, Nat.mod_eq_of_lt hy] at this
      subst e1
      have e2 : val l = val m := Nat.eq_of_mul_eq_mul_left BB_pos (by omega)
      rw [ih hl.tail hm.tail tl.tail tm.tail e2]
/-- the longer number is the greater one -/
theorem val_ge {l : List Nat} (t : Top l) (hl : l ≠ []) : BB ^ (l.length - 1) ≤ val l := by
  induction l with
  | nil => exact absurd rfl hl
  | cons x l ih =>
    by_cases e : l = []
    · subst e
      have := t (by simp)
      simp [val] at this ⊢
      omega
    · have h1 := ih t.tail e
      have hn : 0 < l.length := List.length_pos_iff.2 e
      rw [val_cons, List.length_cons, Nat.add_sub_cancel]
      have h2 : BB * BB ^ (l.length - 1) ≤ BB * val l := Nat.mul_le_mul_left _ h1
      have h3 : BB * BB ^ (l.length - 1) = BB ^ l.length := by
        rw [Nat.mul_comm, ← Nat.pow_succ]; congr 1; omega
      omega
theorem lt_of_shorter {l m : List Nat} (hl : Fit l) (tm : Top m) (h : l.length < m.length) : val l < val m := by
  have h1 := val_lt hl
  have h2 := val_ge tm (by intro e; subst e; simp at h)
  have h3 : BB ^ l.length ≤ BB ^ (m.length - 1) := Nat.pow_le_pow_right BB_pos (by omega)
  omega
theorem len_le {l : List Nat} {n k : Nat} (t : Top l) (hn : l.length = n) (h : val l < BB ^ k) : n ≤ k := by
  subst hn
  rcases Nat.lt_or_ge k l.length with h1 | h1
  · have h2 := val_ge t (by intro e; subst e; simp at h1)
    have h3 : BB ^ k ≤ BB ^ (l.length - 1) := Nat.pow_le_pow_right BB_pos (by omega)
    omega
  · exact h1
theorem val_at (l : List Nat) (i : Nat) (h : i < l.length) : val l = val (l.take i) + BB ^ i * (l.getD i 0 + BB * val (l.drop (i + 1))) := by
  have e : l = l.take i ++ (l.getD i 0 :: l.drop (i + 1)) := by
    rw [getD_lt h, List.getElem_cons_drop, List.take_append_drop]
  have hl : (l.take i).length = i := by rw [List.length_take]; omega
  have e2 := val_append (l.take i) (l.getD i 0 :: l.drop (i + 1))
  rw [← e, hl, val_cons] at e2
  exact e2
theorem drop_eq {l m : List Nat} (i : Nat) (hl : l.length = m.length) (h : ∀ j, i ≤ j → l.getD j 0 = m.getD j 0) : l.drop i = m.drop i := by
  refine List.ext_getElem (by simp [hl]) fun j h1 h2 => ?_
  rw [List.getElem_drop, List.getElem_drop]
  have := h (i + j) (by omega)
  rwa [getD_lt (by simp at h1; omega), getD_lt (by simp at h2; omega)] at this
/-- the highest limb that differs decides -/
theorem lt_of_top {l m : List Nat} (i : Nat) (hl : l.length = m.length) (hi : i < l.length) (fl : Fit l) (h : ∀ j, i + 1 ≤ j → l.getD j 0 = m.getD j 0) (hx : l.getD i 0 < m.getD i 0) : val l < val m := by
  rw [val_at l i hi, val_at m i (by omega), drop_eq (i + 1) hl h]
  have h1 := val_lt (fl.take i)
  rw [List.length_take, Nat.min_eq_left (by omega)] at h1
  generalize BB * val (m.drop (i + 1)) = t
  have h2 : BB ^ i * (l.getD i 0 + t + 1) ≤ BB ^ i * (m.getD i 0 + t) := Nat.mul_le_mul_left _ (by omega)
  rw [Nat.mul_add _ _ 1] at h2
  omega
theorem eq_of_all {l m : List Nat} (hl : l.length = m.length) (h : ∀ j, 0 ≤ j → l.getD j 0 = m.getD j 0) : l = m := by
  have := drop_eq 0 hl h
  simpa using this
/-- how two numbers stand -/
def cmpI (a b : Nat) : Int := if a < b then -1 else if a = b then 0 else 1
theorem cmpI_lt {a b : Nat} (h : a < b) : cmpI a b = -1 := by simp [cmpI, h]
theorem cmpI_eq (a : Nat) : cmpI a a = 0 := by simp [cmpI]
theorem cmpI_gt {a b : Nat} (h : b < a) : cmpI a b = 1 := by
  unfold cmpI
  rw [if_neg (by omega), if_neg (by omega)]
theorem take_set (l : List Nat) (i x : Nat) (h : i < l.length) : (l.set i x).take (i + 1) = l.take i ++ [x] := by
  rw [List.take_succ_eq_append_getElem (by simpa using h), List.getElem_set_self, List.take_set_of_le (by omega)]
theorem set_ne (l : List Nat) (i j x : Nat) (h : i ≠ j) : (l.set i x).getD j 0 = l.getD j 0 := by
  simp [List.getD_eq_getElem?_getD, List.getElem?_set_ne h]
theorem set_eq (l : List Nat) (i x : Nat) (h : i < l.length) : (l.set i x).getD i 0 = x := by
  simp [List.getD_eq_getElem?_getD, h]
theorem Fit.set {l : List Nat} (h : Fit l) (i x : Nat) (hx : x < BB) : Fit (l.set i x) := Fit.of_mem fun y hy => by
  rcases List.mem_or_eq_of_mem_set hy with h1 | rfl
  · exact h.mem h1
  · exact hx
/-- any list's first i + 1 limbs, also beyond its end -/
theorem val_take_any (l : List Nat) (i : Nat) : val (l.take (i + 1)) = val (l.take i) + BB ^ i * l.getD i 0 := by
  rcases Nat.lt_or_ge i l.length with h | h
  · exact val_take_succ l i h
  · rw [List.take_of_length_le (by omega), List.take_of_length_le h, getD_ge h]; simp
theorem val_take_len (l : List Nat) {n : Nat} (h : l.length ≤ n) : val (l.take n) = val l := by rw [List.take_of_length_le h]

end W2
end Go.Proofs.YtkooconjkimgoaaDoor

/- Numbers to the base 2^32: how sums, differences, quotients go on limb by limb. Plain mathematics, nothing of the program. -/
namespace Go.Proofs.YtkooconjkimgoaaDoor
namespace M

/-- where an addition stands: i limbs are done -/
structure AddInv (a b L : List Nat) (n i c : Nat) : Prop where
  len : L.length = n + 1
  fit : Fit L
  rest : ∀ j, i ≤ j → j < n → L.getD j 0 = a.getD j 0
  sum : val (L.take i) + BB ^ i * c = val (a.take i) + val (b.take i)
  carry : c ≤ 1
theorem AddInv.start {a b : List Nat} {n : Nat} (ha : a.length = n) (fa : Fit a) : AddInv a b (a ++ [0]) n 0 0 :=
  ⟨by simp [ha], fa.append (Fit.cons BB_pos Fit.nil), fun j _ hj => by simp [List.getD_eq_getElem?_getD, List.getElem?_append_left (ha ▸ hj)], by simp [val], by omega⟩
theorem AddInv.step {a b L : List Nat} {n i c x y t : Nat} (h : AddInv a b L n i c) (hi : i < n) (hx : x = a.getD i 0) (hy : y = b.getD i 0) (fx : x < BB) (fy : y < BB) (ht : t = x + y + c) :
    AddInv a b (L.set i (t % BB)) n (i + 1) (t / BB) := by
  have hc := h.carry
  refine ⟨by simp [h.len], h.fit.set _ _ (Nat.mod_lt _ BB_pos), fun j hj hn => ?_, ?_, ?_⟩
  · rw [set_ne _ _ _ _ (by omega)]; exact h.rest j (by omega) hn
  · have hl : (L.take i).length = i := by rw [List.length_take, h.len]; omega
    rw [take_set _ _ _ (by rw [h.len]; omega), val_snoc, hl, val_take_any, val_take_any, ← hx, ← hy]
    have e : BB * (t / BB) + t % BB = t := Nat.div_add_mod t BB
    have h2 : BB ^ (i + 1) * (t / BB) = BB ^ i * (BB * (t / BB)) := by rw [Nat.pow_succ, Nat.mul_assoc]
    have h3 : BB ^ i * (t % BB) + BB ^ i * (BB * (t / BB)) = BB ^ i * t := by rw [← Nat.mul_add]; congr 1; omega
    have h4 : BB ^ i * t = BB ^ i * x + BB ^ i * y + BB ^ i * c := by rw [ht, Nat.mul_add, Nat.mul_add]
    have := h.sum
    omega
  · have := BB_eq
    have : t / BB < 2 := Nat.div_lt_of_lt_mul (by omega)
    omega
/-- all is done, or what is left stays as it is -/
theorem AddInv.end_ {a b L : List Nat} {n i c : Nat} (h : AddInv a b L n i c) (ha : a.length = n) (hb : b.length ≤ n) (hi : i ≤ n) (he : i = n ∨ (b.length ≤ i ∧ c = 0)) :
    val (L.set n c) = val a + val b := by
  have hs := h.sum
  have hln : n < L.length := by rw [h.len]; omega
  have e1 : L.set n c = L.take n ++ [c] := by
    rw [← take_set L n c hln, List.take_of_length_le (by simp [h.len])]
  have hl : (L.take n).length = n := by rw [List.length_take, h.len]; omega
  rw [e1, val_snoc, hl]
  rcases he with rfl | ⟨hbi, rfl⟩
  · rw [val_take_len a (by omega), val_take_len b hb] at hs
    exact hs
  · rw [val_take_len b hbi] at hs
    have e2 : val (L.take n) = val (L.take i) + BB ^ i * val ((L.take n).drop i) := by
      have := val_append ((L.take n).take i) ((L.take n).drop i)
      rw [List.take_append_drop, List.take_take, Nat.min_eq_left hi, List.length_take, h.len, Nat.min_eq_left (by omega)] at this
      exact this
    have e3 : val a = val (a.take i) + BB ^ i * val (a.drop i) := by
      have := val_append (a.take i) (a.drop i)
      rw [List.take_append_drop, List.length_take, ha, Nat.min_eq_left hi] at this
      exact this
    have e4 : (L.take n).drop i = a.drop i := drop_eq i (by rw [hl, ha]) fun j hj => by
      rcases Nat.lt_or_ge j n with h1 | h1
      · rw [← h.rest j hj h1]; simp [List.getD_eq_getElem?_getD, h1]
      · rw [getD_ge (by omega), getD_ge (by omega)]
    rw [e2, e4, e3]
    omega
/-- where a division by one limb stands: i limbs are left -/
structure DivInv (L0 L : List Nat) (n i d r : Nat) : Prop where
  len : L.length = L0.length
  fit : Fit L
  low : ∀ q, q < i → L.getD q 0 = L0.getD q 0
  high : ∀ q, n ≤ q → L.getD q 0 = L0.getD q 0
  sum : val ((L0.take n).drop i) = d * val ((L.take n).drop i) + r
  rest : r < d
theorem drop_cons (l : List Nat) (n i : Nat) (hi : i < n) (hn : n ≤ l.length) : (l.take n).drop i = l.getD i 0 :: (l.take n).drop (i + 1) := by
  rw [List.drop_eq_getElem_cons (by rw [List.length_take]; omega), List.getElem_take, getD_lt (by omega)]
theorem DivInv.start {L : List Nat} {n d : Nat} (f : Fit L) (hn : n ≤ L.length) (hd : 0 < d) : DivInv L L n n d 0 :=
  ⟨rfl, f, fun _ _ => rfl, fun _ _ => rfl, by rw [List.drop_of_length_le (by rw [List.length_take]; omega)]; simp [val], hd⟩
theorem DivInv.step {L0 L : List Nat} {n i d r x t : Nat} (h : DivInv L0 L n (i + 1) d r) (hi : i < n) (hn : n ≤ L0.length) (hx : x = L.getD i 0) (ht : t = x + BB * r) :
    t / d < BB ∧ DivInv L0 (L.set i (t / d)) n i d (t % d) := by
  have hd : 0 < d := by have := h.rest; omega
  have fx : x < BB := by rw [hx]; exact h.fit i
  have hq : t / d < BB := by
    refine Nat.div_lt_of_lt_mul ?_
    have h1 : BB * (r + 1) ≤ BB * d := Nat.mul_le_mul_left _ h.rest
    rw [Nat.mul_add] at h1
    rw [Nat.mul_comm d BB]
    omega
  refine ⟨hq, ⟨by rw [List.length_set, h.len], h.fit.set _ _ hq, fun q hq => ?_, fun q hq => ?_, ?_, Nat.mod_lt _ hd⟩⟩
  · rw [set_ne _ _ _ _ (by omega)]; exact h.low q (by omega)
  · rw [set_ne _ _ _ _ (by omega)]; exact h.high q (by omega)
  · have hl : n ≤ L.length := by rw [h.len]; exact hn
    have e1 := drop_cons L0 n i hi hn
    have e2 := drop_cons (L.set i (t / d)) n i hi (by rw [List.length_set]; exact hl)
    rw [set_eq _ _ _ (by omega)] at e2
    have e3 : ((L.set i (t / d)).take n).drop (i + 1) = (L.take n).drop (i + 1) := by
      rw [List.take_set, List.drop_set_of_lt (by omega)]
    have hs := h.sum
    rw [e1, e2, e3, val_cons, val_cons, hs, ← h.low i (by omega), ← hx]
    have e4 : d * (t / d) + t % d = t := Nat.div_add_mod t d
    generalize val ((L.take n).drop (i + 1)) = v
    have e5 : d * (t / d + BB * v) = d * (t / d) + BB * (d * v) := by rw [Nat.mul_add, Nat.mul_left_comm]
    rw [e5, Nat.mul_add]
    omega
theorem DivInv.end_ {L0 L : List Nat} {n d r : Nat} (h : DivInv L0 L n 0 d r) : val (L.take n) = val (L0.take n) / d ∧ r = val (L0.take n) % d := by
  have hs := h.sum
  rw [List.drop_zero, List.drop_zero] at hs
  have hr := h.rest
  rw [hs]
  constructor
  · rw [Nat.mul_add_div (by omega), Nat.div_eq_of_lt hr, Nat.add_zero]
  · rw [Nat.mul_add_mod, Nat.mod_eq_of_lt hr]
theorem drop_set' (L : List Nat) (o i x : Nat) : (L.set (o + i) x).drop o = (L.drop o).set i x := by
  rw [List.drop_set]
  rw [if_neg (by omega)]
  congr 1
  omega
theorem drop_get (L : List Nat) (o i : Nat) : (L.drop o).getD i 0 = L.getD (o + i) 0 := by
  simp [List.getD_eq_getElem?_getD]
/-- where k times b is added in place: i limbs are done -/
structure AT (l L0 L : List Nat) (o i k c : Nat) : Prop where
  len : L.length = L0.length
  fit : Fit L
  rest : ∀ q, q < o ∨ o + i ≤ q → L.getD q 0 = L0.getD q 0
  sum : val ((L.drop o).take i) + BB ^ i * c = val ((L0.drop o).take i) + val (l.take i) * k
  carry : c < BB
theorem AT.start {l L : List Nat} {o k : Nat} (f : Fit L) : AT l L L o 0 k 0 := ⟨rfl, f, fun _ _ => rfl, by simp [val], BB_pos⟩
theorem AT.step {l L0 L : List Nat} {o i k c x y t : Nat} (h : AT l L0 L o i k c) (hi : o + i < L0.length) (hx : x = l.getD i 0) (hy : y = L.getD (o + i) 0) (fx : x < BB) (fk : k < BB) (ht : t = x * k + y + c) :
    AT l L0 (L.set (o + i) (t % BB)) o (i + 1) k (t / BB) := by
  have fy : y < BB := by rw [hy]; exact h.fit _
  have hc := h.carry
  refine ⟨by simp [h.len], h.fit.set _ _ (Nat.mod_lt _ BB_pos), fun q hq => ?_, ?_, ?_⟩
  · rw [set_ne _ _ _ _ (by omega)]; exact h.rest q (by omega)
  · have hl : ((L.drop o).take i).length = i := by rw [List.length_take, List.length_drop, h.len]; omega
    rw [drop_set', take_set _ _ _ (by rw [List.length_drop, h.len]; omega), val_snoc, hl, val_take_any, val_take_any, drop_get, ← h.rest (o + i) (by omega), ← hx, ← hy]
    have e : BB * (t / BB) + t % BB = t := Nat.div_add_mod t BB
    have h2 : BB ^ (i + 1) * (t / BB) = BB ^ i * (BB * (t / BB)) := by rw [Nat.pow_succ, Nat.mul_assoc]
    have h3 : BB ^ i * (t % BB) + BB ^ i * (BB * (t / BB)) = BB ^ i * t := by rw [← Nat.mul_add]; congr 1; omega
    have h4 : BB ^ i * t = BB ^ i * x * k + BB ^ i * y + BB ^ i * c := by rw [ht, Nat.mul_add, Nat.mul_add, Nat.mul_assoc]
    have := h.sum
    rw [Nat.add_mul]
    omega
  · refine Nat.div_lt_of_lt_mul ?_
    have h1 : x * k ≤ (BB - 1) * (BB - 1) := Nat.mul_le_mul (by omega) (by omega)
    have h2 : BB * BB = (BB - 1) * (BB - 1) + 2 * (BB - 1) + 1 := by
      obtain ⟨b, hb⟩ : ∃ b, BB = b + 1 := ⟨BB - 1, by have := BB_pos; omega⟩
      rw [hb, Nat.add_sub_cancel, Nat.add_mul, Nat.mul_add]
      omega
    omega
theorem val_three (L : List Nat) (i m : Nat) (h : i + m ≤ L.length) : val L = val (L.take i) + BB ^ i * (val ((L.drop i).take m) + BB ^ m * val (L.drop (i + m))) := by
  have e1 := val_append (L.take i) (L.drop i)
  rw [List.take_append_drop, List.length_take, Nat.min_eq_left (by omega)] at e1
  have e2 := val_append ((L.drop i).take m) ((L.drop i).drop m)
  rw [List.take_append_drop, List.drop_drop, List.length_take, List.length_drop, Nat.min_eq_left (by omega)] at e2
  rw [e1, e2]
theorem val_zero_all {l : List Nat} (h : ∀ q, l.getD q 0 = 0) : val l = 0 := by
  have := val_zeros l 0 (fun j _ => h j)
  rw [← this]; rfl
/-- where a product stands: i limbs of a are done -/
structure MulInv (a b L : List Nat) (n m i : Nat) : Prop where
  len : L.length = n + m
  fit : Fit L
  high : ∀ q, i + m ≤ q → L.getD q 0 = 0
  sum : val L = val (a.take i) * val b
theorem MulInv.start (a b : List Nat) (n m : Nat) : MulInv a b (List.replicate (n + m) 0) n m 0 :=
  ⟨by simp, Fit.of_mem fun x hx => by rw [List.eq_of_mem_replicate hx]; exact BB_pos, fun q _ => by
    rcases Nat.lt_or_ge q (n + m) with h | h
    · rw [getD_lt (by simpa using h)]; simp
    · exact getD_ge (by simpa using h), by rw [val_replicate_zero]; simp [val]⟩
theorem MulInv.step {a b L L' : List Nat} {n m i c x : Nat} (h : MulInv a b L n m i) (hi : i < n) (hb : b.length = m) (hx : x = a.getD i 0)
    (k : AT b L L' i m x c) : MulInv a b (L'.set (i + m) c) n m (i + 1) := by
  have hl' : L'.length = n + m := by rw [k.len, h.len]
  refine ⟨by rw [List.length_set, hl'], k.fit.set _ _ k.carry, fun q hq => ?_, ?_⟩
  · rw [set_ne _ _ _ _ (by omega), k.rest q (by omega)]; exact h.high q (by omega)
  · have e1 := val_three L i m (by rw [h.len]; omega)
    have e2 := val_three (L'.set (i + m) c) i m (by rw [List.length_set, hl']; omega)
    have z1 : val (L.drop (i + m)) = 0 := val_zero_all fun q => by rw [drop_get]; exact h.high _ (by omega)
    have t1 : (L'.set (i + m) c).take i = L'.take i := by rw [List.take_set_of_le (by omega)]
    have t2 : L'.take i = L.take i := by
      refine List.ext_getElem (by simp [k.len]) fun q h1 h2 => ?_
      rw [List.getElem_take, List.getElem_take]
      rw [List.length_take] at h1 h2
      have := k.rest q (.inl (by omega))
      rwa [getD_lt (by omega), getD_lt (by omega)] at this
    have t3 : ((L'.set (i + m) c).drop i).take m = (L'.drop i).take m := by
      rw [drop_set', List.take_set_of_le (Nat.le_refl _)]
    have t4 : val ((L'.set (i + m) c).drop (i + m)) = c := by
      have := drop_set' L' (i + m) 0 c
      rw [Nat.add_zero] at this
      rw [this]
      have hd : (L'.drop (i + m)) = L'.getD (i + m) 0 :: L'.drop (i + m + 1) := by
        rw [getD_lt (by omega), List.getElem_cons_drop]
      rw [hd, List.set_cons_zero, val_cons]
      have : val (L'.drop (i + m + 1)) = 0 := val_zero_all fun q => by rw [drop_get, k.rest _ (by omega)]; exact h.high _ (by omega)
      rw [this]; simp
    rw [t1, t2, t3, t4] at e2
    rw [z1, Nat.mul_zero, Nat.add_zero] at e1
    have s1 := k.sum
    rw [List.take_of_length_le (l := b) (by omega)] at s1
    rw [e2, s1, Nat.mul_add, val_take_any, ← hx, Nat.add_mul, ← h.sum, e1]
    have : BB ^ i * (val b * x) = BB ^ i * x * val b := by rw [Nat.mul_comm (val b) x, Nat.mul_assoc]
    omega
/-- where a subtraction stands: i limbs are done -/
structure SubInv (a b L : List Nat) (n i c : Nat) : Prop where
  len : L.length = n
  fit : Fit L
  rest : ∀ j, i ≤ j → L.getD j 0 = a.getD j 0
  real : val (L.take i) + val (b.take i) = val (a.take i) + BB ^ i * c
  carry : c ≤ 1
theorem SubInv.start {a b : List Nat} {n : Nat} (ha : a.length = n) (fa : Fit a) : SubInv a b a n 0 0 :=
  ⟨ha, fa, fun _ _ => rfl, by simp [val], by omega⟩
theorem SubInv.step {a b L : List Nat} {n i c x y v c' : Nat} (h : SubInv a b L n i c) (hi : i < n) (hx : x = a.getD i 0) (hy : y = b.getD i 0) (fv : v < BB) (hc' : c' ≤ 1) (hv : v + y + c = x + BB * c') :
    SubInv a b (L.set i v) n (i + 1) c' := by
  refine ⟨by simp [h.len], h.fit.set _ _ fv, fun j hj => ?_, ?_, hc'⟩
  · rw [set_ne _ _ _ _ (by omega)]; exact h.rest j (by omega)
  · have hl : (L.take i).length = i := by rw [List.length_take, h.len]; omega
    rw [take_set _ _ _ (by rw [h.len]; omega), val_snoc, hl, val_take_any, val_take_any, ← hx, ← hy]
    have h2 : BB ^ (i + 1) * c' = BB ^ i * (BB * c') := by rw [Nat.pow_succ, Nat.mul_assoc]
    have h3 : BB ^ i * v + BB ^ i * y + BB ^ i * c = BB ^ i * x + BB ^ i * (BB * c') := by rw [← Nat.mul_add, ← Nat.mul_add, ← Nat.mul_add, hv]
    have := h.real
    omega
theorem SubInv.end_ {a b L : List Nat} {n i c : Nat} (h : SubInv a b L n i c) (ha : a.length = n) (hb : b.length ≤ n) (hi : i ≤ n) (he : i = n ∨ (b.length ≤ i ∧ c = 0)) (hle : val b ≤ val a) : val L = val a - val b := by
  have hs := h.real
  rcases he with rfl | ⟨hbi, rfl⟩
  · rw [val_take_len a (by omega), val_take_len b hb, val_take_len L (by rw [h.len]; exact Nat.le_refl _)] at hs
    have hlt := val_lt h.fit
    rw [h.len] at hlt
    have hc := h.carry
    rcases (show c = 0 ∨ c = 1 from by omega) with rfl | rfl
    · omega
    · omega
  · rw [val_take_len b hbi, Nat.mul_zero, Nat.add_zero] at hs
    have e2 : val L = val (L.take i) + BB ^ i * val (L.drop i) := by
      have := val_append (L.take i) (L.drop i)
      rw [List.take_append_drop, List.length_take, h.len, Nat.min_eq_left hi] at this
      exact this
    have e3 : val a = val (a.take i) + BB ^ i * val (a.drop i) := by
      have := val_append (a.take i) (a.drop i)
      rw [List.take_append_drop, List.length_take, ha, Nat.min_eq_left hi] at this
      exact this
    have e4 : L.drop i = a.drop i := drop_eq i (by rw [h.len, ha]) fun j hj => h.rest j hj
    rw [e2, e4, e3]
    omega
end M
end Go.Proofs.YtkooconjkimgoaaDoor

/- Numbers to the base 10, digit by digit: how a text grows. Plain mathematics, nothing of the program. -/
namespace Go.Proofs.YtkooconjkimgoaaDoor
namespace T

/-- the digits' bytes -/
def asc (ds : List Nat) : List Nat := ds.map (48 + ·)
/-- what bytes are as a list of bytes -/
def byt (es : List Nat) : List UInt8 := es.map UInt8.ofNat
/-- l is the number's text -/
def Txt (N : Nat) (l : List UInt8) : Prop := (N = 0 ∧ l = [48]) ∨ ∃ ds, Fit ds ∧ Top ds ∧ ds ≠ [] ∧ val ds = N ∧ l = byt (asc ds).reverse

theorem Txt.uniq {N : Nat} {l m : List UInt8} (h : Txt N l) (k : Txt N m) : l = m := by
  rcases h with ⟨h0, rfl⟩ | ⟨ds, f, t, ne, hv, rfl⟩ <;> rcases k with ⟨k0, rfl⟩ | ⟨es, f', t', ne', hv', rfl⟩
  · rfl
  · exact absurd (t'.pos ne') (by omega)
  · exact absurd (t.pos ne) (by omega)
  · rw [T.uniq f f' t t' (by omega)]

/-- where a chunk stands: j digits of it are written -/
structure Chunk (ds es : List Nat) (C j c : Nat) : Prop where
  len : es.length = ds.length + j
  fit : Fit es
  sum : val es + 10 ^ es.length * c = val ds + 10 ^ ds.length * C
  lt : c < 10 ^ (9 - j)
theorem Chunk.start {ds : List Nat} {C : Nat} (f : Fit ds) (h : C < 1000000000) : Chunk ds ds C 0 C := ⟨rfl, f, rfl, h⟩
theorem Chunk.step {ds es : List Nat} {C j c : Nat} (h : Chunk ds es C j c) (hj : j < 9) : Chunk ds (es ++ [c % 10]) C (j + 1) (c / 10) := by
  refine ⟨by simp [h.len]; omega, h.fit.append (Fit.cons (Nat.mod_lt _ (by omega)) Fit.nil), ?_, ?_⟩
  · rw [val_snoc, List.length_append, List.length_cons, List.length_nil, Nat.zero_add, BB_eq, ← h.sum, Nat.pow_succ, Nat.mul_assoc]
    have e : 10 * (c / 10) + c % 10 = c := Nat.div_add_mod c 10
    have e2 : 10 ^ es.length * (c % 10) + 10 ^ es.length * (10 * (c / 10)) = 10 ^ es.length * c := by rw [← Nat.mul_add]; congr 1; omega
    omega
  · have := h.lt
    refine Nat.div_lt_of_lt_mul ?_
    have e : 10 * 10 ^ (9 - (j + 1)) = 10 ^ (9 - j) := by rw [Nat.mul_comm, ← Nat.pow_succ]; congr 1; omega
    omega
/-- where a text stands -/
structure Texting (ds : List Nat) (V N : Nat) : Prop where
  fit : Fit ds
  sum : val ds + 10 ^ ds.length * V = N
theorem Texting.start (N : Nat) : Texting [] N N := ⟨Fit.nil, by simp [val]⟩
theorem Texting.step {ds es : List Nat} {V N c : Nat} (h : Texting ds V N) (k : Chunk ds es (V % 1000000000) 9 c) : Texting es (V / 1000000000) N := by
  refine ⟨k.fit, ?_⟩
  have hc : c = 0 := by have := k.lt; simp at this; exact this
  have hs := k.sum
  rw [hc, Nat.mul_zero, Nat.add_zero] at hs
  rw [hs, k.len, Nat.pow_add, Nat.mul_assoc, Nat.add_assoc, ← Nat.mul_add, ← h.sum]
  congr 2
  have := Nat.div_add_mod V 1000000000
  omega
/-- a text isn't longer than ten digits a limb -/
theorem Texting.short {ds : List Nat} {V N n : Nat} (h : Texting ds V N) (hV : 0 < V) (hN : N < M.BB ^ n) : ds.length ≤ 10 * n := by
  have h1 : 10 ^ ds.length ≤ N := by
    rw [← h.sum]
    have : 10 ^ ds.length * 1 ≤ 10 ^ ds.length * V := Nat.mul_le_mul_left _ hV
    omega
  have h2 : M.BB ^ n ≤ 10 ^ (10 * n) := by
    rw [Nat.pow_mul]
    exact Nat.pow_le_pow_left (by rw [M.BB_eq]; omega) n
  rcases Nat.lt_or_ge (10 * n) ds.length with h3 | h3
  · have := Nat.pow_le_pow_right (n := 10) (by omega) (Nat.le_of_lt h3)
    omega
  · exact h3
theorem asc_length (ds : List Nat) : (asc ds).length = ds.length := by simp [asc]
theorem asc_snoc (ds : List Nat) (d : Nat) : asc (ds ++ [d]) = asc ds ++ [48 + d] := by simp [asc]
theorem asc_get {ds : List Nat} {j : Nat} (h : j < ds.length) : (asc ds).getD j 0 = 48 + ds.getD j 0 := by
  simp [asc, List.getD_eq_getElem?_getD, h]
theorem asc_take (ds : List Nat) (n : Nat) : asc (ds.take n) = (asc ds).take n := by simp [asc, List.map_take]
/-- the end: noughts ahead are struck -/
theorem Texting.txt {ds : List Nat} {N n : Nat} (h : Texting ds 0 N) (h0 : 0 < n) (hn : n ≤ ds.length) (hx : ds.getD (n - 1) 0 ≠ 0) (hz : ∀ q, n ≤ q → ds.getD q 0 = 0) :
    Txt N (byt (asc (ds.take n)).reverse) := by
  refine .inr ⟨ds.take n, h.fit.take n, fun _ => ?_, ?_, ?_, rfl⟩
  · rw [List.length_take, Nat.min_eq_left hn]
    simpa [List.getD_eq_getElem?_getD, List.getElem?_take, show n - 1 < n from by omega] using hx
  · intro e
    have := congrArg List.length e
    rw [List.length_take, List.length_nil] at this
    omega
  · rw [val_zeros ds n hz, ← h.sum]; simp
end T
end Go.Proofs.YtkooconjkimgoaaDoor

/- Texts of digits and the numbers that they say. Plain mathematics, nothing of the program. -/
namespace Go.Proofs.YtkooconjkimgoaaDoor
namespace T

/-- the number that digits say, the highest one first -/
def dv (l : List UInt8) : Nat := val (l.map fun c => c.toNat - 48).reverse
/-- all are digits -/
def AllD (l : List UInt8) : Prop := ∀ c ∈ l, 48 ≤ c.toNat ∧ c.toNat ≤ 57

theorem dv_nil : dv [] = 0 := rfl
theorem dv_snoc (l : List UInt8) (c : UInt8) : dv (l ++ [c]) = dv l * 10 + (c.toNat - 48) := by
  unfold dv
  rw [List.map_append, List.reverse_append, List.map_cons, List.map_nil, List.reverse_singleton, List.singleton_append, val_cons, BB_eq]
  omega
theorem dv_fit {l : List UInt8} (h : AllD l) : Fit (l.map fun c => c.toNat - 48).reverse := Fit.of_mem fun x hx => by
  rw [List.mem_reverse, List.mem_map] at hx
  obtain ⟨c, hc, rfl⟩ := hx
  have := h c hc
  rw [BB_eq]
  omega
theorem dv_lt {l : List UInt8} (h : AllD l) : dv l < 10 ^ l.length := by
  have := val_lt (dv_fit h)
  simpa [dv, BB_eq] using this
theorem AllD.take {l : List UInt8} (h : AllD l) (n : Nat) : AllD (l.take n) := fun c hc => h c (List.mem_of_mem_take hc)

/-- where a multiplication in place stands: i limbs are done -/
structure Times (L0 L : List Nat) (n i k more c : Nat) : Prop where
  len : L.length = n
  fit : M.Fit L
  rest : ∀ j, i ≤ j → L.getD j 0 = L0.getD j 0
  sum : M.val (L.take i) + M.BB ^ i * c = M.val (L0.take i) * k + more
  carry : c ≤ k
theorem Times.start {L : List Nat} {n k more : Nat} (hl : L.length = n) (f : M.Fit L) (hm : more ≤ k) : Times L L n 0 k more more :=
  ⟨hl, f, fun _ _ => rfl, by simp [M.val], hm⟩
theorem Times.step {L0 L : List Nat} {n i k more c x t : Nat} (h : Times L0 L n i k more c) (hi : i < n) (hx : x = L.getD i 0) (ht : t = x * k + c) :
    Times L0 (L.set i (t % M.BB)) n (i + 1) k more (t / M.BB) := by
  have fx : x < M.BB := by rw [hx]; exact h.fit i
  refine ⟨by simp [h.len], h.fit.set _ _ (Nat.mod_lt _ M.BB_pos), fun j hj => ?_, ?_, ?_⟩
  · rw [M.set_ne _ _ _ _ (by omega)]; exact h.rest j (by omega)
  · have hl : (L.take i).length = i := by rw [List.length_take, h.len]; omega
    rw [M.take_set _ _ _ (by rw [h.len]; exact hi), M.val_snoc, hl, M.val_take_any, ← h.rest i (Nat.le_refl _), ← hx]
    have e : M.BB * (t / M.BB) + t % M.BB = t := Nat.div_add_mod t M.BB
    have h2 : M.BB ^ (i + 1) * (t / M.BB) = M.BB ^ i * (M.BB * (t / M.BB)) := by rw [Nat.pow_succ, Nat.mul_assoc]
    have h3 : M.BB ^ i * (t % M.BB) + M.BB ^ i * (M.BB * (t / M.BB)) = M.BB ^ i * t := by rw [← Nat.mul_add]; congr 1; omega
    have h4 : M.BB ^ i * t = M.BB ^ i * x * k + M.BB ^ i * c := by rw [ht, Nat.mul_add, Nat.mul_assoc]
    have := h.sum
    rw [Nat.add_mul]
    omega
  · have hc := h.carry
    have h1 : (x + 1) * k ≤ M.BB * k := Nat.mul_le_mul_right _ fx
    rw [Nat.add_mul, Nat.one_mul] at h1
    exact Nat.div_le_of_le_mul (by omega)
theorem Times.end_ {L0 L : List Nat} {n k more c : Nat} (h : Times L0 L n n k more c) (hl : L0.length = n) : M.val L + M.BB ^ n * c = M.val L0 * k + more := by
  have := h.sum
  rwa [List.take_of_length_le (by rw [h.len]; exact Nat.le_refl _), List.take_of_length_le (by rw [hl]; exact Nat.le_refl _)] at this

/-- where a text's parsing stands: i bytes are read -/
structure Parsing (s : List UInt8) (L : List Nat) (n i sc ch : Nat) : Prop where
  len : L.length = n
  fit : M.Fit L
  sum : M.val L * sc + ch = dv (s.take i)
  lt : ch < sc
  pow : ∃ r, r ≤ 8 ∧ sc = 10 ^ r
theorem Parsing.start (s : List UInt8) (n : Nat) : Parsing s (List.replicate n 0) n 0 1 0 :=
  ⟨by simp, M.Fit.of_mem fun x hx => by rw [List.eq_of_mem_replicate hx]; exact M.BB_pos, by rw [M.val_replicate_zero]; simp [dv_nil], by omega, 0, by omega, rfl⟩
/-- one byte more -/
theorem Parsing.more {s : List UInt8} {L : List Nat} {n i sc ch d : Nat} (h : Parsing s L n i sc ch) (hi : i < s.length) (hd : d = (s.getD i 0).toNat - 48) (h9 : d ≤ 9) :
    M.val L * (sc * 10) + (ch * 10 + d) = dv (s.take (i + 1)) ∧ ch * 10 + d < sc * 10 := by
  have e : s.getD i 0 = s[i] := by simp [List.getD_eq_getElem?_getD, hi]
  have hl := h.lt
  refine ⟨?_, by omega⟩
  rw [List.take_succ_eq_append_getElem hi, dv_snoc, ← h.sum, ← e, ← hd, Nat.add_mul, Nat.mul_assoc]
  omega
theorem Parsing.small {s : List UInt8} {L : List Nat} {n i sc ch : Nat} (h : Parsing s L n i sc ch) : 1 ≤ sc ∧ (sc = 100000000 ∨ sc ≤ 10000000) := by
  obtain ⟨r, hr, rfl⟩ := h.pow
  refine ⟨Nat.pow_pos (by omega), ?_⟩
  rcases Nat.lt_or_ge r 8 with h1 | h1
  · right
    exact Nat.le_trans (Nat.pow_le_pow_right (by omega) (show r ≤ 7 by omega)) (by omega)
  · obtain rfl : r = 8 := by omega
    left; rfl
theorem Parsing.keep {s : List UInt8} {L : List Nat} {n i sc ch d : Nat} (h : Parsing s L n i sc ch) (hi : i < s.length) (hd : d = (s.getD i 0).toNat - 48) (h9 : d ≤ 9) (hs : sc ≤ 10000000) :
    Parsing s L n (i + 1) (sc * 10) (ch * 10 + d) := by
  have hm := h.more hi hd h9
  refine ⟨h.len, h.fit, hm.1, hm.2, ?_⟩
  obtain ⟨r, hr, rfl⟩ := h.pow
  refine ⟨r + 1, ?_, by rw [Nat.pow_succ]⟩
  rcases Nat.lt_or_ge r 8 with h1 | h1
  · omega
  · obtain rfl : r = 8 := by omega
    omega
theorem room {s : List UInt8} (h : AllD s) {i n : Nat} (hn : n = s.length / 9 + 1) : dv (s.take i) < M.BB ^ n := by
  have h1 := dv_lt (h.take i)
  have h2 : 10 ^ (s.take i).length ≤ 10 ^ (9 * n) := Nat.pow_le_pow_right (by omega) (by rw [List.length_take]; omega)
  have h3 : 10 ^ (9 * n) ≤ M.BB ^ n := by
    rw [Nat.pow_mul]
    exact Nat.pow_le_pow_left (by rw [M.BB_eq]; omega) n
  omega
theorem Parsing.flush {s : List UInt8} {L L' : List Nat} {n i sc ch d c : Nat} (h : Parsing s L n i sc ch) (hi : i < s.length) (hd : d = (s.getD i 0).toNat - 48) (h9 : d ≤ 9) (ha : AllD s) (hn : n = s.length / 9 + 1)
    (hl : L'.length = n) (f : M.Fit L') (hs : M.val L' + M.BB ^ n * c = M.val L * (sc * 10) + (ch * 10 + d)) : Parsing s L' n (i + 1) 1 0 := by
  have hm := h.more hi hd h9
  rw [hm.1] at hs
  have hr := room (i := i + 1) ha hn
  have hc : c = 0 := by
    rcases Nat.eq_zero_or_pos c with e | e
    · exact e
    · have : M.BB ^ n * 1 ≤ M.BB ^ n * c := Nat.mul_le_mul_left _ e
      omega
  rw [hc, Nat.mul_zero, Nat.add_zero] at hs
  exact ⟨hl, f, by omega, by omega, 0, by omega, rfl⟩

/-- what is written says the number -/
theorem dig_back (d : Nat) (h : d ≤ 9) : (UInt8.ofNat (48 + d)).toNat = 48 + d := by
  rw [UInt8.toNat_ofNat']
  omega
theorem txt_all {N : Nat} {l : List UInt8} (h : Txt N l) : AllD l ∧ dv l = N ∧ l ≠ [] ∧ (l = [48] ∨ l.getD 0 0 ≠ 48) := by
  rcases h with ⟨h0, rfl⟩ | ⟨ds, f, t, ne, hv, rfl⟩
  · exact ⟨fun c hc => by simp at hc; subst hc; decide, h0.symm, by simp, .inl rfl⟩
  · have hf : ∀ d ∈ ds, d ≤ 9 := fun d hd => by have := f.mem hd; rw [BB_eq] at this; omega
    have e : (byt (asc ds).reverse).map (fun c => c.toNat - 48) = ds.reverse := by
      unfold byt asc
      rw [← List.map_reverse, List.map_map, List.map_map]
      refine (List.map_congr_left (g := id) fun d hd => ?_).trans (List.map_id _)
      have := dig_back d (hf d (List.mem_reverse.1 hd))
      simp only [Function.comp, id, this]
      omega
    refine ⟨fun c hc => ?_, ?_, ?_, .inr ?_⟩
    · unfold byt asc at hc
      rw [← List.map_reverse, List.map_map, List.mem_map] at hc
      obtain ⟨d, hd, rfl⟩ := hc
      have h9 := hf d (List.mem_reverse.1 hd)
      have := dig_back d h9
      simp only [Function.comp, this]
      omega
    · unfold dv
      rw [e, List.reverse_reverse, hv]
    · intro h
      have := congrArg List.length h
      simp [byt, asc] at this
      exact ne this
    · have ht := t ne
      have hl : 0 < ds.length := List.length_pos_iff.2 ne
      intro h48
      apply ht
      have e2 : (byt (asc ds).reverse).getD 0 0 = UInt8.ofNat (48 + ds.getD (ds.length - 1) 0) := by
        simp [byt, asc, List.getD_eq_getElem?_getD, hl]
        rw [List.getElem?_eq_getElem (by omega)]
        simp
      rw [e2] at h48
      have := dig_back (ds.getD (ds.length - 1) 0) (by have := f (ds.length - 1); rw [BB_eq] at this; omega)
      rw [h48] at this
      have h3 : (48 : UInt8).toNat = 48 := rfl
      omega
/-- digits without a nought ahead are the number's text -/
theorem all_txt {l : List UInt8} (h : AllD l) (hne : l ≠ []) (h0 : l = [48] ∨ l.getD 0 0 ≠ 48) : Txt (dv l) l := by
  rcases h0 with rfl | h0
  · exact .inl ⟨rfl, rfl⟩
  · refine .inr ⟨(l.map fun c => c.toNat - 48).reverse, dv_fit h, fun _ => ?_, by simpa using hne, rfl, ?_⟩
    · have hl : 0 < l.length := List.length_pos_iff.2 hne
      rw [List.length_reverse, List.length_map]
      have e : (l.map fun c => c.toNat - 48).reverse.getD (l.length - 1) 0 = (l.getD 0 0).toNat - 48 := by
        rw [getD_lt (by simp; omega), List.getElem_reverse]
        simp [List.getD_eq_getElem?_getD, hl]
      rw [e]
      have hm : l.getD 0 0 ∈ l := by rw [List.getD_eq_getElem?_getD, List.getElem?_eq_getElem hl]; exact List.getElem_mem hl
      have := h _ hm
      intro h1
      apply h0
      have h3 : (48 : UInt8).toNat = 48 := rfl
      exact UInt8.toNat_inj.1 (by omega)
    · unfold byt asc
      simp only [List.map_reverse, List.reverse_reverse, List.map_map]
      refine ((List.map_congr_left (f := _) (g := id) fun c hc => ?_).trans (List.map_id _)).symm
      have := h c hc
      simp only [Function.comp, id]
      apply UInt8.toNat_inj.1
      rw [UInt8.toNat_ofNat']
      omega
end T
end Go.Proofs.YtkooconjkimgoaaDoor

/- Numbers as bits, the lowest one first. Plain mathematics, nothing of the program. -/
namespace Go.Proofs.YtkooconjkimgoaaDoor
namespace Bt

/-- bits as digits -/
def nat (bs : List Bool) : List Nat := bs.map Bool.toNat
def val (bs : List Bool) : Nat := W2.val (nat bs)
def Top (bs : List Bool) : Prop := W2.Top (nat bs)

theorem nat_length (bs : List Bool) : (nat bs).length = bs.length := by simp [nat]
theorem nat_get (bs : List Bool) (j : Nat) : (nat bs).getD j 0 = (bs.getD j false).toNat := by
  simp only [nat, List.getD_eq_getElem?_getD, List.getElem?_map]
  cases bs[j]? <;> rfl
theorem bit_le (b : Bool) : b.toNat ≤ 1 := by cases b <;> simp
theorem nat_fit (bs : List Bool) : W2.Fit (nat bs) := fun j => by
  rw [nat_get, W2.BB_eq]
  have := bit_le (bs.getD j false)
  omega
theorem nat_take (bs : List Bool) (n : Nat) : nat (bs.take n) = (nat bs).take n := by simp [nat, List.map_take]
theorem nat_drop (bs : List Bool) (n : Nat) : nat (bs.drop n) = (nat bs).drop n := by simp [nat, List.map_drop]
theorem nat_append (bs cs : List Bool) : nat (bs ++ cs) = nat bs ++ nat cs := by simp [nat]
theorem getD_lt {bs : List Bool} {j : Nat} (h : j < bs.length) : bs.getD j false = bs[j] := by simp [List.getD_eq_getElem?_getD, h]
theorem getD_ge {bs : List Bool} {j : Nat} (h : bs.length ≤ j) : bs.getD j false = false := by simp [List.getD_eq_getElem?_getD, h]
theorem nat_inj {bs cs : List Bool} (h : nat bs = nat cs) : bs = cs := by
  have hl : bs.length = cs.length := by rw [← nat_length, ← nat_length, h]
  refine List.ext_getElem hl fun j h1 h2 => ?_
  have := congrArg (·.getD j 0) h
  simp only [nat_get] at this
  rw [getD_lt h1, getD_lt h2] at this
  cases h3 : bs[j] <;> cases h4 : cs[j] <;> simp [h3, h4] at this <;> rfl
theorem uniq {bs cs : List Bool} (t : Top bs) (u : Top cs) (h : val bs = val cs) : bs = cs := nat_inj (W2.uniq (nat_fit _) (nat_fit _) t u h)
theorem val_nil : val [] = 0 := rfl
theorem val_lt (bs : List Bool) : val bs < 2 ^ bs.length := by
  have := W2.val_lt (nat_fit bs)
  rwa [nat_length, W2.BB_eq] at this
theorem len_le {bs : List Bool} {k : Nat} (t : Top bs) (h : val bs < 2 ^ k) : bs.length ≤ k := W2.len_le t (nat_length bs) (by rw [W2.BB_eq]; exact h)
theorem val_ge {bs : List Bool} (t : Top bs) (h : bs ≠ []) : 2 ^ (bs.length - 1) ≤ val bs := by
  have := W2.val_ge t (by intro e; apply h; have := congrArg List.length e; rw [nat_length] at this; exact List.eq_nil_of_length_eq_zero (by simpa using this))
  rwa [nat_length, W2.BB_eq] at this
theorem val_zeros (bs : List Bool) (n : Nat) (h : ∀ j, n ≤ j → bs.getD j false = false) : val (bs.take n) = val bs := by
  unfold val
  rw [nat_take]
  exact W2.val_zeros _ n fun j hj => by rw [nat_get, h j hj]; rfl
theorem top_take (bs : List Bool) (k : Nat) (hk : k ≤ bs.length) (h : 0 < k → bs.getD (k - 1) false = true) : Top (bs.take k) := by
  intro hne
  have hl : (nat (bs.take k)).length = k := by rw [nat_length, List.length_take]; omega
  have hk0 : 0 < k := by
    rcases Nat.eq_zero_or_pos k with e | e
    · subst e; exact absurd rfl hne
    · exact e
  rw [hl, nat_get]
  have : (bs.take k).getD (k - 1) false = true := by
    rw [← h hk0]
    simp [List.getD_eq_getElem?_getD, show k - 1 < k from by omega]
  rw [this]
  simp
theorem top_nil : Top [] := W2.Top.nil
theorem val_snoc (bs : List Bool) (b : Bool) : val (bs ++ [b]) = val bs + 2 ^ bs.length * b.toNat := by
  unfold val
  rw [nat_append]
  have := W2.val_snoc (nat bs) b.toNat
  rwa [nat_length, W2.BB_eq] at this
theorem val_cons (b : Bool) (bs : List Bool) : val (b :: bs) = b.toNat + 2 * val bs := by
  have := W2.val_cons b.toNat (nat bs)
  rwa [W2.BB_eq] at this
/-- the bit's test, as Go asks it -/
theorem odd_bit (n : Nat) : (decide (n % 2 = 1)).toNat = n % 2 := by
  rcases (show n % 2 = 0 ∨ n % 2 = 1 from by omega) with h | h <;> simp [h]

/-- where a limb's bits stand: j of them are written -/
structure Chunk (ds es : List Bool) (C j c : Nat) : Prop where
  len : es.length = ds.length + j
  sum : val es + 2 ^ es.length * c = val ds + 2 ^ ds.length * C
  lt : c < 2 ^ (32 - j)
theorem Chunk.start {ds : List Bool} {C : Nat} (h : C < 4294967296) : Chunk ds ds C 0 C := ⟨rfl, rfl, h⟩
theorem Chunk.step {ds es : List Bool} {C j c : Nat} (h : Chunk ds es C j c) (hj : j < 32) : Chunk ds (es ++ [decide (c % 2 = 1)]) C (j + 1) (c / 2) := by
  refine ⟨by simp [h.len]; omega, ?_, ?_⟩
  · rw [val_snoc, odd_bit, List.length_append, List.length_cons, List.length_nil, Nat.zero_add, ← h.sum, Nat.pow_succ, Nat.mul_assoc]
    have e : 2 * (c / 2) + c % 2 = c := Nat.div_add_mod c 2
    have e2 : 2 ^ es.length * (c % 2) + 2 ^ es.length * (2 * (c / 2)) = 2 ^ es.length * c := by rw [← Nat.mul_add]; congr 1; omega
    omega
  · have := h.lt
    refine Nat.div_lt_of_lt_mul ?_
    have e : 2 * 2 ^ (32 - (j + 1)) = 2 ^ (32 - j) := by rw [Nat.mul_comm, ← Nat.pow_succ]; congr 1; omega
    omega
theorem pow_BB (i : Nat) : M.BB ^ i = 2 ^ (32 * i) := by rw [Nat.pow_mul]; congr 1
/-- limbs and their bits -/
structure Bitting (l : List Nat) (ds : List Bool) (i : Nat) : Prop where
  len : ds.length = 32 * i
  sum : val ds = M.val (l.take i)
theorem Bitting.start (l : List Nat) : Bitting l [] 0 := ⟨rfl, by simp [M.val, val_nil]⟩
theorem Bitting.step {l : List Nat} {ds es : List Bool} {i x c : Nat} (h : Bitting l ds i) (hx : x = l.getD i 0) (k : Chunk ds es x 32 c) : Bitting l es (i + 1) := by
  refine ⟨by rw [k.len, h.len]; omega, ?_⟩
  have hc : c = 0 := by have := k.lt; simp at this; exact this
  have hs := k.sum
  rw [hc, Nat.mul_zero, Nat.add_zero] at hs
  rw [hs, h.sum, h.len, M.val_take_any, ← hx, pow_BB]

/-- m bits from k on -/
theorem val_piece (bs : List Bool) (k m : Nat) : val ((bs.drop k).take (m + 1)) = (bs.getD k false).toNat + 2 * val ((bs.drop (k + 1)).take m) := by
  rcases Nat.lt_or_ge k bs.length with h | h
  · rw [List.drop_eq_getElem_cons h, List.take_succ_cons, val_cons, getD_lt h]
  · rw [List.drop_of_length_le h, List.drop_of_length_le (by omega), getD_ge h]; simp [val_nil]
theorem val_piece_lt (bs : List Bool) (k m : Nat) : val ((bs.drop k).take m) < 2 ^ m := by
  have h1 := val_lt ((bs.drop k).take m)
  have h2 : 2 ^ ((bs.drop k).take m).length ≤ 2 ^ m := Nat.pow_le_pow_right (by omega) (List.length_take_le _ _)
  omega
theorem val_split (bs : List Bool) (i m : Nat) : val (bs.take (i + m)) = val (bs.take i) + 2 ^ i * val ((bs.drop i).take m) := by
  rcases Nat.lt_or_ge bs.length i with h | h
  · rw [List.take_of_length_le (by omega), List.take_of_length_le (by omega), List.drop_of_length_le (by omega)]; simp [val_nil]
  · have e : bs.take (i + m) = bs.take i ++ (bs.drop i).take m := by rw [List.take_add]
    rw [e]
    unfold val
    rw [nat_append, W2.val_append, nat_length, List.length_take, Nat.min_eq_left h, W2.BB_eq]
/-- bits and their limbs -/
structure Limbing (bs : List Bool) (out : List Nat) (t : Nat) : Prop where
  len : out.length = t
  fit : M.Fit out
  sum : M.val out = val (bs.take (32 * t))
theorem Limbing.start (bs : List Bool) : Limbing bs [] 0 := ⟨rfl, M.Fit.nil, rfl⟩
theorem Limbing.step {bs : List Bool} {out : List Nat} {t n : Nat} (h : Limbing bs out t) (hn : n = val ((bs.drop (32 * t)).take 32)) : Limbing bs (out ++ [n]) (t + 1) := by
  have hlt : n < 4294967296 := by rw [hn]; exact val_piece_lt _ _ _
  refine ⟨by simp [h.len], h.fit.append (M.Fit.cons (by rw [M.BB_eq]; exact hlt) M.Fit.nil), ?_⟩
  rw [M.val_snoc, h.sum, h.len, pow_BB, hn, show 32 * (t + 1) = 32 * t + 32 from by omega, val_split]
theorem Limbing.end_ {bs : List Bool} {out : List Nat} {t : Nat} (h : Limbing bs out t) (tp : Top bs) (h1 : bs.length ≤ 32 * t) (h2 : t = 0 ∨ 32 * (t - 1) < bs.length) : M.Top out ∧ M.val out = val bs := by
  have hv : M.val out = val bs := by rw [h.sum, List.take_of_length_le h1]
  refine ⟨fun hne => ?_, hv⟩
  have ht : 0 < t := by rw [← h.len]; exact List.length_pos_iff.2 hne
  have hb : 32 * (t - 1) < bs.length := by rcases h2 with e | e; omega; exact e
  intro h0
  have hne' : bs ≠ [] := by rintro rfl; simp at hb
  have g := val_ge tp hne'
  have g2 : 2 ^ (32 * (t - 1)) ≤ 2 ^ (bs.length - 1) := Nat.pow_le_pow_right (by omega) (by omega)
  have e := M.val_zeros out (t - 1) (fun j hj => by
    by_cases e : j = t - 1
    · rw [e]; rw [h.len] at h0; exact h0
    · exact M.getD_ge (by rw [h.len]; omega))
  have e2 := M.val_lt (h.fit.take (t - 1))
  rw [List.length_take, h.len, Nat.min_eq_left (by omega), pow_BB, e, hv] at e2
  omega
end Bt
end Go.Proofs.YtkooconjkimgoaaDoor

/- How bits are compared, added, taken away, multiplied, one by one. Plain mathematics, nothing of the program. -/
namespace Go.Proofs.YtkooconjkimgoaaDoor
namespace Bt

theorem val_ext {bs cs : List Bool} (h : ∀ j, bs.getD j false = cs.getD j false) : val bs = val cs := by
  induction bs generalizing cs with
  | nil =>
    have := val_zeros cs 0 (fun j _ => by rw [← h j]; rfl)
    rw [← this]; rfl
  | cons b bs ih =>
    cases cs with
    | nil =>
      have := val_zeros (b :: bs) 0 (fun j _ => by rw [h j]; rfl)
      rw [← this]; rfl
    | cons c cs =>
      have h0 : b = c := by simpa using h 0
      rw [val_cons, val_cons, h0, ih fun j => by simpa using h (j + 1)]
theorem drop_get (bs : List Bool) (i j : Nat) : (bs.drop i).getD j false = bs.getD (i + j) false := by simp [List.getD_eq_getElem?_getD]
theorem val_take_drop (bs : List Bool) (i : Nat) : val bs = val (bs.take i) + 2 ^ i * val (bs.drop i) := by
  rcases Nat.lt_or_ge bs.length i with h | h
  · rw [List.take_of_length_le (by omega), List.drop_of_length_le (by omega), val_nil]; simp
  · have e := W2.val_append (nat (bs.take i)) (nat (bs.drop i))
    rw [← nat_append, List.take_append_drop, nat_length, List.length_take, Nat.min_eq_left h, W2.BB_eq] at e
    exact e
theorem val_drop (bs : List Bool) (i : Nat) : val (bs.drop i) = (bs.getD i false).toNat + 2 * val (bs.drop (i + 1)) := by
  rcases Nat.lt_or_ge i bs.length with h | h
  · rw [List.drop_eq_getElem_cons h, val_cons, getD_lt h]
  · rw [List.drop_of_length_le h, List.drop_of_length_le (by omega), getD_ge h, val_nil]; simp
theorem val_take_lt (bs : List Bool) (i : Nat) : val (bs.take i) < 2 ^ i := by
  have h1 := val_lt (bs.take i)
  have h2 : 2 ^ (bs.take i).length ≤ 2 ^ i := Nat.pow_le_pow_right (by omega) (List.length_take_le _ _)
  omega
theorem val_take_succ (bs : List Bool) (i : Nat) : val (bs.take (i + 1)) = val (bs.take i) + 2 ^ i * (bs.getD i false).toNat := by
  have h := val_split bs i 1
  rw [h]
  congr 2
  have := val_piece bs i 0
  rw [this, List.take_zero, val_nil]; omega
theorem val_take_len (bs : List Bool) {i : Nat} (h : bs.length ≤ i) : val (bs.take i) = val bs := by rw [List.take_of_length_le h]
/-- the highest bit that differs decides -/
theorem lt_of_top {bs cs : List Bool} (i : Nat) (h : ∀ j, i < j → bs.getD j false = cs.getD j false) (hb : bs.getD i false = false) (hc : cs.getD i false = true) : val bs < val cs := by
  have e : val (bs.drop (i + 1)) = val (cs.drop (i + 1)) := val_ext fun j => by rw [drop_get, drop_get]; exact h _ (by omega)
  rw [val_take_drop bs i, val_take_drop cs i, val_drop bs i, val_drop cs i, hb, hc, e]
  have h1 := val_take_lt bs i
  generalize val (cs.drop (i + 1)) = t
  have e2 : 2 ^ i * (true.toNat + 2 * t) = 2 ^ i + 2 ^ i * (false.toNat + 2 * t) := by
    rw [show true.toNat = 1 from rfl, show false.toNat = 0 from rfl, Nat.mul_add, Nat.mul_one, Nat.zero_add]
  omega

/-- where an addition stands -/
structure AddInv (a b out : List Bool) (i : Nat) (c : Bool) : Prop where
  len : out.length = i
  sum : val out + 2 ^ i * c.toNat = val (a.take i) + val (b.take i)

theorem AddInv.start (a b : List Bool) : AddInv a b [] 0 false := ⟨rfl, by simp [val_nil]⟩
theorem AddInv.step {a b out : List Bool} {i n : Nat} {c x y : Bool} (h : AddInv a b out i c) (hx : x = a.getD i false) (hy : y = b.getD i false) (hn : n = x.toNat + y.toNat + c.toNat) :
    AddInv a b (out ++ [decide (n % 2 = 1)]) (i + 1) (decide (1 < n)) := by
  refine ⟨by simp [h.len], ?_⟩
  rw [val_snoc, h.len, odd_bit, val_take_succ, val_take_succ, ← hx, ← hy]
  have hs := h.sum
  have e : (decide (1 < n)).toNat = n / 2 := by
    have hxb := bit_le x
    have hyb := bit_le y
    have hcb := bit_le c
    by_cases h1 : 1 < n
    · rw [decide_eq_true h1]; simp; omega
    · rw [decide_eq_false h1]; simp; omega
  rw [e, Nat.pow_succ, Nat.mul_assoc]
  have e2 : 2 ^ i * (n % 2) + 2 ^ i * (2 * (n / 2)) = 2 ^ i * n := by rw [← Nat.mul_add]; congr 1; omega
  have e3 : 2 ^ i * n = 2 ^ i * x.toNat + 2 ^ i * y.toNat + 2 ^ i * c.toNat := by rw [hn, Nat.mul_add, Nat.mul_add]
  omega
theorem AddInv.end_ {a b out : List Bool} {i : Nat} (h : AddInv a b out i false) (ha : a.length ≤ i) (hb : b.length ≤ i) : val out = val a + val b := by
  have := h.sum
  rw [val_take_len a ha, val_take_len b hb] at this
  simpa using this

/-- where a subtraction stands -/
structure SubInv (a b out : List Bool) (i : Nat) (c : Bool) : Prop where
  len : out.length = i
  sum : val out + val (b.take i) = val (a.take i) + 2 ^ i * c.toNat
theorem SubInv.start (a b : List Bool) : SubInv a b [] 0 false := ⟨rfl, by simp [val_nil]⟩
theorem SubInv.step {a b out : List Bool} {i : Nat} {c x y v c' : Bool} (h : SubInv a b out i c) (hx : x = a.getD i false) (hy : y = b.getD i false) (hv : v.toNat + y.toNat + c.toNat = x.toNat + 2 * c'.toNat) :
    SubInv a b (out ++ [v]) (i + 1) c' := by
  refine ⟨by simp [h.len], ?_⟩
  rw [val_snoc, h.len, val_take_succ, val_take_succ, ← hx, ← hy, Nat.pow_succ, Nat.mul_assoc]
  have hs := h.sum
  have e : 2 ^ i * v.toNat + 2 ^ i * y.toNat + 2 ^ i * c.toNat = 2 ^ i * x.toNat + 2 ^ i * (2 * c'.toNat) := by rw [← Nat.mul_add, ← Nat.mul_add, ← Nat.mul_add, hv]
  omega
theorem SubInv.end_ {a b out : List Bool} {i : Nat} {c : Bool} (h : SubInv a b out i c) (ha : a.length ≤ i) (hb : b.length ≤ i) (hle : val b ≤ val a) : val out = val a - val b := by
  have hs := h.sum
  rw [val_take_len a ha, val_take_len b hb] at hs
  have hlt := val_lt out
  rw [h.len] at hlt
  cases c with
  | false => simp at hs; omega
  | true => simp at hs; omega
end Bt
end Go.Proofs.YtkooconjkimgoaaDoor

/- How a number's digits are doubled, one by one. Plain mathematics, nothing of the program. -/
namespace Go.Proofs.YtkooconjkimgoaaDoor
namespace T

/-- where a doubling stands: i digits are done -/
structure Dbl (L0 L : List Nat) (n i more c : Nat) : Prop where
  len : L.length = n
  fit : Fit L
  rest : ∀ j, i ≤ j → L.getD j 0 = L0.getD j 0
  sum : val (L.take i) + BB ^ i * c = 2 * val (L0.take i) + more
  carry : c ≤ 1
theorem Dbl.start {L : List Nat} {n more : Nat} (hl : L.length = n) (f : Fit L) (hm : more ≤ 1) : Dbl L L n 0 more more :=
  ⟨hl, f, fun _ _ => rfl, by simp [val], hm⟩
theorem Dbl.step {L0 L : List Nat} {n i more c x t : Nat} (h : Dbl L0 L n i more c) (hi : i < n) (hx : x = L.getD i 0) (ht : t = 2 * x + c) :
    Dbl L0 (L.set i (t % 10)) n (i + 1) more (t / 10) := by
  have fx : x < 10 := by rw [hx]; exact h.fit i
  have hc := h.carry
  refine ⟨by simp [h.len], h.fit.set _ _ (Nat.mod_lt _ (by omega)), fun j hj => ?_, ?_, by omega⟩
  · rw [set_ne _ _ _ _ (by omega)]; exact h.rest j (by omega)
  · have hl : (L.take i).length = i := by rw [List.length_take, h.len]; omega
    rw [take_set _ _ _ (by rw [h.len]; exact hi), val_snoc, hl, val_take_any, ← h.rest i (Nat.le_refl _), ← hx]
    have e : 10 * (t / 10) + t % 10 = t := Nat.div_add_mod t 10
    have h2 : BB ^ (i + 1) * (t / 10) = BB ^ i * (10 * (t / 10)) := by rw [Nat.pow_succ, Nat.mul_assoc]; rfl
    have h3 : BB ^ i * (t % 10) + BB ^ i * (10 * (t / 10)) = BB ^ i * t := by rw [← Nat.mul_add]; congr 1; omega
    have h4 : BB ^ i * t = 2 * (BB ^ i * x) + BB ^ i * c := by rw [ht, Nat.mul_add, Nat.mul_left_comm]
    have := h.sum
    rw [Nat.mul_add]
    omega
/-- a number in its own form, doubled -/
structure Digs (ds : List Nat) (V : Nat) : Prop where
  fit : Fit ds
  top : Top ds
  val : val ds = V
theorem Digs.nil : Digs [] 0 := ⟨Fit.nil, Top.nil, rfl⟩
theorem top_of_ge {L : List Nat} (f : Fit L) (h : L ≠ [] → BB ^ (L.length - 1) ≤ val L) : Top L := by
  intro hne h0
  have h1 := h hne
  have hl : 0 < L.length := List.length_pos_iff.2 hne
  have e := val_zeros L (L.length - 1) (fun j hj => by
    by_cases e : j = L.length - 1
    · rw [e]; exact h0
    · exact getD_ge (by omega))
  have h2 := val_lt (f.take (L.length - 1))
  rw [e, List.length_take, Nat.min_eq_left (by omega)] at h2
  omega
theorem Digs.end0 {ds es : List Nat} {n V more : Nat} (h : Digs ds V) (k : Dbl ds es n n more 0) (hl : ds.length = n) : Digs es (2 * V + more) := by
  have hs := k.sum
  rw [List.take_of_length_le (by rw [k.len]; exact Nat.le_refl _), List.take_of_length_le (by rw [hl]; exact Nat.le_refl _), h.val, Nat.mul_zero, Nat.add_zero] at hs
  refine ⟨k.fit, top_of_ge k.fit fun hne => ?_, hs⟩
  have hne' : ds ≠ [] := by
    intro e
    apply hne
    have := k.len
    rw [← hl, e] at this
    exact List.eq_nil_of_length_eq_zero this
  have h1 := val_ge h.top hne'
  rw [h.val] at h1
  rw [k.len, ← hl, hs]
  omega
theorem Digs.end1 {ds es : List Nat} {n V more c : Nat} (h : Digs ds V) (k : Dbl ds es n n more c) (hl : ds.length = n) (hc : 0 < c) : Digs (es ++ [c]) (2 * V + more) := by
  have hs := k.sum
  rw [List.take_of_length_le (by rw [k.len]; exact Nat.le_refl _), List.take_of_length_le (by rw [hl]; exact Nat.le_refl _), h.val] at hs
  have hc1 := k.carry
  refine ⟨k.fit.append (Fit.cons (by rw [BB_eq]; omega) Fit.nil), fun _ => ?_, ?_⟩
  · rw [List.length_append, List.length_cons, List.length_nil, Nat.zero_add, Nat.add_sub_cancel]
    simp [List.getD_eq_getElem?_getD]
    omega
  · rw [val_snoc, k.len]; exact hs
theorem Digs.txt {ds : List Nat} {V : Nat} (h : Digs ds V) (hne : ds ≠ []) : Txt V (byt (asc ds).reverse) := .inr ⟨ds, h.fit, h.top, hne, h.val, rfl⟩
theorem Digs.zero {V : Nat} (h : Digs [] V) : Txt V [48] := .inl ⟨h.val.symm, rfl⟩
theorem asc_drop (ds : List Nat) (j : Nat) (h : j < ds.length) : (asc (ds.drop j)).reverse = (asc (ds.drop (j + 1))).reverse ++ [48 + ds.getD j 0] := by
  rw [List.drop_eq_getElem_cons h, getD_lt h]
  unfold asc
  rw [List.map_cons, List.reverse_cons]
end T
end Go.Proofs.YtkooconjkimgoaaDoor

/- Long division: how a quotient's limb is guessed, and mended. Plain mathematics, nothing of the program. -/
namespace Go.Proofs.YtkooconjkimgoaaDoor
namespace M

/-- the highest limbs, and what stands below them -/
theorem val_top2 (v : List Nat) (n : Nat) (hn : v.length = n) (h2 : 2 ≤ n) : ∃ lo, val v = v.getD (n - 1) 0 * BB ^ (n - 1) + v.getD (n - 2) 0 * BB ^ (n - 2) + lo ∧ lo = val (v.take (n - 2)) := by
  have e1 := val_at v (n - 1) (by omega)
  have e2 := val_take_succ v (n - 2) (by omega)
  rw [show n - 2 + 1 = n - 1 from by omega] at e2
  rw [show v.drop (n - 1 + 1) = [] from List.drop_of_length_le (by omega), val_nil, Nat.mul_zero, Nat.add_zero, e2] at e1
  refine ⟨_, ?_, rfl⟩
  rw [e1, Nat.mul_comm (BB ^ (n - 1)), Nat.mul_comm (BB ^ (n - 2))]
  omega

/-- what a guess knows: 'top' is the two highest limbs of the part, p2 the third; high and next the divisor's highest -/
structure Guess (V P E high next top p2 g rest : Nat) : Prop where
  sum : g * high + rest = top
  ge : P / V ≤ g
theorem guess_facts {V P E high next top p2 vl pl : Nat} (hV : V = high * (BB * E) + next * E + vl) (hP : P = top * (BB * E) + p2 * E + pl) (hvl : vl < E) (hpl : pl < E) (hp2 : p2 < BB) (hn : next < BB) :
    (∀ q, q * V ≤ P → q * high ≤ top) ∧
    (∀ g rest, g * high + rest = top → g * next > rest * BB + p2 → P < g * V) ∧
    (∀ g rest, 0 < g → g ≤ BB → 0 < high → g * high + rest = top → g * next ≤ rest * BB + p2 → (g - 1) * V ≤ P) ∧
    (∀ g rest, g ≤ BB → BB ≤ rest → g * high + rest = top → g * V ≤ P) := by
  have hE : 0 < E := by omega
  have hB := BB_pos
  refine ⟨fun q hq => ?_, fun g rest hs hg => ?_, fun g rest hg0 hgB hh hs hg => ?_, fun g rest hgB hr hs => ?_⟩
  · -- q * high * (B E) ≤ q V ≤ P < (top + 1) (B E)
    have h1 : q * (high * (BB * E)) ≤ q * V := Nat.mul_le_mul_left _ (by omega)
    have h2 : p2 * E + pl < BB * E := by
      have : (p2 + 1) * E ≤ BB * E := Nat.mul_le_mul_right _ hp2
      rw [Nat.add_mul] at this
      omega
    rcases Nat.lt_or_ge top (q * high) with h | h
    · exfalso
      have h3 : (top + 1) * (BB * E) ≤ q * high * (BB * E) := Nat.mul_le_mul_right _ h
      rw [Nat.add_mul, Nat.mul_assoc q] at h3
      omega
    · exact h
  · have h1 : (rest * BB + p2 + 1) * E ≤ g * next * E := Nat.mul_le_mul_right _ hg
    have h2 : g * V = g * high * (BB * E) + g * next * E + g * vl := by rw [hV, Nat.mul_add, Nat.mul_add, Nat.mul_assoc, Nat.mul_assoc]
    have h3 : top * (BB * E) = g * high * (BB * E) + rest * BB * E := by rw [← hs, Nat.add_mul, Nat.mul_assoc rest]
    rw [Nat.add_mul, Nat.add_mul] at h1
    rw [h2, hP, h3]
    omega
  · obtain ⟨k, rfl⟩ : ∃ k, g = k + 1 := ⟨g - 1, by omega⟩
    rw [Nat.add_sub_cancel]
    have h2 : k * V ≤ k * high * (BB * E) + k * next * E + k * E := by
      have : k * V = k * high * (BB * E) + k * next * E + k * vl := by rw [hV, Nat.mul_add, Nat.mul_add, Nat.mul_assoc, Nat.mul_assoc]
      have h4 : k * vl ≤ k * E := Nat.mul_le_mul_left _ (by omega)
      omega
    have h3 : top * (BB * E) = k * high * (BB * E) + high * (BB * E) + rest * BB * E := by rw [← hs, Nat.add_mul, Nat.add_mul, Nat.one_mul, Nat.add_mul, Nat.mul_assoc rest]
    have h5 : (k + 1) * next * E ≤ (rest * BB + p2) * E := Nat.mul_le_mul_right _ hg
    rw [Nat.add_mul, Nat.add_mul, Nat.one_mul, Nat.add_mul] at h5
    have h6 : k * E ≤ BB * E := Nat.mul_le_mul_right _ (by omega)
    have h7 : 1 * (BB * E) ≤ high * (BB * E) := Nat.mul_le_mul_right _ hh
    rw [hP, h3]
    omega
  · have h1 : V ≤ (high + 1) * (BB * E) := by
      have h3 : (next + 1) * E ≤ BB * E := Nat.mul_le_mul_right _ hn
      rw [Nat.add_mul] at h3
      rw [hV, Nat.add_mul, Nat.one_mul]
      omega
    have h2 : g * V ≤ g * ((high + 1) * (BB * E)) := Nat.mul_le_mul_left _ h1
    have h4 : g * ((high + 1) * (BB * E)) = g * high * (BB * E) + g * (BB * E) := by rw [Nat.add_mul, Nat.mul_add, Nat.one_mul, Nat.mul_assoc]
    have h5 : g * (BB * E) ≤ rest * (BB * E) := Nat.mul_le_mul_right _ (by omega)
    have h6 : top * (BB * E) = g * high * (BB * E) + rest * (BB * E) := by rw [← hs, Nat.add_mul]
    rw [hP, h6]
    omega

/-- where a shift stands -/
structure Shl (a L : List Nat) (n i K c : Nat) : Prop where
  len : L.length = n + 1
  fit : Fit L
  sum : val (L.take i) + BB ^ i * c = val (a.take i) * K
  carry : c < K
theorem Shl.start {a : List Nat} {n K : Nat} (hK : 0 < K) : Shl a (List.replicate (n + 1) 0) n 0 K 0 :=
  ⟨by simp, Fit.of_mem fun x hx => by rw [List.eq_of_mem_replicate hx]; exact BB_pos, by simp [val], hK⟩
theorem Shl.step {a L : List Nat} {n i K c x t : Nat} (h : Shl a L n i K c) (hi : i < n) (hx : x = a.getD i 0) (fx : x < BB) (ht : t = x * K + c) :
    Shl a (L.set i (t % BB)) n (i + 1) K (t / BB) := by
  have hc := h.carry
  refine ⟨by simp [h.len], h.fit.set _ _ (Nat.mod_lt _ BB_pos), ?_, ?_⟩
  · have hl : (L.take i).length = i := by rw [List.length_take, h.len]; omega
    rw [take_set _ _ _ (by rw [h.len]; omega), val_snoc, hl, val_take_any, ← hx]
    have e : BB * (t / BB) + t % BB = t := Nat.div_add_mod t BB
    have h2 : BB ^ (i + 1) * (t / BB) = BB ^ i * (BB * (t / BB)) := by rw [Nat.pow_succ, Nat.mul_assoc]
    have h3 : BB ^ i * (t % BB) + BB ^ i * (BB * (t / BB)) = BB ^ i * t := by rw [← Nat.mul_add]; congr 1; omega
    have h4 : BB ^ i * t = BB ^ i * x * K + BB ^ i * c := by rw [ht, Nat.mul_add, Nat.mul_assoc]
    have := h.sum
    rw [Nat.add_mul]
    omega
  · have h1 : (x + 1) * K ≤ BB * K := Nat.mul_le_mul_right _ fx
    rw [Nat.add_mul, Nat.one_mul] at h1
    exact Nat.div_lt_of_lt_mul (by omega)
theorem Shl.end_ {a L : List Nat} {n K c : Nat} (h : Shl a L n n K c) (ha : a.length = n) : val (L.set n c) = val a * K := by
  have hs := h.sum
  rw [List.take_of_length_le (l := a) (by omega)] at hs
  have e : L.set n c = L.take n ++ [c] := by
    rw [← take_set L n c (by rw [h.len]; omega), List.take_of_length_le (by simp [h.len])]
  have hl : (L.take n).length = n := by rw [List.length_take, h.len]; omega
  rw [e, val_snoc, hl]
  exact hs

/-- where a shift back stands -/
structure Shr (a L : List Nat) (n i K : Nat) : Prop where
  len : L.length = n
  fit : Fit L
  sum : K * val (L.take i) + a.getD 0 0 % K = val (a.take i) + BB ^ i * (a.getD i 0 % K)
theorem Shr.start {a : List Nat} {n K : Nat} : Shr a (List.replicate n 0) n 0 K :=
  ⟨by simp, Fit.of_mem fun x hx => by rw [List.eq_of_mem_replicate hx]; exact BB_pos, by simp [val]⟩
theorem Shr.step {a L : List Nat} {n i K R x y o : Nat} (h : Shr a L n i K) (hi : i < n) (hx : x = a.getD i 0) (hy : y = a.getD (i + 1) 0) (hK : 0 < K) (hKR : K * R = BB) (fx : x < BB) (ho : o = ((y * BB + x) / K) % BB) :
    Shr a (L.set i o) n (i + 1) K := by
  refine ⟨by simp [h.len], h.fit.set _ _ (by rw [ho]; exact Nat.mod_lt _ BB_pos), ?_⟩
  have hl : (L.take i).length = i := by rw [List.length_take, h.len]; omega
  rw [take_set _ _ _ (by rw [h.len]; exact hi), val_snoc, hl, val_take_any, ← hx, ← hy]
  have hs := h.sum
  rw [← hx] at hs
  -- K * o = x - x % K + BB * (y % K)
  have e1 : (y * BB + x) / K = y * R + x / K := by
    rw [← hKR, show y * (K * R) + x = K * (y * R) + x from by rw [Nat.mul_left_comm], Nat.mul_add_div hK]
  have hxK : x / K < R := Nat.div_lt_of_lt_mul (by rw [hKR]; exact fx)
  have e2 : o = (y % K) * R + x / K := by
    rw [ho, e1]
    have hy2 : y = K * (y / K) + y % K := (Nat.div_add_mod y K).symm
    have e3 : y * R + x / K = BB * (y / K) + ((y % K) * R + x / K) := by
      have h1 : y * R = K * (y / K) * R + y % K * R := by rw [← Nat.add_mul]; exact congrArg (· * R) hy2
      have h2 : K * (y / K) * R = BB * (y / K) := by rw [← hKR, Nat.mul_assoc, Nat.mul_comm (y / K) R, ← Nat.mul_assoc]
      omega
    rw [e3, Nat.mul_add_mod, Nat.mod_eq_of_lt]
    have h4 : (y % K + 1) * R ≤ K * R := Nat.mul_le_mul_right _ (Nat.mod_lt _ hK)
    rw [Nat.add_mul, Nat.one_mul, hKR] at h4
    omega
  have e5 : K * o + x % K = x + BB * (y % K) := by
    rw [e2, Nat.mul_add]
    have h1 := Nat.div_add_mod x K
    have h2 : K * (y % K * R) = BB * (y % K) := by rw [← hKR, Nat.mul_comm (y % K) R, Nat.mul_assoc]
    omega
  have h6 : BB ^ i * (K * o) + BB ^ i * (x % K) = BB ^ i * x + BB ^ i * (BB * (y % K)) := by rw [← Nat.mul_add, ← Nat.mul_add, e5]
  have h7 : BB ^ (i + 1) * (y % K) = BB ^ i * (BB * (y % K)) := by rw [Nat.pow_succ, Nat.mul_assoc]
  have h8 : K * (BB ^ i * o) = BB ^ i * (K * o) := Nat.mul_left_comm _ _ _
  rw [Nat.mul_add, h8, h7]
  omega
theorem Shr.end_ {a L : List Nat} {n K : Nat} (h : Shr a L n n K) (ha : a.length = n) (hK : 0 < K) : val L = val a / K := by
  have hs := h.sum
  rw [List.take_of_length_le (by rw [h.len]; exact Nat.le_refl _), List.take_of_length_le (by omega), getD_ge (by omega : a.length ≤ n), Nat.zero_mod, Nat.mul_zero, Nat.add_zero] at hs
  rw [← hs, Nat.mul_add_div hK, Nat.div_eq_of_lt (Nat.mod_lt _ hK), Nat.add_zero]
end M
end Go.Proofs.YtkooconjkimgoaaDoor

/- Long division: taking k times a number away in place. Plain mathematics. -/
namespace Go.Proofs.YtkooconjkimgoaaDoor
namespace M

/-- where k times l is taken away in place: i limbs are done -/
structure TT (l L0 L : List Nat) (o i k c b : Nat) : Prop where
  len : L.length = L0.length
  fit : Fit L
  rest : ∀ q, q < o ∨ o + i ≤ q → L.getD q 0 = L0.getD q 0
  sum : val ((L.drop o).take i) + val (l.take i) * k = val ((L0.drop o).take i) + BB ^ i * (c + b)
  carry : c < BB
  borrow : b ≤ 1
theorem TT.start {l L : List Nat} {o k : Nat} (f : Fit L) : TT l L L o 0 k 0 0 := ⟨rfl, f, fun _ _ => rfl, by simp [val], BB_pos, by omega⟩
theorem TT.step {l L0 L : List Nat} {o i k c b x y p v b' : Nat} (h : TT l L0 L o i k c b) (hi : o + i < L0.length) (hx : x = l.getD i 0) (hy : y = L.getD (o + i) 0) (fx : x < BB) (fk : k < BB) (hp : p = x * k + c) (fv : v < BB) (hb : b' ≤ 1) (hv : v + p % BB + b = y + BB * b') :
    TT l L0 (L.set (o + i) v) o (i + 1) k (p / BB) b' := by
  have hc := h.carry
  refine ⟨by simp [h.len], h.fit.set _ _ fv, fun q hq => ?_, ?_, ?_, hb⟩
  · rw [set_ne _ _ _ _ (by omega)]; exact h.rest q (by omega)
  · have hl : ((L.drop o).take i).length = i := by rw [List.length_take, List.length_drop, h.len]; omega
    rw [drop_set', take_set _ _ _ (by rw [List.length_drop, h.len]; omega), val_snoc, hl, val_take_any, val_take_any, drop_get, ← h.rest (o + i) (by omega), ← hx, ← hy]
    have e : BB * (p / BB) + p % BB = p := Nat.div_add_mod p BB
    have h2 : BB ^ (i + 1) * (p / BB + b') = BB ^ i * (BB * (p / BB) + BB * b') := by rw [Nat.pow_succ, Nat.mul_assoc, Nat.mul_add]
    have h3 : BB ^ i * v + BB ^ i * (x * k) + BB ^ i * (c + b) = BB ^ i * y + BB ^ i * (BB * (p / BB) + BB * b') := by
      rw [← Nat.mul_add, ← Nat.mul_add, ← Nat.mul_add]
      congr 1
      omega
    have := h.sum
    rw [Nat.add_mul, h2, Nat.mul_assoc]
    omega
  · refine Nat.div_lt_of_lt_mul ?_
    have h1 : x * k ≤ (BB - 1) * (BB - 1) := Nat.mul_le_mul (by omega) (by omega)
    have h2 : BB * BB = (BB - 1) * (BB - 1) + 2 * (BB - 1) + 1 := by
      obtain ⟨b, hb⟩ : ∃ b, BB = b + 1 := ⟨BB - 1, by have := BB_pos; omega⟩
      rw [hb, Nat.add_sub_cancel, Nat.add_mul, Nat.mul_add]
      omega
    omega
/-- the highest limb too, and whether it was once too often -/
structure TTEnd (l L0 L : List Nat) (o n k b : Nat) : Prop where
  len : L.length = L0.length
  fit : Fit L
  rest : ∀ q, q < o ∨ o + n + 1 ≤ q → L.getD q 0 = L0.getD q 0
  sum : val ((L.drop o).take (n + 1)) + val l * k = val ((L0.drop o).take (n + 1)) + BB ^ (n + 1) * b
theorem TT.end_ {l L0 L : List Nat} {o n k c b y v b' : Nat} (h : TT l L0 L o n k c b) (hl : l.length = n) (hi : o + n < L0.length) (hy : y = L.getD (o + n) 0) (fv : v < BB) (hv : v + c + b = y + BB * b') :
    TTEnd l L0 (L.set (o + n) v) o n k b' := by
  refine ⟨by simp [h.len], h.fit.set _ _ fv, fun q hq => ?_, ?_⟩
  · rw [set_ne _ _ _ _ (by omega)]; exact h.rest q (by omega)
  · have hl2 : ((L.drop o).take n).length = n := by rw [List.length_take, List.length_drop, h.len]; omega
    have hs := h.sum
    rw [List.take_of_length_le (l := l) (by omega)] at hs
    rw [drop_set', take_set _ _ _ (by rw [List.length_drop, h.len]; omega), val_snoc, hl2, val_take_any, drop_get, ← h.rest (o + n) (by omega), ← hy]
    have h2 : BB ^ (n + 1) * b' = BB ^ n * (BB * b') := by rw [Nat.pow_succ, Nat.mul_assoc]
    have h3 : BB ^ n * v + BB ^ n * (c + b) = BB ^ n * y + BB ^ n * (BB * b') := by
      rw [← Nat.mul_add, ← Nat.mul_add]
      congr 1
      omega
    rw [h2]
    omega
end M
end Go.Proofs.YtkooconjkimgoaaDoor

/- Long division: what a guess knows of the two numbers. Plain mathematics. -/
namespace Go.Proofs.YtkooconjkimgoaaDoor
namespace M

structure GF (P V high next top p2 : Nat) : Prop where
  up : ∀ q, q * V ≤ P → q * high ≤ top
  over : ∀ g rest, g * high + rest = top → g * next > rest * BB + p2 → P < g * V
  near : ∀ g rest, 0 < g → g ≤ BB → 0 < high → g * high + rest = top → g * next ≤ rest * BB + p2 → (g - 1) * V ≤ P
  under : ∀ g rest, g ≤ BB → BB ≤ rest → g * high + rest = top → g * V ≤ P
  most : P < V * BB → top < (high + 1) * BB

theorem guess_ready {pl vl : List Nat} {n : Nat} (fp : Fit pl) (fv : Fit vl) (lp : pl.length = n + 1) (lv : vl.length = n) (hn : 2 ≤ n) :
    GF (val pl) (val vl) (vl.getD (n - 1) 0) (vl.getD (n - 2) 0) (pl.getD n 0 * BB + pl.getD (n - 1) 0) (pl.getD (n - 2) 0) := by
  obtain ⟨lo, e1, h1⟩ := val_top2 vl n lv hn
  obtain ⟨lo2, e2, h2⟩ := val_top2 pl (n + 1) lp (by omega)
  rw [show n + 1 - 1 = n from by omega, show n + 1 - 2 = n - 1 from by omega] at e2
  rw [show n + 1 - 2 = (n - 2) + 1 from by omega, val_take_any] at h2
  have b1 : lo < BB ^ (n - 2) := by
    have := val_lt (fv.take (n - 2))
    rw [List.length_take, Nat.min_eq_left (by omega)] at this
    omega
  have b2 : val (pl.take (n - 2)) < BB ^ (n - 2) := by
    have := val_lt (fp.take (n - 2))
    rw [List.length_take, Nat.min_eq_left (by omega)] at this
    omega
  have p1 : BB ^ (n - 1) = BB * BB ^ (n - 2) := by rw [show n - 1 = (n - 2) + 1 from by omega, Nat.pow_succ, Nat.mul_comm]
  have p2 : BB ^ n = BB * (BB * BB ^ (n - 2)) := by rw [← p1, ← Nat.pow_succ']; congr 1; omega
  have hV : val vl = vl.getD (n - 1) 0 * (BB * BB ^ (n - 2)) + vl.getD (n - 2) 0 * BB ^ (n - 2) + lo := by rw [e1, p1]
  have hP : val pl = (pl.getD n 0 * BB + pl.getD (n - 1) 0) * (BB * BB ^ (n - 2)) + pl.getD (n - 2) 0 * BB ^ (n - 2) + val (pl.take (n - 2)) := by
    rw [e2, h2, p1, p2, Nat.add_mul, Nat.mul_assoc (pl.getD n 0), Nat.mul_comm (BB ^ (n - 2)) (pl.getD (n - 2) 0)]
    omega
  obtain ⟨g1, g2, g3, g4⟩ := guess_facts hV hP b1 b2 (fp _) (fv _)
  refine ⟨g1, g2, g3, g4, fun h => ?_⟩
  generalize pl.getD n 0 * BB + pl.getD (n - 1) 0 = top at *
  have hn1 : vl.getD (n - 2) 0 < BB := fv _
  generalize vl.getD (n - 1) 0 = high at *
  generalize vl.getD (n - 2) 0 = next at *
  generalize BB ^ (n - 2) = E at *
  have h3 : (next + 1) * E ≤ BB * E := Nat.mul_le_mul_right _ hn1
  rw [Nat.add_mul, Nat.one_mul] at h3
  have h4 : val vl < (high + 1) * (BB * E) := by
    rw [hV, Nat.add_mul, Nat.one_mul]
    omega
  have h5 : val vl * BB ≤ (high + 1) * (BB * E) * BB := Nat.mul_le_mul_right _ (by omega)
  rcases Nat.lt_or_ge top ((high + 1) * BB) with h6 | h6
  · exact h6
  · exfalso
    have h7 : (high + 1) * BB * (BB * E) ≤ top * (BB * E) := Nat.mul_le_mul_right _ h6
    rw [show (high + 1) * BB * (BB * E) = (high + 1) * (BB * E) * BB from by rw [Nat.mul_right_comm]] at h7
    omega

/-- where a guess stands -/
structure GI (P V high top G R : Nat) : Prop where
  sum : G * high + R = top
  ok : P < (G + 1) * V
  rest : R < BB
  le : G ≤ BB + 1
theorem GI.start {P V high next top p2 : Nat} (h : GF P V high next top p2) (hh : 2147483648 ≤ high) (hb : high < BB) (hP : P < V * BB) : GI P V high top (top / high) (top % high) := by
  have hm : top % high < high := Nat.mod_lt _ (by omega)
  have hs : top / high * high + top % high = top := by rw [Nat.mul_comm]; exact Nat.div_add_mod top high
  refine ⟨hs, ?_, by omega, ?_⟩
  · rcases Nat.lt_or_ge P ((top / high + 1) * V) with h1 | h1
    · exact h1
    · have := h.up _ h1
      rw [Nat.add_mul] at this
      omega
  · have h1 := h.most hP
    have h2 : top < (BB + 2) * high := by
      rw [Nat.add_mul, Nat.mul_comm] at h1
      rw [Nat.add_mul]
      rw [M.BB_eq] at *
      omega
    have := (Nat.div_lt_iff_lt_mul (show 0 < high from by omega)).2 h2
    omega
theorem guess_big {P V G : Nat} (hP : P < V * BB) (hG : BB ≤ G) : P < G * V := by
  have : V * BB ≤ G * V := by rw [Nat.mul_comm]; exact Nat.mul_le_mul_right _ hG
  omega
theorem GI.step {P V high top G R : Nat} (h : GI P V high top G R) (hG : 0 < G) (ho : P < G * V) (hr : R + high < BB) : GI P V high top (G - 1) (R + high) := by
  obtain ⟨k, rfl⟩ : ∃ k, G = k + 1 := ⟨G - 1, by omega⟩
  have := h.sum
  rw [Nat.add_mul] at this
  exact ⟨by rw [Nat.add_sub_cancel]; omega, by rw [Nat.add_sub_cancel]; exact ho, hr, by have := h.le; omega⟩
/-- it breaks off: the guess is right -/
theorem GI.stop {P V high next top p2 G R : Nat} (h : GI P V high top G R) (f : GF P V high next top p2) (hP : P < V * BB) (hG : 0 < G) (hr : BB ≤ R + high) : G - 1 ≤ 4294967295 ∧ (G - 1) * V ≤ P := by
  obtain ⟨k, rfl⟩ : ∃ k, G = k + 1 := ⟨G - 1, by omega⟩
  have hs := h.sum
  rw [Nat.add_mul] at hs
  have hl := h.le
  rw [Nat.add_sub_cancel]
  have hk : k ≠ BB := by
    rintro rfl
    have h1 := f.most hP
    rw [Nat.add_mul, Nat.mul_comm] at h1
    omega
  refine ⟨by rw [M.BB_eq] at *; omega, f.under k (R + high) (by omega) hr (by omega)⟩
/-- the answer -/
structure GA (P V G : Nat) : Prop where
  lt : G ≤ 4294967295
  ok : P < (G + 1) * V
  near : (G - 1) * V ≤ P
theorem GI.done {P V high next top p2 G R : Nat} (h : GI P V high top G R) (f : GF P V high next top p2) (hh : 0 < high) (hG : G < BB) (hg : G * next ≤ R * BB + p2) : GA P V G := by
  refine ⟨by rw [M.BB_eq] at hG; omega, h.ok, ?_⟩
  rcases Nat.eq_zero_or_pos G with rfl | h0
  · simp
  · exact f.near G R h0 (by omega) hh h.sum hg
theorem GI.broke {P V high next top p2 G R : Nat} (h : GI P V high top G R) (f : GF P V high next top p2) (hP : P < V * BB) (hG : 0 < G) (ho : P < G * V) (hr : BB ≤ R + high) : GA P V (G - 1) := by
  obtain ⟨h1, h2⟩ := h.stop f hP hG hr
  exact ⟨h1, by rw [show G - 1 + 1 = G from by omega]; exact ho, Nat.le_trans (Nat.mul_le_mul_right _ (by omega)) h2⟩
end M
end Go.Proofs.YtkooconjkimgoaaDoor

/- Long division: where it stands, step by step. Plain mathematics. -/
namespace Go.Proofs.YtkooconjkimgoaaDoor
namespace M

theorem val_split (L : List Nat) (i : Nat) (h : i ≤ L.length) : val L = val (L.take i) + BB ^ i * val (L.drop i) := by
  have e := val_append (L.take i) (L.drop i)
  rw [List.take_append_drop, List.length_take, Nat.min_eq_left h] at e
  exact e

structure DL (U Q : List Nat) (u0 V n s m : Nat) : Prop where
  lenU : U.length = s + n
  fitU : Fit U
  lenQ : Q.length = s
  fitQ : Fit Q
  sum : V * (BB ^ m * val (Q.drop m)) + val U = u0
  lt : val (U.drop m) < V

theorem DL.start {U : List Nat} {V n s : Nat} (hl : U.length = s + n) (hf : Fit U) (h : val (U.drop s) < V) : DL U (List.replicate s 0) (val U) V n s s :=
  ⟨hl, hf, by simp, Fit.of_mem fun x hx => by rw [List.eq_of_mem_replicate hx]; exact BB_pos, by rw [List.drop_of_length_le (by simp), val_nil]; simp, h⟩

/-- the piece from j on, n + 1 limbs long -/
theorem DL.part {U Q : List Nat} {u0 V n s j : Nat} (h : DL U Q u0 V n s (j + 1)) (hj : j < s) (hV : V < BB ^ n) :
    val ((U.drop j).take (n + 1)) < V * BB ∧ val (U.drop (j + n + 1)) = 0 ∧ val (U.drop j) = val ((U.drop j).take (n + 1)) := by
  have hl := h.lenU
  have h0 : val (U.drop (j + n + 1)) = 0 := by
    have e := val_split (U.drop (j + 1)) n (by rw [List.length_drop]; omega)
    rw [List.drop_drop, show j + 1 + n = j + n + 1 from by omega] at e
    rcases Nat.eq_zero_or_pos (val (U.drop (j + n + 1))) with h1 | h1
    · exact h1
    · exfalso
      have h2 : BB ^ n * 1 ≤ BB ^ n * val (U.drop (j + n + 1)) := Nat.mul_le_mul_left _ h1
      have := h.lt
      omega
  have e2 := val_split (U.drop j) (n + 1) (by rw [List.length_drop]; omega)
  rw [List.drop_drop, show j + (n + 1) = j + n + 1 from by omega, h0, Nat.mul_zero, Nat.add_zero] at e2
  refine ⟨?_, h0, e2⟩
  rw [← e2, List.drop_eq_getElem_cons (by omega), val_cons]
  have h3 : U[j] < BB := h.fitU.mem (List.getElem_mem _)
  have h4 : BB * (val (U.drop (j + 1)) + 1) ≤ BB * V := Nat.mul_le_mul_left _ h.lt
  rw [Nat.mul_add, Nat.mul_one, Nat.mul_comm BB V] at h4
  omega

/-- a step's end: the piece is what it was less q times V -/
structure DS (U U2 : List Nat) (V n j q : Nat) : Prop where
  len : U2.length = U.length
  fit : Fit U2
  rest : ∀ p, p < j ∨ j + n + 1 ≤ p → U2.getD p 0 = U.getD p 0
  sum : val ((U2.drop j).take (n + 1)) + q * V = val ((U.drop j).take (n + 1))
  lt : val ((U2.drop j).take (n + 1)) < V
  q_lt : q ≤ 4294967295

theorem take_eq {l m : List Nat} (i : Nat) (hl : l.length = m.length) (h : ∀ j, j < i → l.getD j 0 = m.getD j 0) : l.take i = m.take i := by
  apply List.ext_getElem?
  intro k
  rw [List.getElem?_take, List.getElem?_take]
  split
  · rename_i hk
    have := h k hk
    rcases Nat.lt_or_ge k l.length with h1 | h1
    · rw [getD_lt h1, getD_lt (by omega : k < m.length)] at this
      rw [List.getElem?_eq_getElem h1, List.getElem?_eq_getElem (by omega : k < m.length), this]
    · rw [List.getElem?_eq_none h1, List.getElem?_eq_none (by omega)]
  · rfl

theorem DL.step {U U2 Q : List Nat} {u0 V n s j q : Nat} (h : DL U Q u0 V n s (j + 1)) (hj : j < s) (hV : V < BB ^ n) (d : DS U U2 V n j q) : DL U2 (Q.set j q) u0 V n s j := by
  have hl := h.lenU
  have hq : q < BB := by rw [BB_eq]; have := d.q_lt; omega
  obtain ⟨h1, h2, h3⟩ := h.part hj hV
  have h4 : U2.drop (j + n + 1) = U.drop (j + n + 1) := drop_eq _ d.len fun p hp => d.rest p (.inr hp)
  have h5 : U2.take j = U.take j := take_eq _ d.len fun p hp => d.rest p (.inl hp)
  have h6 : val (U2.drop j) = val ((U2.drop j).take (n + 1)) := by
    have e2 := val_split (U2.drop j) (n + 1) (by rw [List.length_drop, d.len]; omega)
    rw [List.drop_drop, show j + (n + 1) = j + n + 1 from by omega, h4, h2, Nat.mul_zero, Nat.add_zero] at e2
    exact e2
  refine ⟨d.len.trans hl, d.fit, by rw [List.length_set]; exact h.lenQ, h.fitQ.set _ _ hq, ?_, by rw [h6]; exact d.lt⟩
  have e1 := val_split U j (by omega)
  have e2 := val_split U2 j (by rw [d.len]; omega)
  rw [h5, h6] at e2
  rw [h3, ← d.sum] at e1
  have e3 : (Q.set j q).drop j = q :: Q.drop (j + 1) := by
    rw [List.drop_eq_getElem_cons (by rw [List.length_set, h.lenQ]; exact hj), List.getElem_set_self, List.drop_set_of_lt (by omega)]
  have hs := h.sum
  rw [e3, val_cons, e2]
  rw [e1] at hs
  have e4 : V * (BB ^ j * (q + BB * val (Q.drop (j + 1)))) = BB ^ j * (q * V) + V * (BB ^ (j + 1) * val (Q.drop (j + 1))) := by
    rw [Nat.mul_add (BB ^ j), Nat.mul_add V, Nat.pow_succ, Nat.mul_assoc (BB ^ j) BB, Nat.mul_left_comm V, Nat.mul_comm V q]
  rw [e4, ← hs, Nat.mul_add]
  omega

/-- the guess was right -/
theorem DS.right {U U2 l : List Nat} {V n j G : Nat} (hl : val l = V) (t : TTEnd l U U2 j n G 0) (g : GA (val ((U.drop j).take (n + 1))) V G) : DS U U2 V n j G := by
  have hs := t.sum
  rw [hl, Nat.mul_zero, Nat.add_zero, Nat.mul_comm] at hs
  refine ⟨t.len, t.fit, fun p hp => t.rest p (by omega), hs, ?_, g.lt⟩
  have := g.ok
  rw [Nat.add_mul] at this
  omega

theorem TTEnd.pos {U U2 l : List Nat} {n j G : Nat} (hj : j + n < U.length) (t : TTEnd l U U2 j n G 1) : 1 ≤ G := by
  have hs := t.sum
  have hB2 : val ((U2.drop j).take (n + 1)) < BB ^ (n + 1) := by
    have := val_lt ((t.fit.drop j).take (n + 1))
    rw [List.length_take, List.length_drop, t.len, Nat.min_eq_left (by omega)] at this
    exact this
  rcases Nat.eq_zero_or_pos G with rfl | h0
  · rw [Nat.mul_zero, Nat.mul_one] at hs; omega
  · exact h0
/-- it was one too great, and is mended -/
theorem DS.mended {U U2 U3 l : List Nat} {V n j G c y : Nat} (hl : val l = V) (hn : l.length = n) (hj : j + n < U.length) (hV : V < BB ^ n) (t : TTEnd l U U2 j n G 1) (g : GA (val ((U.drop j).take (n + 1))) V G)
    (a : AT l U2 U3 j n 1 c) (hy : y = U2.getD (j + n) 0) : DS U (U3.set (j + n) 0) V n j (G - 1) ∧ y + c = BB := by
  have hs := t.sum
  rw [hl, Nat.mul_one] at hs
  have hB2 : val ((U2.drop j).take (n + 1)) < BB ^ (n + 1) := by
    have := val_lt ((t.fit.drop j).take (n + 1))
    rw [List.length_take, List.length_drop, t.len, Nat.min_eq_left (by omega)] at this
    exact this
  have hG : 1 ≤ G := by
    rcases Nat.eq_zero_or_pos G with rfl | h0
    · rw [Nat.mul_zero] at hs; omega
    · exact h0
  obtain ⟨k, rfl⟩ : ∃ k, G = k + 1 := ⟨G - 1, by omega⟩
  have hn1 := g.near
  have ho := g.ok
  rw [Nat.add_sub_cancel] at hn1 ⊢
  rw [Nat.mul_comm V, Nat.add_mul, Nat.one_mul] at hs
  have hlt : val ((U.drop j).take (n + 1)) < k * V + V := by
    rcases Nat.lt_or_ge (val ((U.drop j).take (n + 1))) (k * V + V) with h1 | h1
    · exact h1
    · omega
  have ha := a.sum
  rw [List.take_of_length_le (l := l) (by omega), hl, Nat.mul_one] at ha
  have e2 : val ((U2.drop j).take (n + 1)) = val ((U2.drop j).take n) + BB ^ n * y := by rw [val_take_any, drop_get, ← hy]
  have h3 : val ((U3.drop j).take n) < BB ^ n := by
    have := val_lt ((a.fit.drop j).take n)
    rw [List.length_take, List.length_drop, a.len, t.len, Nat.min_eq_left (by omega)] at this
    exact this
  have hp : BB ^ (n + 1) = BB ^ n * BB := Nat.pow_succ ..
  have hyc : BB ^ n * (y + c) = BB ^ n * y + BB ^ n * c := Nat.mul_add ..
  have hyB : y + c = BB := by
    rcases Nat.lt_trichotomy (y + c) BB with h4 | h4 | h4
    · exfalso
      have : BB ^ n * (y + c + 1) ≤ BB ^ n * BB := Nat.mul_le_mul_left _ h4
      rw [Nat.mul_add, Nat.mul_one] at this
      omega
    · exact h4
    · exfalso
      have : BB ^ n * (BB + 1) ≤ BB ^ n * (y + c) := Nat.mul_le_mul_left _ h4
      rw [Nat.mul_add, Nat.mul_one] at this
      omega
  rw [hyB] at hyc
  have e5 : val (((U3.set (j + n) 0).drop j).take (n + 1)) = val ((U3.drop j).take n) := by
    rw [drop_set', take_set _ _ _ (by rw [List.length_drop, a.len, t.len]; omega), val_snoc, Nat.mul_zero, Nat.add_zero]
  refine ⟨⟨by rw [List.length_set, a.len, t.len], a.fit.set _ _ BB_pos, fun p hp => ?_, ?_, ?_, by have := g.lt; omega⟩, hyB⟩
  · rw [set_ne _ _ _ _ (by omega), a.rest p (by omega)]
    exact t.rest p (by omega)
  · rw [e5]; omega
  · rw [e5]; omega
/-- the end -/
theorem DL.end_ {U Q : List Nat} {a b K V n s : Nat} (h : DL U Q (a * K) V n s 0) (hK : 0 < K) (hV : V = b * K) (hV2 : V < BB ^ n) (hn : n ≤ U.length) : val Q = a / b ∧ val (U.take n) / K = a % b := by
  have hs := h.sum
  have hl := h.lt
  rw [List.drop_zero] at hl
  rw [List.drop_zero, Nat.pow_zero, Nat.one_mul] at hs
  have e := val_split U n hn
  have h0 : val (U.take n) = val U := by
    rcases Nat.eq_zero_or_pos (val (U.drop n)) with h1 | h1
    · rw [e, h1, Nat.mul_zero, Nat.add_zero]
    · exfalso
      have : BB ^ n * 1 ≤ BB ^ n * val (U.drop n) := Nat.mul_le_mul_left _ h1
      omega
  have hVp : 0 < V := by omega
  have d1 : val Q = a * K / V := by rw [← hs, Nat.mul_add_div hVp, Nat.div_eq_of_lt hl, Nat.add_zero]
  have d2 : val U = a * K % V := by rw [← hs, Nat.mul_add_mod, Nat.mod_eq_of_lt hl]
  refine ⟨by rw [d1, hV, Nat.mul_div_mul_right _ _ hK], ?_⟩
  rw [h0, d2, hV, Nat.mul_mod_mul_right, Nat.mul_div_cancel _ hK]

/-- how the divisor is shifted -/
theorem shifted {b L : List Nat} {n K R x : Nat} (hb : b.length = n) (hL : L.length = n + 1) (fb : Fit b) (fL : Fit L) (hn : 1 ≤ n) (hx : x = b.getD (n - 1) 0) (hKR : K * R = BB) (h1 : 2147483648 ≤ x * K) (h2 : x * K ≤ 4294967295) (hs : val L = val b * K) :
    val (L.take n) = val b * K ∧ val b * K < BB ^ n ∧ 2147483648 ≤ (L.take n).getD (n - 1) 0 := by
  obtain ⟨m, rfl⟩ : ∃ m, n = m + 1 := ⟨n - 1, by omega⟩
  rw [Nat.add_sub_cancel] at hx ⊢
  have e : val b = val (b.take m) + BB ^ m * x := by rw [← val_take_len b (n := m + 1) (by omega), val_take_any, hx]
  have hbm : val (b.take m) < BB ^ m := by
    have := val_lt (fb.take m)
    rw [List.length_take, Nat.min_eq_left (by omega)] at this
    exact this
  have hxK : (x + 1) * K ≤ BB := by
    have hK : 0 < K := by
      rcases Nat.eq_zero_or_pos K with rfl | h; · omega
      · exact h
    have h3 : x < R := by
      have : K * x < K * R := by rw [hKR, Nat.mul_comm, BB_eq]; omega
      exact Nat.lt_of_mul_lt_mul_left this
    rw [← hKR, Nat.mul_comm]
    exact Nat.mul_le_mul_left _ h3
  have hlt : val b * K < BB ^ (m + 1) := by
    have h3 : val b * K < BB ^ m * (x + 1) * K := by
      refine Nat.mul_lt_mul_of_pos_right ?_ (by rcases Nat.eq_zero_or_pos K with rfl | h; · omega
                                                · exact h)
      rw [e, Nat.mul_add]
      omega
    have h4 : BB ^ m * (x + 1) * K ≤ BB ^ m * BB := by rw [Nat.mul_assoc]; exact Nat.mul_le_mul_left _ hxK
    rw [Nat.pow_succ]
    omega
  have h5 := val_split L (m + 1) (by omega)
  have h6 : val (L.drop (m + 1)) = 0 := by
    rcases Nat.eq_zero_or_pos (val (L.drop (m + 1))) with h7 | h7
    · exact h7
    · exfalso
      have : BB ^ (m + 1) * 1 ≤ BB ^ (m + 1) * val (L.drop (m + 1)) := Nat.mul_le_mul_left _ h7
      omega
  rw [h6, Nat.mul_zero, Nat.add_zero] at h5
  refine ⟨by rw [← h5]; exact hs, hlt, ?_⟩
  have h8 : (L.take (m + 1)).getD m 0 = L.getD m 0 := by simp [List.getD_eq_getElem?_getD]
  rw [h8]
  have h9 := val_take_any L m
  have h10 : val (L.take m) < BB ^ m := by
    have := val_lt (fL.take m)
    rw [List.length_take, Nat.min_eq_left (by omega)] at this
    exact this
  rcases Nat.lt_or_ge (L.getD m 0) 2147483648 with h11 | h11
  · exfalso
    have h12 : BB ^ m * (L.getD m 0 + 1) ≤ BB ^ m * (x * K) := Nat.mul_le_mul_left _ (by omega)
    rw [Nat.mul_add, Nat.mul_one, ← Nat.mul_assoc] at h12
    have h13 : BB ^ m * x * K ≤ val b * K := Nat.mul_le_mul_right _ (by omega)
    omega
  · exact h11

/-- the highest limbs of what is divided are less than the divisor -/
theorem begun {a U : List Nat} {la n s K V : Nat} (ha : a.length = la) (fa : Fit a) (hU : U.length = s + n) (hla : la + 1 = s + n) (hn : 1 ≤ n) (hs : val U = val a * K) (hK : K ≤ 2147483648) (hV : 2147483648 * BB ^ (n - 1) ≤ V) : val (U.drop s) < V := by
  obtain ⟨m, rfl⟩ : ∃ m, n = m + 1 := ⟨n - 1, by omega⟩
  rw [Nat.add_sub_cancel] at hV
  obtain rfl : la = s + m := by omega
  have e := val_split U s (by omega)
  have h1 : val a < BB ^ (s + m) := by rw [← ha]; exact val_lt fa
  have h2 : val a * K < BB ^ (s + m) * 2147483648 := by
    rcases Nat.eq_zero_or_pos K with rfl | h0
    · rw [Nat.mul_zero]; have := Nat.pow_pos (n := s + m) BB_pos; omega
    · have h3 : val a * K < BB ^ (s + m) * K := Nat.mul_lt_mul_of_pos_right h1 h0
      have h4 : BB ^ (s + m) * K ≤ BB ^ (s + m) * 2147483648 := Nat.mul_le_mul_left _ hK
      omega
  rcases Nat.lt_or_ge (val (U.drop s)) V with h5 | h5
  · exact h5
  · exfalso
    have h6 : BB ^ s * (2147483648 * BB ^ m) ≤ BB ^ s * val (U.drop s) := Nat.mul_le_mul_left _ (by omega)
    rw [Nat.pow_add, Nat.mul_assoc, Nat.mul_comm (BB ^ m)] at h2
    omega
end M
end Go.Proofs.YtkooconjkimgoaaDoor

/- whole numbers below nought, too: signs, quotients, rests. -/
namespace Go.Proofs.YtkooconjkimgoaaDoor
namespace Z
/-- the number that a sign and a number from 0 on say -/
def sg (g : Bool) (N : Nat) : Int := if g then -(N : Int) else (N : Int)
/-- -1, 0 or 1 -/
def sgn (z : Int) : Int := if z < 0 then -1 else if z = 0 then 0 else 1
theorem sg_true (N : Nat) : sg true N = -(N : Int) := rfl
theorem sg_false (N : Nat) : sg false N = (N : Int) := rfl
theorem sg_abs (g : Bool) (N : Nat) : (sg g N).natAbs = N := by cases g <;> simp [sg]
theorem sgn_neg {z : Int} (h : z < 0) : sgn z = -1 := by simp [sgn, h]
theorem sgn_zero : sgn 0 = 0 := rfl
theorem sgn_pos {z : Int} (h : 0 < z) : sgn z = 1 := by
  unfold sgn
  rw [if_neg (by omega), if_neg (by omega)]
theorem sgn_bd (z : Int) : -1 ≤ sgn z ∧ sgn z ≤ 1 := by
  unfold sgn
  split
  · omega
  · split <;> omega
theorem sgn_sub (z y : Int) : sgn (z - y) = -sgn (y - z) := by
  rcases Int.lt_trichotomy z y with h | h | h
  · rw [sgn_neg (by omega), sgn_pos (by omega)]
  · subst h; rw [Int.sub_self]; rfl
  · rw [sgn_neg (z := y - z) (by omega), sgn_pos (by omega)]; rfl
theorem sgn_cases (z : Int) : (z < 0 ∧ sgn z = -1) ∨ (z = 0 ∧ sgn z = 0) ∨ (0 < z ∧ sgn z = 1) := by
  rcases Int.lt_trichotomy z 0 with h | h | h
  · exact .inl ⟨h, sgn_neg h⟩
  · exact .inr (.inl ⟨h, by rw [h]; rfl⟩)
  · exact .inr (.inr ⟨h, sgn_pos h⟩)
theorem sgn_lt (z : Int) : sgn z < 0 ↔ z < 0 := by
  rcases sgn_cases z with ⟨h1, h2⟩ | ⟨h1, h2⟩ | ⟨h1, h2⟩ <;> rw [h2] <;> omega
theorem sgn_eq (z : Int) : sgn z = 0 ↔ z = 0 := by
  rcases sgn_cases z with ⟨h1, h2⟩ | ⟨h1, h2⟩ | ⟨h1, h2⟩ <;> rw [h2] <;> omega
theorem mul_bd (s t : Int) (hs : -1 ≤ s ∧ s ≤ 1) (ht : -1 ≤ t ∧ t ≤ 1) : -1 ≤ s * t ∧ s * t ≤ 1 := by
  have h : s = -1 ∨ s = 0 ∨ s = 1 := by omega
  rcases h with rfl | rfl | rfl <;> simp <;> omega

/-- the quotient and the rest of two whole numbers from those without signs -/
theorem quo_pos (n d : Nat) : ((n : Int) / (d : Int) = ((n / d : Nat) : Int)) ∧ ((n : Int) % (d : Int) = ((n % d : Nat) : Int)) := ⟨rfl, rfl⟩
theorem quo_neg_exact (n d : Nat) (hd : 0 < d) (h : n % d = 0) : (-(n : Int)) / (d : Int) = -((n / d : Nat) : Int) ∧ (-(n : Int)) % (d : Int) = 0 := by
  have h1 := Nat.div_add_mod n d
  refine (Int.ediv_emod_unique (by omega)).2 ⟨?_, by omega, by omega⟩
  rw [h, Nat.add_zero] at h1
  have h2 : ((d * (n / d) : Nat) : Int) = (n : Int) := by rw [h1]
  rw [Int.mul_neg, Int.zero_add, ← h2, Int.natCast_mul]
theorem quo_neg_rest (n d : Nat) (hd : 0 < d) (h : 0 < n % d) : (-(n : Int)) / (d : Int) = -((n / d + 1 : Nat) : Int) ∧ (-(n : Int)) % (d : Int) = ((d - n % d : Nat) : Int) := by
  have h1 := Nat.div_add_mod n d
  have h3 := Nat.mod_lt n hd
  refine (Int.ediv_emod_unique (by omega)).2 ⟨?_, by omega, by omega⟩
  have h2 : ((d * (n / d) : Nat) : Int) + ((n % d : Nat) : Int) = (n : Int) := by rw [← Int.natCast_add, h1]
  rw [Int.natCast_mul] at h2
  rw [Int.mul_neg, Int.natCast_add, Int.mul_add]
  generalize (d : Int) * ((n / d : Nat) : Int) = X at *
  omega
theorem quo_flip (z d : Int) : z / (-d) = -(z / d) ∧ z % (-d) = z % d := ⟨Int.ediv_neg z d, Int.emod_neg z d⟩

/-- the greatest number that is at most z by y -/
def fl (z y : Int) : Int := if y < 0 then (-z) / (-y) else z / y

/-- what share answers: the quotient, and the rest -/
def shQ (n d : Nat) (b : Bool) : Nat := if b = true ∧ n % d ≠ 0 then n / d + 1 else n / d
def shR (n d : Nat) (b : Bool) : Nat := if b = true ∧ n % d ≠ 0 then d - n % d else n % d

theorem sh_div (n d : Nat) (hd : 0 < d) : (-(n : Int)) / (d : Int) = -((shQ n d true : Nat) : Int) ∧ (-(n : Int)) % (d : Int) = ((shR n d true : Nat) : Int) := by
  unfold shQ shR
  by_cases h : n % d = 0
  · rw [if_neg (by simp [h]), if_neg (by simp [h])]
    obtain ⟨h1, h2⟩ := quo_neg_exact n d hd h
    exact ⟨h1, by rw [h2, h]; rfl⟩
  · rw [if_pos ⟨rfl, h⟩, if_pos ⟨rfl, h⟩]
    exact quo_neg_rest n d hd (by omega)
theorem sh_pos (n d : Nat) : (n : Int) / (d : Int) = ((shQ n d false : Nat) : Int) ∧ (n : Int) % (d : Int) = ((shR n d false : Nat) : Int) := by
  unfold shQ shR
  rw [if_neg (by simp), if_neg (by simp)]
  exact quo_pos n d

/-- a number of that sign: s below 0, or not -/
def sig (s : Int) (N : Nat) : Int := if s < 0 then -(N : Int) else (N : Int)

theorem divs (z y : Int) (hy : y ≠ 0) : sig (sgn z * sgn y) (shQ z.natAbs y.natAbs (decide (sgn z < 0))) = z / y ∧ ((shR z.natAbs y.natAbs (decide (sgn z < 0)) : Nat) : Int) = z % y := by
  have hd : 0 < y.natAbs := by omega
  have hyy : y = (y.natAbs : Int) ∨ y = -(y.natAbs : Int) := by omega
  rcases sgn_cases z with ⟨h1, h2⟩ | ⟨h1, h2⟩ | ⟨h1, h2⟩
  · have hz : z = -(z.natAbs : Int) := by omega
    obtain ⟨e1, e2⟩ := sh_div z.natAbs y.natAbs hd
    rw [← hz] at e1 e2
    rw [h2, decide_eq_true (by omega)]
    rcases hyy with hy' | hy'
    · rw [← hy'] at e1 e2
      rw [sgn_pos (by omega), e1, e2]
      exact ⟨by simp [sig], rfl⟩
    · have e3 := (quo_flip z (y.natAbs : Int)).1
      have e4 := (quo_flip z (y.natAbs : Int)).2
      rw [← hy'] at e3 e4
      rw [sgn_neg (by omega), e3, e4, e1, e2]
      exact ⟨by simp [sig], rfl⟩
  · subst h1
    rw [h2]
    simp [sig, shQ, shR]
  · have hz : z = (z.natAbs : Int) := by omega
    obtain ⟨e1, e2⟩ := sh_pos z.natAbs y.natAbs
    rw [← hz] at e1 e2
    rw [h2, decide_eq_false (by omega)]
    rcases hyy with hy' | hy'
    · rw [← hy'] at e1 e2
      rw [sgn_pos (by omega), e1, e2]
      exact ⟨by simp [sig], rfl⟩
    · have e3 := (quo_flip z (y.natAbs : Int)).1
      have e4 := (quo_flip z (y.natAbs : Int)).2
      rw [← hy'] at e3 e4
      rw [sgn_neg (by omega), e3, e4, e1, e2]
      exact ⟨by simp [sig], rfl⟩
theorem fl_eq (z y : Int) : fl z y = if y < 0 then (-z) / (-y) else z / y := rfl
theorem floors (z y : Int) (hy : y ≠ 0) : sig (sgn z * sgn y) (shQ z.natAbs y.natAbs (decide (sgn z * sgn y < 0))) = fl z y := by
  have hd : 0 < y.natAbs := by omega
  rw [fl_eq]
  have e1 := (sh_div z.natAbs y.natAbs hd).1
  have e2 := (sh_pos z.natAbs y.natAbs).1
  rcases sgn_cases z with ⟨h1, h2⟩ | ⟨h1, h2⟩ | ⟨h1, h2⟩ <;> rcases sgn_cases y with ⟨h3, h4⟩ | ⟨h3, h4⟩ | ⟨h3, h4⟩
  · rw [h2, h4, if_pos h3, show (-z : Int) = (z.natAbs : Int) by omega, show (-y : Int) = (y.natAbs : Int) by omega, e2]
    simp [sig]
  · exact absurd h3 hy
  · rw [h2, h4, if_neg (by omega)]
    rw [show z = -(z.natAbs : Int) by omega, show y = (y.natAbs : Int) by omega, Int.natAbs_neg, Int.natAbs_natCast, Int.natAbs_natCast, e1]
    simp [sig]
  · subst h1; rw [h2]; simp [sig, shQ]
  · exact absurd h3 hy
  · subst h1; rw [h2]; simp [sig, shQ]
  · rw [h2, h4, if_pos h3, show (-z : Int) = -(z.natAbs : Int) by omega, show (-y : Int) = (y.natAbs : Int) by omega, e1]
    simp [sig]
  · exact absurd h3 hy
  · rw [h2, h4, if_neg (by omega)]
    rw [show z = (z.natAbs : Int) by omega, show y = (y.natAbs : Int) by omega, Int.natAbs_natCast, Int.natAbs_natCast, e2]
    simp [sig]
/-- the rest that the floor leaves -/
theorem fl_rest (z y : Int) (hy : y ≠ 0) : (y < 0 → 0 ≤ -(z - fl z y * y) ∧ -(z - fl z y * y) < -y) ∧ (0 < y → 0 ≤ z - fl z y * y ∧ z - fl z y * y < y) := by
  constructor
  · intro h
    rw [fl_eq, if_pos h]
    have h1 := Int.emod_nonneg (-z) (b := -y) (by omega)
    have h2 := Int.emod_lt_of_pos (-z) (b := -y) (by omega)
    have h3 := Int.mul_ediv_add_emod (-z) (-y)
    have h4 : -y * (-z / -y) = -(-z / -y * y) := by rw [Int.neg_mul, Int.mul_comm]
    rw [h4] at h3
    generalize -z / -y * y = X at *
    omega
  · intro h
    rw [fl_eq, if_neg (by omega)]
    have h1 := Int.emod_nonneg z (b := y) (by omega)
    have h2 := Int.emod_lt_of_pos z (b := y) (by omega)
    have h3 := Int.mul_ediv_add_emod z y
    rw [Int.mul_comm] at h3
    generalize z / y * y = X at *
    omega
theorem sig_abs (s : Int) (N : Nat) : (sig s N).natAbs = N := by unfold sig; split <;> simp
theorem abs_lt_fl {z y : Int} (hy : y ≠ 0) : (fl z y).natAbs ≤ z.natAbs + 1 := by
  rw [← floors z y hy, sig_abs]
  unfold shQ
  have := Nat.div_le_self z.natAbs y.natAbs
  split <;> omega
theorem abs_div {z y : Int} (hy : y ≠ 0) : (z / y).natAbs ≤ z.natAbs + 1 := by
  rw [← (divs z y hy).1, sig_abs]
  unfold shQ
  have := Nat.div_le_self z.natAbs y.natAbs
  split <;> omega
theorem abs_mod {z y : Int} (hy : y ≠ 0) : (z % y).natAbs < y.natAbs := by
  have h1 := Int.emod_nonneg z hy
  have h2 := Int.emod_lt z hy
  omega
end Z
end Go.Proofs.YtkooconjkimgoaaDoor
