/- What the proofs of this claim use, text by text. -/
import Derived.WalkKit
set_option linter.unusedSimpArgs false
set_option linter.unusedVariables false
set_option maxRecDepth 100000
set_option maxHeartbeats 25600000
namespace Go.Proofs.YtfjpcjebecgglaaGreatDoor
namespace M
def BB : Nat := 4294967296
theorem BB_eq : BB = 4294967296 := rfl
theorem BB_pos : 0 < BB := by unfold BB; omega
def val : List Nat → Nat
  | [] => 0
  | x :: l => x + BB * val l
theorem getD_lt {l : List Nat} {j : Nat} (h : j < l.length) : l.getD j 0 = l[j] := by simp [List.getD_eq_getElem?_getD, h]
theorem getD_ge {l : List Nat} {j : Nat} (h : l.length ≤ j) : l.getD j 0 = 0 := by simp [List.getD_eq_getElem?_getD, h]
def Fit (l : List Nat) : Prop := ∀ j, l.getD j 0 < BB
theorem Fit.nil : Fit [] := fun j => by simp [BB_pos]
theorem Fit.cons {x : Nat} {l : List Nat} (hx : x < BB) (h : Fit l) : Fit (x :: l) := fun j => by
  cases j with
  | zero => simpa using hx
  | succ j => simpa using h j
theorem Fit.head {x : Nat} {l : List Nat} (h : Fit (x :: l)) : x < BB := by simpa using h 0
theorem Fit.tail {x : Nat} {l : List Nat} (h : Fit (x :: l)) : Fit l := fun j => by simpa using h (j + 1)
theorem Fit.mem {l : List Nat} (h : Fit l) {x : Nat} (hx : x ∈ l) : x < BB := by
  obtain ⟨j, hj, rfl⟩ := List.getElem_of_mem hx
  have := h j
  rwa [getD_lt hj] at this
theorem Fit.of_mem {l : List Nat} (h : ∀ x ∈ l, x < BB) : Fit l := fun j => by
  by_cases hj : j < l.length
  · rw [getD_lt hj]; exact h _ (List.getElem_mem hj)
  · rw [getD_ge (by omega)]; exact BB_pos
theorem Fit.take {l : List Nat} (h : Fit l) (n : Nat) : Fit (l.take n) := Fit.of_mem fun _ hx => h.mem (List.mem_of_mem_take hx)
theorem Fit.append {l m : List Nat} (h : Fit l) (k : Fit m) : Fit (l ++ m) := Fit.of_mem fun x hx => by
  rcases List.mem_append.1 hx with hx | hx
  · exact h.mem hx
  · exact k.mem hx
theorem val_nil : val [] = 0 := rfl
theorem val_cons (x : Nat) (l : List Nat) : val (x :: l) = x + BB * val l := rfl
theorem val_append (l m : List Nat) : val (l ++ m) = val l + BB ^ l.length * val m := by
  induction l with
  | nil => simp [val]
  | cons x l ih =>
    rw [List.cons_append, val_cons, val_cons, ih, List.length_cons, Nat.pow_succ, Nat.mul_add, ← Nat.mul_assoc, Nat.mul_comm BB (BB ^ l.length)]
    omega
theorem val_lt {l : List Nat} (h : Fit l) : val l < BB ^ l.length := by
  induction l with
  | nil => simp [val]
  | cons x l ih =>
    have h1 := ih h.tail
    have hx := h.head
    rw [val_cons, List.length_cons, Nat.pow_succ]
    have h2 : BB * (val l + 1) ≤ BB * BB ^ l.length := Nat.mul_le_mul_left _ h1
    rw [Nat.mul_comm BB (BB ^ l.length)] at h2
    rw [Nat.mul_add] at h2
    omega
theorem val_snoc (l : List Nat) (x : Nat) : val (l ++ [x]) = val l + BB ^ l.length * x := by rw [val_append, val_cons, val_nil]; simp
theorem val_zeros (l : List Nat) (n : Nat) (h : ∀ j, n ≤ j → l.getD j 0 = 0) : val (l.take n) = val l := by
  induction l generalizing n with
  | nil => simp
  | cons x l ih =>
    cases n with
    | zero =>
      have hx : x = 0 := by simpa using h 0 (by omega)
      have := ih 0 (fun j _ => by simpa using h (j + 1) (by omega))
      simp only [List.take_zero, val_nil] at this
      rw [List.take_zero, val_nil, val_cons, ← this, hx]; simp
    | succ n =>
      rw [List.take_succ_cons, val_cons, val_cons, ih n (fun j hj => by simpa using h (j + 1) (by omega))]
def Top (l : List Nat) : Prop := l ≠ [] → l.getD (l.length - 1) 0 ≠ 0
theorem Top.nil : Top [] := fun h => absurd rfl h
theorem Top.tail {x : Nat} {l : List Nat} (h : Top (x :: l)) : Top l := fun hl => by
  have h1 := h (by simp)
  cases l with
  | nil => exact absurd rfl hl
  | cons y l => simpa using h1
theorem Top.pos {l : List Nat} (h : Top l) (hl : l ≠ []) : 0 < val l := by
  induction l with
  | nil => exact absurd rfl hl
  | cons x l ih =>
    rw [val_cons]
    by_cases e : l = []
    · subst e
      have := h (by simp)
      simp at this
      omega
    · have := ih h.tail e
      have h2 : 0 < BB * val l := Nat.mul_pos BB_pos this
      omega
theorem Top.eq_nil {l : List Nat} (h : Top l) (hv : val l = 0) : l = [] := by
  by_cases e : l = []
  · exact e
  · have := h.pos e
    omega
theorem uniq {l m : List Nat} (hl : Fit l) (hm : Fit m) (tl : Top l) (tm : Top m) (h : val l = val m) : l = m := by
  induction l generalizing m with
  | nil => exact (tm.eq_nil h.symm).symm
  | cons x l ih =>
    cases m with
    | nil => exact tl.eq_nil h
    | cons y m =>
      rw [val_cons, val_cons] at h
      have hx := hl.head
      have hy := hm.head
      have e1 : x = y := by
        have := congrArg (· % BB) h
        simp only [Nat.add_mul_mod_self_left] at this
        rwa [Nat.mod_eq_of_lt hx, Nat.mod_eq_of_lt hy] at this
      subst e1
      have e2 : val l = val m := Nat.eq_of_mul_eq_mul_left BB_pos (by omega)
      rw [ih hl.tail hm.tail tl.tail tm.tail e2]
theorem val_ge {l : List Nat} (t : Top l) (hl : l ≠ []) : BB ^ (l.length - 1) ≤ val l := by
  induction l with
  | nil => exact absurd rfl hl
  | cons x l ih =>
    by_cases e : l = []
    · subst e
      have := t (by simp)
      simp [val] at this ⊢
      omega
    · have h1 := ih t.tail e
      have hn : 0 < l.length := List.length_pos_iff.2 e
      rw [val_cons, List.length_cons, Nat.add_sub_cancel]
      have h2 : BB * BB ^ (l.length - 1) ≤ BB * val l := Nat.mul_le_mul_left _ h1
      have h3 : BB * BB ^ (l.length - 1) = BB ^ l.length := by
        rw [Nat.mul_comm, ← Nat.pow_succ]; congr 1; omega
      omega
theorem lt_of_shorter {l m : List Nat} (hl : Fit l) (tm : Top m) (h : l.length < m.length) : val l < val m := by
  have h1 := val_lt hl
  have h2 := val_ge tm (by intro e; subst e; simp at h)
  have h3 : BB ^ l.length ≤ BB ^ (m.length - 1) := Nat.pow_le_pow_right BB_pos (by omega)
  omega
theorem len_le {l : List Nat} {n k : Nat} (t : Top l) (hn : l.length = n) (h : val l < BB ^ k) : n ≤ k := by
  subst hn
  rcases Nat.lt_or_ge k l.length with h1 | h1
  · have h2 := val_ge t (by intro e; subst e; simp at h1)
    have h3 : BB ^ k ≤ BB ^ (l.length - 1) := Nat.pow_le_pow_right BB_pos (by omega)
    omega
  · exact h1
theorem val_at (l : List Nat) (i : Nat) (h : i < l.length) : val l = val (l.take i) + BB ^ i * (l.getD i 0 + BB * val (l.drop (i + 1))) := by
  have e : l = l.take i ++ (l.getD i 0 :: l.drop (i + 1)) := by
    rw [getD_lt h, List.getElem_cons_drop, List.take_append_drop]
  have hl : (l.take i).length = i := by rw [List.length_take]; omega
  have e2 := val_append (l.take i) (l.getD i 0 :: l.drop (i + 1))
  rw [← e, hl, val_cons] at e2
  exact e2
theorem drop_eq {l m : List Nat} (i : Nat) (hl : l.length = m.length) (h : ∀ j, i ≤ j → l.getD j 0 = m.getD j 0) : l.drop i = m.drop i := by
  refine List.ext_getElem (by simp [hl]) fun j h1 h2 => ?_
  rw [List.getElem_drop, List.getElem_drop]
  have := h (i + j) (by omega)
  rwa [getD_lt (by simp at h1; omega), getD_lt (by simp at h2; omega)] at this
theorem lt_of_top {l m : List Nat} (i : Nat) (hl : l.length = m.length) (hi : i < l.length) (fl : Fit l) (h : ∀ j, i + 1 ≤ j → l.getD j 0 = m.getD j 0) (hx : l.getD i 0 < m.getD i 0) : val l < val m := by
  rw [val_at l i hi, val_at m i (by omega), drop_eq (i + 1) hl h]
  have h1 := val_lt (fl.take i)
  rw [List.length_take, Nat.min_eq_left (by omega)] at h1
  generalize BB * val (m.drop (i + 1)) = t
  have h2 : BB ^ i * (l.getD i 0 + t + 1) ≤ BB ^ i * (m.getD i 0 + t) := Nat.mul_le_mul_left _ (by omega)
  rw [Nat.mul_add _ _ 1] at h2
  omega
theorem eq_of_all {l m : List Nat} (hl : l.length = m.length) (h : ∀ j, 0 ≤ j → l.getD j 0 = m.getD j 0) : l = m := by
  have := drop_eq 0 hl h
  simpa using this
def cmpI (a b : Nat) : Int := if a < b then -1 else if a = b then 0 else 1
theorem cmpI_lt {a b : Nat} (h : a < b) : cmpI a b = -1 := by simp [cmpI, h]
theorem cmpI_eq (a : Nat) : cmpI a a = 0 := by simp [cmpI]
theorem cmpI_gt {a b : Nat} (h : b < a) : cmpI a b = 1 := by
  unfold cmpI
  rw [if_neg (by omega), if_neg (by omega)]
theorem set_ne (l : List Nat) (i j x : Nat) (h : i ≠ j) : (l.set i x).getD j 0 = l.getD j 0 := by
  simp [List.getD_eq_getElem?_getD, List.getElem?_set_ne h]
theorem set_eq (l : List Nat) (i x : Nat) (h : i < l.length) : (l.set i x).getD i 0 = x := by
  simp [List.getD_eq_getElem?_getD, h]
theorem Fit.set {l : List Nat} (h : Fit l) (i x : Nat) (hx : x < BB) : Fit (l.set i x) := Fit.of_mem fun y hy => by
  rcases List.mem_or_eq_of_mem_set hy with h1 | rfl
  · exact h.mem h1
  · exact hx
end M
end Go.Proofs.YtfjpcjebecgglaaGreatDoor
namespace Go.Proofs.YtfjpcjebecgglaaGreatDoor
namespace T
def BB : Nat := 10
theorem BB_eq : BB = 10 := rfl
theorem BB_pos : 0 < BB := by unfold BB; omega
def val : List Nat → Nat
  | [] => 0
  | x :: l => x + BB * val l
theorem getD_lt {l : List Nat} {j : Nat} (h : j < l.length) : l.getD j 0 = l[j] := by simp [List.getD_eq_getElem?_getD, h]
theorem getD_ge {l : List Nat} {j : Nat} (h : l.length ≤ j) : l.getD j 0 = 0 := by simp [List.getD_eq_getElem?_getD, h]
def Fit (l : List Nat) : Prop := ∀ j, l.getD j 0 < BB
theorem Fit.nil : Fit [] := fun j => by simp [BB_pos]
theorem Fit.cons {x : Nat} {l : List Nat} (hx : x < BB) (h : Fit l) : Fit (x :: l) := fun j => by
  cases j with
  | zero => simpa using hx
  | succ j => simpa using h j
theorem Fit.head {x : Nat} {l : List Nat} (h : Fit (x :: l)) : x < BB := by simpa using h 0
theorem Fit.tail {x : Nat} {l : List Nat} (h : Fit (x :: l)) : Fit l := fun j => by simpa using h (j + 1)
theorem Fit.mem {l : List Nat} (h : Fit l) {x : Nat} (hx : x ∈ l) : x < BB := by
  obtain ⟨j, hj, rfl⟩ := List.getElem_of_mem hx
  have := h j
  rwa [getD_lt hj] at this
theorem Fit.of_mem {l : List Nat} (h : ∀ x ∈ l, x < BB) : Fit l := fun j => by
  by_cases hj : j < l.length
  · rw [getD_lt hj]; exact h _ (List.getElem_mem hj)
  · rw [getD_ge (by omega)]; exact BB_pos
theorem Fit.take {l : List Nat} (h : Fit l) (n : Nat) : Fit (l.take n) := Fit.of_mem fun _ hx => h.mem (List.mem_of_mem_take hx)
theorem Fit.append {l m : List Nat} (h : Fit l) (k : Fit m) : Fit (l ++ m) := Fit.of_mem fun x hx => by
  rcases List.mem_append.1 hx with hx | hx
  · exact h.mem hx
  · exact k.mem hx
theorem val_nil : val [] = 0 := rfl
theorem val_cons (x : Nat) (l : List Nat) : val (x :: l) = x + BB * val l := rfl
theorem val_append (l m : List Nat) : val (l ++ m) = val l + BB ^ l.length * val m := by
  induction l with
  | nil => simp [val]
  | cons x l ih =>
    rw [List.cons_append, val_cons, val_cons, ih, List.length_cons, Nat.pow_succ, Nat.mul_add, ← Nat.mul_assoc, Nat.mul_comm BB (BB ^ l.length)]
    omega
theorem val_lt {l : List Nat} (h : Fit l) : val l < BB ^ l.length := by
  induction l with
  | nil => simp [val]
  | cons x l ih =>
    have h1 := ih h.tail
    have hx := h.head
    rw [val_cons, List.length_cons, Nat.pow_succ]
    have h2 : BB * (val l + 1) ≤ BB * BB ^ l.length := Nat.mul_le_mul_left _ h1
    rw [Nat.mul_comm BB (BB ^ l.length)] at h2
    rw [Nat.mul_add] at h2
    omega
theorem val_snoc (l : List Nat) (x : Nat) : val (l ++ [x]) = val l + BB ^ l.length * x := by rw [val_append, val_cons, val_nil]; simp
theorem val_zeros (l : List Nat) (n : Nat) (h : ∀ j, n ≤ j → l.getD j 0 = 0) : val (l.take n) = val l := by
  induction l generalizing n with
  | nil => simp
  | cons x l ih =>
    cases n with
    | zero =>
      have hx : x = 0 := by simpa using h 0 (by omega)
      have := ih 0 (fun j _ => by simpa using h (j + 1) (by omega))
      simp only [List.take_zero, val_nil] at this
      rw [List.take_zero, val_nil, val_cons, ← this, hx]; simp
    | succ n =>
      rw [List.take_succ_cons, val_cons, val_cons, ih n (fun j hj => by simpa using h (j + 1) (by omega))]
def Top (l : List Nat) : Prop := l ≠ [] → l.getD (l.length - 1) 0 ≠ 0
theorem Top.nil : Top [] := fun h => absurd rfl h
theorem Top.tail {x : Nat} {l : List Nat} (h : Top (x :: l)) : Top l := fun hl => by
  have h1 := h (by simp)
  cases l with
  | nil => exact absurd rfl hl
  | cons y l => simpa using h1
theorem Top.pos {l : List Nat} (h : Top l) (hl : l ≠ []) : 0 < val l := by
  induction l with
  | nil => exact absurd rfl hl
  | cons x l ih =>
    rw [val_cons]
    by_cases e : l = []
    · subst e
      have := h (by simp)
      simp at this
      omega
    · have := ih h.tail e
      have h2 : 0 < BB * val l := Nat.mul_pos BB_pos this
      omega
theorem Top.eq_nil {l : List Nat} (h : Top l) (hv : val l = 0) : l = [] := by
  by_cases e : l = []
  · exact e
  · have := h.pos e
    omega
theorem uniq {l m : List Nat} (hl : Fit l) (hm : Fit m) (tl : Top l) (tm : Top m) (h : val l = val m) : l = m := by
  induction l generalizing m with
  | nil => exact (tm.eq_nil h.symm).symm
  | cons x l ih =>
    cases m with
    | nil => exact tl.eq_nil h
    | cons y m =>
      rw [val_cons, val_cons] at h
      have hx := hl.head
      have hy := hm.head
      have e1 : x = y := by
        have := congrArg (· % BB) h
        simp only [Nat.add_mul_mod_self_left] at this
        rwa [Nat.mod_eq_of_lt hx, Nat.mod_eq_of_lt hy] at this
      subst e1
      have e2 : val l = val m := Nat.eq_of_mul_eq_mul_left BB_pos (by omega)
      rw [ih hl.tail hm.tail tl.tail tm.tail e2]
theorem val_ge {l : List Nat} (t : Top l) (hl : l ≠ []) : BB ^ (l.length - 1) ≤ val l := by
  induction l with
  | nil => exact absurd rfl hl
  | cons x l ih =>
    by_cases e : l = []
    · subst e
      have := t (by simp)
      simp [val] at this ⊢
      omega
    · have h1 := ih t.tail e
      have hn : 0 < l.length := List.length_pos_iff.2 e
      rw [val_cons, List.length_cons, Nat.add_sub_cancel]
      have h2 : BB * BB ^ (l.length - 1) ≤ BB * val l := Nat.mul_le_mul_left _ h1
      have h3 : BB * BB ^ (l.length - 1) = BB ^ l.length := by
        rw [Nat.mul_comm, ← Nat.pow_succ]; congr 1; omega
      omega
theorem lt_of_shorter {l m : List Nat} (hl : Fit l) (tm : Top m) (h : l.length < m.length) : val l < val m := by
  have h1 := val_lt hl
  have h2 := val_ge tm (by intro e; subst e; simp at h)
  have h3 : BB ^ l.length ≤ BB ^ (m.length - 1) := Nat.pow_le_pow_right BB_pos (by omega)
  omega
theorem len_le {l : List Nat} {n k : Nat} (t : Top l) (hn : l.length = n) (h : val l < BB ^ k) : n ≤ k := by
  subst hn
  rcases Nat.lt_or_ge k l.length with h1 | h1
  · have h2 := val_ge t (by intro e; subst e; simp at h1)
    have h3 : BB ^ k ≤ BB ^ (l.length - 1) := Nat.pow_le_pow_right BB_pos (by omega)
    omega
  · exact h1
theorem val_at (l : List Nat) (i : Nat) (h : i < l.length) : val l = val (l.take i) + BB ^ i * (l.getD i 0 + BB * val (l.drop (i + 1))) := by
  have e : l = l.take i ++ (l.getD i 0 :: l.drop (i + 1)) := by
    rw [getD_lt h, List.getElem_cons_drop, List.take_append_drop]
  have hl : (l.take i).length = i := by rw [List.length_take]; omega
  have e2 := val_append (l.take i) (l.getD i 0 :: l.drop (i + 1))
  rw [← e, hl, val_cons] at e2
  exact e2
theorem drop_eq {l m : List Nat} (i : Nat) (hl : l.length = m.length) (h : ∀ j, i ≤ j → l.getD j 0 = m.getD j 0) : l.drop i = m.drop i := by
  refine List.ext_getElem (by simp [hl]) fun j h1 h2 => ?_
  rw [List.getElem_drop, List.getElem_drop]
  have := h (i + j) (by omega)
  rwa [getD_lt (by simp at h1; omega), getD_lt (by simp at h2; omega)] at this
theorem lt_of_top {l m : List Nat} (i : Nat) (hl : l.length = m.length) (hi : i < l.length) (fl : Fit l) (h : ∀ j, i + 1 ≤ j → l.getD j 0 = m.getD j 0) (hx : l.getD i 0 < m.getD i 0) : val l < val m := by
  rw [val_at l i hi, val_at m i (by omega), drop_eq (i + 1) hl h]
  have h1 := val_lt (fl.take i)
  rw [List.length_take, Nat.min_eq_left (by omega)] at h1
  generalize BB * val (m.drop (i + 1)) = t
  have h2 : BB ^ i * (l.getD i 0 + t + 1) ≤ BB ^ i * (m.getD i 0 + t) := Nat.mul_le_mul_left _ (by omega)
  rw [Nat.mul_add _ _ 1] at h2
  omega
theorem eq_of_all {l m : List Nat} (hl : l.length = m.length) (h : ∀ j, 0 ≤ j → l.getD j 0 = m.getD j 0) : l = m := by
  have := drop_eq 0 hl h
  simpa using this
def cmpI (a b : Nat) : Int := if a < b then -1 else if a = b then 0 else 1
theorem cmpI_lt {a b : Nat} (h : a < b) : cmpI a b = -1 := by simp [cmpI, h]
theorem cmpI_eq (a : Nat) : cmpI a a = 0 := by simp [cmpI]
theorem cmpI_gt {a b : Nat} (h : b < a) : cmpI a b = 1 := by
  unfold cmpI
  rw [if_neg (by omega), if_neg (by omega)]
theorem set_ne (l : List Nat) (i j x : Nat) (h : i ≠ j) : (l.set i x).getD j 0 = l.getD j 0 := by
  simp [List.getD_eq_getElem?_getD, List.getElem?_set_ne h]
theorem set_eq (l : List Nat) (i x : Nat) (h : i < l.length) : (l.set i x).getD i 0 = x := by
  simp [List.getD_eq_getElem?_getD, h]
theorem Fit.set {l : List Nat} (h : Fit l) (i x : Nat) (hx : x < BB) : Fit (l.set i x) := Fit.of_mem fun y hy => by
  rcases List.mem_or_eq_of_mem_set hy with h1 | rfl
  · exact h.mem h1
  · exact hx
end T
end Go.Proofs.YtfjpcjebecgglaaGreatDoor
namespace Go.Proofs.YtfjpcjebecgglaaGreatDoor
namespace W2
def BB : Nat := 2
theorem BB_eq : BB = 2 := rfl
theorem BB_pos : 0 < BB := by unfold BB; omega
def val : List Nat → Nat
  | [] => 0
  | x :: l => x + BB * val l
theorem getD_lt {l : List Nat} {j : Nat} (h : j < l.length) : l.getD j 0 = l[j] := by simp [List.getD_eq_getElem?_getD, h]
theorem getD_ge {l : List Nat} {j : Nat} (h : l.length ≤ j) : l.getD j 0 = 0 := by simp [List.getD_eq_getElem?_getD, h]
def Fit (l : List Nat) : Prop := ∀ j, l.getD j 0 < BB
theorem Fit.nil : Fit [] := fun j => by simp [BB_pos]
theorem Fit.cons {x : Nat} {l : List Nat} (hx : x < BB) (h : Fit l) : Fit (x :: l) := fun j => by
  cases j with
  | zero => simpa using hx
  | succ j => simpa using h j
theorem Fit.head {x : Nat} {l : List Nat} (h : Fit (x :: l)) : x < BB := by simpa using h 0
theorem Fit.tail {x : Nat} {l : List Nat} (h : Fit (x :: l)) : Fit l := fun j => by simpa using h (j + 1)
theorem Fit.mem {l : List Nat} (h : Fit l) {x : Nat} (hx : x ∈ l) : x < BB := by
  obtain ⟨j, hj, rfl⟩ := List.getElem_of_mem hx
  have := h j
  rwa [getD_lt hj] at this
theorem Fit.of_mem {l : List Nat} (h : ∀ x ∈ l, x < BB) : Fit l := fun j => by
  by_cases hj : j < l.length
  · rw [getD_lt hj]; exact h _ (List.getElem_mem hj)
  · rw [getD_ge (by omega)]; exact BB_pos
theorem Fit.take {l : List Nat} (h : Fit l) (n : Nat) : Fit (l.take n) := Fit.of_mem fun _ hx => h.mem (List.mem_of_mem_take hx)
theorem Fit.append {l m : List Nat} (h : Fit l) (k : Fit m) : Fit (l ++ m) := Fit.of_mem fun x hx => by
  rcases List.mem_append.1 hx with hx | hx
  · exact h.mem hx
  · exact k.mem hx
theorem val_nil : val [] = 0 := rfl
theorem val_cons (x : Nat) (l : List Nat) : val (x :: l) = x + BB * val l := rfl
theorem val_append (l m : List Nat) : val (l ++ m) = val l + BB ^ l.length * val m := by
  induction l with
  | nil => simp [val]
  | cons x l ih =>
    rw [List.cons_append, val_cons, val_cons, ih, List.length_cons, Nat.pow_succ, Nat.mul_add, ← Nat.mul_assoc, Nat.mul_comm BB (BB ^ l.length)]
    omega
theorem val_lt {l : List Nat} (h : Fit l) : val l < BB ^ l.length := by
  induction l with
  | nil => simp [val]
  | cons x l ih =>
    have h1 := ih h.tail
    have hx := h.head
    rw [val_cons, List.length_cons, Nat.pow_succ]
    have h2 : BB * (val l + 1) ≤ BB * BB ^ l.length := Nat.mul_le_mul_left _ h1
    rw [Nat.mul_comm BB (BB ^ l.length)] at h2
    rw [Nat.mul_add] at h2
    omega
theorem val_snoc (l : List Nat) (x : Nat) : val (l ++ [x]) = val l + BB ^ l.length * x := by rw [val_append, val_cons, val_nil]; simp
theorem val_zeros (l : List Nat) (n : Nat) (h : ∀ j, n ≤ j → l.getD j 0 = 0) : val (l.take n) = val l := by
  induction l generalizing n with
  | nil => simp
  | cons x l ih =>
    cases n with
    | zero =>
      have hx : x = 0 := by simpa using h 0 (by omega)
      have := ih 0 (fun j _ => by simpa using h (j + 1) (by omega))
      simp only [List.take_zero, val_nil] at this
      rw [List.take_zero, val_nil, val_cons, ← this, hx]; simp
    | succ n =>
      rw [List.take_succ_cons, val_cons, val_cons, ih n (fun j hj => by simpa using h (j + 1) (by omega))]
def Top (l : List Nat) : Prop := l ≠ [] → l.getD (l.length - 1) 0 ≠ 0
theorem Top.nil : Top [] := fun h => absurd rfl h
theorem Top.tail {x : Nat} {l : List Nat} (h : Top (x :: l)) : Top l := fun hl => by
  have h1 := h (by simp)
  cases l with
  | nil => exact absurd rfl hl
  | cons y l => simpa using h1
theorem Top.pos {l : List Nat} (h : Top l) (hl : l ≠ []) : 0 < val l := by
  induction l with
  | nil => exact absurd rfl hl
  | cons x l ih =>
    rw [val_cons]
    by_cases e : l = []
    · subst e
      have := h (by simp)
      simp at this
      omega
    · have := ih h.tail e
      have h2 : 0 < BB * val l := Nat.mul_pos BB_pos this
      omega
theorem Top.eq_nil {l : List Nat} (h : Top l) (hv : val l = 0) : l = [] := by
  by_cases e : l = []
  · exact e
  · have := h.pos e
    omega
theorem uniq {l m : List Nat} (hl : Fit l) (hm : Fit m) (tl : Top l) (tm : Top m) (h : val l = val m) : l = m := by
  induction l generalizing m with
  | nil => exact (tm.eq_nil h.symm).symm
  | cons x l ih =>
    cases m with
    | nil => exact tl.eq_nil h
    | cons y m =>
      rw [val_cons, val_cons] at h
      have hx := hl.head
      have hy := hm.head
      have e1 : x = y := by
        have := congrArg (· % BB) h
        simp only [Nat.add_mul_mod_self_left] at this
        rwa [Nat.mod_eq_of_lt hx, Nat.mod_eq_of_lt hy] at this
      subst e1
      have e2 : val l = val m := Nat.eq_of_mul_eq_mul_left BB_pos (by omega)
      rw [ih hl.tail hm.tail tl.tail tm.tail e2]
theorem val_ge {l : List Nat} (t : Top l) (hl : l ≠ []) : BB ^ (l.length - 1) ≤ val l := by
  induction l with
  | nil => exact absurd rfl hl
  | cons x l ih =>
    by_cases e : l = []
    · subst e
      have := t (by simp)
      simp [val] at this ⊢
      omega
    · have h1 := ih t.tail e
      have hn : 0 < l.length := List.length_pos_iff.2 e
      rw [val_cons, List.length_cons, Nat.add_sub_cancel]
      have h2 : BB * BB ^ (l.length - 1) ≤ BB * val l := Nat.mul_le_mul_left _ h1
      have h3 : BB * BB ^ (l.length - 1) = BB ^ l.length := by
        rw [Nat.mul_comm, ← Nat.pow_succ]; congr 1; omega
      omega
theorem lt_of_shorter {l m : List Nat} (hl : Fit l) (tm : Top m) (h : l.length < m.length) : val l < val m := by
  have h1 := val_lt hl
  have h2 := val_ge tm (by intro e; subst e; simp at h)
  have h3 : BB ^ l.length ≤ BB ^ (m.length - 1) := Nat.pow_le_pow_right BB_pos (by omega)
  omega
theorem len_le {l : List Nat} {n k : Nat} (t : Top l) (hn : l.length = n) (h : val l < BB ^ k) : n ≤ k := by
  subst hn
  rcases Nat.lt_or_ge k l.length with h1 | h1
  · have h2 := val_ge t (by intro e; subst e; simp at h1)
    have h3 : BB ^ k ≤ BB ^ (l.length - 1) := Nat.pow_le_pow_right BB_pos (by omega)
    omega
  · exact h1
theorem val_at (l : List Nat) (i : Nat) (h : i < l.length) : val l = val (l.take i) + BB ^ i * (l.getD i 0 + BB * val (l.drop (i + 1))) := by
  have e : l = l.take i ++ (l.getD i 0 :: l.drop (i + 1)) := by
    rw [getD_lt h, List.getElem_cons_drop, List.take_append_drop]
  have hl : (l.take i).length = i := by rw [List.length_take]; omega
  have e2 := val_append (l.take i) (l.getD i 0 :: l.drop (i + 1))
  rw [← e, hl, val_cons] at e2
  exact e2
theorem drop_eq {l m : List Nat} (i : Nat) (hl : l.length = m.length) (h : ∀ j, i ≤ j → l.getD j 0 = m.getD j 0) : l.drop i = m.drop i := by
  refine List.ext_getElem (by simp [hl]) fun j h1 h2 => ?_
  rw [List.getElem_drop, List.getElem_drop]
  have := h (i + j) (by omega)
  rwa [getD_lt (by simp at h1; omega), getD_lt (by simp at h2; omega)] at this
theorem lt_of_top {l m : List Nat} (i : Nat) (hl : l.length = m.length) (hi : i < l.length) (fl : Fit l) (h : ∀ j, i + 1 ≤ j → l.getD j 0 = m.getD j 0) (hx : l.getD i 0 < m.getD i 0) : val l < val m := by
  rw [val_at l i hi, val_at m i (by omega), drop_eq (i + 1) hl h]
  have h1 := val_lt (fl.take i)
  rw [List.length_take, Nat.min_eq_left (by omega)] at h1
  generalize BB * val (m.drop (i + 1)) = t
  have h2 : BB ^ i * (l.getD i 0 + t + 1) ≤ BB ^ i * (m.getD i 0 + t) := Nat.mul_le_mul_left _ (by omega)
  rw [Nat.mul_add _ _ 1] at h2
  omega
theorem eq_of_all {l m : List Nat} (hl : l.length = m.length) (h : ∀ j, 0 ≤ j → l.getD j 0 = m.getD j 0) : l = m := by
  have := drop_eq 0 hl h
  simpa using this
def cmpI (a b : Nat) : Int := if a < b then -1 else if a = b then 0 else 1
theorem cmpI_lt {a b : Nat} (h : a < b) : cmpI a b = -1 := by simp [cmpI, h]
theorem cmpI_eq (a : Nat) : cmpI a a = 0 := by simp [cmpI]
theorem cmpI_gt {a b : Nat} (h : b < a) : cmpI a b = 1 := by
  unfold cmpI
  rw [if_neg (by omega), if_neg (by omega)]
theorem set_ne (l : List Nat) (i j x : Nat) (h : i ≠ j) : (l.set i x).getD j 0 = l.getD j 0 := by
  simp [List.getD_eq_getElem?_getD, List.getElem?_set_ne h]
theorem set_eq (l : List Nat) (i x : Nat) (h : i < l.length) : (l.set i x).getD i 0 = x := by
  simp [List.getD_eq_getElem?_getD, h]
theorem Fit.set {l : List Nat} (h : Fit l) (i x : Nat) (hx : x < BB) : Fit (l.set i x) := Fit.of_mem fun y hy => by
  rcases List.mem_or_eq_of_mem_set hy with h1 | rfl
  · exact h.mem h1
  · exact hx
end W2
end Go.Proofs.YtfjpcjebecgglaaGreatDoor
namespace Go.Proofs.YtfjpcjebecgglaaGreatDoor
namespace M
structure DivInv (L0 L : List Nat) (n i d r : Nat) : Prop where
  len : L.length = L0.length
  fit : Fit L
  low : ∀ q, q < i → L.getD q 0 = L0.getD q 0
  high : ∀ q, n ≤ q → L.getD q 0 = L0.getD q 0
  sum : val ((L0.take n).drop i) = d * val ((L.take n).drop i) + r
  rest : r < d
theorem drop_cons (l : List Nat) (n i : Nat) (hi : i < n) (hn : n ≤ l.length) : (l.take n).drop i = l.getD i 0 :: (l.take n).drop (i + 1) := by
  rw [List.drop_eq_getElem_cons (by rw [List.length_take]; omega), List.getElem_take, getD_lt (by omega)]
theorem DivInv.start {L : List Nat} {n d : Nat} (f : Fit L) (hn : n ≤ L.length) (hd : 0 < d) : DivInv L L n n d 0 :=
  ⟨rfl, f, fun _ _ => rfl, fun _ _ => rfl, by rw [List.drop_of_length_le (by rw [List.length_take]; omega)]; simp [val], hd⟩
theorem DivInv.step {L0 L : List Nat} {n i d r x t : Nat} (h : DivInv L0 L n (i + 1) d r) (hi : i < n) (hn : n ≤ L0.length) (hx : x = L.getD i 0) (ht : t = x + BB * r) :
    t / d < BB ∧ DivInv L0 (L.set i (t / d)) n i d (t % d) := by
  have hd : 0 < d := by have := h.rest; omega
  have fx : x < BB := by rw [hx]; exact h.fit i
  have hq : t / d < BB := by
    refine Nat.div_lt_of_lt_mul ?_
    have h1 : BB * (r + 1) ≤ BB * d := Nat.mul_le_mul_left _ h.rest
    rw [Nat.mul_add] at h1
    rw [Nat.mul_comm d BB]
    omega
  refine ⟨hq, ⟨by rw [List.length_set, h.len], h.fit.set _ _ hq, fun q hq => ?_, fun q hq => ?_, ?_, Nat.mod_lt _ hd⟩⟩
  · rw [set_ne _ _ _ _ (by omega)]; exact h.low q (by omega)
  · rw [set_ne _ _ _ _ (by omega)]; exact h.high q (by omega)
  · have hl : n ≤ L.length := by rw [h.len]; exact hn
    have e1 := drop_cons L0 n i hi hn
    have e2 := drop_cons (L.set i (t / d)) n i hi (by rw [List.length_set]; exact hl)
    rw [set_eq _ _ _ (by omega)] at e2
    have e3 : ((L.set i (t / d)).take n).drop (i + 1) = (L.take n).drop (i + 1) := by
      rw [List.take_set, List.drop_set_of_lt (by omega)]
    have hs := h.sum
    rw [e1, e2, e3, val_cons, val_cons, hs, ← h.low i (by omega), ← hx]
    have e4 : d * (t / d) + t % d = t := Nat.div_add_mod t d
    generalize val ((L.take n).drop (i + 1)) = v
    have e5 : d * (t / d + BB * v) = d * (t / d) + BB * (d * v) := by rw [Nat.mul_add, Nat.mul_left_comm]
    rw [e5, Nat.mul_add]
    omega
theorem DivInv.end_ {L0 L : List Nat} {n d r : Nat} (h : DivInv L0 L n 0 d r) : val (L.take n) = val (L0.take n) / d ∧ r = val (L0.take n) % d := by
  have hs := h.sum
  rw [List.drop_zero, List.drop_zero] at hs
  have hr := h.rest
  rw [hs]
  constructor
  · rw [Nat.mul_add_div (by omega), Nat.div_eq_of_lt hr, Nat.add_zero]
  · rw [Nat.mul_add_mod, Nat.mod_eq_of_lt hr]
theorem drop_get (L : List Nat) (o i : Nat) : (L.drop o).getD i 0 = L.getD (o + i) 0 := by
  simp [List.getD_eq_getElem?_getD]
end M
end Go.Proofs.YtfjpcjebecgglaaGreatDoor
namespace Go.Proofs.YtfjpcjebecgglaaGreatDoor
namespace T
def asc (ds : List Nat) : List Nat := ds.map (48 + ·)
def byt (es : List Nat) : List UInt8 := es.map UInt8.ofNat
def Txt (N : Nat) (l : List UInt8) : Prop := (N = 0 ∧ l = [48]) ∨ ∃ ds, Fit ds ∧ Top ds ∧ ds ≠ [] ∧ val ds = N ∧ l = byt (asc ds).reverse
theorem Txt.uniq {N : Nat} {l m : List UInt8} (h : Txt N l) (k : Txt N m) : l = m := by
  rcases h with ⟨h0, rfl⟩ | ⟨ds, f, t, ne, hv, rfl⟩ <;> rcases k with ⟨k0, rfl⟩ | ⟨es, f', t', ne', hv', rfl⟩
  · rfl
  · exact absurd (t'.pos ne') (by omega)
  · exact absurd (t.pos ne) (by omega)
  · rw [T.uniq f f' t t' (by omega)]
structure Chunk (ds es : List Nat) (C j c : Nat) : Prop where
  len : es.length = ds.length + j
  fit : Fit es
  sum : val es + 10 ^ es.length * c = val ds + 10 ^ ds.length * C
  lt : c < 10 ^ (9 - j)
theorem Chunk.start {ds : List Nat} {C : Nat} (f : Fit ds) (h : C < 1000000000) : Chunk ds ds C 0 C := ⟨rfl, f, rfl, h⟩
theorem Chunk.step {ds es : List Nat} {C j c : Nat} (h : Chunk ds es C j c) (hj : j < 9) : Chunk ds (es ++ [c % 10]) C (j + 1) (c / 10) := by
  refine ⟨by simp [h.len]; omega, h.fit.append (Fit.cons (Nat.mod_lt _ (by omega)) Fit.nil), ?_, ?_⟩
  · rw [val_snoc, List.length_append, List.length_cons, List.length_nil, Nat.zero_add, BB_eq, ← h.sum, Nat.pow_succ, Nat.mul_assoc]
    have e : 10 * (c / 10) + c % 10 = c := Nat.div_add_mod c 10
    have e2 : 10 ^ es.length * (c % 10) + 10 ^ es.length * (10 * (c / 10)) = 10 ^ es.length * c := by rw [← Nat.mul_add]; congr 1; omega
    omega
  · have := h.lt
    refine Nat.div_lt_of_lt_mul ?_
    have e : 10 * 10 ^ (9 - (j + 1)) = 10 ^ (9 - j) := by rw [Nat.mul_comm, ← Nat.pow_succ]; congr 1; omega
    omega
structure Texting (ds : List Nat) (V N : Nat) : Prop where
  fit : Fit ds
  sum : val ds + 10 ^ ds.length * V = N
theorem Texting.start (N : Nat) : Texting [] N N := ⟨Fit.nil, by simp [val]⟩
theorem Texting.step {ds es : List Nat} {V N c : Nat} (h : Texting ds V N) (k : Chunk ds es (V % 1000000000) 9 c) : Texting es (V / 1000000000) N := by
  refine ⟨k.fit, ?_⟩
  have hc : c = 0 := by have := k.lt; simp at this; exact this
  have hs := k.sum
  rw [hc, Nat.mul_zero, Nat.add_zero] at hs
  rw [hs, k.len, Nat.pow_add, Nat.mul_assoc, Nat.add_assoc, ← Nat.mul_add, ← h.sum]
  congr 2
  have := Nat.div_add_mod V 1000000000
  omega
theorem Texting.short {ds : List Nat} {V N n : Nat} (h : Texting ds V N) (hV : 0 < V) (hN : N < M.BB ^ n) : ds.length ≤ 10 * n := by
  have h1 : 10 ^ ds.length ≤ N := by
    rw [← h.sum]
    have : 10 ^ ds.length * 1 ≤ 10 ^ ds.length * V := Nat.mul_le_mul_left _ hV
    omega
  have h2 : M.BB ^ n ≤ 10 ^ (10 * n) := by
    rw [Nat.pow_mul]
    exact Nat.pow_le_pow_left (by rw [M.BB_eq]; omega) n
  rcases Nat.lt_or_ge (10 * n) ds.length with h3 | h3
  · have := Nat.pow_le_pow_right (n := 10) (by omega) (Nat.le_of_lt h3)
    omega
  · exact h3
theorem asc_length (ds : List Nat) : (asc ds).length = ds.length := by simp [asc]
theorem asc_snoc (ds : List Nat) (d : Nat) : asc (ds ++ [d]) = asc ds ++ [48 + d] := by simp [asc]
theorem asc_get {ds : List Nat} {j : Nat} (h : j < ds.length) : (asc ds).getD j 0 = 48 + ds.getD j 0 := by
  simp [asc, List.getD_eq_getElem?_getD, h]
theorem asc_take (ds : List Nat) (n : Nat) : asc (ds.take n) = (asc ds).take n := by simp [asc, List.map_take]
theorem Texting.txt {ds : List Nat} {N n : Nat} (h : Texting ds 0 N) (h0 : 0 < n) (hn : n ≤ ds.length) (hx : ds.getD (n - 1) 0 ≠ 0) (hz : ∀ q, n ≤ q → ds.getD q 0 = 0) :
    Txt N (byt (asc (ds.take n)).reverse) := by
  refine .inr ⟨ds.take n, h.fit.take n, fun _ => ?_, ?_, ?_, rfl⟩
  · rw [List.length_take, Nat.min_eq_left hn]
    simpa [List.getD_eq_getElem?_getD, List.getElem?_take, show n - 1 < n from by omega] using hx
  · intro e
    have := congrArg List.length e
    rw [List.length_take, List.length_nil] at this
    omega
  · rw [val_zeros ds n hz, ← h.sum]; simp
end T
end Go.Proofs.YtfjpcjebecgglaaGreatDoor
namespace Go.Proofs.YtfjpcjebecgglaaGreatDoor
namespace T
def dv (l : List UInt8) : Nat := val (l.map fun c => c.toNat - 48).reverse
def AllD (l : List UInt8) : Prop := ∀ c ∈ l, 48 ≤ c.toNat ∧ c.toNat ≤ 57
theorem dv_fit {l : List UInt8} (h : AllD l) : Fit (l.map fun c => c.toNat - 48).reverse := Fit.of_mem fun x hx => by
  rw [List.mem_reverse, List.mem_map] at hx
  obtain ⟨c, hc, rfl⟩ := hx
  have := h c hc
  rw [BB_eq]
  omega
theorem dv_lt {l : List UInt8} (h : AllD l) : dv l < 10 ^ l.length := by
  have := val_lt (dv_fit h)
  simpa [dv, BB_eq] using this
theorem AllD.take {l : List UInt8} (h : AllD l) (n : Nat) : AllD (l.take n) := fun c hc => h c (List.mem_of_mem_take hc)
theorem room {s : List UInt8} (h : AllD s) {i n : Nat} (hn : n = s.length / 9 + 1) : dv (s.take i) < M.BB ^ n := by
  have h1 := dv_lt (h.take i)
  have h2 : 10 ^ (s.take i).length ≤ 10 ^ (9 * n) := Nat.pow_le_pow_right (by omega) (by rw [List.length_take]; omega)
  have h3 : 10 ^ (9 * n) ≤ M.BB ^ n := by
    rw [Nat.pow_mul]
    exact Nat.pow_le_pow_left (by rw [M.BB_eq]; omega) n
  omega
end T
end Go.Proofs.YtfjpcjebecgglaaGreatDoor
namespace Go.Proofs.YtfjpcjebecgglaaGreatDoor
namespace Bt
def nat (bs : List Bool) : List Nat := bs.map Bool.toNat
def val (bs : List Bool) : Nat := W2.val (nat bs)
def Top (bs : List Bool) : Prop := W2.Top (nat bs)
theorem nat_length (bs : List Bool) : (nat bs).length = bs.length := by simp [nat]
theorem nat_get (bs : List Bool) (j : Nat) : (nat bs).getD j 0 = (bs.getD j false).toNat := by
  simp only [nat, List.getD_eq_getElem?_getD, List.getElem?_map]
  cases bs[j]? <;> rfl
theorem bit_le (b : Bool) : b.toNat ≤ 1 := by cases b <;> simp
theorem nat_fit (bs : List Bool) : W2.Fit (nat bs) := fun j => by
  rw [nat_get, W2.BB_eq]
  have := bit_le (bs.getD j false)
  omega
theorem nat_take (bs : List Bool) (n : Nat) : nat (bs.take n) = (nat bs).take n := by simp [nat, List.map_take]
theorem nat_append (bs cs : List Bool) : nat (bs ++ cs) = nat bs ++ nat cs := by simp [nat]
theorem getD_lt {bs : List Bool} {j : Nat} (h : j < bs.length) : bs.getD j false = bs[j] := by simp [List.getD_eq_getElem?_getD, h]
theorem getD_ge {bs : List Bool} {j : Nat} (h : bs.length ≤ j) : bs.getD j false = false := by simp [List.getD_eq_getElem?_getD, h]
theorem nat_inj {bs cs : List Bool} (h : nat bs = nat cs) : bs = cs := by
  have hl : bs.length = cs.length := by rw [← nat_length, ← nat_length, h]
  refine List.ext_getElem hl fun j h1 h2 => ?_
  have := congrArg (·.getD j 0) h
  simp only [nat_get] at this
  rw [getD_lt h1, getD_lt h2] at this
  cases h3 : bs[j] <;> cases h4 : cs[j] <;> simp [h3, h4] at this <;> rfl
theorem uniq {bs cs : List Bool} (t : Top bs) (u : Top cs) (h : val bs = val cs) : bs = cs := nat_inj (W2.uniq (nat_fit _) (nat_fit _) t u h)
theorem val_nil : val [] = 0 := rfl
theorem val_lt (bs : List Bool) : val bs < 2 ^ bs.length := by
  have := W2.val_lt (nat_fit bs)
  rwa [nat_length, W2.BB_eq] at this
theorem len_le {bs : List Bool} {k : Nat} (t : Top bs) (h : val bs < 2 ^ k) : bs.length ≤ k := W2.len_le t (nat_length bs) (by rw [W2.BB_eq]; exact h)
theorem val_ge {bs : List Bool} (t : Top bs) (h : bs ≠ []) : 2 ^ (bs.length - 1) ≤ val bs := by
  have := W2.val_ge t (by intro e; apply h; have := congrArg List.length e; rw [nat_length] at this; exact List.eq_nil_of_length_eq_zero (by simpa using this))
  rwa [nat_length, W2.BB_eq] at this
theorem val_zeros (bs : List Bool) (n : Nat) (h : ∀ j, n ≤ j → bs.getD j false = false) : val (bs.take n) = val bs := by
  unfold val
  rw [nat_take]
  exact W2.val_zeros _ n fun j hj => by rw [nat_get, h j hj]; rfl
theorem val_snoc (bs : List Bool) (b : Bool) : val (bs ++ [b]) = val bs + 2 ^ bs.length * b.toNat := by
  unfold val
  rw [nat_append]
  have := W2.val_snoc (nat bs) b.toNat
  rwa [nat_length, W2.BB_eq] at this
theorem val_cons (b : Bool) (bs : List Bool) : val (b :: bs) = b.toNat + 2 * val bs := by
  have := W2.val_cons b.toNat (nat bs)
  rwa [W2.BB_eq] at this
theorem odd_bit (n : Nat) : (decide (n % 2 = 1)).toNat = n % 2 := by
  rcases (show n % 2 = 0 ∨ n % 2 = 1 from by omega) with h | h <;> simp [h]
structure Chunk (ds es : List Bool) (C j c : Nat) : Prop where
  len : es.length = ds.length + j
  sum : val es + 2 ^ es.length * c = val ds + 2 ^ ds.length * C
  lt : c < 2 ^ (32 - j)
theorem Chunk.start {ds : List Bool} {C : Nat} (h : C < 4294967296) : Chunk ds ds C 0 C := ⟨rfl, rfl, h⟩
theorem Chunk.step {ds es : List Bool} {C j c : Nat} (h : Chunk ds es C j c) (hj : j < 32) : Chunk ds (es ++ [decide (c % 2 = 1)]) C (j + 1) (c / 2) := by
  refine ⟨by simp [h.len]; omega, ?_, ?_⟩
  · rw [val_snoc, odd_bit, List.length_append, List.length_cons, List.length_nil, Nat.zero_add, ← h.sum, Nat.pow_succ, Nat.mul_assoc]
    have e : 2 * (c / 2) + c % 2 = c := Nat.div_add_mod c 2
    have e2 : 2 ^ es.length * (c % 2) + 2 ^ es.length * (2 * (c / 2)) = 2 ^ es.length * c := by rw [← Nat.mul_add]; congr 1; omega
    omega
  · have := h.lt
    refine Nat.div_lt_of_lt_mul ?_
    have e : 2 * 2 ^ (32 - (j + 1)) = 2 ^ (32 - j) := by rw [Nat.mul_comm, ← Nat.pow_succ]; congr 1; omega
    omega
theorem val_piece (bs : List Bool) (k m : Nat) : val ((bs.drop k).take (m + 1)) = (bs.getD k false).toNat + 2 * val ((bs.drop (k + 1)).take m) := by
  rcases Nat.lt_or_ge k bs.length with h | h
  · rw [List.drop_eq_getElem_cons h, List.take_succ_cons, val_cons, getD_lt h]
  · rw [List.drop_of_length_le h, List.drop_of_length_le (by omega), getD_ge h]; simp [val_nil]
theorem val_split (bs : List Bool) (i m : Nat) : val (bs.take (i + m)) = val (bs.take i) + 2 ^ i * val ((bs.drop i).take m) := by
  rcases Nat.lt_or_ge bs.length i with h | h
  · rw [List.take_of_length_le (by omega), List.take_of_length_le (by omega), List.drop_of_length_le (by omega)]; simp [val_nil]
  · have e : bs.take (i + m) = bs.take i ++ (bs.drop i).take m := by rw [List.take_add]
    rw [e]
    unfold val
    rw [nat_append, W2.val_append, nat_length, List.length_take, Nat.min_eq_left h, W2.BB_eq]
end Bt
end Go.Proofs.YtfjpcjebecgglaaGreatDoor
namespace Go.Proofs.YtfjpcjebecgglaaGreatDoor
namespace Bt
theorem val_ext {bs cs : List Bool} (h : ∀ j, bs.getD j false = cs.getD j false) : val bs = val cs := by
  induction bs generalizing cs with
  | nil =>
    have := val_zeros cs 0 (fun j _ => by rw [← h j]; rfl)
    rw [← this]; rfl
  | cons b bs ih =>
    cases cs with
    | nil =>
      have := val_zeros (b :: bs) 0 (fun j _ => by rw [h j]; rfl)
      rw [← this]; rfl
    | cons c cs =>
      have h0 : b = c := by simpa using h 0
      rw [val_cons, val_cons, h0, ih fun j => by simpa using h (j + 1)]
theorem drop_get (bs : List Bool) (i j : Nat) : (bs.drop i).getD j false = bs.getD (i + j) false := by simp [List.getD_eq_getElem?_getD]
theorem val_take_drop (bs : List Bool) (i : Nat) : val bs = val (bs.take i) + 2 ^ i * val (bs.drop i) := by
  rcases Nat.lt_or_ge bs.length i with h | h
  · rw [List.take_of_length_le (by omega), List.drop_of_length_le (by omega), val_nil]; simp
  · have e := W2.val_append (nat (bs.take i)) (nat (bs.drop i))
    rw [← nat_append, List.take_append_drop, nat_length, List.length_take, Nat.min_eq_left h, W2.BB_eq] at e
    exact e
theorem val_drop (bs : List Bool) (i : Nat) : val (bs.drop i) = (bs.getD i false).toNat + 2 * val (bs.drop (i + 1)) := by
  rcases Nat.lt_or_ge i bs.length with h | h
  · rw [List.drop_eq_getElem_cons h, val_cons, getD_lt h]
  · rw [List.drop_of_length_le h, List.drop_of_length_le (by omega), getD_ge h, val_nil]; simp
theorem val_take_lt (bs : List Bool) (i : Nat) : val (bs.take i) < 2 ^ i := by
  have h1 := val_lt (bs.take i)
  have h2 : 2 ^ (bs.take i).length ≤ 2 ^ i := Nat.pow_le_pow_right (by omega) (List.length_take_le _ _)
  omega
theorem lt_of_top {bs cs : List Bool} (i : Nat) (h : ∀ j, i < j → bs.getD j false = cs.getD j false) (hb : bs.getD i false = false) (hc : cs.getD i false = true) : val bs < val cs := by
  have e : val (bs.drop (i + 1)) = val (cs.drop (i + 1)) := val_ext fun j => by rw [drop_get, drop_get]; exact h _ (by omega)
  rw [val_take_drop bs i, val_take_drop cs i, val_drop bs i, val_drop cs i, hb, hc, e]
  have h1 := val_take_lt bs i
  generalize val (cs.drop (i + 1)) = t
  have e2 : 2 ^ i * (true.toNat + 2 * t) = 2 ^ i + 2 ^ i * (false.toNat + 2 * t) := by
    rw [show true.toNat = 1 from rfl, show false.toNat = 0 from rfl, Nat.mul_add, Nat.mul_one, Nat.zero_add]
  omega
end Bt
end Go.Proofs.YtfjpcjebecgglaaGreatDoor
namespace Go.Proofs.YtfjpcjebecgglaaGreatDoor
namespace T
structure Digs (ds : List Nat) (V : Nat) : Prop where
  fit : Fit ds
  top : Top ds
  val : val ds = V
end T
end Go.Proofs.YtfjpcjebecgglaaGreatDoor
namespace Go.Proofs.YtfjpcjebecgglaaGreatDoor
namespace M
end M
end Go.Proofs.YtfjpcjebecgglaaGreatDoor
namespace Go.Proofs.YtfjpcjebecgglaaGreatDoor
namespace M
end M
end Go.Proofs.YtfjpcjebecgglaaGreatDoor
namespace Go.Proofs.YtfjpcjebecgglaaGreatDoor
namespace M
end M
end Go.Proofs.YtfjpcjebecgglaaGreatDoor
namespace Go.Proofs.YtfjpcjebecgglaaGreatDoor
namespace M
theorem val_split (L : List Nat) (i : Nat) (h : i ≤ L.length) : val L = val (L.take i) + BB ^ i * val (L.drop i) := by
  have e := val_append (L.take i) (L.drop i)
  rw [List.take_append_drop, List.length_take, Nat.min_eq_left h] at e
  exact e
theorem begun {a U : List Nat} {la n s K V : Nat} (ha : a.length = la) (fa : Fit a) (hU : U.length = s + n) (hla : la + 1 = s + n) (hn : 1 ≤ n) (hs : val U = val a * K) (hK : K ≤ 2147483648) (hV : 2147483648 * BB ^ (n - 1) ≤ V) : val (U.drop s) < V := by
  obtain ⟨m, rfl⟩ : ∃ m, n = m + 1 := ⟨n - 1, by omega⟩
  rw [Nat.add_sub_cancel] at hV
  obtain rfl : la = s + m := by omega
  have e := val_split U s (by omega)
  have h1 : val a < BB ^ (s + m) := by rw [← ha]; exact val_lt fa
  have h2 : val a * K < BB ^ (s + m) * 2147483648 := by
    rcases Nat.eq_zero_or_pos K with rfl | h0
    · rw [Nat.mul_zero]; have := Nat.pow_pos (n := s + m) BB_pos; omega
    · have h3 : val a * K < BB ^ (s + m) * K := Nat.mul_lt_mul_of_pos_right h1 h0
      have h4 : BB ^ (s + m) * K ≤ BB ^ (s + m) * 2147483648 := Nat.mul_le_mul_left _ hK
      omega
  rcases Nat.lt_or_ge (val (U.drop s)) V with h5 | h5
  · exact h5
  · exfalso
    have h6 : BB ^ s * (2147483648 * BB ^ m) ≤ BB ^ s * val (U.drop s) := Nat.mul_le_mul_left _ (by omega)
    rw [Nat.pow_add, Nat.mul_assoc, Nat.mul_comm (BB ^ m)] at h2
    omega
end M
end Go.Proofs.YtfjpcjebecgglaaGreatDoor
namespace Go.Proofs.YtfjpcjebecgglaaGreatDoor
namespace Z
def sg (g : Bool) (N : Nat) : Int := if g then -(N : Int) else (N : Int)
def sgn (z : Int) : Int := if z < 0 then -1 else if z = 0 then 0 else 1
theorem sg_true (N : Nat) : sg true N = -(N : Int) := rfl
theorem sg_false (N : Nat) : sg false N = (N : Int) := rfl
theorem sgn_neg {z : Int} (h : z < 0) : sgn z = -1 := by simp [sgn, h]
theorem sgn_pos {z : Int} (h : 0 < z) : sgn z = 1 := by
  unfold sgn
  rw [if_neg (by omega), if_neg (by omega)]
theorem sgn_cases (z : Int) : (z < 0 ∧ sgn z = -1) ∨ (z = 0 ∧ sgn z = 0) ∨ (0 < z ∧ sgn z = 1) := by
  rcases Int.lt_trichotomy z 0 with h | h | h
  · exact .inl ⟨h, sgn_neg h⟩
  · exact .inr (.inl ⟨h, by rw [h]; rfl⟩)
  · exact .inr (.inr ⟨h, sgn_pos h⟩)
theorem sgn_lt (z : Int) : sgn z < 0 ↔ z < 0 := by
  rcases sgn_cases z with ⟨h1, h2⟩ | ⟨h1, h2⟩ | ⟨h1, h2⟩ <;> rw [h2] <;> omega
def fl (z y : Int) : Int := if y < 0 then (-z) / (-y) else z / y
def sig (s : Int) (N : Nat) : Int := if s < 0 then -(N : Int) else (N : Int)
theorem sig_abs (s : Int) (N : Nat) : (sig s N).natAbs = N := by unfold sig; split <;> simp
end Z
end Go.Proofs.YtfjpcjebecgglaaGreatDoor
