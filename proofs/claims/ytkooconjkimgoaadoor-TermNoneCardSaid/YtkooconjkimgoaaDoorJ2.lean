/- Code points as runs. Nothing of the program's text. -/
import Derived.Test.YtkooconjkimgoaaDoorJ1
namespace Go.Proofs.YtkooconjkimgoaaDoor

def Lt.addRun (R : List (Int × Int)) (z : Int) : List (Int × Int) := match R.getLast? with
  | some x => if x.1 = z then R.dropLast ++ [(x.1, x.2 + 1)] else R ++ [(z, 1)]
  | none => [(z, 1)]
theorem Lt.addRun_nil (z : Int) : Lt.addRun [] z = [(z, 1)] := rfl
theorem Lt.addRun_same (R : List (Int × Int)) (z n : Int) : Lt.addRun (R ++ [(z, n)]) z = R ++ [(z, n + 1)] := by simp [Lt.addRun]
theorem Lt.addRun_new (R : List (Int × Int)) {y z : Int} (n : Int) (h : y ≠ z) : Lt.addRun (R ++ [(y, n)]) z = R ++ [(y, n)] ++ [(z, 1)] := by simp [Lt.addRun, h]
/-- a list of code points as runs -/
def Lt.runs (zs : List Int) : List (Int × Int) := zs.foldl Lt.addRun []
theorem Lt.runs_nil : Lt.runs [] = [] := rfl
theorem Lt.runs_snoc (zs : List Int) (z : Int) : Lt.runs (zs ++ [z]) = Lt.addRun (Lt.runs zs) z := by simp [Lt.runs]
/-- runs, one by one -/
def Lt.expand (R : List (Int × Int)) : List Int := R.flatMap fun x => List.replicate x.2.toNat x.1
theorem Lt.expand_app (R S : List (Int × Int)) : Lt.expand (R ++ S) = Lt.expand R ++ Lt.expand S := by simp [Lt.expand]
theorem Lt.expand_one (c n : Int) : Lt.expand [(c, n)] = List.replicate n.toNat c := by simp [Lt.expand]
def Lt.total : List (Int × Int) → Int
  | [] => 0
  | x :: R => x.2 + Lt.total R
theorem Lt.total_app : ∀ R S : List (Int × Int), Lt.total (R ++ S) = Lt.total R + Lt.total S
  | [], S => by rw [List.nil_append, Lt.total]; omega
  | x :: R, S => by rw [List.cons_append, Lt.total, Lt.total, Lt.total_app R S]; omega
theorem Lt.total_one (c n : Int) : Lt.total [(c, n)] = n := by rw [Lt.total, Lt.total]; omega
structure Lt.RunsOf (zs : List Int) (R : List (Int × Int)) : Prop where
  exp : Lt.expand R = zs
  pos : ∀ x ∈ R, 1 ≤ x.2 ∧ x.1 ∈ zs
  adj : ∀ i x y, R[i]? = some x → R[i + 1]? = some y → x.1 ≠ y.1
  last : R.getLast?.map (·.1) = zs.getLast?
  len : R.length ≤ zs.length
  sum : Lt.total R = zs.length
theorem Lt.last_form {α : Type} (l : List α) : l = [] ∨ ∃ m x, l = m ++ [x] := by
  rcases List.eq_nil_or_concat l with h | ⟨m, x, h⟩
  · exact .inl h
  · exact .inr ⟨m, x, by simpa using h⟩
theorem Lt.RunsOf.snoc {zs : List Int} {R : List (Int × Int)} (h : Lt.RunsOf zs R) (z : Int) : Lt.RunsOf (zs ++ [z]) (Lt.addRun R z) := by
  rcases Lt.last_form R with rfl | ⟨S, ⟨y, n⟩, rfl⟩
  · have hz : zs = [] := by
      have := h.exp
      simpa [Lt.expand] using this.symm
    subst hz
    rw [Lt.addRun_nil]
    refine ⟨rfl, fun x hx => ?_, fun i x y h1 h2 => ?_, rfl, Nat.le_refl _, rfl⟩
    · rw [List.mem_singleton.1 hx]
      exact ⟨by simp, by simp⟩
    · simp at h2
  · have hp := h.pos (y, n) (by simp)
    have hs := h.sum
    have he := h.exp
    rw [Lt.total_app, Lt.total_one] at hs
    rw [Lt.expand_app, Lt.expand_one] at he
    have hp1 : 1 ≤ n := hp.1
    by_cases hyz : y = z
    · subst hyz
      rw [Lt.addRun_same]
      refine ⟨?_, fun x hx => ?_, fun i x x' h1 h2 => ?_, by simp, ?_, ?_⟩
      · rw [Lt.expand_app, Lt.expand_one, ← he, show (n + 1).toNat = n.toNat + 1 by omega, List.replicate_succ', List.append_assoc]
      · rcases List.mem_append.1 hx with hx | hx
        · have := h.pos x (List.mem_append_left _ hx)
          exact ⟨this.1, List.mem_append_left _ this.2⟩
        · rw [List.mem_singleton.1 hx]
          exact ⟨by simp only; omega, by simp⟩
      · have hl : i + 1 < S.length + 1 := by
          have := (List.getElem?_eq_some_iff.1 h2).1
          simpa using this
        have e1 : (S ++ [(y, n)])[i]? = some x := by rw [← h1, List.getElem?_append_left (by omega), List.getElem?_append_left (by omega)]
        by_cases hi : i + 1 < S.length
        · exact h.adj i x x' e1 (by rw [← h2, List.getElem?_append_left hi, List.getElem?_append_left hi])
        · have hi' : i + 1 = S.length := by omega
          have e2 : x' = (y, n + 1) := by
            rw [hi', List.getElem?_append_right (Nat.le_refl _)] at h2
            simpa using h2.symm
          subst e2
          exact h.adj i x (y, n) e1 (by rw [hi', List.getElem?_append_right (Nat.le_refl _)]; simp)
      · have := h.len
        simp at this ⊢
        omega
      · rw [Lt.total_app, Lt.total_one, List.length_append]
        simp
        omega
    · rw [Lt.addRun_new S n hyz]
      refine ⟨?_, fun x hx => ?_, fun i x x' h1 h2 => ?_, by simp, ?_, ?_⟩
      · rw [Lt.expand_app, Lt.expand_app, Lt.expand_one, Lt.expand_one, he]
        rfl
      · rcases List.mem_append.1 hx with hx | hx
        · have := h.pos x hx
          exact ⟨this.1, List.mem_append_left _ this.2⟩
        · rw [List.mem_singleton.1 hx]
          exact ⟨by simp, by simp⟩
      · have hl : i + 1 < (S ++ [(y, n)]).length + 1 := by
          have := (List.getElem?_eq_some_iff.1 h2).1
          simpa using this
        have e1 : (S ++ [(y, n)])[i]? = some x := by rw [← h1, List.getElem?_append_left (l₁ := S ++ [(y, n)]) (by omega)]
        by_cases hi : i + 1 < (S ++ [(y, n)]).length
        · exact h.adj i x x' e1 (by rw [← h2, List.getElem?_append_left (l₁ := S ++ [(y, n)]) hi])
        · have hi' : i + 1 = (S ++ [(y, n)]).length := by omega
          have e2 : x' = (z, 1) := by
            rw [hi', List.getElem?_append_right (Nat.le_refl _)] at h2
            simpa using h2.symm
          have e3 : x = (y, n) := by
            have : i = S.length := by simp at hi'; omega
            rw [this, List.getElem?_append_right (Nat.le_refl _)] at e1
            simpa using e1.symm
          rw [e2, e3]
          exact hyz
      · have := h.len
        simp at this ⊢
        omega
      · rw [Lt.total_app, Lt.total_app, Lt.total_one, Lt.total_one, List.length_append]
        simp
        omega
theorem Lt.runs_of (zs : List Int) : Lt.RunsOf zs (Lt.runs zs) := by
  suffices h : ∀ n : Nat, ∀ zs : List Int, zs.length = n → Lt.RunsOf zs (Lt.runs zs) from h _ zs rfl
  intro n
  induction n with
  | zero =>
    intro zs h
    obtain rfl := List.eq_nil_of_length_eq_zero h
    exact ⟨rfl, fun _ h => absurd h List.not_mem_nil, fun i x y h => (by simp [Lt.runs] at h), rfl, Nat.le_refl _, rfl⟩
  | succ n ih =>
    intro zs h
    rcases Lt.last_form zs with rfl | ⟨m, x, rfl⟩
    · cases h
    · rw [Lt.runs_snoc]
      exact (ih m (by simpa using h)).snoc x
/-- is one of the runs none? -/
def Lt.bad (R : List (Int × Int)) : Bool := R.any fun x => !Lt.pt x.1 || decide (x.2 < 1)
theorem Lt.bad_false {R : List (Int × Int)} : Lt.bad R = false ↔ ∀ x ∈ R, Lt.pt x.1 = true ∧ ¬ x.2 < 1 := by
  unfold Lt.bad
  rw [List.any_eq_false]
  refine forall_congr' fun x => forall_congr' fun _ => ?_
  cases Lt.pt x.1 <;> simp
theorem Lt.bad_true {R : List (Int × Int)} {x : Int × Int} (hx : x ∈ R) (h : Lt.pt x.1 = false ∨ x.2 < 1) : Lt.bad R = true := by
  unfold Lt.bad
  rw [List.any_eq_true]
  refine ⟨x, hx, ?_⟩
  rcases h with h | h
  · rw [h]; rfl
  · simp [h]
theorem Lt.total_pos : ∀ {R : List (Int × Int)}, (∀ x ∈ R, ¬ x.2 < 1) → 0 ≤ Lt.total R
  | [], _ => Int.le_refl _
  | x :: R, h => by
    have h1 := h x List.mem_cons_self
    have h2 := Lt.total_pos (R := R) fun y hy => h y (List.mem_cons_of_mem _ hy)
    rw [Lt.total]
    omega
theorem Lt.expand_len : ∀ {R : List (Int × Int)}, (∀ x ∈ R, ¬ x.2 < 1) → ((Lt.expand R).length : Int) = Lt.total R
  | [], _ => rfl
  | x :: R, h => by
    have h1 := h x List.mem_cons_self
    have h2 := Lt.expand_len (R := R) fun y hy => h y (List.mem_cons_of_mem _ hy)
    have e : Lt.expand (x :: R) = List.replicate x.2.toNat x.1 ++ Lt.expand R := rfl
    rw [Lt.total, e, List.length_append, List.length_replicate]
    omega
/-- what List answers: the error's number, the code points -/
def Lt.list (R : List (Int × Int)) (most : Int) : Int × List Int := if Lt.bad R then (1, []) else if most < Lt.total R then (2, []) else (0, Lt.expand R)
theorem Lt.list_bad {R : List (Int × Int)} {most : Int} (h : Lt.bad R = true) : Lt.list R most = (1, []) := by rw [Lt.list, if_pos h]
theorem Lt.list_long {R : List (Int × Int)} {most : Int} (h : Lt.bad R = false) (hm : most < Lt.total R) : Lt.list R most = (2, []) := by rw [Lt.list, if_neg (by rw [h]; decide), if_pos hm]
theorem Lt.list_ok {R : List (Int × Int)} {most : Int} (h : Lt.bad R = false) (hm : ¬ most < Lt.total R) : Lt.list R most = (0, Lt.expand R) := by rw [Lt.list, if_neg (by rw [h]; decide), if_neg hm]
/-- what Runs answers -/
def Lt.runsOf (zs : List Int) : Int × List (Int × Int) := if zs.all Lt.pt then (0, Lt.runs zs) else (1, [])
/-- what Escape answers -/
def Lt.escOf (zs : List Int) : Int × List UInt8 := if zs.all Lt.pt then (0, Lt.escape zs) else (1, [])
theorem Lt.runs_bad {zs : List Int} (h : ∀ z ∈ zs, Lt.pt z = true) : Lt.bad (Lt.runs zs) = false := by
  rw [Lt.bad_false]
  intro x hx
  have := (Lt.runs_of zs).pos x hx
  exact ⟨h _ this.2, by omega⟩
theorem Lt.runs_back {zs : List Int} (h : ∀ z ∈ zs, Lt.pt z = true) : Lt.list (Lt.runs zs) zs.length = (0, zs) ∧ Lt.list (Lt.runs zs) ((zs.length : Int) - 1) = (2, []) := by
  have hr := Lt.runs_of zs
  have hs := hr.sum
  refine ⟨?_, Lt.list_long (Lt.runs_bad h) (by omega)⟩
  rw [Lt.list_ok (Lt.runs_bad h) (by omega), hr.exp]
end Go.Proofs.YtkooconjkimgoaaDoor
