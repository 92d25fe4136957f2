/- Where texts stand in others, by runs. Nothing of the program's text. -/
import Derived.Test.YtdpbglofijpfnaaU4
namespace Go.Proofs.Ytdpbglofijpfnaa

/-- the run in which a place lies -/
theorem Tx.spot : ∀ (s : List (Int × Int)) (k : Int), (∀ x ∈ s, 1 ≤ x.2) → 0 ≤ k → k < Lt.total s → ∃ j x, s[j]? = some x ∧ Lt.total (s.take j) ≤ k ∧ k < Lt.total (s.take j) + x.2
  | [], k, _, h0, h1 => by
    rw [Lt.total] at h1
    omega
  | x :: s, k, hp, h0, h1 => by
    rw [Lt.total] at h1
    by_cases h : k < x.2
    · exact ⟨0, x, rfl, by simpa [Lt.total] using h0, by simpa [Lt.total] using h⟩
    · obtain ⟨j, y, h2, h3, h4⟩ := Tx.spot s (k - x.2) (fun y hy => hp y (List.mem_cons_of_mem _ hy)) (by omega) (by omega)
      refine ⟨j + 1, y, h2, ?_, ?_⟩ <;> (rw [List.take_succ_cons, Lt.total]; omega)
theorem Tx.parts {s : List (Int × Int)} {j : Nat} {x : Int × Int} (h : s[j]? = some x) : s = s.take j ++ x :: s.drop (j + 1) := by
  obtain ⟨hl, e⟩ := List.getElem?_eq_some_iff.1 h
  rw [← e, ← List.drop_eq_getElem_cons hl, List.take_append_drop]
theorem Tx.total_drop {s : List (Int × Int)} {j : Nat} {x : Int × Int} (h : s[j]? = some x) : Lt.total s = Lt.total (s.take j) + x.2 + Lt.total (s.drop (j + 1)) := by
  conv => lhs; rw [Tx.parts h]
  rw [Lt.total_app, Lt.total]
  omega
/-- what stands behind a place within a run -/
theorem Tx.drop_at {s : List (Int × Int)} (hs : Tx.Own s) {j : Nat} {c n o : Int} (h : s[j]? = some (c, n)) (h0 : 0 ≤ o) (h1 : o < n) {k : Nat} (hk : (k : Int) = Lt.total (s.take j) + o) : (Lt.expand s).drop k = Lt.expand ((c, n - o) :: s.drop (j + 1)) ∧ Tx.Own ((c, n - o) :: s.drop (j + 1)) := by
  have hd : s.drop j = (c, n) :: s.drop (j + 1) := by
    obtain ⟨hl, e⟩ := List.getElem?_eq_some_iff.1 h
    rw [← e]
    exact List.drop_eq_getElem_cons hl
  have hlen : ((Lt.expand (s.take j)).length : Int) = Lt.total (s.take j) := (hs.take j).len
  refine ⟨?_, Tx.Own.cut (x := (c, n)) (by rw [← hd]; exact hs.drop j) (by omega)⟩
  conv => lhs; rw [Tx.parts h]
  have e : k = (Lt.expand (s.take j)).length + o.toNat := by omega
  rw [Lt.expand_app, e, ← List.drop_drop, List.drop_left' rfl, Lt.expand_cons, List.drop_append, List.drop_replicate, Lt.expand_cons, List.length_replicate]
  simp only
  rw [show o.toNat - n.toNat = 0 by omega, List.drop_zero, show n.toNat - o.toNat = (n - o).toNat by omega]
theorem Tx.stands_runs {s t : List (Int × Int)} (hs : Tx.Own s) (ht : Tx.Own t) (h0 : t ≠ []) (k : Nat) :
    Tx.Stands (Lt.expand s) (Lt.expand t) k ↔ ∃ j c n o, s[j]? = some (c, n) ∧ 0 ≤ o ∧ o < n ∧ (k : Int) = Lt.total (s.take j) + o ∧ Tx.pre t ((c, n - o) :: s.drop (j + 1)) = true := by
  unfold Tx.Stands
  have hls := hs.len
  constructor
  · rintro ⟨h1, h2⟩
    have hne : 0 < (Lt.expand t).length := by
      have := ht.few
      have : 0 < t.length := List.length_pos_iff.2 h0
      omega
    have hlt := h2.length_le
    rw [List.length_drop] at hlt
    obtain ⟨j, ⟨c, n⟩, q1, q2, q3⟩ := Tx.spot s k (fun x hx => (hs.pos x hx).2) (by omega) (by omega)
    simp only at q3
    obtain ⟨d1, d2⟩ := Tx.drop_at hs q1 (o := (k : Int) - Lt.total (s.take j)) (by omega) (by omega) (k := k) (by omega)
    rw [d1] at h2
    exact ⟨j, c, n, _, q1, by omega, by omega, by omega, (Tx.pre_iff _ _ ht d2).2 h2⟩
  · rintro ⟨j, c, n, o, q1, q2, q3, q4, q5⟩
    obtain ⟨d1, d2⟩ := Tx.drop_at hs q1 q2 q3 q4
    have := Tx.total_drop q1
    simp only at this
    have := Lt.total_pos (R := s.drop (j + 1)) fun x hx => Int.not_lt.2 ((hs.drop (j + 1)).pos x hx).2
    exact ⟨by omega, by rw [d1]; exact (Tx.pre_iff _ _ ht d2).1 q5⟩
/-- one run stands in a run that is as long -/
theorem Tx.stands_one {s : List (Int × Int)} {x : Int × Int} (hs : Tx.Own s) (ht : Tx.Own [x]) (k : Nat) :
    Tx.Stands (Lt.expand s) (Lt.expand [x]) k ↔ ∃ j c n o, s[j]? = some (c, n) ∧ 0 ≤ o ∧ o < n ∧ (k : Int) = Lt.total (s.take j) + o ∧ x.1 = c ∧ x.2 ≤ n - o := by
  rw [Tx.stands_runs hs ht (by simp)]
  simp [Tx.pre, Tx.wi]
/-- the first place of one run -/
theorem Tx.first_one {s : List (Int × Int)} {x : Int × Int} (hs : Tx.Own s) (ht : Tx.Own [x]) {j : Nat} {y : Int × Int} (hj : s[j]? = some y) (hw : Tx.wi x y = true) (hno : ∀ (i : Nat) z, i < j → s[i]? = some z → Tx.wi x z = false) {k : Nat} (hk : (k : Int) = Lt.total (s.take j)) :
    Tx.First (Lt.expand s) (Lt.expand [x]) 0 k := by
  have hx := (ht.pos x (by simp)).2
  have hy := (hs.pos y (List.mem_of_getElem? hj)).2
  simp [Tx.wi] at hw
  refine ⟨Nat.zero_le _, (Tx.stands_one hs ht k).2 ⟨j, y.1, y.2, 0, hj, Int.le_refl _, by omega, by omega, hw.1, by omega⟩, fun k' _ hk' h => ?_⟩
  obtain ⟨i, c, n, o, q1, q2, q3, q4, q5, q6⟩ := (Tx.stands_one hs ht k').1 h
  rcases Nat.lt_or_ge i j with hij | hij
  · have := hno i _ hij q1
    simp [Tx.wi] at this
    have := this q5
    omega
  · have e : Lt.total (s.take i) = Lt.total (s.take j) + Lt.total ((s.take i).drop j) := by
      have e1 : s.take j = (s.take i).take j := by rw [List.take_take, Nat.min_eq_left hij]
      rw [e1, ← Lt.total_app, List.take_append_drop]
    have := Lt.total_pos (R := (s.take i).drop j) fun z hz => Int.not_lt.2 (hs.pos z (List.mem_of_mem_take (List.mem_of_mem_drop hz))).2
    omega
theorem Tx.none_one {s : List (Int × Int)} {x : Int × Int} (hs : Tx.Own s) (ht : Tx.Own [x]) (hno : ∀ (i : Nat) z, s[i]? = some z → Tx.wi x z = false) (k : Nat) : ¬ Tx.Stands (Lt.expand s) (Lt.expand [x]) k := fun h => by
  obtain ⟨i, c, n, o, q1, q2, q3, q4, q5, q6⟩ := (Tx.stands_one hs ht k).1 h
  have := hno i _ q1
  simp [Tx.wi] at this
  have := this q5
  omega
/-- many runs stand where their middle ones do, between two that are as long -/
structure Tx.Fit (s : List (Int × Int)) (x : Int × Int) (M : List (Int × Int)) (y : Int × Int) (j : Nat) : Prop where
  head : ∃ u, s[j]? = some u ∧ Tx.wi x u = true
  mid : (s.drop (j + 1)).take M.length = M
  tail : ∃ v, s[j + 1 + M.length]? = some v ∧ Tx.wi y v = true
theorem Tx.pre_many {x : Int × Int} {M : List (Int × Int)} {y z : Int × Int} {S : List (Int × Int)} : Tx.pre (x :: (M ++ [y])) (z :: S) = true ↔ x = z ∧ S.take M.length = M ∧ ∃ v, S[M.length]? = some v ∧ Tx.wi y v = true := by
  have e : Tx.pre (x :: (M ++ [y])) (z :: S) = (decide (x = z) && Tx.pre (M ++ [y]) S) := by
    cases M <;> rfl
  rw [e, Bool.and_eq_true, decide_eq_true_eq, Tx.pre_form]
  refine and_congr_right fun _ => ?_
  constructor
  · rintro (h | ⟨A, u, v, U, h1, h2, h3⟩)
    · simp at h
    · obtain ⟨rfl, h4⟩ := List.append_inj' h1 rfl
      obtain rfl : y = u := by simpa using h4
      subst h2
      exact ⟨List.take_left' rfl, v, by rw [List.getElem?_append_right (Nat.le_refl _)]; simp, h3⟩
  · rintro ⟨h1, v, h2, h3⟩
    refine .inr ⟨M, y, v, S.drop (M.length + 1), rfl, ?_, h3⟩
    have := Tx.parts h2
    rwa [h1] at this
theorem Tx.stands_many {s : List (Int × Int)} {x : Int × Int} {M : List (Int × Int)} {y : Int × Int} (hs : Tx.Own s) (ht : Tx.Own (x :: (M ++ [y]))) (k : Nat) :
    Tx.Stands (Lt.expand s) (Lt.expand (x :: (M ++ [y]))) k ↔ ∃ j, Tx.Fit s x M y j ∧ (k : Int) = Lt.total (s.take (j + 1)) - x.2 := by
  rw [Tx.stands_runs hs ht (by simp)]
  have hx := (ht.pos x (by simp)).2
  constructor
  · rintro ⟨j, c, n, o, q1, q2, q3, q4, q5⟩
    obtain ⟨e, h1, v, h2, h3⟩ := Tx.pre_many.1 q5
    subst e
    refine ⟨j, ⟨⟨_, q1, by simp [Tx.wi]; omega⟩, h1, v, ?_, h3⟩, ?_⟩
    · rw [List.getElem?_drop] at h2
      exact h2
    · rw [Tx.take_tot q1]
      simp only
      omega
  · rintro ⟨j, ⟨⟨u, h1, h2⟩, h3, v, h4, h5⟩, h6⟩
    simp [Tx.wi] at h2
    rw [Tx.take_tot h1] at h6
    refine ⟨j, u.1, u.2, u.2 - x.2, h1, by omega, by omega, by omega, Tx.pre_many.2 ⟨?_, h3, v, ?_, h5⟩⟩
    · exact Prod.ext h2.1 (by simp only; omega)
    · rw [List.getElem?_drop]
      exact h4
theorem Tx.take_le {s : List (Int × Int)} (hs : Tx.Own s) {i j : Nat} (h : i ≤ j) : Lt.total (s.take i) ≤ Lt.total (s.take j) := by
  have e1 : s.take i = (s.take j).take i := by rw [List.take_take, Nat.min_eq_left h]
  have e : Lt.total (s.take j) = Lt.total (s.take i) + Lt.total ((s.take j).drop i) := by rw [e1, ← Lt.total_app, List.take_append_drop]
  have := Lt.total_pos (R := (s.take j).drop i) fun z hz => Int.not_lt.2 (hs.pos z (List.mem_of_mem_take (List.mem_of_mem_drop hz))).2
  omega
theorem Tx.first_many {s : List (Int × Int)} {x : Int × Int} {M : List (Int × Int)} {y : Int × Int} (hs : Tx.Own s) (ht : Tx.Own (x :: (M ++ [y]))) {j : Nat} (hj : Tx.Fit s x M y j) (hno : ∀ i, i < j → ¬ Tx.Fit s x M y i) {k : Nat} (hk : (k : Int) = Lt.total (s.take (j + 1)) - x.2) :
    Tx.First (Lt.expand s) (Lt.expand (x :: (M ++ [y]))) 0 k := by
  refine ⟨Nat.zero_le _, (Tx.stands_many hs ht k).2 ⟨j, hj, hk⟩, fun k' _ hk' h => ?_⟩
  obtain ⟨i, q1, q2⟩ := (Tx.stands_many hs ht k').1 h
  rcases Nat.lt_or_ge i j with hij | hij
  · exact hno i hij q1
  · have := Tx.take_le hs (show j + 1 ≤ i + 1 by omega)
    omega
theorem Tx.none_many {s : List (Int × Int)} {x : Int × Int} {M : List (Int × Int)} {y : Int × Int} (hs : Tx.Own s) (ht : Tx.Own (x :: (M ++ [y]))) (hno : ∀ i, ¬ Tx.Fit s x M y i) (k : Nat) : ¬ Tx.Stands (Lt.expand s) (Lt.expand (x :: (M ++ [y]))) k := fun h => by
  obtain ⟨i, q1, _⟩ := (Tx.stands_many hs ht k).1 h
  exact hno i q1

/-- q of the first things of l are the last ones of w, and no more -/
structure Tx.IsK {α : Type} (l w : List α) (q : Nat) : Prop where
  le : q ≤ l.length
  end_ : l.take q <:+ w
  most : ∀ p, p ≤ l.length → l.take p <:+ w → p ≤ q
theorem Tx.IsK.nil {α : Type} (l : List α) : Tx.IsK l [] 0 := ⟨Nat.zero_le _, by simp, fun p hp h => by
  have := h.length_le
  rw [List.length_take, Nat.min_eq_left hp] at this
  exact this⟩
theorem Tx.IsK.all {α : Type} {l w : List α} {q : Nat} (h : Tx.IsK l w q) : q = l.length ↔ l <:+ w := by
  constructor
  · intro e
    have := h.end_
    rwa [e, List.take_length] at this
  · intro e
    have := h.most l.length (Nat.le_refl _) (by rwa [List.take_length])
    have := h.le
    omega
/-- what may still become the next one -/
structure Tx.Can {α : Type} (l w : List α) (r : α) (q : Nat) : Prop where
  le : q ≤ l.length
  end_ : l.take q <:+ w
  most : ∀ p, l[p]? = some r → l.take p <:+ w → p ≤ q
theorem Tx.IsK.can {α : Type} {l w : List α} {q : Nat} (h : Tx.IsK l w q) (r : α) : Tx.Can l w r q := ⟨h.le, h.end_, fun p hp he => h.most p (Nat.le_of_lt (List.getElem?_eq_some_iff.1 hp).1) he⟩
theorem Tx.Can.back {α : Type} {l w : List α} {r : α} {q p : Nat} (h : Tx.Can l w r q) (hr : l[q]? ≠ some r) (hp : Tx.IsK l ((l.take q).drop 1) p) : Tx.Can l w r p := by
  refine ⟨hp.le, (hp.end_.trans (List.drop_suffix _ _)).trans h.end_, fun p' h1 h2 => ?_⟩
  have h3 := h.most p' h1 h2
  have h4 : p' ≠ q := fun e => hr (e ▸ h1)
  have hl := (List.getElem?_eq_some_iff.1 h1).1
  refine hp.most p' (Nat.le_of_lt hl) ?_
  have hs := List.suffix_of_suffix_length_le h2 h.end_ (by rw [List.length_take, List.length_take]; omega)
  refine List.suffix_of_suffix_length_le hs (List.drop_suffix _ _) ?_
  have := h.le
  rw [List.length_drop, List.length_take, List.length_take]
  omega
theorem Tx.snoc_suffix {α : Type} {A B : List α} {a b : α} (h : A ++ [a] <:+ B ++ [b]) : A <:+ B ∧ a = b := by
  obtain ⟨t, e⟩ := h
  rw [← List.append_assoc] at e
  obtain ⟨e1, e2⟩ := List.append_inj' e rfl
  exact ⟨⟨t, e1⟩, by simpa using e2⟩
theorem Tx.Can.next {α : Type} {l w : List α} {r : α} {q : Nat} (h : Tx.Can l w r q) (hr : l[q]? = some r) : Tx.IsK l (w ++ [r]) (q + 1) := by
  have hl := (List.getElem?_eq_some_iff.1 hr).1
  refine ⟨hl, ?_, fun p hp he => ?_⟩
  · rw [take_one hr]
    obtain ⟨t, e⟩ := h.end_
    exact ⟨t, by rw [← List.append_assoc, e]⟩
  · cases p with
    | zero => exact Nat.zero_le _
    | succ p =>
      have hx := List.getElem?_eq_getElem (l := l) (i := p) (by omega)
      rw [take_one hx] at he
      obtain ⟨h1, h2⟩ := Tx.snoc_suffix he
      have := h.most p (by rw [hx, h2]) h1
      omega
theorem Tx.Can.stop {α : Type} {l w : List α} {r : α} (h : Tx.Can l w r 0) (hr : l[0]? ≠ some r) : Tx.IsK l (w ++ [r]) 0 := by
  refine ⟨Nat.zero_le _, by simp, fun p hp he => ?_⟩
  cases p with
  | zero => exact Nat.zero_le _
  | succ p =>
    have hx := List.getElem?_eq_getElem (l := l) (i := p) (by omega)
    rw [take_one hx] at he
    obtain ⟨h1, h2⟩ := Tx.snoc_suffix he
    have hp0 := h.most p (by rw [hx, h2]) h1
    obtain rfl : p = 0 := by omega
    exact absurd (by rw [hx, h2]) hr
end Go.Proofs.Ytdpbglofijpfnaa
