import Derived.Test.YtdpbglofijpfnaaUE
namespace Go.Proofs.Ytdpbglofijpfnaa
open Go.RowKit Go.Shelf

/-- behind P, z closes what is looked for -/
def Tx.Hit (R : List (Int × Int)) (x : Int × Int) (M : List (Int × Int)) (y : Int × Int) (P : List (Int × Int × Int)) (z : Int × Int × Int) : Prop :=
  M <:+ P.map (fun x => x.2) ∧ M.length < P.length ∧ (∃ u, R[P.length - M.length - 1]? = some u ∧ Tx.wi x u = true) ∧ Tx.wi y z.2 = true
def Tx.Free8 (R : List (Int × Int)) (x : Int × Int) (M : List (Int × Int)) (y : Int × Int) (pre : List (Int × Int × Int)) : Prop := ∀ p z, pre[p]? = some z → ¬ Tx.Hit R x M y (pre.take p) z
theorem Tx.Free8.snoc {R : List (Int × Int)} {x : Int × Int} {M : List (Int × Int)} {y : Int × Int} {pre : List (Int × Int × Int)} {z : Int × Int × Int} (h : Tx.Free8 R x M y pre) (hz : ¬ Tx.Hit R x M y pre z) : Tx.Free8 R x M y (pre ++ [z]) := fun p u hp => by
  have hlt := (List.getElem?_eq_some_iff.1 hp).1
  rw [List.length_append] at hlt
  simp only [List.length_cons, List.length_nil] at hlt
  rcases Nat.lt_or_ge p pre.length with e | e
  · rw [List.getElem?_append_left e] at hp
    rw [List.take_append_of_le_length (by omega)]
    exact h p u hp
  · obtain rfl : p = pre.length := by omega
    rw [List.getElem?_append_right (Nat.le_refl _)] at hp
    obtain rfl : z = u := by simpa using hp
    rwa [List.take_left' rfl]
theorem Tx.items_map (R : List (Int × Int)) : ∀ k, k ≤ R.length → (Tx.items R k).map (fun x => x.2) = R.take k
  | 0, _ => by simp [Tx.items]
  | k + 1, hk => by
    have hx := List.getElem?_eq_getElem (l := R) (i := k) (by omega)
    rw [Tx.items_succ, List.map_append, Tx.items_map R k (by omega), take_one hx, Tx.item_at hx]
    rfl
theorem Tx.items_take (R : List (Int × Int)) {p k : Nat} (h : p ≤ k) : (Tx.items R k).take p = Tx.items R p := by
  unfold Tx.items
  rw [← List.map_take, List.take_range, Nat.min_eq_left h]
theorem Tx.items_get (R : List (Int × Int)) {p k : Nat} (h : p < k) : (Tx.items R k)[p]? = some (Tx.item R p) := by simp [Tx.items, h]
theorem Tx.fit_hit {R : List (Int × Int)} {x : Int × Int} {M : List (Int × Int)} {y : Int × Int} {j : Nat} (h : Tx.Fit R x M y j) : Tx.Hit R x M y (Tx.items R (j + 1 + M.length)) (Tx.item R (j + 1 + M.length)) := by
  obtain ⟨v, hv, hv2⟩ := h.tail
  have hlt := (List.getElem?_eq_some_iff.1 hv).1
  refine ⟨?_, by rw [Tx.items_len]; omega, ?_, ?_⟩
  · rw [Tx.items_map R _ (by omega), List.take_add, h.mid]
    exact ⟨_, rfl⟩
  · rw [Tx.items_len, show j + 1 + M.length - M.length - 1 = j by omega]
    exact h.head
  · rw [Tx.item_at hv]
    exact hv2
theorem Tx.hit_fit {R : List (Int × Int)} {x : Int × Int} {M : List (Int × Int)} {y : Int × Int} {p : Nat} (hp : p < R.length) (h : Tx.Hit R x M y (Tx.items R p) (Tx.item R p)) : ∃ j, p = j + 1 + M.length ∧ Tx.Fit R x M y j := by
  obtain ⟨h1, h2, h3, h4⟩ := h
  rw [Tx.items_len] at h2 h3
  obtain ⟨j, rfl⟩ : ∃ j, p = j + 1 + M.length := ⟨p - M.length - 1, by omega⟩
  rw [show j + 1 + M.length - M.length - 1 = j by omega] at h3
  have hv := List.getElem?_eq_getElem hp
  rw [Tx.item_at hv] at h4
  refine ⟨j, rfl, h3, ?_, _, hv, h4⟩
  rw [Tx.items_map R _ (by omega), List.suffix_iff_eq_drop, List.length_take, Nat.min_eq_left (by omega), show j + 1 + M.length - M.length = j + 1 by omega, List.take_add, List.drop_left' (by rw [List.length_take]; omega)] at h1
  exact h1.symm
theorem Tx.free_fit {R : List (Int × Int)} {x : Int × Int} {M : List (Int × Int)} {y : Int × Int} {k j : Nat} (h : Tx.Free8 R x M y (Tx.items R k)) (hf : Tx.Fit R x M y j) : k ≤ j + 1 + M.length := by
  refine Nat.le_of_not_lt fun hlt => h _ _ (Tx.items_get R hlt) ?_
  rw [Tx.items_take R (by omega)]
  exact Tx.fit_hit hf
/-- z is the first place at which t stands in s; -1, if there is none -/
def Tx.Fst (s t : List (Int × Int)) (z : Int) : Prop := (z = -1 ∧ ∀ k, ¬ Tx.Stands (Lt.expand s) (Lt.expand t) k) ∨ ∃ k : Nat, z = k ∧ Tx.First (Lt.expand s) (Lt.expand t) 0 k
theorem Tx.fst_none {R : List (Int × Int)} {x : Int × Int} {M : List (Int × Int)} {y : Int × Int} (hs : Tx.Own R) (ht : Tx.Own (x :: (M ++ [y]))) (h : Tx.Free8 R x M y (Tx.items R R.length)) : Tx.Fst R (x :: (M ++ [y])) (-1) :=
  .inl ⟨rfl, Tx.none_many hs ht fun j hf => by
    have := Tx.free_fit h hf
    obtain ⟨v, hv, _⟩ := hf.tail
    have := (List.getElem?_eq_some_iff.1 hv).1
    omega⟩
theorem Tx.fst_hit {R : List (Int × Int)} {x : Int × Int} {M : List (Int × Int)} {y : Int × Int} (hs : Tx.May R) (ht : Tx.May (x :: (M ++ [y]))) {p : Nat} (hp : p < R.length) (h : Tx.Free8 R x M y (Tx.items R p)) (hh : Tx.Hit R x M y (Tx.items R p) (Tx.item R p)) :
    Tx.Fst R (x :: (M ++ [y])) (IntKind.i64.wrap (IntKind.i64.wrap (Tx.pl R p - IntKind.i64.wrap (Lt.total M)) - x.2)) := by
  obtain ⟨j, rfl, hf⟩ := Tx.hit_fit hp hh
  obtain ⟨u, hu, hu2⟩ := hf.head
  simp [Tx.wi] at hu2
  have hx := (ht.own.pos x (by simp)).2
  have e1 : Lt.total (R.take (j + 1 + M.length)) = Lt.total (R.take (j + 1)) + Lt.total M := by rw [List.take_add, Lt.total_app, hf.mid]
  have e2 := Tx.take_tot hu
  have p1 : 0 ≤ Lt.total (R.take j) := Lt.total_pos fun z hz => Int.not_lt.2 (hs.own.pos z (List.mem_of_mem_take hz)).2
  have p2 : 0 ≤ Lt.total M := Lt.total_pos fun z hz => Int.not_lt.2 (ht.own.pos z (by simp [hz])).2
  have p3 := hs.part (j + 1 + M.length)
  obtain ⟨k, hk⟩ : ∃ k : Nat, Lt.total (R.take (j + 1)) - x.2 = (k : Int) := ⟨(Lt.total (R.take (j + 1)) - x.2).toNat, by omega⟩
  refine .inr ⟨k, ?_, Tx.first_many hs.own ht.own hf (fun i hi hfi => ?_) hk.symm⟩
  · unfold Tx.pl
    rw [IntWalk.i64_in (Lt.total (R.take (j + 1 + M.length))) (by omega), IntWalk.i64_in (Lt.total M) (by omega), IntWalk.i64_in (Lt.total (R.take (j + 1 + M.length)) - Lt.total M) (by omega), IntWalk.i64_in _ (by omega)]
    omega
  · have := Tx.free_fit h hfi
    omega
theorem Turn.ownFrom {β : Type} {F : Nat → Prop} {W0 : World} : OwnFrom W0.heap.size (fun (_ : β) W => Turn F W0 W) := fun _ _ _ row hs hg hr =>
  hs.trans (G := fun i => row = some i) (Turn.of_grown hg (fun _ e _ => e)) (fun i e => .inr (hr i e).1)
end Go.Proofs.Ytdpbglofijpfnaa
