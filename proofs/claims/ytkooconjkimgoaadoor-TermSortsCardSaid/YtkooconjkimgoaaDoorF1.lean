/- Texts by runs, and what they say: over lists of code points. Nothing of the program's text. -/
import Derived.Test.YtkooconjkimgoaaDoorJ2
namespace Go.Proofs.YtkooconjkimgoaaDoor

/-- a text in its own form -/
structure Tx.Own (R : List (Int × Int)) : Prop where
  pos : ∀ x ∈ R, Lt.pt x.1 = true ∧ 1 ≤ x.2
  adj : ∀ i x y, R[i]? = some x → R[i + 1]? = some y → x.1 ≠ y.1
/-- .. that may be -/
structure Tx.May (R : List (Int × Int)) : Prop where
  own : Tx.Own R
  few : R.length ≤ 65536
  most : Lt.total R ≤ 1099511627776
theorem Tx.Own.init {S : List (Int × Int)} {x : Int × Int} (h : Tx.Own (S ++ [x])) : Tx.Own S :=
  ⟨fun y hy => h.pos y (List.mem_append_left _ hy), fun i a b h1 h2 => by
    have hi := (List.getElem?_eq_some_iff.1 h2).1
    exact h.adj i a b (by rw [List.getElem?_append_left (by omega)]; exact h1) (by rw [List.getElem?_append_left hi]; exact h2)⟩
theorem Tx.runs_more {l : List Int} {c : Int} : ∀ (n : Nat) (S : List (Int × Int)) (k : Int), Lt.runs l = S ++ [(c, k)] → Lt.runs (l ++ List.replicate n c) = S ++ [(c, k + n)]
  | 0, S, k, h => by simp [h]
  | n + 1, S, k, h => by
    have h1 : Lt.runs (l ++ [c]) = S ++ [(c, k + 1)] := by rw [Lt.runs_snoc, h, Lt.addRun_same]
    have := Tx.runs_more (l := l ++ [c]) n S (k + 1) h1
    rw [List.append_assoc, List.singleton_append, ← List.replicate_succ] at this
    rw [this]
    simp
    omega
theorem Tx.runs_block {l : List Int} {c : Int} {n : Nat} (hn : 1 ≤ n) (h : (Lt.runs l).getLast?.map (·.1) ≠ some c) : Lt.runs (l ++ List.replicate n c) = Lt.runs l ++ [(c, (n : Int))] := by
  obtain ⟨m, rfl⟩ : ∃ m, n = m + 1 := ⟨n - 1, by omega⟩
  have h1 : Lt.runs (l ++ [c]) = Lt.runs l ++ [(c, 1)] := by
    rw [Lt.runs_snoc]
    rcases Lt.last_form (Lt.runs l) with e | ⟨S, ⟨y, k⟩, e⟩
    · rw [e, Lt.addRun_nil]; rfl
    · rw [e] at h ⊢
      rw [Lt.addRun_new S k (by intro e2; exact h (by simp [e2]))]
  have := Tx.runs_more (l := l ++ [c]) m (Lt.runs l) 1 h1
  rw [List.append_assoc, List.singleton_append, ← List.replicate_succ] at this
  rw [this]
  simp
  omega
/-- a text in its own form is the runs of its code points -/
theorem Tx.Own.norm : ∀ (n : Nat) (R : List (Int × Int)), R.length = n → Tx.Own R → Lt.runs (Lt.expand R) = R
  | 0, R, hn, _ => by
    obtain rfl := List.eq_nil_of_length_eq_zero hn
    rfl
  | n + 1, R, hn, h => by
    rcases Lt.last_form R with rfl | ⟨S, ⟨c, k⟩, rfl⟩
    · cases hn
    · have ih := Tx.Own.norm n S (by simpa using hn) h.init
      have hk := (h.pos (c, k) (by simp)).2
      simp only at hk
      rw [Lt.expand_app, Lt.expand_one, Tx.runs_block (by omega), ih]
      · rw [show ((k.toNat : Nat) : Int) = k by omega]
      · rw [ih]
        intro e
        obtain ⟨⟨y, q⟩, hy, rfl⟩ := Option.map_eq_some_iff.1 e
        obtain ⟨U, rfl⟩ := List.getLast?_eq_some_iff.1 hy
        refine h.adj U.length (y, q) (y, k) ?_ ?_ rfl
        · rw [List.append_assoc, List.getElem?_append_right (Nat.le_refl _)]
          simp
        · simp
theorem Tx.Own.back {R : List (Int × Int)} (h : Tx.Own R) : Lt.runs (Lt.expand R) = R := Tx.Own.norm _ R rfl h
theorem Tx.Own.inj {R S : List (Int × Int)} (h : Tx.Own R) (k : Tx.Own S) (e : Lt.expand R = Lt.expand S) : R = S := by rw [← h.back, ← k.back, e]
/-- the runs of code points are in their own form -/
theorem Tx.runs_own {l : List Int} (h : ∀ z ∈ l, Lt.pt z = true) : Tx.Own (Lt.runs l) :=
  ⟨fun x hx => ⟨h _ ((Lt.runs_of l).pos x hx).2, ((Lt.runs_of l).pos x hx).1⟩, (Lt.runs_of l).adj⟩
theorem Tx.expand_runs (l : List Int) : Lt.expand (Lt.runs l) = l := (Lt.runs_of l).exp
theorem Tx.Own.pts {R : List (Int × Int)} (h : Tx.Own R) : ∀ z ∈ Lt.expand R, Lt.pt z = true := by
  intro z hz
  obtain ⟨x, hx, hz⟩ := List.mem_flatMap.1 hz
  rw [(List.mem_replicate.1 hz).2]
  exact (h.pos x hx).1
theorem Tx.Own.len {R : List (Int × Int)} (h : Tx.Own R) : ((Lt.expand R).length : Int) = Lt.total R := Lt.expand_len fun x hx => Int.not_lt.2 (h.pos x hx).2
theorem Tx.Own.few {R : List (Int × Int)} (h : Tx.Own R) : R.length ≤ (Lt.expand R).length := by
  have := (Lt.runs_of (Lt.expand R)).len
  rwa [h.back] at this
/-- how many runs two texts are, one behind the other -/
theorem Tx.runs_app : ∀ (n : Nat) (l m : List Int), m.length = n → (Lt.runs (l ++ m)).length ≤ (Lt.runs l).length + (Lt.runs m).length
  | 0, l, m, h => by
    obtain rfl := List.eq_nil_of_length_eq_zero h
    simp
  | n + 1, l, m, h => by
    rcases Lt.last_form m with rfl | ⟨k, x, rfl⟩
    · cases h
    · have ih := Tx.runs_app n l k (by simpa using h)
      rw [← List.append_assoc, Lt.runs_snoc, Lt.runs_snoc]
      rcases Lt.last_form k with rfl | ⟨j, y, rfl⟩
      · have h1 : ∀ R : List (Int × Int), (Lt.addRun R x).length ≤ R.length + 1 := by
          intro R
          unfold Lt.addRun
          split
          · split
            · simp
            · simp
          · simp
        have := h1 (Lt.runs (l ++ []))
        have e : (Lt.addRun (Lt.runs []) x).length = 1 := rfl
        rw [List.append_nil] at this ⊢
        omega
      · have hla : (Lt.runs (l ++ (j ++ [y]))).getLast?.map (·.1) = some y := by rw [(Lt.runs_of _).last, ← List.append_assoc]; simp
        have hlb : (Lt.runs (j ++ [y])).getLast?.map (·.1) = some y := by rw [(Lt.runs_of _).last]; simp
        have h2 : ∀ R : List (Int × Int), R.getLast?.map (·.1) = some y → (Lt.addRun R x).length = R.length + (if y = x then 0 else 1) := by
          intro R hR
          rcases Lt.last_form R with rfl | ⟨S, ⟨a, b⟩, rfl⟩
          · cases hR
          · have : a = y := by simpa using hR
            subst this
            by_cases hax : a = x
            · subst hax
              rw [Lt.addRun_same]
              simp
            · rw [Lt.addRun_new S b hax]
              simp [hax]
        rw [h2 _ hla, h2 _ hlb]
        omega

/-- so many code points from a place on -/
def Tx.sub (l : List Int) (i n : Int) : List Int := if 0 ≤ i ∧ 0 < n then (l.drop i.toNat).take n.toNat else []
theorem Tx.sub_nat (l : List Int) (i n : Nat) : Tx.sub l i n = (l.drop i).take n := by
  unfold Tx.sub
  split
  · simp
  · rename_i h
    have : n = 0 := by omega
    subst this
    simp
theorem Tx.sub_pts {l : List Int} {i n : Int} (h : ∀ z ∈ l, Lt.pt z = true) : ∀ z ∈ Tx.sub l i n, Lt.pt z = true := by
  intro z hz
  unfold Tx.sub at hz
  split at hz
  · exact h z (List.mem_of_mem_drop (List.mem_of_mem_take hz))
  · cases hz
theorem Tx.sub_len (l : List Int) (i n : Int) : (Tx.sub l i n).length ≤ l.length := by
  unfold Tx.sub
  split
  · rw [List.length_take, List.length_drop]
    omega
  · exact Nat.zero_le _
/-- m stands in l at k -/
def Tx.Stands (l m : List Int) (k : Nat) : Prop := k ≤ l.length ∧ m <+: l.drop k
theorem Tx.stands_iff {l m : List Int} {k : Nat} : Tx.Stands l m k ↔ k + m.length ≤ l.length ∧ (l.drop k).take m.length = m := by
  unfold Tx.Stands
  constructor
  · rintro ⟨h1, h2⟩
    refine ⟨?_, (List.prefix_iff_eq_take.1 h2).symm⟩
    have := h2.length_le
    rw [List.length_drop] at this
    omega
  · rintro ⟨h1, h2⟩
    exact ⟨by omega, List.prefix_iff_eq_take.2 h2.symm⟩
theorem Tx.stands_get {l m : List Int} {k : Nat} : Tx.Stands l m k ↔ k + m.length ≤ l.length ∧ ∀ i, i < m.length → l[k + i]? = m[i]? := by
  rw [Tx.stands_iff]
  constructor
  · rintro ⟨h1, h2⟩
    refine ⟨h1, fun i hi => ?_⟩
    conv => rhs; rw [← h2]
    rw [List.getElem?_take, if_pos hi, List.getElem?_drop]
  · rintro ⟨h1, h2⟩
    refine ⟨h1, List.ext_getElem? fun i => ?_⟩
    rw [List.getElem?_take]
    split
    · rename_i hi
      rw [List.getElem?_drop, h2 i hi]
    · rename_i hi
      rw [List.getElem?_eq_none (by omega)]
/-- the first place from i on at which m stands in l -/
def Tx.First (l m : List Int) (i k : Nat) : Prop := i ≤ k ∧ Tx.Stands l m k ∧ ∀ j, i ≤ j → j < k → ¬ Tx.Stands l m j
def Tx.IndexIs (l m : List Int) (i r : Int) : Prop := (i < 0 ∧ r = -1) ∨ (0 ≤ i ∧ ((∃ k : Nat, r = k ∧ Tx.First l m i.toNat k) ∨ (r = -1 ∧ ∀ j, i.toNat ≤ j → ¬ Tx.Stands l m j)))
theorem Tx.First.uniq {l m : List Int} {i k k' : Nat} (h : Tx.First l m i k) (h' : Tx.First l m i k') : k = k' := by
  rcases Nat.lt_trichotomy k k' with e | e | e
  · exact absurd h.2.1 (h'.2.2 k h.1 e)
  · exact e
  · exact absurd h'.2.1 (h.2.2 k' h'.1 e)
theorem Tx.IndexIs.uniq {l m : List Int} {i r r' : Int} (h : Tx.IndexIs l m i r) (h' : Tx.IndexIs l m i r') : r = r' := by
  rcases h with ⟨h0, rfl⟩ | ⟨h0, ⟨k, rfl, hk⟩ | ⟨rfl, hn⟩⟩
  · rcases h' with ⟨_, rfl⟩ | ⟨h1, _⟩
    · rfl
    · omega
  · rcases h' with ⟨h1, _⟩ | ⟨_, ⟨k', rfl, hk'⟩ | ⟨rfl, hn'⟩⟩
    · omega
    · rw [hk.uniq hk']
    · exact absurd hk.2.1 (hn' k hk.1)
  · rcases h' with ⟨h1, _⟩ | ⟨_, ⟨k', rfl, hk'⟩ | ⟨rfl, hn'⟩⟩
    · omega
    · exact absurd hk'.2.1 (hn k' hk'.1)
    · rfl
theorem Tx.First.le {l m : List Int} {i k : Nat} (h : Tx.First l m i k) : k + m.length ≤ l.length := (Tx.stands_iff.1 h.2.1).1
end Go.Proofs.YtkooconjkimgoaaDoor
