/- Pieces of texts, and where they stand. Nothing of the program's text. -/
import Derived.Test.YtdpbglofijpfnaaF8
namespace Go.Proofs.Ytdpbglofijpfnaa

theorem Tx.addRun_len (R : List (Int × Int)) (z : Int) : R.length ≤ (Lt.addRun R z).length := by
  rcases Lt.last_form R with rfl | ⟨S, ⟨y, k⟩, rfl⟩
  · exact Nat.zero_le _
  · by_cases h : y = z
    · subst h
      rw [Lt.addRun_same]
      simp
    · rw [Lt.addRun_new S k h]
      simp
theorem Tx.runs_pre (l : List Int) : ∀ (n : Nat) (m : List Int), m.length = n → (Lt.runs l).length ≤ (Lt.runs (l ++ m)).length
  | 0, m, h => by
    obtain rfl := List.eq_nil_of_length_eq_zero h
    simp
  | n + 1, m, h => by
    rcases Lt.last_form m with rfl | ⟨k, x, rfl⟩
    · cases h
    · have := Tx.runs_pre l n k (by simpa using h)
      rw [← List.append_assoc, Lt.runs_snoc]
      exact Nat.le_trans this (Tx.addRun_len _ _)
theorem Tx.addRun_last {R : List (Int × Int)} {y : Int} (hR : R.getLast?.map (·.1) = some y) (x : Int) : (Lt.addRun R x).length = R.length + (if y = x then 0 else 1) := by
  rcases Lt.last_form R with rfl | ⟨S, ⟨a, b⟩, rfl⟩
  · cases hR
  · have : a = y := by simpa using hR
    subst this
    by_cases hax : a = x
    · subst hax
      rw [Lt.addRun_same]
      simp
    · rw [Lt.addRun_new S b hax]
      simp [hax]
theorem Tx.runs_suf (l : List Int) : ∀ (n : Nat) (m : List Int), m.length = n → (Lt.runs m).length ≤ (Lt.runs (l ++ m)).length
  | 0, m, h => by
    obtain rfl := List.eq_nil_of_length_eq_zero h
    exact Nat.zero_le _
  | n + 1, m, h => by
    rcases Lt.last_form m with rfl | ⟨k, x, rfl⟩
    · cases h
    · have ih := Tx.runs_suf l n k (by simpa using h)
      rw [← List.append_assoc, Lt.runs_snoc, Lt.runs_snoc]
      rcases Lt.last_form k with rfl | ⟨j, y, rfl⟩
      · have : (Lt.addRun (Lt.runs (l ++ [])) x).length ≠ 0 := by
          have hl := (Lt.runs_of (l ++ [] ++ [x])).last
          rw [Lt.runs_snoc] at hl
          intro e
          rw [List.eq_nil_of_length_eq_zero e] at hl
          simp at hl
        have e : (Lt.addRun (Lt.runs []) x).length = 1 := rfl
        omega
      · have hla : (Lt.runs (l ++ (j ++ [y]))).getLast?.map (·.1) = some y := by rw [(Lt.runs_of _).last, ← List.append_assoc]; simp
        have hlb : (Lt.runs (j ++ [y])).getLast?.map (·.1) = some y := by rw [(Lt.runs_of _).last]; simp
        rw [Tx.addRun_last hla, Tx.addRun_last hlb]
        omega
/-- what stands within a list is of no more runs -/
theorem Tx.runs_sub (l : List Int) (i n : Int) : (Lt.runs (Tx.sub l i n)).length ≤ (Lt.runs l).length := by
  unfold Tx.sub
  split
  · have h1 := Tx.runs_pre ((l.drop i.toNat).take n.toNat) _ ((l.drop i.toNat).drop n.toNat) rfl
    rw [List.take_append_drop] at h1
    have h2 := Tx.runs_suf (l.take i.toNat) _ (l.drop i.toNat) rfl
    rw [List.take_append_drop] at h2
    omega
  · exact Nat.zero_le _
theorem Tx.total_runs (l : List Int) : Lt.total (Lt.runs l) = l.length := (Lt.runs_of l).sum
theorem Tx.may_runs {l : List Int} (hp : ∀ z ∈ l, Lt.pt z = true) (hl : l.length ≤ 1099511627776) (hr : (Lt.runs l).length ≤ 65536) : Tx.May (Lt.runs l) :=
  ⟨Tx.runs_own hp, hr, by rw [Tx.total_runs]; omega⟩
theorem Tx.May.len {R : List (Int × Int)} (h : Tx.May R) : (Lt.expand R).length ≤ 1099511627776 ∧ ((Lt.expand R).length : Int) = Lt.total R := by
  have := h.own.len
  have := h.most
  exact ⟨by omega, by omega⟩
theorem Tx.May.sub {R : List (Int × Int)} (h : Tx.May R) (i n : Int) : Tx.May (Lt.runs (Tx.sub (Lt.expand R) i n)) := by
  refine Tx.may_runs (Tx.sub_pts h.own.pts) ?_ ?_
  · have := Tx.sub_len (Lt.expand R) i n
    have := h.len.1
    omega
  · have := Tx.runs_sub (Lt.expand R) i n
    rw [h.own.back] at this
    have := h.few
    omega
theorem Tx.subR_may {R : List (Int × Int)} (h : Tx.May R) (i n : Int) : Tx.subR R i n = Lt.runs (Tx.sub (Lt.expand R) i n) := by unfold Tx.subR; rw [if_pos (Tx.mayB_true h)]
theorem Tx.May.nil : Tx.May [] := ⟨Tx.Own.nil, Nat.zero_le _, by decide⟩
theorem Tx.subR_is {R : List (Int × Int)} (h : Tx.May R) (i n : Int) : Tx.May (Tx.subR R i n) ∧ Lt.expand (Tx.subR R i n) = Tx.sub (Lt.expand R) i n ∧ (Tx.subR R i n).length ≤ R.length := by
  rw [Tx.subR_may h]
  refine ⟨h.sub i n, Tx.expand_runs _, ?_⟩
  have := Tx.runs_sub (Lt.expand R) i n
  rwa [h.own.back] at this
/-- a text is its code points -/
theorem Tx.May.eq {R : List (Int × Int)} (h : Tx.May R) {l : List Int} (e : Lt.expand R = l) : R = Lt.runs l := by rw [← e, h.own.back]
theorem Tx.conI_is {a b : List (Int × Int)} (ha : Tx.May a) (hb : Tx.May b) : Tx.conI a b = if Lt.total a + Lt.total b ≤ 1099511627776 ∧ (Lt.runs (Lt.expand a ++ Lt.expand b)).length ≤ 65536 then (0, Lt.runs (Lt.expand a ++ Lt.expand b)) else (2, []) := by
  have hand : (Tx.mayB a && Tx.mayB b) = true := by rw [Tx.mayB_true ha, Tx.mayB_true hb]; rfl
  rw [Tx.conI, if_pos hand]
theorem Tx.runs_both {a b : List (Int × Int)} (ha : Tx.May a) (hb : Tx.May b) : (Lt.runs (Lt.expand a ++ Lt.expand b)).length ≤ a.length + b.length := by
  have := Tx.runs_app _ (Lt.expand a) (Lt.expand b) rfl
  rwa [ha.own.back, hb.own.back] at this
/-- RunsParts -/
theorem Tx.parts_whole {s : List (Int × Int)} (h : Tx.May s) {i : Int} (hi : 0 ≤ i) : Tx.conI (Tx.subR s 0 i) (Tx.subR s i (Lt.total s)) = (0, s) := by
  obtain ⟨h1, h2, h3⟩ := Tx.subR_is h 0 i
  obtain ⟨k1, k2, k3⟩ := Tx.subR_is h i (Lt.total s)
  obtain ⟨l1, l2⟩ := h.len
  obtain ⟨i, rfl⟩ : ∃ j : Nat, i = (j : Int) := ⟨i.toNat, by omega⟩
  have e1 : Tx.sub (Lt.expand s) 0 (i : Int) = (Lt.expand s).take i := by
    have := Tx.sub_nat (Lt.expand s) 0 i
    rw [List.drop_zero] at this
    exact this
  have e2 : Tx.sub (Lt.expand s) (i : Int) (Lt.total s) = (Lt.expand s).drop i := by
    rw [← l2, Tx.sub_nat, List.take_of_length_le (by rw [List.length_drop]; omega)]
  have e3 : Lt.expand (Tx.subR s 0 i) ++ Lt.expand (Tx.subR s i (Lt.total s)) = Lt.expand s := by rw [h2, k2, e1, e2, List.take_append_drop]
  have t1 := (h1.len).2
  have t2 := (k1.len).2
  have t3 := congrArg List.length e3
  rw [List.length_append] at t3
  rw [Tx.conI_is h1 k1, e3, h.own.back, if_pos ⟨by omega, h.few⟩]
theorem Tx.sub_sub (l : List Int) {i n j m x : Int} (hi : 0 ≤ i) (hj : 0 ≤ j) (hm : 0 ≤ m) (hjn : j ≤ n) (hx : x = if n - j < m then n - j else m) : Tx.sub (Tx.sub l i n) j m = Tx.sub l (i + j) x := by
  obtain ⟨a, rfl⟩ : ∃ a : Nat, i = (a : Int) := ⟨i.toNat, by omega⟩
  obtain ⟨b, rfl⟩ : ∃ b : Nat, j = (b : Int) := ⟨j.toNat, by omega⟩
  obtain ⟨c, rfl⟩ : ∃ c : Nat, m = (c : Int) := ⟨m.toNat, by omega⟩
  obtain ⟨d, rfl⟩ : ∃ d : Nat, n = (d : Int) := ⟨n.toNat, by omega⟩
  obtain ⟨y, hy⟩ : ∃ y : Nat, x = (y : Int) := ⟨x.toNat, by split at hx <;> omega⟩
  rw [hy, show (a : Int) + (b : Int) = ((a + b : Nat) : Int) by omega, Tx.sub_nat, Tx.sub_nat, Tx.sub_nat, List.drop_take, List.take_take, List.drop_drop]
  congr 1
  split at hx <;> omega
theorem Tx.parts_inner {s : List (Int × Int)} (h : Tx.May s) {i n j m x : Int} (hi : 0 ≤ i) (hj : 0 ≤ j) (hm : 0 ≤ m) (hjn : j ≤ n) (hx : x = if n - j < m then n - j else m) : Tx.subR (Tx.subR s i n) j m = Tx.subR s (i + j) x := by
  obtain ⟨h1, h2, _⟩ := Tx.subR_is h i n
  rw [Tx.subR_may h1, h2, Tx.sub_sub _ hi hj hm hjn hx, Tx.subR_may h]
theorem Tx.parts_len {s : List (Int × Int)} (h : Tx.May s) {i n : Int} (hi : 0 ≤ i) (hn : 0 ≤ n) : Tx.lenI (Tx.subR s i n) = if n < (if Lt.total s - i < 0 then 0 else Lt.total s - i) then n else (if Lt.total s - i < 0 then 0 else Lt.total s - i) := by
  obtain ⟨h1, h2, _⟩ := Tx.subR_is h i n
  obtain ⟨l1, l2⟩ := h.len
  rw [Tx.lenI_may h1, ← h1.len.2, h2]
  obtain ⟨a, rfl⟩ : ∃ a : Nat, i = (a : Int) := ⟨i.toNat, by omega⟩
  obtain ⟨d, rfl⟩ : ∃ d : Nat, n = (d : Int) := ⟨n.toNat, by omega⟩
  rw [Tx.sub_nat, List.length_take, List.length_drop]
  split <;> split <;> omega
/-- a text of no code points -/
theorem Tx.May.empty {t : List (Int × Int)} (h : Tx.May t) (h0 : Lt.total t = 0) : t = [] := by
  have hl := h.len.2
  have : Lt.expand t = [] := List.eq_nil_of_length_eq_zero (by omega)
  rw [h.eq this]
  rfl
/-- RunsFirst: where it stands, it stands -/
theorem Tx.first_here {s t : List (Int × Int)} (hs : Tx.May s) (ht : Tx.May t) {i k : Nat} (h : Tx.First (Lt.expand s) (Lt.expand t) i k) : Tx.subR s (k : Int) (Lt.total t) = t := by
  rw [Tx.subR_may hs, ← ht.len.2, Tx.sub_nat, (Tx.stands_iff.1 h.2.1).2, ht.own.back]
/-- .. and not ahead of that -/
theorem Tx.first_ahead {s t : List (Int × Int)} (hs : Tx.May s) (ht : Tx.May t) {i k : Nat} (h : Tx.First (Lt.expand s) (Lt.expand t) i k) (hn : Lt.total t ≠ 0) {r : Int} (hr : IdxSaid (Tx.subR s 0 ((k : Int) + Lt.total t - 1)) t (i : Int) r) : r = -1 := by
  obtain ⟨h1, h2, _⟩ := Tx.subR_is hs 0 ((k : Int) + Lt.total t - 1)
  have htl := ht.len.2
  have hpos : 0 < (Lt.expand t).length := by omega
  refine hr.uniq (.inr ⟨h1, ht, .inr ⟨by omega, .inr ⟨rfl, fun j hj hst => ?_⟩⟩⟩)
  rw [Int.toNat_natCast] at hj
  rw [h2] at hst
  have hcast : (k : Int) + Lt.total t - 1 = ((k + (Lt.expand t).length - 1 : Nat) : Int) := by omega
  have e1 : Tx.sub (Lt.expand s) 0 ((k : Int) + Lt.total t - 1) = (Lt.expand s).take (k + (Lt.expand t).length - 1) := by
    rw [hcast]
    have := Tx.sub_nat (Lt.expand s) 0 (k + (Lt.expand t).length - 1)
    rw [List.drop_zero] at this
    exact this
  rw [e1] at hst
  obtain ⟨q1, q2⟩ := Tx.stands_get.1 hst
  rw [List.length_take] at q1
  refine h.2.2 j hj (by omega) (Tx.stands_get.2 ⟨by omega, fun x hx => ?_⟩)
  rw [← q2 x hx, List.getElem?_take, if_pos (by omega)]
theorem Tx.first_empty {l m : List Int} {i k : Nat} (hm : m = []) (h : Tx.First l m i k) : k = i := by
  subst hm
  rcases Nat.lt_or_ge i k with e | e
  · exact absurd (⟨by have := h.2.1.1; omega, List.nil_prefix⟩ : Tx.Stands l [] i) (h.2.2 i (Nat.le_refl _) e)
  · have := h.1
    omega
end Go.Proofs.Ytdpbglofijpfnaa
