/- What the proofs of this claim use, text by text. -/
import Derived.Test.YtcgaeknikfaghaaGreatDoorQC07
set_option linter.unusedSimpArgs false
set_option linter.unusedVariables false
set_option maxRecDepth 100000
set_option maxHeartbeats 25600000
namespace Go.Proofs.YtcgaeknikfaghaaGreatDoor
def Bd.arity (D : List Dc) (j : Nat) : Option Nat := match D[j]? with
  | some d => if d.mac = true then some d.par.length else none
  | none => none
def Bd.kept (i : Nat) (m : List (Nat × List Int × Int)) : Nat := (m.filter fun q => decide (i < q.2.1.length)).length
end Go.Proofs.YtcgaeknikfaghaaGreatDoor
namespace Go.Proofs.YtcgaeknikfaghaaGreatDoor
theorem Bd.arity_get {D : List Dc} {j n : Nat} (h : Bd.arity D j = some n) : ∃ d, D[j]? = some d ∧ d.mac = true ∧ d.par.length = n := by
  unfold Bd.arity at h
  cases hd : D[j]? with
  | none => rw [hd] at h; cases h
  | some d =>
    rw [hd] at h
    simp only at h
    split at h
    · rename_i e; cases h; exact ⟨d, rfl, e, rfl⟩
    · cases h
end Go.Proofs.YtcgaeknikfaghaaGreatDoor
namespace Go.Proofs.YtcgaeknikfaghaaGreatDoor
def Bd.cnt (D : List Dc) (q : Nat → Bool) : Nat → Nat
  | 0 => 0
  | k + 1 => Bd.cnt D q k + (match Bd.arity D k with
    | some p => if q p = true then 1 else 0
    | none => 0)
end Go.Proofs.YtcgaeknikfaghaaGreatDoor
namespace Go.Proofs.YtcgaeknikfaghaaGreatDoor
open Go.RowKit
def Bd.caps (D : List Dc) (i : Nat) : Nat → Nat
  | 0 => 0
  | k + 1 => Bd.caps D i k + (match Bd.arity D k with
    | some p => if p ≤ i then 20000 ^ p else 0
    | none => 0)
end Go.Proofs.YtcgaeknikfaghaaGreatDoor
namespace Go.Proofs.YtcgaeknikfaghaaGreatDoor
theorem Bd.nodup_lt : ∀ (n : Nat) (l : List Nat), l.Nodup → (∀ x ∈ l, x < n) → l.length ≤ n
  | 0, l, _, h => by
    cases l with
    | nil => exact Nat.le_refl _
    | cons x l => exact absurd (h x List.mem_cons_self) (Nat.not_lt_zero _)
  | n + 1, l, hd, h => by
    have h1 := Bd.nodup_lt n (l.erase n) (hd.erase n) fun x hx => by
      have := hd.mem_erase_iff.1 hx
      have := h x this.2
      omega
    rw [List.length_erase] at h1
    split at h1 <;> omega
def Bd.code : List Int → Nat
  | [] => 0
  | a :: l => a.toNat + 20000 * Bd.code l
theorem Bd.code_lt : ∀ l : List Int, (∀ a ∈ l, 0 ≤ a ∧ a < 20000) → Bd.code l < 20000 ^ l.length
  | [], _ => by decide
  | a :: l, h => by
    have h1 := Bd.code_lt l fun b hb => h b (List.mem_cons_of_mem _ hb)
    have h2 := h a List.mem_cons_self
    rw [Bd.code, List.length_cons, Nat.pow_succ]
    omega
theorem Bd.code_inj : ∀ l m : List Int, l.length = m.length → (∀ a ∈ l, 0 ≤ a ∧ a < 20000) → (∀ a ∈ m, 0 ≤ a ∧ a < 20000) → Bd.code l = Bd.code m → l = m
  | [], [], _, _, _, _ => rfl
  | [], _ :: _, h, _, _, _ => by cases h
  | _ :: _, [], h, _, _, _ => by cases h
  | a :: l, b :: m, h, h1, h2, e => by
    rw [Bd.code, Bd.code] at e
    have ha := h1 a List.mem_cons_self
    have hb := h2 b List.mem_cons_self
    have e1 : a = b := by omega
    have e2 : Bd.code l = Bd.code m := by omega
    rw [e1, Bd.code_inj l m (by simpa using h) (fun x hx => h1 x (List.mem_cons_of_mem _ hx)) (fun x hx => h2 x (List.mem_cons_of_mem _ hx)) e2]
structure Bd.Apart (D : List Dc) (K : Nat) (m : List (Nat × List Int × Int)) : Prop where
  fn : ∀ q ∈ m, q.1 < K ∧ Bd.arity D q.1 = some q.2.1.length
  num : ∀ q ∈ m, ∀ a ∈ q.2.1, 0 ≤ a ∧ a < 20000
  once : (m.map fun q => (q.1, q.2.1)).Nodup
theorem Bd.Apart.nil (D : List Dc) (K : Nat) : Bd.Apart D K [] := ⟨fun _ h => (List.not_mem_nil h).elim, fun _ h => (List.not_mem_nil h).elim, List.nodup_nil⟩
def Bd.over (i : Nat) (g : Nat → Nat) : List (Nat × List Int × Int) → Nat
  | [] => 0
  | q :: m => (if i < q.2.1.length then 0 else g q.1) + Bd.over i g m
def Bd.most (D : List Dc) (i : Nat) (g : Nat → Nat) : Nat → Nat
  | 0 => 0
  | k + 1 => Bd.most D i g k + (match Bd.arity D k with
    | some p => if p ≤ i then 20000 ^ p * g k else 0
    | none => 0)
theorem Bd.over_split (i : Nat) (g : Nat → Nat) (k : Nat) : ∀ m : List (Nat × List Int × Int), Bd.over i g m = Bd.over i g (m.filter fun q => decide (q.1 ≠ k)) + Bd.over i g (m.filter fun q => decide (q.1 = k))
  | [] => rfl
  | q :: m => by
    rw [Bd.over, Bd.over_split i g k m]
    by_cases e : q.1 = k
    · rw [List.filter_cons_of_neg (by simp [e]), List.filter_cons_of_pos (by simp [e]), Bd.over]; omega
    · rw [List.filter_cons_of_pos (by simp [e]), List.filter_cons_of_neg (by simp [e]), Bd.over]; omega
theorem Bd.over_same (i : Nat) (g : Nat → Nat) (k p : Nat) : ∀ m : List (Nat × List Int × Int), (∀ q ∈ m, q.1 = k ∧ q.2.1.length = p) → Bd.over i g m = if p ≤ i then m.length * g k else 0
  | [], _ => by simp [Bd.over]
  | q :: m, h => by
    obtain ⟨h1, h2⟩ := h q List.mem_cons_self
    rw [Bd.over, Bd.over_same i g k p m fun r hr => h r (List.mem_cons_of_mem _ hr), h1, h2]
    by_cases e : p ≤ i
    · rw [if_neg (by omega), if_pos e, if_pos e, List.length_cons, Nat.add_mul]; omega
    · rw [if_pos (by omega), if_neg e, if_neg e]
theorem Bd.Apart.filter {D : List Dc} {K : Nat} {m : List (Nat × List Int × Int)} (h : Bd.Apart D K m) (f : Nat × List Int × Int → Bool) : Bd.Apart D K (m.filter f) :=
  ⟨fun q hq => h.fn q (List.mem_filter.1 hq).1, fun q hq => h.num q (List.mem_filter.1 hq).1, h.once.sublist (List.filter_sublist.map _)⟩
theorem Bd.Apart.over {D : List Dc} (i : Nat) (g : Nat → Nat) : ∀ (K : Nat) (m : List (Nat × List Int × Int)), Bd.Apart D K m → Bd.over i g m ≤ Bd.most D i g K
  | 0, m, h => by
    cases m with
    | nil => exact Nat.le_refl _
    | cons q m => exact absurd (h.fn q List.mem_cons_self).1 (Nat.not_lt_zero _)
  | k + 1, m, h => by
    rw [Bd.over_split i g k m, Bd.most]
    have hA := h.filter fun q => decide (q.1 ≠ k)
    have hB := h.filter fun q => decide (q.1 = k)
    refine Nat.add_le_add (Bd.Apart.over i g k _ ⟨fun q hq => ⟨?_, (hA.fn q hq).2⟩, hA.num, hA.once⟩) ?_
    · have h1 := (hA.fn q hq).1
      have h2 : q.1 ≠ k := by simpa using (List.mem_filter.1 hq).2
      omega
    · generalize hm : m.filter (fun q => decide (q.1 = k)) = m' at hB
      have hk : ∀ q ∈ m', q.1 = k := fun q hq => by rw [← hm] at hq; simpa using (List.mem_filter.1 hq).2
      cases ha : Bd.arity D k with
      | none =>
        cases m' with
        | nil => exact Nat.le_refl _
        | cons q m' =>
          have := (hB.fn q List.mem_cons_self).2
          rw [hk q List.mem_cons_self, ha] at this
          cases this
      | some p =>
        simp only
        have hl : ∀ q ∈ m', q.1 = k ∧ q.2.1.length = p := fun q hq => by
          have := (hB.fn q hq).2
          rw [hk q hq, ha] at this
          exact ⟨hk q hq, by injection this with e; exact e.symm⟩
        rw [Bd.over_same i g k p m' hl]
        split
        · refine Nat.mul_le_mul_right _ ?_
          have hn : (m'.map fun q => Bd.code q.2.1).Nodup := by
            have h1 := hB.once
            rw [List.nodup_iff_pairwise_ne, List.pairwise_map] at h1 ⊢
            refine h1.imp_of_mem fun {a b} ha hb hab e => hab ?_
            rw [hk a ha, hk b hb, Bd.code_inj a.2.1 b.2.1 (by rw [(hl a ha).2, (hl b hb).2]) (hB.num a ha) (hB.num b hb) e]
          have := Bd.nodup_lt (20000 ^ p) _ hn fun x hx => by
            obtain ⟨q, hq, rfl⟩ := List.mem_map.1 hx
            rw [← (hl q hq).2]
            exact Bd.code_lt _ (hB.num q hq)
          simpa using this
        · exact Nat.le_refl _
theorem Bd.most_caps (D : List Dc) (i : Nat) : ∀ K, Bd.most D i (fun _ => 1) K = Bd.caps D i K
  | 0 => rfl
  | k + 1 => by
    rw [Bd.most, Bd.caps, Bd.most_caps D i k]
    cases Bd.arity D k with
    | none => rfl
    | some p => simp
theorem Bd.kept_len (i : Nat) : ∀ m : List (Nat × List Int × Int), m.length = Bd.kept i m + Bd.over i (fun _ => 1) m
  | [] => rfl
  | q :: m => by
    rw [List.length_cons, Bd.kept_len i m, Bd.over]
    unfold Bd.kept
    by_cases e : i < q.2.1.length
    · rw [List.filter_cons_of_pos (by simpa using e), List.length_cons, if_pos e]; omega
    · rw [List.filter_cons_of_neg (by simpa using e), if_neg e]; omega
end Go.Proofs.YtcgaeknikfaghaaGreatDoor
namespace Go.Proofs.YtcgaeknikfaghaaGreatDoor
open Go.RowKit
theorem sgn_neg {z : Int} : (Z.sgn z < 0) ↔ z < 0 := by
  rcases Z.sgn_cases z with ⟨h1, h2⟩ | ⟨h1, h2⟩ | ⟨h1, h2⟩ <;> rw [h2] <;> omega
end Go.Proofs.YtcgaeknikfaghaaGreatDoor
namespace Go.Proofs.YtcgaeknikfaghaaGreatDoor
open Go.RowKit
structure SItem where
  X : Sx
  E : Int
  at_ : Int
structure ItS (w : World) (A : Option Addr) (n : Nat) (l : List SItem) : Prop where
  len : l.length = n
  at_ : 0 < n → ∃ b off, A = some ⟨b, off, none⟩ ∧ ∀ (i : Nat) (x : SItem), l[i]? = some x → ∃ A' c', SAt w b (off + i * 8) x.X A' c' ∧ STree w AnyP x.X A' c' ∧ w.cell? ⟨b, off + i * 8 + 6, none⟩ = some (.int .i64 x.E) ∧ w.cell? ⟨b, off + i * 8 + 7, none⟩ = some (.int .i64 x.at_)
theorem ItS.get {w : World} {A : Option Addr} {n i : Nat} {l : List SItem} (h : ItS w A n l) (hi : i < n) :
    ∃ b off x A' c', A = some ⟨b, off, none⟩ ∧ l[i]? = some x ∧ l.drop i = x :: l.drop (i + 1) ∧ SAt w b (off + i * 8) x.X A' c' ∧ STree w AnyP x.X A' c' ∧ w.cell? ⟨b, off + i * 8 + 6, none⟩ = some (.int .i64 x.E) ∧ w.cell? ⟨b, off + i * 8 + 7, none⟩ = some (.int .i64 x.at_) := by
  obtain ⟨b, off, e, hc⟩ := h.at_ (by omega)
  have hi' : i < l.length := by rw [h.len]; exact hi
  obtain ⟨A', c', h1, h2, h3, h4⟩ := hc i _ (List.getElem?_eq_getElem hi')
  exact ⟨b, off, l[i], A', c', e, List.getElem?_eq_getElem hi', List.drop_eq_getElem_cons hi', h1, h2, h3, h4⟩
end Go.Proofs.YtcgaeknikfaghaaGreatDoor
