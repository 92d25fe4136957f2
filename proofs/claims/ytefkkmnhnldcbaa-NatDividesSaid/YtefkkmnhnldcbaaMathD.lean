/- How a number's digits are doubled, one by one. Plain mathematics, nothing of the program. -/
import Derived.Test.YtefkkmnhnldcbaaMathT
import Derived.Test.YtefkkmnhnldcbaaMathB
namespace Go.Proofs.Ytefkkmnhnldcbaa
namespace T

/-- where a doubling stands: i digits are done -/
structure Dbl (L0 L : List Nat) (n i more c : Nat) : Prop where
  len : L.length = n
  fit : Fit L
  rest : ∀ j, i ≤ j → L.getD j 0 = L0.getD j 0
  sum : val (L.take i) + BB ^ i * c = 2 * val (L0.take i) + more
  carry : c ≤ 1
theorem Dbl.start {L : List Nat} {n more : Nat} (hl : L.length = n) (f : Fit L) (hm : more ≤ 1) : Dbl L L n 0 more more :=
  ⟨hl, f, fun _ _ => rfl, by simp [val], hm⟩
theorem Dbl.step {L0 L : List Nat} {n i more c x t : Nat} (h : Dbl L0 L n i more c) (hi : i < n) (hx : x = L.getD i 0) (ht : t = 2 * x + c) :
    Dbl L0 (L.set i (t % 10)) n (i + 1) more (t / 10) := by
  have fx : x < 10 := by rw [hx]; exact h.fit i
  have hc := h.carry
  refine ⟨by simp [h.len], h.fit.set _ _ (Nat.mod_lt _ (by omega)), fun j hj => ?_, ?_, by omega⟩
  · rw [set_ne _ _ _ _ (by omega)]; exact h.rest j (by omega)
  · have hl : (L.take i).length = i := by rw [List.length_take, h.len]; omega
    rw [take_set _ _ _ (by rw [h.len]; exact hi), val_snoc, hl, val_take_any, ← h.rest i (Nat.le_refl _), ← hx]
    have e : 10 * (t / 10) + t % 10 = t := Nat.div_add_mod t 10
    have h2 : BB ^ (i + 1) * (t / 10) = BB ^ i * (10 * (t / 10)) := by rw [Nat.pow_succ, Nat.mul_assoc]; rfl
    have h3 : BB ^ i * (t % 10) + BB ^ i * (10 * (t / 10)) = BB ^ i * t := by rw [← Nat.mul_add]; congr 1; omega
    have h4 : BB ^ i * t = 2 * (BB ^ i * x) + BB ^ i * c := by rw [ht, Nat.mul_add, Nat.mul_left_comm]
    have := h.sum
    rw [Nat.mul_add]
    omega
/-- a number in its own form, doubled -/
structure Digs (ds : List Nat) (V : Nat) : Prop where
  fit : Fit ds
  top : Top ds
  val : val ds = V
theorem Digs.nil : Digs [] 0 := ⟨Fit.nil, Top.nil, rfl⟩
theorem top_of_ge {L : List Nat} (f : Fit L) (h : L ≠ [] → BB ^ (L.length - 1) ≤ val L) : Top L := by
  intro hne h0
  have h1 := h hne
  have hl : 0 < L.length := List.length_pos_iff.2 hne
  have e := val_zeros L (L.length - 1) (fun j hj => by
    by_cases e : j = L.length - 1
    · rw [e]; exact h0
    · exact getD_ge (by omega))
  have h2 := val_lt (f.take (L.length - 1))
  rw [e, List.length_take, Nat.min_eq_left (by omega)] at h2
  omega
theorem Digs.end0 {ds es : List Nat} {n V more : Nat} (h : Digs ds V) (k : Dbl ds es n n more 0) (hl : ds.length = n) : Digs es (2 * V + more) := by
  have hs := k.sum
  rw [List.take_of_length_le (by rw [k.len]; exact Nat.le_refl _), List.take_of_length_le (by rw [hl]; exact Nat.le_refl _), h.val, Nat.mul_zero, Nat.add_zero] at hs
  refine ⟨k.fit, top_of_ge k.fit fun hne => ?_, hs⟩
  have hne' : ds ≠ [] := by
    intro e
    apply hne
    have := k.len
    rw [← hl, e] at this
    exact List.eq_nil_of_length_eq_zero this
  have h1 := val_ge h.top hne'
  rw [h.val] at h1
  rw [k.len, ← hl, hs]
  omega
theorem Digs.end1 {ds es : List Nat} {n V more c : Nat} (h : Digs ds V) (k : Dbl ds es n n more c) (hl : ds.length = n) (hc : 0 < c) : Digs (es ++ [c]) (2 * V + more) := by
  have hs := k.sum
  rw [List.take_of_length_le (by rw [k.len]; exact Nat.le_refl _), List.take_of_length_le (by rw [hl]; exact Nat.le_refl _), h.val] at hs
  have hc1 := k.carry
  refine ⟨k.fit.append (Fit.cons (by rw [BB_eq]; omega) Fit.nil), fun _ => ?_, ?_⟩
  · rw [List.length_append, List.length_cons, List.length_nil, Nat.zero_add, Nat.add_sub_cancel]
    simp [List.getD_eq_getElem?_getD]
    omega
  · rw [val_snoc, k.len]; exact hs
theorem Digs.txt {ds : List Nat} {V : Nat} (h : Digs ds V) (hne : ds ≠ []) : Txt V (byt (asc ds).reverse) := .inr ⟨ds, h.fit, h.top, hne, h.val, rfl⟩
theorem Digs.zero {V : Nat} (h : Digs [] V) : Txt V [48] := .inl ⟨h.val.symm, rfl⟩
theorem asc_drop (ds : List Nat) (j : Nat) (h : j < ds.length) : (asc (ds.drop j)).reverse = (asc (ds.drop (j + 1))).reverse ++ [48 + ds.getD j 0] := by
  rw [List.drop_eq_getElem_cons h, getD_lt h]
  unfold asc
  rw [List.map_cons, List.reverse_cons]
end T
end Go.Proofs.Ytefkkmnhnldcbaa
