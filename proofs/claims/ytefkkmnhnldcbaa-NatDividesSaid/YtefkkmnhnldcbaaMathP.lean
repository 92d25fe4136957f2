/- Texts of digits and the numbers that they say. Plain mathematics, nothing of the program. -/
import Derived.Test.YtefkkmnhnldcbaaMath
import Derived.Test.YtefkkmnhnldcbaaMathT
namespace Go.Proofs.Ytefkkmnhnldcbaa
namespace T

/-- the number that digits say, the highest one first -/
def dv (l : List UInt8) : Nat := val (l.map fun c => c.toNat - 48).reverse
/-- all are digits -/
def AllD (l : List UInt8) : Prop := ∀ c ∈ l, 48 ≤ c.toNat ∧ c.toNat ≤ 57

theorem dv_nil : dv [] = 0 := rfl
theorem dv_snoc (l : List UInt8) (c : UInt8) : dv (l ++ [c]) = dv l * 10 + (c.toNat - 48) := by
  unfold dv
  rw [List.map_append, List.reverse_append, List.map_cons, List.map_nil, List.reverse_singleton, List.singleton_append, val_cons, BB_eq]
  omega
theorem dv_fit {l : List UInt8} (h : AllD l) : Fit (l.map fun c => c.toNat - 48).reverse := Fit.of_mem fun x hx => by
  rw [List.mem_reverse, List.mem_map] at hx
  obtain ⟨c, hc, rfl⟩ := hx
  have := h c hc
  rw [BB_eq]
  omega
theorem dv_lt {l : List UInt8} (h : AllD l) : dv l < 10 ^ l.length := by
  have := val_lt (dv_fit h)
  simpa [dv, BB_eq] using this
theorem AllD.take {l : List UInt8} (h : AllD l) (n : Nat) : AllD (l.take n) := fun c hc => h c (List.mem_of_mem_take hc)

/-- where a multiplication in place stands: i limbs are done -/
structure Times (L0 L : List Nat) (n i k more c : Nat) : Prop where
  len : L.length = n
  fit : M.Fit L
  rest : ∀ j, i ≤ j → L.getD j 0 = L0.getD j 0
  sum : M.val (L.take i) + M.BB ^ i * c = M.val (L0.take i) * k + more
  carry : c ≤ k
theorem Times.start {L : List Nat} {n k more : Nat} (hl : L.length = n) (f : M.Fit L) (hm : more ≤ k) : Times L L n 0 k more more :=
  ⟨hl, f, fun _ _ => rfl, by simp [M.val], hm⟩
theorem Times.step {L0 L : List Nat} {n i k more c x t : Nat} (h : Times L0 L n i k more c) (hi : i < n) (hx : x = L.getD i 0) (ht : t = x * k + c) :
    Times L0 (L.set i (t % M.BB)) n (i + 1) k more (t / M.BB) := by
  have fx : x < M.BB := by rw [hx]; exact h.fit i
  refine ⟨by simp [h.len], h.fit.set _ _ (Nat.mod_lt _ M.BB_pos), fun j hj => ?_, ?_, ?_⟩
  · rw [M.set_ne _ _ _ _ (by omega)]; exact h.rest j (by omega)
  · have hl : (L.take i).length = i := by rw [List.length_take, h.len]; omega
    rw [M.take_set _ _ _ (by rw [h.len]; exact hi), M.val_snoc, hl, M.val_take_any, ← h.rest i (Nat.le_refl _), ← hx]
    have e : M.BB * (t / M.BB) + t % M.BB = t := Nat.div_add_mod t M.BB
    have h2 : M.BB ^ (i + 1) * (t / M.BB) = M.BB ^ i * (M.BB * (t / M.BB)) := by rw [Nat.pow_succ, Nat.mul_assoc]
    have h3 : M.BB ^ i * (t % M.BB) + M.BB ^ i * (M.BB * (t / M.BB)) = M.BB ^ i * t := by rw [← Nat.mul_add]; congr 1; omega
    have h4 : M.BB ^ i * t = M.BB ^ i * x * k + M.BB ^ i * c := by rw [ht, Nat.mul_add, Nat.mul_assoc]
    have := h.sum
    rw [Nat.add_mul]
    omega
  · have hc := h.carry
    have h1 : (x + 1) * k ≤ M.BB * k := Nat.mul_le_mul_right _ fx
    rw [Nat.add_mul, Nat.one_mul] at h1
    exact Nat.div_le_of_le_mul (by omega)
theorem Times.end_ {L0 L : List Nat} {n k more c : Nat} (h : Times L0 L n n k more c) (hl : L0.length = n) : M.val L + M.BB ^ n * c = M.val L0 * k + more := by
  have := h.sum
  rwa [List.take_of_length_le (by rw [h.len]; exact Nat.le_refl _), List.take_of_length_le (by rw [hl]; exact Nat.le_refl _)] at this

/-- where a text's parsing stands: i bytes are read -/
structure Parsing (s : List UInt8) (L : List Nat) (n i sc ch : Nat) : Prop where
  len : L.length = n
  fit : M.Fit L
  sum : M.val L * sc + ch = dv (s.take i)
  lt : ch < sc
  pow : ∃ r, r ≤ 8 ∧ sc = 10 ^ r
theorem Parsing.start (s : List UInt8) (n : Nat) : Parsing s (List.replicate n 0) n 0 1 0 :=
  ⟨by simp, M.Fit.of_mem fun x hx => by rw [List.eq_of_mem_replicate hx]; exact M.BB_pos, by rw [M.val_replicate_zero]; simp [dv_nil], by omega, 0, by omega, rfl⟩
/-- one byte more -/
theorem Parsing.more {s : List UInt8} {L : List Nat} {n i sc ch d : Nat} (h : Parsing s L n i sc ch) (hi : i < s.length) (hd : d = (s.getD i 0).toNat - 48) (h9 : d ≤ 9) :
    M.val L * (sc * 10) + (ch * 10 + d) = dv (s.take (i + 1)) ∧ ch * 10 + d < sc * 10 := by
  have e : s.getD i 0 = s[i] := by simp [List.getD_eq_getElem?_getD, hi]
  have hl := h.lt
  refine ⟨?_, by omega⟩
  rw [List.take_succ_eq_append_getElem hi, dv_snoc, ← h.sum, ← e, ← hd, Nat.add_mul, Nat.mul_assoc]
  omega
theorem Parsing.small {s : List UInt8} {L : List Nat} {n i sc ch : Nat} (h : Parsing s L n i sc ch) : 1 ≤ sc ∧ (sc = 100000000 ∨ sc ≤ 10000000) := by
  obtain ⟨r, hr, rfl⟩ := h.pow
  refine ⟨Nat.pow_pos (by omega), ?_⟩
  rcases Nat.lt_or_ge r 8 with h1 | h1
  · right
    exact Nat.le_trans (Nat.pow_le_pow_right (by omega) (show r ≤ 7 by omega)) (by omega)
  · obtain rfl : r = 8 := by omega
    left; rfl
theorem Parsing.keep {s : List UInt8} {L : List Nat} {n i sc ch d : Nat} (h : Parsing s L n i sc ch) (hi : i < s.length) (hd : d = (s.getD i 0).toNat - 48) (h9 : d ≤ 9) (hs : sc ≤ 10000000) :
    Parsing s L n (i + 1) (sc * 10) (ch * 10 + d) := by
  have hm := h.more hi hd h9
  refine ⟨h.len, h.fit, hm.1, hm.2, ?_⟩
  obtain ⟨r, hr, rfl⟩ := h.pow
  refine ⟨r + 1, ?_, by rw [Nat.pow_succ]⟩
  rcases Nat.lt_or_ge r 8 with h1 | h1
  · omega
  · obtain rfl : r = 8 := by omega
    omega
theorem room {s : List UInt8} (h : AllD s) {i n : Nat} (hn : n = s.length / 9 + 1) : dv (s.take i) < M.BB ^ n := by
  have h1 := dv_lt (h.take i)
  have h2 : 10 ^ (s.take i).length ≤ 10 ^ (9 * n) := Nat.pow_le_pow_right (by omega) (by rw [List.length_take]; omega)
  have h3 : 10 ^ (9 * n) ≤ M.BB ^ n := by
    rw [Nat.pow_mul]
    exact Nat.pow_le_pow_left (by rw [M.BB_eq]; omega) n
  omega
theorem Parsing.flush {s : List UInt8} {L L' : List Nat} {n i sc ch d c : Nat} (h : Parsing s L n i sc ch) (hi : i < s.length) (hd : d = (s.getD i 0).toNat - 48) (h9 : d ≤ 9) (ha : AllD s) (hn : n = s.length / 9 + 1)
    (hl : L'.length = n) (f : M.Fit L') (hs : M.val L' + M.BB ^ n * c = M.val L * (sc * 10) + (ch * 10 + d)) : Parsing s L' n (i + 1) 1 0 := by
  have hm := h.more hi hd h9
  rw [hm.1] at hs
  have hr := room (i := i + 1) ha hn
  have hc : c = 0 := by
    rcases Nat.eq_zero_or_pos c with e | e
    · exact e
    · have : M.BB ^ n * 1 ≤ M.BB ^ n * c := Nat.mul_le_mul_left _ e
      omega
  rw [hc, Nat.mul_zero, Nat.add_zero] at hs
  exact ⟨hl, f, by omega, by omega, 0, by omega, rfl⟩

/-- what is written says the number -/
theorem dig_back (d : Nat) (h : d ≤ 9) : (UInt8.ofNat (48 + d)).toNat = 48 + d := by
  rw [UInt8.toNat_ofNat']
  omega
theorem txt_all {N : Nat} {l : List UInt8} (h : Txt N l) : AllD l ∧ dv l = N ∧ l ≠ [] ∧ (l = [48] ∨ l.getD 0 0 ≠ 48) := by
  rcases h with ⟨h0, rfl⟩ | ⟨ds, f, t, ne, hv, rfl⟩
  · exact ⟨fun c hc => by simp at hc; subst hc; decide, h0.symm, by simp, .inl rfl⟩
  · have hf : ∀ d ∈ ds, d ≤ 9 := fun d hd => by have := f.mem hd; rw [BB_eq] at this; omega
    have e : (byt (asc ds).reverse).map (fun c => c.toNat - 48) = ds.reverse := by
      unfold byt asc
      rw [← List.map_reverse, List.map_map, List.map_map]
      refine (List.map_congr_left (g := id) fun d hd => ?_).trans (List.map_id _)
      have := dig_back d (hf d (List.mem_reverse.1 hd))
      simp only [Function.comp, id, this]
      omega
    refine ⟨fun c hc => ?_, ?_, ?_, .inr ?_⟩
    · unfold byt asc at hc
      rw [← List.map_reverse, List.map_map, List.mem_map] at hc
      obtain ⟨d, hd, rfl⟩ := hc
      have h9 := hf d (List.mem_reverse.1 hd)
      have := dig_back d h9
      simp only [Function.comp, this]
      omega
    · unfold dv
      rw [e, List.reverse_reverse, hv]
    · intro h
      have := congrArg List.length h
      simp [byt, asc] at this
      exact ne this
    · have ht := t ne
      have hl : 0 < ds.length := List.length_pos_iff.2 ne
      intro h48
      apply ht
      have e2 : (byt (asc ds).reverse).getD 0 0 = UInt8.ofNat (48 + ds.getD (ds.length - 1) 0) := by
        simp [byt, asc, List.getD_eq_getElem?_getD, hl]
        rw [List.getElem?_eq_getElem (by omega)]
        simp
      rw [e2] at h48
      have := dig_back (ds.getD (ds.length - 1) 0) (by have := f (ds.length - 1); rw [BB_eq] at this; omega)
      rw [h48] at this
      have h3 : (48 : UInt8).toNat = 48 := rfl
      omega
/-- digits without a nought ahead are the number's text -/
theorem all_txt {l : List UInt8} (h : AllD l) (hne : l ≠ []) (h0 : l = [48] ∨ l.getD 0 0 ≠ 48) : Txt (dv l) l := by
  rcases h0 with rfl | h0
  · exact .inl ⟨rfl, rfl⟩
  · refine .inr ⟨(l.map fun c => c.toNat - 48).reverse, dv_fit h, fun _ => ?_, by simpa using hne, rfl, ?_⟩
    · have hl : 0 < l.length := List.length_pos_iff.2 hne
      rw [List.length_reverse, List.length_map]
      have e : (l.map fun c => c.toNat - 48).reverse.getD (l.length - 1) 0 = (l.getD 0 0).toNat - 48 := by
        rw [getD_lt (by simp; omega), List.getElem_reverse]
        simp [List.getD_eq_getElem?_getD, hl]
      rw [e]
      have hm : l.getD 0 0 ∈ l := by rw [List.getD_eq_getElem?_getD, List.getElem?_eq_getElem hl]; exact List.getElem_mem hl
      have := h _ hm
      intro h1
      apply h0
      have h3 : (48 : UInt8).toNat = 48 := rfl
      exact UInt8.toNat_inj.1 (by omega)
    · unfold byt asc
      simp only [List.map_reverse, List.reverse_reverse, List.map_map]
      refine ((List.map_congr_left (f := _) (g := id) fun c hc => ?_).trans (List.map_id _)).symm
      have := h c hc
      simp only [Function.comp, id]
      apply UInt8.toNat_inj.1
      rw [UInt8.toNat_ofNat']
      omega
end T
end Go.Proofs.Ytefkkmnhnldcbaa
