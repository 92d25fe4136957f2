/- Numbers as bits, the lowest one first. Plain mathematics, nothing of the program. -/
import Derived.Test.YtefkkmnhnldcbaaCore
import Derived.Test.YtefkkmnhnldcbaaCoreW
namespace Go.Proofs.Ytefkkmnhnldcbaa
namespace Bt

/-- bits as digits -/
def nat (bs : List Bool) : List Nat := bs.map Bool.toNat
def val (bs : List Bool) : Nat := W2.val (nat bs)
def Top (bs : List Bool) : Prop := W2.Top (nat bs)

theorem nat_length (bs : List Bool) : (nat bs).length = bs.length := by simp [nat]
theorem nat_get (bs : List Bool) (j : Nat) : (nat bs).getD j 0 = (bs.getD j false).toNat := by
  simp only [nat, List.getD_eq_getElem?_getD, List.getElem?_map]
  cases bs[j]? <;> rfl
theorem bit_le (b : Bool) : b.toNat ≤ 1 := by cases b <;> simp
theorem nat_fit (bs : List Bool) : W2.Fit (nat bs) := fun j => by
  rw [nat_get, W2.BB_eq]
  have := bit_le (bs.getD j false)
  omega
theorem nat_take (bs : List Bool) (n : Nat) : nat (bs.take n) = (nat bs).take n := by simp [nat, List.map_take]
theorem nat_drop (bs : List Bool) (n : Nat) : nat (bs.drop n) = (nat bs).drop n := by simp [nat, List.map_drop]
theorem nat_append (bs cs : List Bool) : nat (bs ++ cs) = nat bs ++ nat cs := by simp [nat]
theorem getD_lt {bs : List Bool} {j : Nat} (h : j < bs.length) : bs.getD j false = bs[j] := by simp [List.getD_eq_getElem?_getD, h]
theorem getD_ge {bs : List Bool} {j : Nat} (h : bs.length ≤ j) : bs.getD j false = false := by simp [List.getD_eq_getElem?_getD, h]
theorem nat_inj {bs cs : List Bool} (h : nat bs = nat cs) : bs = cs := by
  have hl : bs.length = cs.length := by rw [← nat_length, ← nat_length, h]
  refine List.ext_getElem hl fun j h1 h2 => ?_
  have := congrArg (·.getD j 0) h
  simp only [nat_get] at this
  rw [getD_lt h1, getD_lt h2] at this
  cases h3 : bs[j] <;> cases h4 : cs[j] <;> simp [h3, h4] at this <;> rfl
theorem uniq {bs cs : List Bool} (t : Top bs) (u : Top cs) (h : val bs = val cs) : bs = cs := nat_inj (W2.uniq (nat_fit _) (nat_fit _) t u h)
theorem val_nil : val [] = 0 := rfl
theorem val_lt (bs : List Bool) : val bs < 2 ^ bs.length := by
  have := W2.val_lt (nat_fit bs)
  rwa [nat_length, W2.BB_eq] at this
theorem len_le {bs : List Bool} {k : Nat} (t : Top bs) (h : val bs < 2 ^ k) : bs.length ≤ k := W2.len_le t (nat_length bs) (by rw [W2.BB_eq]; exact h)
theorem val_ge {bs : List Bool} (t : Top bs) (h : bs ≠ []) : 2 ^ (bs.length - 1) ≤ val bs := by
  have := W2.val_ge t (by intro e; apply h; have := congrArg List.length e; rw [nat_length] at this; exact List.eq_nil_of_length_eq_zero (by simpa using this))
  rwa [nat_length, W2.BB_eq] at this
theorem val_zeros (bs : List Bool) (n : Nat) (h : ∀ j, n ≤ j → bs.getD j false = false) : val (bs.take n) = val bs := by
  unfold val
  rw [nat_take]
  exact W2.val_zeros _ n fun j hj => by rw [nat_get, h j hj]; rfl
theorem top_take (bs : List Bool) (k : Nat) (hk : k ≤ bs.length) (h : 0 < k → bs.getD (k - 1) false = true) : Top (bs.take k) := by
  intro hne
  have hl : (nat (bs.take k)).length = k := by rw [nat_length, List.length_take]; omega
  have hk0 : 0 < k := by
    rcases Nat.eq_zero_or_pos k with e | e
    · subst e; exact absurd rfl hne
    · exact e
  rw [hl, nat_get]
  have : (bs.take k).getD (k - 1) false = true := by
    rw [← h hk0]
    simp [List.getD_eq_getElem?_getD, show k - 1 < k from by omega]
  rw [this]
  simp
theorem top_nil : Top [] := W2.Top.nil
theorem val_snoc (bs : List Bool) (b : Bool) : val (bs ++ [b]) = val bs + 2 ^ bs.length * b.toNat := by
  unfold val
  rw [nat_append]
  have := W2.val_snoc (nat bs) b.toNat
  rwa [nat_length, W2.BB_eq] at this
theorem val_cons (b : Bool) (bs : List Bool) : val (b :: bs) = b.toNat + 2 * val bs := by
  have := W2.val_cons b.toNat (nat bs)
  rwa [W2.BB_eq] at this
/-- the bit's test, as Go asks it -/
theorem odd_bit (n : Nat) : (decide (n % 2 = 1)).toNat = n % 2 := by
  rcases (show n % 2 = 0 ∨ n % 2 = 1 from by omega) with h | h <;> simp [h]

/-- where a limb's bits stand: j of them are written -/
structure Chunk (ds es : List Bool) (C j c : Nat) : Prop where
  len : es.length = ds.length + j
  sum : val es + 2 ^ es.length * c = val ds + 2 ^ ds.length * C
  lt : c < 2 ^ (32 - j)
theorem Chunk.start {ds : List Bool} {C : Nat} (h : C < 4294967296) : Chunk ds ds C 0 C := ⟨rfl, rfl, h⟩
theorem Chunk.step {ds es : List Bool} {C j c : Nat} (h : Chunk ds es C j c) (hj : j < 32) : Chunk ds (es ++ [decide (c % 2 = 1)]) C (j + 1) (c / 2) := by
  refine ⟨by simp [h.len]; omega, ?_, ?_⟩
  · rw [val_snoc, odd_bit, List.length_append, List.length_cons, List.length_nil, Nat.zero_add, ← h.sum, Nat.pow_succ, Nat.mul_assoc]
    have e : 2 * (c / 2) + c % 2 = c := Nat.div_add_mod c 2
    have e2 : 2 ^ es.length * (c % 2) + 2 ^ es.length * (2 * (c / 2)) = 2 ^ es.length * c := by rw [← Nat.mul_add]; congr 1; omega
    omega
  · have := h.lt
    refine Nat.div_lt_of_lt_mul ?_
    have e : 2 * 2 ^ (32 - (j + 1)) = 2 ^ (32 - j) := by rw [Nat.mul_comm, ← Nat.pow_succ]; congr 1; omega
    omega
theorem pow_BB (i : Nat) : M.BB ^ i = 2 ^ (32 * i) := by rw [Nat.pow_mul]; congr 1
/-- limbs and their bits -/
structure Bitting (l : List Nat) (ds : List Bool) (i : Nat) : Prop where
  len : ds.length = 32 * i
  sum : val ds = M.val (l.take i)
theorem Bitting.start (l : List Nat) : Bitting l [] 0 := ⟨rfl, by simp [M.val, val_nil]⟩
theorem Bitting.step {l : List Nat} {ds es : List Bool} {i x c : Nat} (h : Bitting l ds i) (hx : x = l.getD i 0) (k : Chunk ds es x 32 c) : Bitting l es (i + 1) := by
  refine ⟨by rw [k.len, h.len]; omega, ?_⟩
  have hc : c = 0 := by have := k.lt; simp at this; exact this
  have hs := k.sum
  rw [hc, Nat.mul_zero, Nat.add_zero] at hs
  rw [hs, h.sum, h.len, M.val_take_any, ← hx, pow_BB]

/-- m bits from k on -/
theorem val_piece (bs : List Bool) (k m : Nat) : val ((bs.drop k).take (m + 1)) = (bs.getD k false).toNat + 2 * val ((bs.drop (k + 1)).take m) := by
  rcases Nat.lt_or_ge k bs.length with h | h
  · rw [List.drop_eq_getElem_cons h, List.take_succ_cons, val_cons, getD_lt h]
  · rw [List.drop_of_length_le h, List.drop_of_length_le (by omega), getD_ge h]; simp [val_nil]
theorem val_piece_lt (bs : List Bool) (k m : Nat) : val ((bs.drop k).take m) < 2 ^ m := by
  have h1 := val_lt ((bs.drop k).take m)
  have h2 : 2 ^ ((bs.drop k).take m).length ≤ 2 ^ m := Nat.pow_le_pow_right (by omega) (List.length_take_le _ _)
  omega
theorem val_split (bs : List Bool) (i m : Nat) : val (bs.take (i + m)) = val (bs.take i) + 2 ^ i * val ((bs.drop i).take m) := by
  rcases Nat.lt_or_ge bs.length i with h | h
  · rw [List.take_of_length_le (by omega), List.take_of_length_le (by omega), List.drop_of_length_le (by omega)]; simp [val_nil]
  · have e : bs.take (i + m) = bs.take i ++ (bs.drop i).take m := by rw [List.take_add]
    rw [e]
    unfold val
    rw [nat_append, W2.val_append, nat_length, List.length_take, Nat.min_eq_left h, W2.BB_eq]
/-- bits and their limbs -/
structure Limbing (bs : List Bool) (out : List Nat) (t : Nat) : Prop where
  len : out.length = t
  fit : M.Fit out
  sum : M.val out = val (bs.take (32 * t))
theorem Limbing.start (bs : List Bool) : Limbing bs [] 0 := ⟨rfl, M.Fit.nil, rfl⟩
theorem Limbing.step {bs : List Bool} {out : List Nat} {t n : Nat} (h : Limbing bs out t) (hn : n = val ((bs.drop (32 * t)).take 32)) : Limbing bs (out ++ [n]) (t + 1) := by
  have hlt : n < 4294967296 := by rw [hn]; exact val_piece_lt _ _ _
  refine ⟨by simp [h.len], h.fit.append (M.Fit.cons (by rw [M.BB_eq]; exact hlt) M.Fit.nil), ?_⟩
  rw [M.val_snoc, h.sum, h.len, pow_BB, hn, show 32 * (t + 1) = 32 * t + 32 from by omega, val_split]
theorem Limbing.end_ {bs : List Bool} {out : List Nat} {t : Nat} (h : Limbing bs out t) (tp : Top bs) (h1 : bs.length ≤ 32 * t) (h2 : t = 0 ∨ 32 * (t - 1) < bs.length) : M.Top out ∧ M.val out = val bs := by
  have hv : M.val out = val bs := by rw [h.sum, List.take_of_length_le h1]
  refine ⟨fun hne => ?_, hv⟩
  have ht : 0 < t := by rw [← h.len]; exact List.length_pos_iff.2 hne
  have hb : 32 * (t - 1) < bs.length := by rcases h2 with e | e; omega; exact e
  intro h0
  have hne' : bs ≠ [] := by rintro rfl; simp at hb
  have g := val_ge tp hne'
  have g2 : 2 ^ (32 * (t - 1)) ≤ 2 ^ (bs.length - 1) := Nat.pow_le_pow_right (by omega) (by omega)
  have e := M.val_zeros out (t - 1) (fun j hj => by
    by_cases e : j = t - 1
    · rw [e]; rw [h.len] at h0; exact h0
    · exact M.getD_ge (by rw [h.len]; omega))
  have e2 := M.val_lt (h.fit.take (t - 1))
  rw [List.length_take, h.len, Nat.min_eq_left (by omega), pow_BB, e, hv] at e2
  omega
end Bt
end Go.Proofs.Ytefkkmnhnldcbaa
