/- Numbers to the base 10, digit by digit: how a text grows. Plain mathematics, nothing of the program. -/
import Derived.Test.YtefkkmnhnldcbaaCore
import Derived.Test.YtefkkmnhnldcbaaCoreT
namespace Go.Proofs.Ytefkkmnhnldcbaa
namespace T

/-- the digits' bytes -/
def asc (ds : List Nat) : List Nat := ds.map (48 + ·)
/-- what bytes are as a list of bytes -/
def byt (es : List Nat) : List UInt8 := es.map UInt8.ofNat
/-- l is the number's text -/
def Txt (N : Nat) (l : List UInt8) : Prop := (N = 0 ∧ l = [48]) ∨ ∃ ds, Fit ds ∧ Top ds ∧ ds ≠ [] ∧ val ds = N ∧ l = byt (asc ds).reverse

theorem Txt.uniq {N : Nat} {l m : List UInt8} (h : Txt N l) (k : Txt N m) : l = m := by
  rcases h with ⟨h0, rfl⟩ | ⟨ds, f, t, ne, hv, rfl⟩ <;> rcases k with ⟨k0, rfl⟩ | ⟨es, f', t', ne', hv', rfl⟩
  · rfl
  · exact absurd (t'.pos ne') (by omega)
  · exact absurd (t.pos ne) (by omega)
  · rw [T.uniq f f' t t' (by omega)]

/-- where a chunk stands: j digits of it are written -/
structure Chunk (ds es : List Nat) (C j c : Nat) : Prop where
  len : es.length = ds.length + j
  fit : Fit es
  sum : val es + 10 ^ es.length * c = val ds + 10 ^ ds.length * C
  lt : c < 10 ^ (9 - j)
theorem Chunk.start {ds : List Nat} {C : Nat} (f : Fit ds) (h : C < 1000000000) : Chunk ds ds C 0 C := ⟨rfl, f, rfl, h⟩
theorem Chunk.step {ds es : List Nat} {C j c : Nat} (h : Chunk ds es C j c) (hj : j < 9) : Chunk ds (es ++ [c % 10]) C (j + 1) (c / 10) := by
  refine ⟨by simp [h.len]; omega, h.fit.append (Fit.cons (Nat.mod_lt _ (by omega)) Fit.nil), ?_, ?_⟩
  · rw [val_snoc, List.length_append, List.length_cons, List.length_nil, Nat.zero_add, BB_eq, ← h.sum, Nat.pow_succ, Nat.mul_assoc]
    have e : 10 * (c / 10) + c % 10 = c := Nat.div_add_mod c 10
    have e2 : 10 ^ es.length * (c % 10) + 10 ^ es.length * (10 * (c / 10)) = 10 ^ es.length * c := by rw [← Nat.mul_add]; congr 1; omega
    omega
  · have := h.lt
    refine Nat.div_lt_of_lt_mul ?_
    have e : 10 * 10 ^ (9 - (j + 1)) = 10 ^ (9 - j) := by rw [Nat.mul_comm, ← Nat.pow_succ]; congr 1; omega
    omega
/-- where a text stands -/
structure Texting (ds : List Nat) (V N : Nat) : Prop where
  fit : Fit ds
  sum : val ds + 10 ^ ds.length * V = N
theorem Texting.start (N : Nat) : Texting [] N N := ⟨Fit.nil, by simp [val]⟩
theorem Texting.step {ds es : List Nat} {V N c : Nat} (h : Texting ds V N) (k : Chunk ds es (V % 1000000000) 9 c) : Texting es (V / 1000000000) N := by
  refine ⟨k.fit, ?_⟩
  have hc : c = 0 := by have := k.lt; simp at this; exact this
  have hs := k.sum
  rw [hc, Nat.mul_zero, Nat.add_zero] at hs
  rw [hs, k.len, Nat.pow_add, Nat.mul_assoc, Nat.add_assoc, ← Nat.mul_add, ← h.sum]
  congr 2
  have := Nat.div_add_mod V 1000000000
  omega
/-- a text isn't longer than ten digits a limb -/
theorem Texting.short {ds : List Nat} {V N n : Nat} (h : Texting ds V N) (hV : 0 < V) (hN : N < M.BB ^ n) : ds.length ≤ 10 * n := by
  have h1 : 10 ^ ds.length ≤ N := by
    rw [← h.sum]
    have : 10 ^ ds.length * 1 ≤ 10 ^ ds.length * V := Nat.mul_le_mul_left _ hV
    omega
  have h2 : M.BB ^ n ≤ 10 ^ (10 * n) := by
    rw [Nat.pow_mul]
    exact Nat.pow_le_pow_left (by rw [M.BB_eq]; omega) n
  rcases Nat.lt_or_ge (10 * n) ds.length with h3 | h3
  · have := Nat.pow_le_pow_right (n := 10) (by omega) (Nat.le_of_lt h3)
    omega
  · exact h3
theorem asc_length (ds : List Nat) : (asc ds).length = ds.length := by simp [asc]
theorem asc_snoc (ds : List Nat) (d : Nat) : asc (ds ++ [d]) = asc ds ++ [48 + d] := by simp [asc]
theorem asc_get {ds : List Nat} {j : Nat} (h : j < ds.length) : (asc ds).getD j 0 = 48 + ds.getD j 0 := by
  simp [asc, List.getD_eq_getElem?_getD, h]
theorem asc_take (ds : List Nat) (n : Nat) : asc (ds.take n) = (asc ds).take n := by simp [asc, List.map_take]
/-- the end: noughts ahead are struck -/
theorem Texting.txt {ds : List Nat} {N n : Nat} (h : Texting ds 0 N) (h0 : 0 < n) (hn : n ≤ ds.length) (hx : ds.getD (n - 1) 0 ≠ 0) (hz : ∀ q, n ≤ q → ds.getD q 0 = 0) :
    Txt N (byt (asc (ds.take n)).reverse) := by
  refine .inr ⟨ds.take n, h.fit.take n, fun _ => ?_, ?_, ?_, rfl⟩
  · rw [List.length_take, Nat.min_eq_left hn]
    simpa [List.getD_eq_getElem?_getD, List.getElem?_take, show n - 1 < n from by omega] using hx
  · intro e
    have := congrArg List.length e
    rw [List.length_take, List.length_nil] at this
    omega
  · rw [val_zeros ds n hz, ← h.sum]; simp
end T
end Go.Proofs.Ytefkkmnhnldcbaa
