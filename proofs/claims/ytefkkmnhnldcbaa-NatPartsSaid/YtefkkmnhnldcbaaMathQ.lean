/- Long division: how a quotient's limb is guessed, and mended. Plain mathematics, nothing of the program. -/
import Derived.Test.YtefkkmnhnldcbaaMath
namespace Go.Proofs.Ytefkkmnhnldcbaa
namespace M

/-- the highest limbs, and what stands below them -/
theorem val_top2 (v : List Nat) (n : Nat) (hn : v.length = n) (h2 : 2 ≤ n) : ∃ lo, val v = v.getD (n - 1) 0 * BB ^ (n - 1) + v.getD (n - 2) 0 * BB ^ (n - 2) + lo ∧ lo = val (v.take (n - 2)) := by
  have e1 := val_at v (n - 1) (by omega)
  have e2 := val_take_succ v (n - 2) (by omega)
  rw [show n - 2 + 1 = n - 1 from by omega] at e2
  rw [show v.drop (n - 1 + 1) = [] from List.drop_of_length_le (by omega), val_nil, Nat.mul_zero, Nat.add_zero, e2] at e1
  refine ⟨_, ?_, rfl⟩
  rw [e1, Nat.mul_comm (BB ^ (n - 1)), Nat.mul_comm (BB ^ (n - 2))]
  omega

/-- what a guess knows: 'top' is the two highest limbs of the part, p2 the third; high and next the divisor's highest -/
structure Guess (V P E high next top p2 g rest : Nat) : Prop where
  sum : g * high + rest = top
  ge : P / V ≤ g
theorem guess_facts {V P E high next top p2 vl pl : Nat} (hV : V = high * (BB * E) + next * E + vl) (hP : P = top * (BB * E) + p2 * E + pl) (hvl : vl < E) (hpl : pl < E) (hp2 : p2 < BB) (hn : next < BB) :
    (∀ q, q * V ≤ P → q * high ≤ top) ∧
    (∀ g rest, g * high + rest = top → g * next > rest * BB + p2 → P < g * V) ∧
    (∀ g rest, 0 < g → g ≤ BB → 0 < high → g * high + rest = top → g * next ≤ rest * BB + p2 → (g - 1) * V ≤ P) ∧
    (∀ g rest, g ≤ BB → BB ≤ rest → g * high + rest = top → g * V ≤ P) := by
  have hE : 0 < E := by omega
  have hB := BB_pos
  refine ⟨fun q hq => ?_, fun g rest hs hg => ?_, fun g rest hg0 hgB hh hs hg => ?_, fun g rest hgB hr hs => ?_⟩
  · -- q * high * (B E) ≤ q V ≤ P < (top + 1) (B E)
    have h1 : q * (high * (BB * E)) ≤ q * V := Nat.mul_le_mul_left _ (by omega)
    have h2 : p2 * E + pl < BB * E := by
      have : (p2 + 1) * E ≤ BB * E := Nat.mul_le_mul_right _ hp2
      rw [Nat.add_mul] at this
      omega
    rcases Nat.lt_or_ge top (q * high) with h | h
    · exfalso
      have h3 : (top + 1) * (BB * E) ≤ q * high * (BB * E) := Nat.mul_le_mul_right _ h
      rw [Nat.add_mul, Nat.mul_assoc q] at h3
      omega
    · exact h
  · have h1 : (rest * BB + p2 + 1) * E ≤ g * next * E := Nat.mul_le_mul_right _ hg
    have h2 : g * V = g * high * (BB * E) + g * next * E + g * vl := by rw [hV, Nat.mul_add, Nat.mul_add, Nat.mul_assoc, Nat.mul_assoc]
    have h3 : top * (BB * E) = g * high * (BB * E) + rest * BB * E := by rw [← hs, Nat.add_mul, Nat.mul_assoc rest]
    rw [Nat.add_mul, Nat.add_mul] at h1
    rw [h2, hP, h3]
    omega
  · obtain ⟨k, rfl⟩ : ∃ k, g = k + 1 := ⟨g - 1, by omega⟩
    rw [Nat.add_sub_cancel]
    have h2 : k * V ≤ k * high * (BB * E) + k * next * E + k * E := by
      have : k * V = k * high * (BB * E) + k * next * E + k * vl := by rw [hV, Nat.mul_add, Nat.mul_add, Nat.mul_assoc, Nat.mul_assoc]
      have h4 : k * vl ≤ k * E := Nat.mul_le_mul_left _ (by omega)
      omega
    have h3 : top * (BB * E) = k * high * (BB * E) + high * (BB * E) + rest * BB * E := by rw [← hs, Nat.add_mul, Nat.add_mul, Nat.one_mul, Nat.add_mul, Nat.mul_assoc rest]
    have h5 : (k + 1) * next * E ≤ (rest * BB + p2) * E := Nat.mul_le_mul_right _ hg
    rw [Nat.add_mul, Nat.add_mul, Nat.one_mul, Nat.add_mul] at h5
    have h6 : k * E ≤ BB * E := Nat.mul_le_mul_right _ (by omega)
    have h7 : 1 * (BB * E) ≤ high * (BB * E) := Nat.mul_le_mul_right _ hh
    rw [hP, h3]
    omega
  · have h1 : V ≤ (high + 1) * (BB * E) := by
      have h3 : (next + 1) * E ≤ BB * E := Nat.mul_le_mul_right _ hn
      rw [Nat.add_mul] at h3
      rw [hV, Nat.add_mul, Nat.one_mul]
      omega
    have h2 : g * V ≤ g * ((high + 1) * (BB * E)) := Nat.mul_le_mul_left _ h1
    have h4 : g * ((high + 1) * (BB * E)) = g * high * (BB * E) + g * (BB * E) := by rw [Nat.add_mul, Nat.mul_add, Nat.one_mul, Nat.mul_assoc]
    have h5 : g * (BB * E) ≤ rest * (BB * E) := Nat.mul_le_mul_right _ (by omega)
    have h6 : top * (BB * E) = g * high * (BB * E) + rest * (BB * E) := by rw [← hs, Nat.add_mul]
    rw [hP, h6]
    omega

/-- where a shift stands -/
structure Shl (a L : List Nat) (n i K c : Nat) : Prop where
  len : L.length = n + 1
  fit : Fit L
  sum : val (L.take i) + BB ^ i * c = val (a.take i) * K
  carry : c < K
theorem Shl.start {a : List Nat} {n K : Nat} (hK : 0 < K) : Shl a (List.replicate (n + 1) 0) n 0 K 0 :=
  ⟨by simp, Fit.of_mem fun x hx => by rw [List.eq_of_mem_replicate hx]; exact BB_pos, by simp [val], hK⟩
theorem Shl.step {a L : List Nat} {n i K c x t : Nat} (h : Shl a L n i K c) (hi : i < n) (hx : x = a.getD i 0) (fx : x < BB) (ht : t = x * K + c) :
    Shl a (L.set i (t % BB)) n (i + 1) K (t / BB) := by
  have hc := h.carry
  refine ⟨by simp [h.len], h.fit.set _ _ (Nat.mod_lt _ BB_pos), ?_, ?_⟩
  · have hl : (L.take i).length = i := by rw [List.length_take, h.len]; omega
    rw [take_set _ _ _ (by rw [h.len]; omega), val_snoc, hl, val_take_any, ← hx]
    have e : BB * (t / BB) + t % BB = t := Nat.div_add_mod t BB
    have h2 : BB ^ (i + 1) * (t / BB) = BB ^ i * (BB * (t / BB)) := by rw [Nat.pow_succ, Nat.mul_assoc]
    have h3 : BB ^ i * (t % BB) + BB ^ i * (BB * (t / BB)) = BB ^ i * t := by rw [← Nat.mul_add]; congr 1; omega
    have h4 : BB ^ i * t = BB ^ i * x * K + BB ^ i * c := by rw [ht, Nat.mul_add, Nat.mul_assoc]
    have := h.sum
    rw [Nat.add_mul]
    omega
  · have h1 : (x + 1) * K ≤ BB * K := Nat.mul_le_mul_right _ fx
    rw [Nat.add_mul, Nat.one_mul] at h1
    exact Nat.div_lt_of_lt_mul (by omega)
theorem Shl.end_ {a L : List Nat} {n K c : Nat} (h : Shl a L n n K c) (ha : a.length = n) : val (L.set n c) = val a * K := by
  have hs := h.sum
  rw [List.take_of_length_le (l := a) (by omega)] at hs
  have e : L.set n c = L.take n ++ [c] := by
    rw [← take_set L n c (by rw [h.len]; omega), List.take_of_length_le (by simp [h.len])]
  have hl : (L.take n).length = n := by rw [List.length_take, h.len]; omega
  rw [e, val_snoc, hl]
  exact hs

/-- where a shift back stands -/
structure Shr (a L : List Nat) (n i K : Nat) : Prop where
  len : L.length = n
  fit : Fit L
  sum : K * val (L.take i) + a.getD 0 0 % K = val (a.take i) + BB ^ i * (a.getD i 0 % K)
theorem Shr.start {a : List Nat} {n K : Nat} : Shr a (List.replicate n 0) n 0 K :=
  ⟨by simp, Fit.of_mem fun x hx => by rw [List.eq_of_mem_replicate hx]; exact BB_pos, by simp [val]⟩
theorem Shr.step {a L : List Nat} {n i K R x y o : Nat} (h : Shr a L n i K) (hi : i < n) (hx : x = a.getD i 0) (hy : y = a.getD (i + 1) 0) (hK : 0 < K) (hKR : K * R = BB) (fx : x < BB) (ho : o = ((y * BB + x) / K) % BB) :
    Shr a (L.set i o) n (i + 1) K := by
  refine ⟨by simp [h.len], h.fit.set _ _ (by rw [ho]; exact Nat.mod_lt _ BB_pos), ?_⟩
  have hl : (L.take i).length = i := by rw [List.length_take, h.len]; omega
  rw [take_set _ _ _ (by rw [h.len]; exact hi), val_snoc, hl, val_take_any, ← hx, ← hy]
  have hs := h.sum
  rw [← hx] at hs
  -- K * o = x - x % K + BB * (y % K)
  have e1 : (y * BB + x) / K = y * R + x / K := by
    rw [← hKR, show y * (K * R) + x = K * (y * R) + x from by rw [Nat.mul_left_comm], Nat.mul_add_div hK]
  have hxK : x / K < R := Nat.div_lt_of_lt_mul (by rw [hKR]; exact fx)
  have e2 : o = (y % K) * R + x / K := by
    rw [ho, e1]
    have hy2 : y = K * (y / K) + y % K := (Nat.div_add_mod y K).symm
    have e3 : y * R + x / K = BB * (y / K) + ((y % K) * R + x / K) := by
      have h1 : y * R = K * (y / K) * R + y % K * R := by rw [← Nat.add_mul]; exact congrArg (· * R) hy2
      have h2 : K * (y / K) * R = BB * (y / K) := by rw [← hKR, Nat.mul_assoc, Nat.mul_comm (y / K) R, ← Nat.mul_assoc]
      omega
    rw [e3, Nat.mul_add_mod, Nat.mod_eq_of_lt]
    have h4 : (y % K + 1) * R ≤ K * R := Nat.mul_le_mul_right _ (Nat.mod_lt _ hK)
    rw [Nat.add_mul, Nat.one_mul, hKR] at h4
    omega
  have e5 : K * o + x % K = x + BB * (y % K) := by
    rw [e2, Nat.mul_add]
    have h1 := Nat.div_add_mod x K
    have h2 : K * (y % K * R) = BB * (y % K) := by rw [← hKR, Nat.mul_comm (y % K) R, Nat.mul_assoc]
    omega
  have h6 : BB ^ i * (K * o) + BB ^ i * (x % K) = BB ^ i * x + BB ^ i * (BB * (y % K)) := by rw [← Nat.mul_add, ← Nat.mul_add, e5]
  have h7 : BB ^ (i + 1) * (y % K) = BB ^ i * (BB * (y % K)) := by rw [Nat.pow_succ, Nat.mul_assoc]
  have h8 : K * (BB ^ i * o) = BB ^ i * (K * o) := Nat.mul_left_comm _ _ _
  rw [Nat.mul_add, h8, h7]
  omega
theorem Shr.end_ {a L : List Nat} {n K : Nat} (h : Shr a L n n K) (ha : a.length = n) (hK : 0 < K) : val L = val a / K := by
  have hs := h.sum
  rw [List.take_of_length_le (by rw [h.len]; exact Nat.le_refl _), List.take_of_length_le (by omega), getD_ge (by omega : a.length ≤ n), Nat.zero_mod, Nat.mul_zero, Nat.add_zero] at hs
  rw [← hs, Nat.mul_add_div hK, Nat.div_eq_of_lt (Nat.mod_lt _ hK), Nat.add_zero]
end M
end Go.Proofs.Ytefkkmnhnldcbaa
