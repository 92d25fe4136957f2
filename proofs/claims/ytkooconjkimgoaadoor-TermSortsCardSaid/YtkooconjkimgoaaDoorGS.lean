/- several texts in one. -/
import Derived.Test.YtkooconjkimgoaaDoorGB
import Derived.Test.YtkooconjkimgoaaDoorGF
import Derived.Test.YtkooconjkimgoaaDoorGR
import Derived.OpenShut
import Derived.Laws.AppendOwnNone
/- nat's calls by the numbers that their arguments say. -/
namespace Go.Proofs.YtkooconjkimgoaaDoor
open Go.RowKit

/-- a list of limbs that says N, in any form -/
def In (w : World) (A : Option Addr) (n c N : Nat) : Prop := ∃ l, Lims w A n l ∧ M.val l = N ∧ n ≤ c ∧ c ≤ maxLen ∧ n ≤ 1000000
theorem In.below {w w' : World} {A : Option Addr} {n c N : Nat} (h : In w A n c N) (hb : Below w.heap.size w w') : In w' A n c N := by
  obtain ⟨l, h1, h2⟩ := h
  exact ⟨l, h1.below hb, h2⟩
theorem Num.inn {w : World} {v : Value} {N k : Nat} (h : Num w v N) (hN : N < M.BB ^ k) (hk : k ≤ 1000000) : ∃ A n c, v = .slice A n c ∧ In w A n c N := by
  obtain ⟨A, n, c, l, rfl, h1, h2, h3, h4, h5⟩ := h
  have : n ≤ k := M.len_le h2 h1.1 (by rw [h3]; exact hN)
  exact ⟨A, n, c, rfl, l, h1, h3, h4, h5, by omega⟩
theorem Num.cast {w : World} {v : Value} {N K : Nat} (h : Num w v N) (e : N = K) : Num w v K := by rw [← e]; exact h
theorem In.cast {w : World} {A : Option Addr} {n c N K : Nat} (h : In w A n c N) (e : N = K) : In w A n c K := by rw [← e]; exact h

theorem norm_num {w : World} {A : Option Addr} {n c N : Nat} (h : In w A n c N) : Calls Tryd.prog 56 #[.slice A n c] w (Gives w N) := by
  obtain ⟨l, h1, rfl, h3, h4, h5⟩ := h
  exact norm_any _ _ _ _ _ h1 h3 h4 h5
theorem cmp_num {w : World} {A B : Option Addr} {n m c d N K : Nat} (h : In w A n c N) (k : In w B m d K) : Calls Tryd.prog 66 #[.slice A n c, .slice B m d] w fun e w' => e = .returned (.int .i64 (M.cmpI N K)) ∧ Below w.heap.size w w' := by
  obtain ⟨l, h1, rfl, h3, h4, h5⟩ := h
  obtain ⟨l', k1, rfl, k3, k4, k5⟩ := k
  exact (cmp_any _ _ _ _ _ _ _ _ _ h1 k1 h3 k3 h4 k4).mono fun _ _ ⟨q1, j, q2⟩ => ⟨q1, by rw [q2]; exact below_drewN (Below.refl _ _) j⟩
/-- Same of two numbers in their own form -/
theorem same_nn {w : World} {A B : Option Addr} {n m c d N K : Nat} (h : Num w (.slice A n c) N) (k : Num w (.slice B m d) K) (e : N = K) :
    Calls Tryd.prog 50 #[.slice A n c, .slice B m d] w fun e w' => e = .returned (.bool true) ∧ Below w.heap.size w w' := by
  subst e
  obtain ⟨B', m', d', l, e, h1, h2, h3, h4, h5⟩ := k
  obtain ⟨rfl, rfl, rfl⟩ : B = B' ∧ m = m' ∧ d = d' := by injection e with e1 e2 e3; exact ⟨e1, e2, e3⟩
  obtain ⟨A', n', c', e', hc⟩ := same_num (d := d) h h1 (by omega) h2 h3
  obtain ⟨rfl, rfl, rfl⟩ : A = A' ∧ n = n' ∧ c = c' := by injection e' with e1 e2 e3; exact ⟨e1, e2, e3⟩
  exact hc
theorem lt_add {x y i j : Nat} (hx : x < M.BB ^ i) (hy : y < M.BB ^ j) : x + y < M.BB ^ (i + j + 1) := by
  have h1 : M.BB ^ i ≤ M.BB ^ (i + j) := Nat.pow_le_pow_right M.BB_pos (by omega)
  have h2 : M.BB ^ j ≤ M.BB ^ (i + j) := Nat.pow_le_pow_right M.BB_pos (by omega)
  rw [Nat.pow_succ]
  have h3 : M.BB ^ (i + j) * 2 ≤ M.BB ^ (i + j) * M.BB := Nat.mul_le_mul_left _ (by rw [M.BB_eq]; omega)
  omega
theorem lt_mul {x y i j : Nat} (hx : x < M.BB ^ i) (hy : y < M.BB ^ j) : x * y < M.BB ^ (i + j) := by
  rw [Nat.pow_add]
  rcases Nat.eq_zero_or_pos y with rfl | h
  · rw [Nat.mul_zero]; exact Nat.mul_pos (Nat.pow_pos M.BB_pos) (Nat.pow_pos M.BB_pos)
  · have h1 : x * y < M.BB ^ i * y := Nat.mul_lt_mul_of_pos_right hx h
    have h2 : M.BB ^ i * y ≤ M.BB ^ i * M.BB ^ j := Nat.mul_le_mul_left _ (Nat.le_of_lt hy)
    omega
theorem in_of {w : World} {A : Option Addr} {n c k : Nat} {l : List Nat} (h : Lims w A n l) (hn : n ≤ c) (hc : c ≤ maxLen) (hk : n ≤ k) (hk' : k ≤ 1000000) : In w A n c (M.val l) ∧ M.val l < M.BB ^ k := by
  refine ⟨⟨l, h, rfl, hn, hc, by omega⟩, ?_⟩
  have := M.val_lt h.2.1
  rw [h.1] at this
  exact Nat.lt_of_lt_of_le this (Nat.pow_le_pow_right M.BB_pos hk)
end Go.Proofs.YtkooconjkimgoaaDoor

/- the reference's Add, Mul, Sub, Cmp by the numbers that their arguments say. -/
namespace Go.Proofs.YtkooconjkimgoaaDoor
open Go.RowKit

theorem bits_num {w : World} {A : Option Addr} {n c N : Nat} (h : In w A n c N) : Calls Tryd.prog 60 #[.slice A n c] w (GivesB w N) := by
  obtain ⟨l, h1, rfl, h3, h4, h5⟩ := h
  exact bits_any _ _ _ _ _ h1 h5
theorem BNum.bts {w : World} {v : Value} {N k : Nat} (h : BNum w v N) (hN : N < M.BB ^ k) : ∃ A n c l, v = .slice A n c ∧ Bts w A n c l ∧ Bt.Top l ∧ Bt.val l = N ∧ n ≤ 32 * k := by
  obtain ⟨A, n, c, l, rfl, h1, h2, h3⟩ := h
  have := Bt.len_le (k := 32 * k) h2 (by rw [h3, ← Bt.pow_BB]; exact hN)
  rw [h1.1] at this
  exact ⟨A, n, c, l, rfl, h1, h2, h3, this⟩
theorem limbs_num {w : World} {v : Value} {N k : Nat} (h : BNum w v N) (hN : N < M.BB ^ k) (hk : k ≤ 30000) : ∃ A n c, v = .slice A n c ∧ Calls Tryd.prog 59 #[.slice A n c] w (Gives w N) := by
  obtain ⟨A, n, c, l, rfl, h1, h2, h3, h4⟩ := h.bts hN
  refine ⟨A, n, c, rfl, ?_⟩
  rw [← h3]
  exact limbs_any _ _ _ _ _ h1 (by omega)

theorem rnorm_numO {w : World} {A : Option Addr} {n c N : Nat} (h : In w A n c N) (hn : n ≤ 900000) : Calls Tryd.prog 45 #[.slice A n c] w (GivesO w N) := by
  obtain ⟨l, h1, rfl, h3, h4, h5⟩ := h
  exact rnorm_own _ _ _ _ _ h1 hn
theorem rnorm_num {w : World} {A : Option Addr} {n c N : Nat} (h : In w A n c N) (hn : n ≤ 900000) : Calls Tryd.prog 45 #[.slice A n c] w (Gives w N) := by
  obtain ⟨l, h1, rfl, h3, h4, h5⟩ := h
  exact rnorm_any _ _ _ _ _ h1 hn

end Go.Proofs.YtkooconjkimgoaaDoor

/- NatSmall: its walk. -/
namespace Go.Proofs.YtkooconjkimgoaaDoor
open Go.RowKit

/-- a slice of integers that came in, as limbs -/
theorem lims_of {w : World} {a : Option Addr} {len cap : Nat} {zs : List Int}
    (h : (a = none ∧ len = 0 ∧ cap = 0 ∧ zs = []) ∨ ∃ x, a = some x ∧ len ≤ cap ∧ cap ≤ maxLen ∧ zs.length = cap ∧ (∀ i, i < zs.length → w.cell? (x.add i) = some (.int .u32 (zs.getD i 0))) ∧ ∀ n ∈ zs, (Lit.int .u32 n).wf = true) :
    ∃ l, Lims w a len l ∧ len ≤ cap ∧ cap ≤ maxLen := by
  rcases h with ⟨rfl, rfl, rfl, rfl⟩ | ⟨x, rfl, h1, h2, h3, h4, h5⟩
  · exact ⟨[], Lims.nil_ _ _, by omega, by omega⟩
  · refine ⟨(zs.take len).map Int.toNat, ⟨by simp; omega, M.Fit.of_mem fun y hy => ?_, fun hn => ?_⟩, h1, h2⟩
    · obtain ⟨z, hz, rfl⟩ := List.mem_map.1 hy
      have := bounds_u32 (h5 z (List.mem_of_mem_take hz))
      rw [M.BB_eq]
      omega
    · have hc0 := h4 0 (by omega)
      obtain ⟨b, off, spot⟩ := x
      have hspot : spot = none := by simpa [Addr.add] using World.cell?_spot hc0
      subst hspot
      refine ⟨b, off, rfl, ?_, fun j hj => ?_⟩
      · have := World.block_lt_of_cell? w _ hc0
        simpa [Addr.add] using this
      · have hc := h4 j (by omega)
        have e : (⟨b, off, none⟩ : Addr).add j = ⟨b, off + j, none⟩ := by unfold Addr.add; split <;> simp_all
        rw [e] at hc
        rw [hc]
        have hb := bounds_u32 (h5 (zs.getD j 0) (by rw [show zs.getD j 0 = zs[j] by simp [List.getD_eq_getElem?_getD, show j < zs.length from by omega]]; exact List.getElem_mem _))
        have e2 : ((zs.take len).map Int.toNat).getD j 0 = (zs.getD j 0).toNat := by
          simp [List.getD_eq_getElem?_getD, hj, show j < zs.length from by omega]
        rw [e2, Int.toNat_of_nonneg hb.1]

theorem same_nums {u v : Value} {N : Nat} {w : World} (h : Num w u N) (k : Num w v N) :
    ∃ A n c B m d, u = .slice A n c ∧ v = .slice B m d ∧ Calls Tryd.prog 50 #[.slice A n c, .slice B m d] w fun e w' => e = .returned (.bool true) ∧ Below w.heap.size w w' := by
  obtain ⟨B, m, d, l, rfl, h1, h2, h3, h4, h5⟩ := k
  obtain ⟨A, n, c, rfl, hc⟩ := same_num (d := d) h h1 (by omega) h2 h3
  exact ⟨A, n, c, B, m, d, rfl, rfl, hc⟩

end Go.Proofs.YtkooconjkimgoaaDoor

/- a list that came in, copied by append to nil. -/
namespace Go.Proofs.YtkooconjkimgoaaDoor
open Go.RowKit

/-- a slice of integers that came in, as limbs; nil has no room -/
theorem lims_nil {w : World} {a : Option Addr} {len cap : Nat} {zs : List Int}
    (h : (a = none ∧ len = 0 ∧ cap = 0 ∧ zs = []) ∨ ∃ x, a = some x ∧ len ≤ cap ∧ cap ≤ maxLen ∧ zs.length = cap ∧ (∀ i, i < zs.length → w.cell? (x.add i) = some (.int .u32 (zs.getD i 0))) ∧ ∀ n ∈ zs, (Lit.int .u32 n).wf = true) :
    a = none → len = 0 ∧ cap = 0 := by
  intro e
  rcases h with ⟨_, h1, h2, _⟩ | ⟨x, h, _⟩
  · exact ⟨h1, h2⟩
  · rw [e] at h; cases h

theorem appendA {w : World} {ops : Array Oper} {rest : List Oper} {o : Oper} {a : Act} {Q : Exit → Act → World → Prop} (hgd : o.guard = none) (s x : Operand)
    (ho : o.op = .call { callee := .builtin .append, args := #[s, x], argTypes := #[37, 37] })
    {m c : Nat} {A : Option Addr} {k : List Nat} (hs : a.eval s = .slice none 0 0) (hx : a.eval x = .slice A m c) (hk : Lims w A m k) (hz : A = none → m = 0 ∧ c = 0) (hm : m ≤ 1000000)
    (h : ∀ v' w', OwnU w' w.heap.size v' k → Below w.heap.size w w' → wpList Tryd.prog ops Q rest (a.put o.dst v') w') :
    wpList Tryd.prog ops Q (o :: rest) a w := by
  cases A with
  | none =>
    obtain ⟨rfl, rfl⟩ := hz rfl
    obtain rfl : k = [] := List.eq_nil_of_length_eq_zero hk.1
    obtain ⟨i0, hi0, hz0, hz1, hz2⟩ := info_parts Tryd.info_u32
    refine wpList_append_own_none hgd s x 37 ho w.heap.size 104 i0 1 Tryd.underlying37 hi0 (.slice none 0 0) 0 [] hs (World.ownsRow_nil _ _ _ _) hx ?_
    exact h _ w (OwnU.nil_ _ _) (Below.refl _ _)
  | some A =>
    refine appendU hgd s x ho (N := 1000000) hs (OwnU.nil_ _ w.heap.size) hx hk (by simp; omega) (by omega) (Nat.le_refl _) ?_
    intro v' w' h1 h2
    exact h v' w' (by rw [List.nil_append] at h1; exact h1) ((Below.refl _ _).grown h2 (Nat.le_refl _) (by intro q hq; cases hq))

/-- Same of one list, twice in memory -/
theorem same_ll {w : World} {A B : Option Addr} {n m c d : Nat} {l : List Nat} (h : Lims w A n l) (k : Lims w B m l) (hn : n ≤ 1000000) :
    Calls Tryd.prog 50 #[.slice A n c, .slice B m d] w fun e w' => e = .returned (.bool true) ∧ Below w.heap.size w w' := by
  have hm : m = n := k.1.symm.trans h.1
  have := same_any A B n m c d l l w h k (by unfold maxLen; omega) (by unfold maxLen; omega)
  rw [decide_eq_true rfl] at this
  exact this.mono fun _ _ ⟨h1, j, h2⟩ => ⟨h1, by rw [h2]; exact below_drewN (Below.refl _ _) j⟩
theorem OwnU.inn {w : World} {B : Nat} {v : Value} {l : List Nat} (h : OwnU w B v l) (hf : M.Fit l) (hl : l.length ≤ 1000000) : ∃ A n c, v = .slice A n c ∧ Lims w A n l ∧ In w A n c (M.val l) := by
  obtain ⟨A, c, rfl, h1, h2, h3⟩ := h.lims hf
  exact ⟨A, _, c, rfl, h1, l, h1, rfl, h2, h3, hl⟩
end Go.Proofs.YtkooconjkimgoaaDoor

/- NatTextBack: its walk. -/
namespace Go.Proofs.YtkooconjkimgoaaDoor
open Go.RowKit

theorem txt_len {N n : Nat} {l : List UInt8} (h : T.Txt N l) (hN : N < M.BB ^ n) : l.length ≤ 10 * n + 1 := by
  rcases h with ⟨_, rfl⟩ | ⟨ds, f, t, ne, hv, rfl⟩
  · simp
  · have h1 := T.val_ge t ne
    have h2 : M.BB ^ n ≤ 10 ^ (10 * n) := by
      rw [Nat.pow_mul]
      exact Nat.pow_le_pow_left (by rw [M.BB_eq]; omega) n
    rw [T.BB_eq, hv] at h1
    have h3 : (T.byt (T.asc ds).reverse).length = ds.length := by simp [T.byt, T.asc]
    rw [h3]
    rcases Nat.lt_or_ge (10 * n + 1) ds.length with h4 | h4
    · have := Nat.pow_le_pow_right (n := 10) (by omega) (show 10 * n ≤ ds.length - 1 by omega)
      omega
    · exact h4
theorem txt_isT {N : Nat} {l : List UInt8} (h : T.Txt N l) (hl : l.length ≤ 2000) : isT l = true ∧ T.dv l = N := by
  obtain ⟨h1, h2, h3, h4⟩ := T.txt_all h
  exact ⟨isT_parts.2 ⟨h3, hl, h4, h1⟩, h2⟩
theorem isT_txt {l : List UInt8} (h : isT l = true) : T.Txt (T.dv l) l := by
  obtain ⟨h1, _, h3, h4⟩ := isT_parts.1 h
  exact T.all_txt h4 h1 h3
theorem dv_small {l : List UInt8} {K : Nat} (h : isT l = true) (hl : l.length ≤ K) : T.dv l < M.BB ^ K := by
  have h1 := T.dv_lt (isT_parts.1 h).2.2.2
  have h2 : 10 ^ l.length ≤ 10 ^ K := Nat.pow_le_pow_right (by omega) hl
  have h3 : 10 ^ K ≤ M.BB ^ K := Nat.pow_le_pow_left (by rw [M.BB_eq]; omega) _
  exact Nat.lt_of_lt_of_le h1 (Nat.le_trans h2 h3)
theorem str_size (l : List UInt8) : (⟨l.toArray⟩ : ByteArray).size = l.length := by simp [ByteArray.size]

end Go.Proofs.YtkooconjkimgoaaDoor
