/- Rows of runs copied, and turned; the law RunsTurns. -/
import Derived.Test.YtdpbglofijpfnaaF18
namespace Go.Proofs.Ytdpbglofijpfnaa
open Go.RowKit Go.ChangeShapes Go.WideShapes Go.ChangeAt Go.Deep

theorem rs_at (l : List (Int × Int)) (j : Nat) (u : Value) (h : (rcells l)[j]? = some u) : ∃ i x, l[i]? = some x ∧ (j = i * 2 ∧ u = .int .i64 x.1 ∨ j = i * 2 + 1 ∧ u = .int .i64 x.2) := by
  have hj := (List.getElem?_eq_some_iff.1 h).1
  rw [rs_length] at hj
  have hi : j / 2 < l.length := by omega
  obtain ⟨x, hx⟩ : ∃ x, l[j / 2]? = some x := ⟨_, List.getElem?_eq_getElem hi⟩
  obtain ⟨h1, h2⟩ := rs_get l _ x hx
  refine ⟨j / 2, x, hx, ?_⟩
  rcases Nat.mod_two_eq_zero_or_one j with e | e
  · have e' : j / 2 * 2 = j := by omega
    rw [e', h] at h1
    exact .inl ⟨e'.symm, Option.some.inj h1⟩
  · have e' : j / 2 * 2 + 1 = j := by omega
    rw [e', h] at h2
    exact .inr ⟨e'.symm, Option.some.inj h2⟩
theorem rs_set : ∀ (l : List (Int × Int)) (i : Nat) (x : Int × Int) (k : Int), l[i]? = some x → (rcells l).set (i * 2 + 1) (.int .i64 k) = rcells (l.set i (x.1, k))
  | [], i, x, k, h => by simp at h
  | y :: l, 0, x, k, h => by
    obtain rfl : y = x := by simpa using h
    simp [rcells]
  | y :: l, i + 1, x, k, h => by
    have ih := rs_set l i x k (by simpa using h)
    have e : rcells (y :: l) = .int .i64 y.1 :: .int .i64 y.2 :: rcells l := rfl
    rw [e, show (i + 1) * 2 + 1 = (i * 2 + 1) + 1 + 1 by omega, List.set_cons_succ, List.set_cons_succ, ih, List.set_cons_succ]
    rfl
/-- the number of a run in a row of one's own, turned -/
theorem OwnR.spot {w : World} {B : Nat} {A : Option Addr} {c n : Nat} {R : List (Int × Int)} (hn : R.length = n) (h : OwnR w B A c R) {i : Nat} (hi : i < n) :
    ∃ g, A = some ⟨g, 0, none⟩ ∧ B ≤ g ∧ g < w.heap.size ∧ (∃ u, w.cell? ⟨g, i * 2 + 1, none⟩ = some (.int .i64 u)) ∧ w.frozen? ⟨g, i * 2 + 1, none⟩ = false ∧ n ≤ c ∧
      ∀ k', ∃ R', R'.length = n ∧ OwnR (w.setCell ⟨g, i * 2 + 1, none⟩ (.int .i64 k')) B A c R' ∧ w.grownBy (w.setCell ⟨g, i * 2 + 1, none⟩ (.int .i64 k')) (some g) := by
  subst hn
  obtain ⟨x, hx⟩ : ∃ x, R[i]? = some x := ⟨_, List.getElem?_eq_getElem hi⟩
  have h' : w.ownsRow B 38 2 (.slice A R.length c) R.length (rcells R) := h
  have hr := h.runs (n := R.length) rfl
  rcases h'.2 with ⟨_, h1⟩ | ⟨g, cap, cur, e, hB, hg, hnc, _⟩
  · omega
  · injection e with e1 _ e3
    subst e1
    obtain ⟨b, off, e2, hlt, hc⟩ := hr.at_ (by omega)
    injection e2 with e2
    injection e2 with e4 e5
    subst e4
    subst e5
    have := hc i x hx
    rw [Nat.zero_add] at this
    refine ⟨g, rfl, hB, hlt, ⟨_, this.2⟩, World.ownsRow.frozenAt h' _, by omega, fun k' => ?_⟩
    obtain ⟨s1, s2⟩ := World.ownsRow.stored h' (i * 2 + 1) (.int .i64 k')
    rw [rs_set R i x k' hx] at s1
    refine ⟨R.set i (x.1, k'), by simp, ?_, s2⟩
    unfold OwnR
    rw [List.length_set]
    exact s1
/-- a row of runs that came in, copied -/
theorem copyR (w : World) {ops : Array Oper} {rest : List Oper} {o : Oper} {a : Act} {Q : Exit → Act → World → Prop} (hgd : o.guard = none) (x : Operand)
    (ho : o.op = .call { callee := .builtin .append, args := #[.const (.slice none 0 0), x], argTypes := #[22, 22] }) (A : Option Addr) (n c : Nat) (R : List (Int × Int))
    (hx : a.eval x = .slice A n c) (hr : RunS w A n R) (hA : A = none → n = 0 ∧ c = 0) (hn : n ≤ 1000000)
    (h : ∀ A' c' w', OwnR w' w.heap.size A' c' R → Below w.heap.size w w' → wpList Try.prog ops Q rest (a.put o.dst (.slice A' n c')) w') :
    wpList Try.prog ops Q (o :: rest) a w := by
  obtain ⟨i0, hi, hz0, hz1, hz2⟩ := info_parts infoR7
  cases A with
  | none =>
    obtain ⟨rfl, rfl⟩ := hA rfl
    obtain rfl : R = [] := List.eq_nil_of_length_eq_zero hr.len
    exact wpList_append_own_none hgd _ x 22 ho w.heap.size 38 i0 2 Try.underlying22 hi (.slice none 0 0) 0 [] rfl (World.ownsRow_nil _ _ _ _) hx (h none 0 w (OwnR.nil _ _) (Below.refl _ _))
  | some ad =>
    refine wpList_append_own_at w hgd _ x 22 ho w.heap.size 38 i0 (.agg #[.int .i64 0, .int .i64 0]) 2 16 Try.underlying22 hi hz0 hz1 hz2 rfl (by decide) (.slice none 0 0) 0 [] rfl (World.ownsRow_nil _ _ _ _)
      ad n c (rcells R) hx (by rw [rs_length, hr.len]) (fun j u hu => ?_) (rs_one R) (by unfold maxLen; omega) (by omega) (Nat.le_refl _) fun v' w' q1 q2 _ _ => ?_
    · obtain ⟨i, y, hy, hju⟩ := rs_at R j u hu
      have hil := (List.getElem?_eq_some_iff.1 hy).1
      obtain ⟨b, off, e, _, hc⟩ := hr.at_ (by have := hr.len; omega)
      obtain rfl := Option.some.inj e
      obtain ⟨k1, k2⟩ := hc i y hy
      rw [addr_add]
      rcases hju with ⟨rfl, rfl⟩ | ⟨rfl, rfl⟩
      · exact k1
      · exact k2
    · simp only [Nat.zero_add, List.nil_append] at q1
      obtain ⟨A', c', rfl⟩ := own_form q1
      have hl := hr.len
      subst hl
      exact h A' c' w' q1 ⟨q2.os, q2.tape, q2.output, q2.size, fun k hk => q2.block k hk (by simp [Value.ownBlock])⟩
theorem Tx.RepIs.few {s t u : List (Int × Int)} {x : Int × List (Int × Int)} (h : Tx.RepIs s t u x) (hs : s.length ≤ 300) : x.2.length ≤ 65536 := by
  rcases h with ⟨_, rfl⟩ | ⟨_, ⟨k, _, rfl⟩ | ⟨_, rfl⟩⟩
  · exact Nat.zero_le _
  · split
    · next hc => exact hc.2
    · exact Nat.zero_le _
  · exact Nat.le_trans hs (by decide)
set_option maxRecDepth 100000 in
theorem open_argRc {H : Type} {enc : TypeId × Value → H} {W : World} {fuel : Nat} {v : Value} {y : DataW H × List MemPlace} (h : DataW.trod enc Try.prog W 0 (fun _ => true) true fuel 22 [v] = some y) :
    ∃ A n c R, v = .slice A n c ∧ ArgR W A n R ∧ (A = none → n = 0 ∧ c = 0) := by
  obtain ⟨A, n, c, R, rfl, hR⟩ := open_argR h
  refine ⟨A, n, c, R, rfl, hR, fun hA => ?_⟩
  subst hA
  rcases open_slice Try.underlying22 h with ⟨hcs, _⟩ | ⟨a, len, cap, m, n, D, Pl, hcs, _⟩
  · injection hcs with hcs
    injection hcs with _ h1 h2
    exact ⟨h1, h2⟩
  · injection hcs with hcs
    cases hcs
end Go.Proofs.Ytdpbglofijpfnaa
