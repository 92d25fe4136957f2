/- a list that came in, copied by append to nil. -/
import Derived.Test.YtefkkmnhnldcbaaD7
import Derived.Test.YtefkkmnhnldcbaaL1
import Derived.Laws.AppendOwnNone
namespace Go.Proofs.Ytefkkmnhnldcbaa
open Go.RowKit

/-- a slice of integers that came in, as limbs; nil has no room -/
theorem lims_nil {w : World} {a : Option Addr} {len cap : Nat} {zs : List Int}
    (h : (a = none ∧ len = 0 ∧ cap = 0 ∧ zs = []) ∨ ∃ x, a = some x ∧ len ≤ cap ∧ cap ≤ maxLen ∧ zs.length = cap ∧ (∀ i, i < zs.length → w.cell? (x.add i) = some (.int .u32 (zs.getD i 0))) ∧ ∀ n ∈ zs, (Lit.int .u32 n).wf = true) :
    a = none → len = 0 ∧ cap = 0 := by
  intro e
  rcases h with ⟨_, h1, h2, _⟩ | ⟨x, h, _⟩
  · exact ⟨h1, h2⟩
  · rw [e] at h; cases h

theorem appendA {w : World} {ops : Array Oper} {rest : List Oper} {o : Oper} {a : Act} {Q : Exit → Act → World → Prop} (hgd : o.guard = none) (s x : Operand)
    (ho : o.op = .call { callee := .builtin .append, args := #[s, x], argTypes := #[22, 22] })
    {m c : Nat} {A : Option Addr} {k : List Nat} (hs : a.eval s = .slice none 0 0) (hx : a.eval x = .slice A m c) (hk : Lims w A m k) (hz : A = none → m = 0 ∧ c = 0) (hm : m ≤ 1000000)
    (h : ∀ v' w', OwnU w' w.heap.size v' k → Below w.heap.size w w' → wpList Try.prog ops Q rest (a.put o.dst v') w') :
    wpList Try.prog ops Q (o :: rest) a w := by
  cases A with
  | none =>
    obtain ⟨rfl, rfl⟩ := hz rfl
    obtain rfl : k = [] := List.eq_nil_of_length_eq_zero hk.1
    obtain ⟨i0, hi0, hz0, hz1, hz2⟩ := info_parts Try.info_u32
    refine wpList_append_own_none hgd s x 22 ho w.heap.size 43 i0 1 Try.underlying22 hi0 (.slice none 0 0) 0 [] hs (World.ownsRow_nil _ _ _ _) hx ?_
    exact h _ w (OwnU.nil_ _ _) (Below.refl _ _)
  | some A =>
    refine appendU hgd s x ho (N := 1000000) hs (OwnU.nil_ _ w.heap.size) hx hk (by simp; omega) (by omega) (Nat.le_refl _) ?_
    intro v' w' h1 h2
    exact h v' w' (by rw [List.nil_append] at h1; exact h1) ((Below.refl _ _).grown h2 (Nat.le_refl _) (by intro q hq; cases hq))

/-- Same of one list, twice in memory -/
theorem same_ll {w : World} {A B : Option Addr} {n m c d : Nat} {l : List Nat} (h : Lims w A n l) (k : Lims w B m l) (hn : n ≤ 1000000) :
    Calls Try.prog 13 #[.slice A n c, .slice B m d] w fun e w' => e = .returned (.bool true) ∧ Below w.heap.size w w' := by
  have hm : m = n := k.1.symm.trans h.1
  have := same_any A B n m c d l l w h k (by unfold maxLen; omega) (by unfold maxLen; omega)
  rw [decide_eq_true rfl] at this
  exact this.mono fun _ _ ⟨h1, j, h2⟩ => ⟨h1, by rw [h2]; exact below_drewN (Below.refl _ _) j⟩
theorem OwnU.inn {w : World} {B : Nat} {v : Value} {l : List Nat} (h : OwnU w B v l) (hf : M.Fit l) (hl : l.length ≤ 1000000) : ∃ A n c, v = .slice A n c ∧ Lims w A n l ∧ In w A n c (M.val l) := by
  obtain ⟨A, c, rfl, h1, h2, h3⟩ := h.lims hf
  exact ⟨A, _, c, rfl, h1, l, h1, rfl, h2, h3, hl⟩
end Go.Proofs.Ytefkkmnhnldcbaa
