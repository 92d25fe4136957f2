/- Rows of runs of one's own; the reference's Runs. -/
import Derived.Test.YtkooconjkimgoaaDoorJ6
namespace Go.Proofs.YtkooconjkimgoaaDoor
open Go.RowKit

abbrev rcells (l : List (Int × Int)) : List Value := l.flatMap fun x => [.int .i64 x.1, .int .i64 x.2]
theorem rs_length (l : List (Int × Int)) : (rcells l).length = l.length * 2 := by
  induction l with
  | nil => rfl
  | cons x l ih => rw [rcells, List.flatMap_cons, List.length_append, ← rcells, ih, List.length_cons]; simp; omega
theorem rs_app (l m : List (Int × Int)) : rcells (l ++ m) = rcells l ++ rcells m := by simp [rcells]
theorem infoR7 : (Tryd.prog.info? 96).map (fun i => (i.zero, i.size, i.bytes)) = some (some (.agg #[.int .i64 0, .int .i64 0]), 2, 16) := by kernel_rfl
theorem rs_get : ∀ (l : List (Int × Int)) (i : Nat) (x : Int × Int), l[i]? = some x → (rcells l)[i * 2]? = some (.int .i64 x.1) ∧ (rcells l)[i * 2 + 1]? = some (.int .i64 x.2)
  | [], i, x, h => by simp at h
  | y :: l, 0, x, h => by
    obtain rfl : y = x := by simpa using h
    exact ⟨rfl, rfl⟩
  | y :: l, i + 1, x, h => by
    obtain ⟨h1, h2⟩ := rs_get l i x (by simpa using h)
    rw [rcells, List.flatMap_cons, show (i + 1) * 2 = i * 2 + 2 by omega]
    exact ⟨h1, h2⟩
theorem rs_one (l : List (Int × Int)) : ∀ u ∈ rcells l, u.oneCell' = true := by
  intro u hu
  obtain ⟨x, _, hu⟩ := List.mem_flatMap.1 hu
  simp at hu
  rcases hu with rfl | rfl <;> rfl
/-- a row of runs of one's own, from block B on -/
def OwnR (w : World) (B : Nat) (A : Option Addr) (c : Nat) (l : List (Int × Int)) : Prop := w.ownsRow B 96 2 (.slice A l.length c) l.length (rcells l)
theorem OwnR.nil (w : World) (B : Nat) : OwnR w B none 0 [] := World.ownsRow_nil _ _ _ _
theorem OwnR.turn {F : Nat → Prop} {w w' : World} {B : Nat} {A : Option Addr} {c : Nat} {l : List (Int × Int)} (h : OwnR w B A c l) (ht : Turn F w w') (hF : ∀ i, F i → i < B) : OwnR w' B A c l :=
  ht.own h (fun g hg hf => absurd (World.ownsRow.lt h g hg).1 (Nat.not_le.2 (hF g hf)))
theorem OwnR.kept {w w' : World} {B : Nat} {A : Option Addr} {c : Nat} {l : List (Int × Int)} (h : OwnR w B A c l) (hb : Below w.heap.size w w') : OwnR w' B A c l := (Turn.of_below (F := fun _ => False) hb).own h (fun _ _ => id)
theorem OwnR.lt {w : World} {B : Nat} {A : Option Addr} {c n : Nat} {l : List (Int × Int)} (h : OwnR w B A c l) (hn : l.length = n) {q : Nat} (hq : (Value.slice A n c).ownBlock = some q) : B ≤ q ∧ q < w.heap.size := by
  subst hn
  exact World.ownsRow.lt h q hq
theorem OwnR.runs {w : World} {B : Nat} {A : Option Addr} {c n : Nat} {l : List (Int × Int)} (h : OwnR w B A c l) (hn : l.length = n) : RunS w A n l := by
  subst hn
  refine ⟨rfl, fun h0 => ?_⟩
  rcases h.2 with ⟨e, h1⟩ | ⟨g, cap, cur, e, _, hg, _⟩
  · omega
  · injection e with e1 _ _
    subst e1
    refine ⟨g, 0, rfl, (Array.getElem?_eq_some_iff.1 hg).1, fun i x hx => ?_⟩
    obtain ⟨k1, k2⟩ := rs_get l i x hx
    have r1 := World.ownsRow.cells (g := g) h rfl _ _ k1
    have r2 := World.ownsRow.cells (g := g) h rfl _ _ k2
    rw [addr_add] at r1 r2
    exact ⟨r1, r2⟩
theorem cell_two_new (w : World) (x0 x1 : Value) (t : TypeId) : ∀ j u, [x0, x1][j]? = some u → (w.alloc (.cells #[x0, x1] t)).cell? ((⟨w.heap.size, 0, none⟩ : Addr).add j) = some u := by
  intro j u hu
  have l := Lies.new w t #[x0, x1]
  rw [addr_add, Nat.zero_add, l.cell j, ← hu]
  simp
theorem run_appendR (w : World) (ty : TypeId) (B : Nat) (A : Option Addr) (c : Nat) (l : List (Int × Int)) (n : Nat) (hn : l.length = n) (d : Int × Int) (g : Nat) (hg : w.heap.size = g) (hown : OwnR w B A c l) (hl : n ≤ 1000000) (hB : B ≤ w.heap.size) :
    ∃ A' c' w', (Builtin.append_ #[40, 40] ty #[.slice A n c, .slice (some ⟨g, 0, none⟩) 1 1]).run Tryd.prog (w.alloc (.cells #[.int .i64 d.1, .int .i64 d.2] 96)) = .ok (.slice A' (n + 1) c') w' ∧ OwnR w' B A' c' (l ++ [d]) ∧ w.grownBy w' (Value.slice A n c).ownBlock := by
  subst hn
  subst hg
  obtain ⟨i0, hi, hz0, hz1, hz2⟩ := info_parts infoR7
  obtain ⟨v', w', hr, q1, q2, _, _⟩ := run_append_own_at (P := Tryd.prog) (w.alloc (.cells #[.int .i64 d.1, .int .i64 d.2] 96)) B 40 ty 96 i0 (.agg #[.int .i64 0, .int .i64 0]) 2 16 Tryd.underlying40 hi hz0 hz1 hz2 rfl (by decide) (.slice A l.length c) l.length (rcells l)
    (World.ownsRow.alloc hown _) ⟨w.heap.size, 0, none⟩ 1 1 [.int .i64 d.1, .int .i64 d.2] rfl (cell_two_new _ _ _ _) (fun u hu => rs_one [d] u (by simpa [rcells] using hu)) (by unfold maxLen; omega) (by omega) (by simp; omega)
  obtain ⟨A', c', rfl⟩ := own_form q1
  refine ⟨A', c', w', hr, ?_, ⟨q2.os, q2.tape, q2.output, Nat.le_trans (by simp) q2.size, fun k hk hne => (q2.block k (by simp; omega) hne).trans (Below.heap_alloc w _ k hk)⟩⟩
  have e : rcells l ++ [.int .i64 d.1, .int .i64 d.2] = rcells (l ++ [d]) := by simp [rcells]
  rw [e] at q1
  unfold OwnR
  rw [List.length_append]
  exact q1
theorem appendR (w : World) {ops : Array Oper} {rest : List Oper} {o : Oper} {a : Act} {Q : Exit → Act → World → Prop} (hgd : o.guard = none) (s x : Operand)
    (ho : o.op = .call { callee := .builtin .append, args := #[s, x], argTypes := #[40, 40] }) (B : Nat) (A : Option Addr) (c : Nat) (l : List (Int × Int)) (n : Nat) (hn : l.length = n) (d1 d2 : Int) (g : Nat) (hg : w.heap.size = g)
    (hs : a.eval s = .slice A n c) (hown : OwnR w B A c l) (hx : a.eval x = .slice (some ⟨g, 0, none⟩) 1 1) (hl : n ≤ 1000000) (hB : B ≤ w.heap.size)
    (h : ∀ A' c' w', OwnR w' B A' c' (l ++ [(d1, d2)]) → w.grownBy w' (Value.slice A n c).ownBlock → wpList Tryd.prog ops Q rest (a.put o.dst (.slice A' (n + 1) c')) w') :
    wpList Tryd.prog ops Q (o :: rest) a (w.alloc (.cells #[.int .i64 d1, .int .i64 d2] 96)) := by
  refine wpList_plain hgd fun K hK => ?_
  obtain ⟨A', c', w', hr, h2, h3⟩ := run_appendR w o.type B A c l n hn (d1, d2) g hg hown hl hB
  unfold Oper.wp execOp
  simp only [ho, resolve, invoke, builtin, Sem.run_bind, Sem.run_pure, Result.andThen_ok, List.map_toArray, List.map_cons, List.map_nil, hs, hx, hr]
  exact hK _ _ (h A' c' w' h2 h3)
/-- the last run of a row, and what stands there once it is one longer -/
theorem OwnR.last {w : World} {B : Nat} {A : Option Addr} {c n : Nat} {S : List (Int × Int)} {y k : Int} (hn : S.length = n) (h : OwnR w B A c (S ++ [(y, k)])) :
    ∃ g, A = some ⟨g, 0, none⟩ ∧ B ≤ g ∧ g < w.heap.size ∧ w.cell? ⟨g, n * 2, none⟩ = some (.int .i64 y) ∧ w.cell? ⟨g, n * 2 + 1, none⟩ = some (.int .i64 k) ∧ w.frozen? ⟨g, n * 2 + 1, none⟩ = false ∧ n + 1 ≤ c ∧
      ∀ k', OwnR (w.setCell ⟨g, n * 2 + 1, none⟩ (.int .i64 k')) B A c (S ++ [(y, k')]) ∧ w.grownBy (w.setCell ⟨g, n * 2 + 1, none⟩ (.int .i64 k')) (some g) := by
  subst hn
  have hlen : (S ++ [(y, k)]).length = S.length + 1 := by simp
  have h' : w.ownsRow B 96 2 (.slice A (S.length + 1) c) (S.length + 1) (rcells (S ++ [(y, k)])) := by rw [← hlen]; exact h
  have hr := h.runs (n := S.length + 1) hlen
  rcases h'.2 with ⟨_, h1⟩ | ⟨g, cap, cur, e, hB, hg, hnc, _⟩
  · omega
  · injection e with e1 _ e3
    subst e1
    obtain ⟨b, off, e2, hlt, hc⟩ := hr.at_ (by omega)
    injection e2 with e2
    injection e2 with e4 e5
    subst e4
    subst e5
    have := hc S.length (y, k) (by simp)
    rw [Nat.zero_add] at this
    refine ⟨g, rfl, hB, hlt, this.1, this.2, World.ownsRow.frozenAt h' _, by omega, fun k' => ?_⟩
    obtain ⟨s1, s2⟩ := World.ownsRow.stored h' (S.length * 2 + 1) (.int .i64 k')
    refine ⟨?_, s2⟩
    have e : (rcells (S ++ [(y, k)])).set (S.length * 2 + 1) (.int .i64 k') = rcells (S ++ [(y, k')]) := by
      rw [rs_app, rs_app, List.set_append_right _ _ (by rw [rs_length]; omega), rs_length]
      simp [rcells]
    rw [e] at s1
    have hlen' : (S ++ [(y, k')]).length = S.length + 1 := by simp
    unfold OwnR
    rw [hlen']
    exact s1
/-- what Runs answers -/
def RunsSaid (w : World) (x : Int × List (Int × Int)) (e : Ending) (w' : World) : Prop := (∃ A c, e = .returned (.tuple #[.slice A x.2.length c, .int .i64 x.1]) ∧ OwnR w' w.heap.size A c x.2) ∧ Below w.heap.size w w'
theorem RunsSaid.good {w w' : World} {l : List Int} {R : List (Int × Int)} {A : Option Addr} {c m : Nat} (h : l.all Lt.pt = true) (hR : R = Lt.runs l) (hm : R.length = m) (ho : OwnR w' w.heap.size A c R) (hb : Below w.heap.size w w') : RunsSaid w (Lt.runsOf l) (.returned (.tuple #[.slice A m c, .int .i64 0])) w' := by
  subst hm
  subst hR
  refine ⟨⟨A, c, ?_, ?_⟩, hb⟩
  · rw [Lt.runsOf, if_pos h]
  · rw [Lt.runsOf, if_pos h]
    exact ho
theorem RunsSaid.bad {w w' : World} {l : List Int} (h : l.all Lt.pt = false) (hb : Below w.heap.size w w') : RunsSaid w (Lt.runsOf l) (.returned (.tuple #[.slice none 0 0, .int .i64 1])) w' := by
  refine ⟨⟨none, 0, ?_, ?_⟩, hb⟩
  · rw [Lt.runsOf, if_neg (by rw [h]; decide)]
    rfl
  · rw [Lt.runsOf, if_neg (by rw [h]; decide)]
    exact OwnR.nil _ _
theorem Lt.total_le {R : List (Int × Int)} {x : Int × Int} (hx : x ∈ R) (h : ∀ y ∈ R, 1 ≤ y.2) : x.2 ≤ Lt.total R := by
  induction R with
  | nil => cases hx
  | cons y R ih =>
    have h1 := h y List.mem_cons_self
    have h2 : 0 ≤ Lt.total R := Lt.total_pos fun z hz => by have := h z (List.mem_cons_of_mem _ hz); omega
    rw [Lt.total]
    rcases List.mem_cons.1 hx with rfl | hx
    · omega
    · have := ih hx fun z hz => h z (List.mem_cons_of_mem _ hz)
      omega
/-- the runs of what came first, and its last number -/
theorem Lt.runs_last {l : List Int} {i : Nat} {y : Int} (h : l[i]? = some y) : ∃ (S : List (Int × Int)) (k : Int), Lt.runs (l.take (i + 1)) = S ++ [(y, k)] ∧ S.length ≤ i ∧ 1 ≤ k ∧ k ≤ i + 1 := by
  have hr := Lt.runs_of (l.take (i + 1))
  have hl : (l.take (i + 1)).length = i + 1 := by
    have := (List.getElem?_eq_some_iff.1 h).1
    rw [List.length_take]
    omega
  have hla := hr.last
  rw [take_one h, List.getLast?_concat, ← take_one h] at hla
  obtain ⟨x, hx, hxy⟩ := Option.map_eq_some_iff.1 hla
  obtain ⟨S, hS⟩ := List.getLast?_eq_some_iff.1 hx
  obtain ⟨x1, x2⟩ := x
  obtain rfl : x1 = y := hxy
  have hmem : (x1, x2) ∈ Lt.runs (l.take (i + 1)) := by rw [hS]; simp
  have hp := hr.pos _ hmem
  have ht := Lt.total_le hmem fun z hz => (hr.pos z hz).1
  have hlen := hr.len
  rw [hS, List.length_append, hl] at hlen
  rw [hr.sum, hl] at ht
  exact ⟨S, x2, hS, by simp at hlen; omega, hp.1, by simp only at ht; omega⟩

end Go.Proofs.YtkooconjkimgoaaDoor
