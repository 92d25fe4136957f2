/- What the proofs of this claim use, text by text. -/
import Derived.Test.YtfjpcjebecgglaaGreatDoorQE04
import Derived.Deep.RegionHeld3
import Derived.Test.YtfjpcjebecgglaaGreatDoorQE03
import Derived.Deep.Slices
import Derived.Deep.Fields
import Derived.ChangeSame
set_option linter.unusedSimpArgs false
set_option linter.unusedVariables false
set_option maxRecDepth 100000
set_option maxHeartbeats 25600000
namespace Go.Proofs.YtfjpcjebecgglaaGreatDoor
open Go.RowKit
end Go.Proofs.YtfjpcjebecgglaaGreatDoor
namespace Go.Proofs.YtfjpcjebecgglaaGreatDoor
open Go.RowKit
abbrev MSx := Sx × Option Addr × Nat
abbrev xcells (x : MSx) : List Value := scells x.1 x.2.1 x.2.2
abbrev xcellsOf (l : List MSx) : List Value := l.flatMap xcells
theorem xs_length (l : List MSx) : (xcellsOf l).length = l.length * 6 := by
  induction l with
  | nil => rfl
  | cons x l ih => rw [xcellsOf, List.flatMap_cons, List.length_append, ← xcellsOf, ih, List.length_cons]; simp; omega
theorem infoX : (Tryz.prog.info? 49).map (fun i => (i.zero, i.size, i.bytes)) = some (some (.agg #[.bool false, .int .i64 0, .string ByteArray.empty, .int .i64 0, .int .i64 0, .slice none 0 0]), 6, 72) := by kernel_rfl
theorem xs_get : ∀ (l : List MSx) (i : Nat) (x : MSx), l[i]? = some x → ∀ j, j < 6 → (xcellsOf l)[i * 6 + j]? = (xcells x)[j]?
  | [], i, x, h => by simp at h
  | y :: l, 0, x, h => by
    obtain rfl : y = x := by simpa using h
    intro j hj
    rw [xcellsOf, List.flatMap_cons, Nat.zero_mul, Nat.zero_add, List.getElem?_append_left (by simp; omega)]
  | y :: l, i + 1, x, h => by
    intro j hj
    rw [← xs_get l i x (by simpa using h) j hj, xcellsOf, List.flatMap_cons, show (i + 1) * 6 + j = (xcells y).length + (i * 6 + j) by simp; omega, List.getElem?_append_right (by omega), Nat.add_sub_cancel_left]
theorem xs_one (l : List MSx) : ∀ u ∈ xcellsOf l, u.oneCell' = true := by
  intro u hu
  obtain ⟨x, _, hu⟩ := List.mem_flatMap.1 hu
  simp [xcells, scells] at hu
  rcases hu with rfl | rfl | rfl | rfl | rfl | rfl <;> rfl
abbrev OffRow (B : Nat) (A : Option Addr) (n c : Nat) : Nat → Nat → Prop := fun b _ => B ≤ b ∧ (Value.slice A n c).ownBlock ≠ some b
structure OwnX (w : World) (B : Nat) (A : Option Addr) (c : Nat) (l : List MSx) : Prop where
  row : w.ownsRow B 49 6 (.slice A l.length c) l.length (xcellsOf l)
  trees : ∀ x ∈ l, STree w (OffRow B A l.length c) x.1 x.2.1 x.2.2
theorem OwnX.nil (w : World) (B : Nat) : OwnX w B none 0 [] := ⟨World.ownsRow_nil _ _ _ _, fun _ hx => absurd hx List.not_mem_nil⟩
theorem OwnX.kept {w w' : World} {B : Nat} {A : Option Addr} {c : Nat} {l : List MSx} (h : OwnX w B A c l) (hb : Below w.heap.size w w') : OwnX w' B A c l :=
  ⟨(Turn.of_below (F := fun _ => False) hb).own h.row (fun _ _ => id), fun x hx => (h.trees x hx).kept hb⟩
theorem OwnX.lt {w : World} {B : Nat} {A : Option Addr} {c n : Nat} {l : List MSx} (h : OwnX w B A c l) (hn : l.length = n) {q : Nat} (hq : (Value.slice A n c).ownBlock = some q) : B ≤ q ∧ q < w.heap.size := by
  subst hn
  exact h.row.lt q hq
theorem OwnX.parts {w : World} {B : Nat} {A : Option Addr} {c : Nat} {l : List MSx} (h : OwnX w B A c l) : l.length ≤ c ∧ c ≤ maxLen ∧ ((A = none ∧ l = []) ∨ ∃ g, A = some ⟨g, 0, none⟩ ∧ B ≤ g ∧ g < w.heap.size) := by
  rcases h.row.2 with ⟨e, hn⟩ | ⟨g, cap, cur, e, hb, hg, hc, hm, _⟩
  · injection e with e1 e2 e3
    exact ⟨by omega, by rw [e3]; exact Nat.zero_le _, .inl ⟨e1, List.eq_nil_of_length_eq_zero hn⟩⟩
  · injection e with e1 e2 e3
    subst e3
    exact ⟨hc, hm, .inr ⟨g, e1, hb, (Array.getElem?_eq_some_iff.1 hg).1⟩⟩
theorem OwnX.at_ {w : World} {B g : Nat} {c : Nat} {l : List MSx} (h : OwnX w B (some ⟨g, 0, none⟩) c l) {i : Nat} {x : MSx} (hx : l[i]? = some x) : SAt w g (i * 6) x.1 x.2.1 x.2.2 := by
  have r := fun j (hj : j < 6) u (hu : (xcells x)[j]? = some u) => h.row.cells (g := g) rfl (i * 6 + j) u ((xs_get l i x hx j hj).trans hu)
  have hlt : g < w.heap.size := (h.row.lt g rfl).2
  have a : ∀ j, (⟨g, 0, none⟩ : Addr).add j = ⟨g, j, none⟩ := fun j => by rw [addr_add, Nat.zero_add]
  simp only [a] at r
  exact ⟨hlt, r 0 (by decide) _ rfl, r 1 (by decide) _ rfl, r 2 (by decide) _ rfl, r 3 (by decide) _ rfl, r 4 (by decide) _ rfl, r 5 (by decide) _ rfl⟩
theorem OwnX.tree_from {w : World} {B g : Nat} {c : Nat} {l : List MSx} (h : OwnX w B (some ⟨g, 0, none⟩) c l) (hg : B ≤ g) : ∀ (k i : Nat), l.length - i ≤ k → TreeL w (fun b _ => B ≤ b) (some ⟨g, i * 6, none⟩) ((l.drop i).map (·.1)) := by
  intro k
  induction k with
  | zero =>
    intro i hi
    rw [List.drop_of_length_le (by omega)]
    exact .nil _
  | succ k ih =>
    intro i hi
    by_cases hlt : i < l.length
    · have hx := List.getElem?_eq_getElem hlt
      rw [List.drop_eq_getElem_cons hlt, List.map_cons]
      have ht := h.trees _ (List.getElem_mem hlt)
      refine .cons g (i * 6) _ _ _ _ (h.at_ hx) hg ht.le (ht.tree.mono fun _ _ _ q => q.1) ?_
      have := ih (i + 1) (by omega)
      rw [show (i + 1) * 6 = i * 6 + 6 by omega] at this
      exact this
    · rw [List.drop_of_length_le (by omega)]
      exact .nil _
theorem OwnX.tree {w : World} {B : Nat} {A : Option Addr} {c : Nat} {l : List MSx} (h : OwnX w B A c l) : TreeL w (fun b _ => B ≤ b) A (l.map (·.1)) := by
  rcases h.parts with ⟨_, _, ⟨rfl, rfl⟩ | ⟨g, rfl, hg, _⟩⟩
  · exact .nil _
  · have := h.tree_from hg l.length 0 (by omega)
    rw [Nat.zero_mul, List.drop_zero] at this
    exact this
theorem cell_six_new (w : World) (x0 x1 x2 x3 x4 x5 : Value) (t : TypeId) : ∀ j u, [x0, x1, x2, x3, x4, x5][j]? = some u → (w.alloc (.cells #[x0, x1, x2, x3, x4, x5] t)).cell? ((⟨w.heap.size, 0, none⟩ : Addr).add j) = some u := by
  intro j u hu
  have l := Lies.new w t #[x0, x1, x2, x3, x4, x5]
  rw [addr_add, Nat.zero_add, l.cell j, ← hu]
  simp
theorem run_appendX (w : World) (ty : TypeId) (B : Nat) (A : Option Addr) (c : Nat) (l : List MSx) (n : Nat) (hn : l.length = n) (d : MSx) (g : Nat) (hg : w.heap.size = g) (hown : OwnX w B A c l) (hd : STree w (OffRow B A n c) d.1 d.2.1 d.2.2) (hl : n ≤ 1000000) (hB : B ≤ w.heap.size) :
    ∃ A' c' w', (Builtin.append_ #[47, 47] ty #[.slice A n c, .slice (some ⟨g, 0, none⟩) 1 1]).run Tryz.prog (w.alloc (sbox d.1 d.2.1 d.2.2)) = .ok (.slice A' (n + 1) c') w' ∧ OwnX w' B A' c' (l ++ [d]) ∧ w.grownBy w' (Value.slice A n c).ownBlock := by
  subst hn
  subst hg
  obtain ⟨i0, hi, hz0, hz1, hz2⟩ := info_parts infoX
  obtain ⟨v', w', hr, q1, q2, _, q4⟩ := run_append_own_at (P := Tryz.prog) (w.alloc (sbox d.1 d.2.1 d.2.2)) B 47 ty 49 i0 (.agg #[.bool false, .int .i64 0, .string ByteArray.empty, .int .i64 0, .int .i64 0, .slice none 0 0]) 6 72 Tryz.underlying47 hi hz0 hz1 hz2 rfl (by decide) (.slice A l.length c) l.length (xcellsOf l)
    (World.ownsRow.alloc hown.row _) ⟨w.heap.size, 0, none⟩ 1 1 (xcells d) rfl (cell_six_new _ _ _ _ _ _ _ _) (fun u hu => xs_one [d] u (by simpa [xcellsOf] using hu)) (by unfold maxLen; omega) (by omega) (by simp; omega)
  obtain ⟨A', c', rfl⟩ := own_form q1
  have hgb : w.grownBy w' (Value.slice A l.length c).ownBlock := ⟨q2.os, q2.tape, q2.output, Nat.le_trans (by simp) q2.size, fun k hk hne => (q2.block k (by simp; omega) hne).trans (Below.heap_alloc w _ k hk)⟩
  refine ⟨A', c', w', hr, ⟨?_, ?_⟩, hgb⟩
  · have e : xcellsOf l ++ xcells d = xcellsOf (l ++ [d]) := by simp [xcellsOf]
    rw [e] at q1
    rw [List.length_append]
    exact q1
  · have hall : ∀ x ∈ l ++ [d], STree w (OffRow B A l.length c) x.1 x.2.1 x.2.2 := by
      intro x hx
      rcases List.mem_append.1 hx with hx | hx
      · exact hown.trees x hx
      · rw [List.mem_singleton.1 hx]
        exact hd
    intro x hx
    refine ⟨(hall x hx).le, (hall x hx).tree.imp hgb.size (fun b off hb hG j _ => ?_) (fun b off hb hG => ⟨hG.1, ?_⟩)⟩
    · exact World.cell?_of_block (w := w) (hgb.block b hb fun e => hG.2 e.symm)
    · rw [List.length_append]
      rcases q4 with q4 | q4
      · intro e
        exact hG.2 (q4.symm.trans e)
      · intro e
        have := q4.symm.trans e
        injection this with this
        simp at this
        omega
theorem appendX (w : World) {ops : Array Oper} {rest : List Oper} {o : Oper} {a : Act} {Q : Exit → Act → World → Prop} (hgd : o.guard = none) (s x : Operand)
    (ho : o.op = .call { callee := .builtin .append, args := #[s, x], argTypes := #[47, 47] }) (B : Nat) (A : Option Addr) (c : Nat) (l : List MSx) (n : Nat) (hn : l.length = n) (d : MSx) (g : Nat) (hg : w.heap.size = g)
    (hs : a.eval s = .slice A n c) (hown : OwnX w B A c l) (hd : STree w (OffRow B A n c) d.1 d.2.1 d.2.2) (hx : a.eval x = .slice (some ⟨g, 0, none⟩) 1 1) (hl : n ≤ 1000000) (hB : B ≤ w.heap.size)
    (h : ∀ A' c' w', OwnX w' B A' c' (l ++ [d]) → w.grownBy w' (Value.slice A n c).ownBlock → wpList Tryz.prog ops Q rest (a.put o.dst (.slice A' (n + 1) c')) w') :
    wpList Tryz.prog ops Q (o :: rest) a (w.alloc (sbox d.1 d.2.1 d.2.2)) := by
  refine wpList_plain hgd fun K hK => ?_
  obtain ⟨A', c', w', hr, h2, h3⟩ := run_appendX w o.type B A c l n hn d g hg hown hd hl hB
  unfold Oper.wp execOp
  simp only [ho, resolve, invoke, builtin, Sem.run_bind, Sem.run_pure, Result.andThen_ok, List.map_toArray, List.map_cons, List.map_nil, hs, hx, hr]
  exact hK _ _ (h A' c' w' h2 h3)
end Go.Proofs.YtfjpcjebecgglaaGreatDoor
namespace Go.Proofs.YtfjpcjebecgglaaGreatDoor
open Go.RowKit
end Go.Proofs.YtfjpcjebecgglaaGreatDoor
namespace Go.Proofs.YtfjpcjebecgglaaGreatDoor
open Go.RowKit
end Go.Proofs.YtfjpcjebecgglaaGreatDoor
namespace Go.Proofs.YtfjpcjebecgglaaGreatDoor
open Go.RowKit
theorem STree.to {w : World} {G G' : Nat → Nat → Prop} {x : Sx} {A : Option Addr} {c : Nat} (h : STree w G x A c) (hG : ∀ b off, b < w.heap.size → G b off → G' b off) : STree w G' x A c := ⟨h.le, h.tree.mono hG⟩
def SxSaid (G : Nat → Prop) (w : World) (x : Sx) (e : Ending) (w' : World) : Prop := (∃ A c, e = .returned (sval x A c) ∧ STree w' (fun b _ => G b ∨ w.heap.size ≤ b) x A c) ∧ Below w.heap.size w w'
abbrev Off (G : Nat → Prop) (A : Option Addr) (n c : Nat) : Nat → Nat → Prop := fun b _ => G b ∧ (Value.slice A n c).ownBlock ≠ some b
structure OwnG (w : World) (B : Nat) (G : Nat → Prop) (A : Option Addr) (c : Nat) (l : List MSx) : Prop where
  row : w.ownsRow B 49 6 (.slice A l.length c) l.length (xcellsOf l)
  trees : ∀ x ∈ l, STree w (Off G A l.length c) x.1 x.2.1 x.2.2
theorem OwnG.parts {w : World} {B : Nat} {G : Nat → Prop} {A : Option Addr} {c : Nat} {l : List MSx} (h : OwnG w B G A c l) : l.length ≤ c ∧ c ≤ maxLen ∧ ((A = none ∧ l = []) ∨ ∃ g, A = some ⟨g, 0, none⟩ ∧ B ≤ g ∧ g < w.heap.size) := by
  rcases h.row.2 with ⟨e, hn⟩ | ⟨g, cap, cur, e, hb, hg, hc, hm, _⟩
  · injection e with e1 e2 e3
    exact ⟨by omega, by rw [e3]; exact Nat.zero_le _, .inl ⟨e1, List.eq_nil_of_length_eq_zero hn⟩⟩
  · injection e with e1 e2 e3
    subst e3
    exact ⟨hc, hm, .inr ⟨g, e1, hb, (Array.getElem?_eq_some_iff.1 hg).1⟩⟩
theorem OwnG.at_ {w : World} {B g : Nat} {G : Nat → Prop} {c : Nat} {l : List MSx} (h : OwnG w B G (some ⟨g, 0, none⟩) c l) {i : Nat} {x : MSx} (hx : l[i]? = some x) : SAt w g (i * 6) x.1 x.2.1 x.2.2 := by
  have r := fun j (hj : j < 6) u (hu : (xcells x)[j]? = some u) => h.row.cells (g := g) rfl (i * 6 + j) u ((xs_get l i x hx j hj).trans hu)
  have hlt : g < w.heap.size := (h.row.lt g rfl).2
  have a : ∀ j, (⟨g, 0, none⟩ : Addr).add j = ⟨g, j, none⟩ := fun j => by rw [addr_add, Nat.zero_add]
  simp only [a] at r
  exact ⟨hlt, r 0 (by decide) _ rfl, r 1 (by decide) _ rfl, r 2 (by decide) _ rfl, r 3 (by decide) _ rfl, r 4 (by decide) _ rfl, r 5 (by decide) _ rfl⟩
theorem OwnG.tree_from {w : World} {B g : Nat} {G : Nat → Prop} {c : Nat} {l : List MSx} (h : OwnG w B G (some ⟨g, 0, none⟩) c l) (hg : B ≤ g) : ∀ (k i : Nat), l.length - i ≤ k → TreeL w (fun b _ => G b ∨ B ≤ b) (some ⟨g, i * 6, none⟩) ((l.drop i).map (·.1)) := by
  intro k
  induction k with
  | zero =>
    intro i hi
    rw [List.drop_of_length_le (by omega)]
    exact .nil _
  | succ k ih =>
    intro i hi
    by_cases hlt : i < l.length
    · have hx := List.getElem?_eq_getElem hlt
      rw [List.drop_eq_getElem_cons hlt, List.map_cons]
      have ht := h.trees _ (List.getElem_mem hlt)
      refine .cons g (i * 6) _ _ _ _ (h.at_ hx) (.inr hg) ht.le (ht.tree.mono fun _ _ _ q => .inl q.1) ?_
      have := ih (i + 1) (by omega)
      rw [show (i + 1) * 6 = i * 6 + 6 by omega] at this
      exact this
    · rw [List.drop_of_length_le (by omega)]
      exact .nil _
theorem OwnG.tree {w : World} {B : Nat} {G : Nat → Prop} {A : Option Addr} {c : Nat} {l : List MSx} (h : OwnG w B G A c l) : TreeL w (fun b _ => G b ∨ B ≤ b) A (l.map (·.1)) := by
  rcases h.parts with ⟨_, _, ⟨rfl, rfl⟩ | ⟨g, rfl, hg, _⟩⟩
  · exact .nil _
  · have := h.tree_from hg l.length 0 (by omega)
    rw [Nat.zero_mul, List.drop_zero] at this
    exact this
theorem TreeL.row {w : World} {G : Nat → Nat → Prop} {A : Option Addr} {M : List Sx} (h : TreeL w G A M) : ∃ l : List MSx, l.map (·.1) = M ∧ (∀ b off, A = some ⟨b, off, none⟩ → ∀ j u, (xcellsOf l)[j]? = some u → w.cell? ⟨b, off + j, none⟩ = some u) ∧ (∀ x ∈ l, STree w G x.1 x.2.1 x.2.2) ∧ (M ≠ [] → ∃ b off, A = some ⟨b, off, none⟩ ∧ b < w.heap.size) := by
  induction h with
  | nil A => exact ⟨[], rfl, fun b off _ j u hu => by simp [xcellsOf] at hu, fun x hx => absurd hx List.not_mem_nil, fun h => absurd rfl h⟩
  | cons b off x l A c h1 h2 h3 h4 _ _ i2 =>
    obtain ⟨m, rfl, e2, e3, _⟩ := i2
    refine ⟨(x, A, c) :: m, rfl, fun b' off' e j u hu => ?_, fun y hy => ?_, fun _ => ⟨b, off, rfl, h1.lt⟩⟩
    · injection e with e
      injection e with e1 e5 _
      subst e1
      subst e5
      rw [xcellsOf, List.flatMap_cons] at hu
      by_cases hj : j < 6
      · rw [List.getElem?_append_left (by simp; omega)] at hu
        have hc : ∀ j, j < 6 → ∀ u, (xcells (x, A, c))[j]? = some u → w.cell? ⟨b, off + j, none⟩ = some u := by
          intro j hj u hu
          rcases j with _ | _ | _ | _ | _ | _ | j
          · obtain rfl := Option.some.inj hu; exact h1.c0
          · obtain rfl := Option.some.inj hu; exact h1.c1
          · obtain rfl := Option.some.inj hu; exact h1.c2
          · obtain rfl := Option.some.inj hu; exact h1.c3
          · obtain rfl := Option.some.inj hu; exact h1.c4
          · obtain rfl := Option.some.inj hu; exact h1.c5
          · omega
        exact hc j hj u hu
      · rw [List.getElem?_append_right (by simp; omega)] at hu
        have := e2 b (off + 6) rfl (j - 6) u (by simpa using hu)
        rwa [show off + 6 + (j - 6) = off + j by omega] at this
    · rcases List.mem_cons.1 hy with rfl | hy
      · exact ⟨h3, h4⟩
      · exact e3 y hy
theorem OwnG.fresh (w : World) (G : Nat → Prop) (l : List MSx) (hl : l.length ≤ 1000000) (hT : ∀ x ∈ l, STree w (fun b _ => G b) x.1 x.2.1 x.2.2) : OwnG (w.alloc (.cells (xcellsOf l).toArray 49)) w.heap.size G (some ⟨w.heap.size, 0, none⟩) l.length l := by
  have hb := (Below.refl w.heap.size w).alloc (Nat.le_refl _) (.cells (xcellsOf l).toArray 49)
  refine ⟨⟨xs_length l, .inr ⟨w.heap.size, l.length, (xcellsOf l).toArray, rfl, Nat.le_refl _, heap_alloc_new w _, Nat.le_refl _, by unfold maxLen; omega, by rw [List.size_toArray, xs_length], ?_⟩⟩, fun x hx => ?_⟩
  · rw [List.take_of_length_le (by rw [xs_length]; exact Nat.le_refl _)]
  · exact ⟨(hT x hx).le, (hT x hx).tree.imp hb.size (fun b off hlt _ j _ => hb.cell (p := ⟨b, off + j, none⟩) hlt) fun b off hlt h => ⟨h, fun e => by
      have := Option.some.inj e
      simp at this
      omega⟩⟩
theorem STree.fresh (w : World) (G : Nat → Prop) (l : List MSx) (hl : l.length ≤ 1000000) (hT : ∀ x ∈ l, STree w (fun b _ => G b) x.1 x.2.1 x.2.2) : STree (w.alloc (.cells (xcellsOf l).toArray 49)) (fun b _ => G b ∨ w.heap.size ≤ b) (Sh.list (l.map (·.1))) (some ⟨w.heap.size, 0, none⟩) l.length :=
  ⟨⟨by show (l.map (·.1)).length ≤ _; rw [List.length_map]; exact Nat.le_refl _, by unfold maxLen; omega⟩, (OwnG.fresh w G l hl hT).tree⟩
theorem run_appendXX (w : World) (ty : TypeId) (B : Nat) (G : Nat → Prop) (A : Option Addr) (c : Nat) (l : List MSx) (n : Nat) (hn : l.length = n) (A2 : Option Addr) (c2 : Nat) (M : List Sx) (m : Nat) (hm : M.length = m) (h0 : 0 < m) (hown : OwnG w B G A c l) (hM : TreeL w (Off G A n c) A2 M) (hl : n + m ≤ 1000000) (hB : B ≤ w.heap.size) :
    ∃ A' c' w' l', (Builtin.append_ #[47, 47] ty #[.slice A n c, .slice A2 m c2]).run Tryz.prog w = .ok (.slice A' (n + m) c') w' ∧ OwnG w' B G A' c' l' ∧ l'.map (·.1) = l.map (·.1) ++ M ∧ w.grownBy w' (Value.slice A n c).ownBlock := by
  subst hn
  obtain ⟨lm, rfl, k2, k3, k4⟩ := hM.row
  obtain ⟨b, off, rfl, hbl⟩ := k4 (by intro e; rw [e] at hm; simp at hm; omega)
  rw [List.length_map] at hm
  subst hm
  obtain ⟨i0, hi, hz0, hz1, hz2⟩ := info_parts infoX
  obtain ⟨v', w', hr, q1, q2, _, q4⟩ := run_append_own_at (P := Tryz.prog) w B 47 ty 49 i0 (.agg #[.bool false, .int .i64 0, .string ByteArray.empty, .int .i64 0, .int .i64 0, .slice none 0 0]) 6 72 Tryz.underlying47 hi hz0 hz1 hz2 rfl (by decide) (.slice A l.length c) l.length (xcellsOf l)
    hown.row ⟨b, off, none⟩ lm.length c2 (xcellsOf lm) (xs_length lm) (fun j u hu => by rw [addr_add]; exact k2 b off rfl j u hu) (xs_one lm) (by unfold maxLen; omega) (by omega) hB
  obtain ⟨A', c', rfl⟩ := own_form q1
  refine ⟨A', c', w', l ++ lm, hr, ⟨?_, ?_⟩, by rw [List.map_append], q2⟩
  · have e : xcellsOf l ++ xcellsOf lm = xcellsOf (l ++ lm) := by simp [xcellsOf]
    rw [e] at q1
    rw [List.length_append]
    exact q1
  · have hall : ∀ x ∈ l ++ lm, STree w (Off G A l.length c) x.1 x.2.1 x.2.2 := by
      intro x hx
      rcases List.mem_append.1 hx with hx | hx
      · exact hown.trees x hx
      · exact k3 x hx
    intro x hx
    refine ⟨(hall x hx).le, (hall x hx).tree.imp q2.size (fun b off hb hG j _ => ?_) (fun b off hb hG => ⟨hG.1, ?_⟩)⟩
    · exact World.cell?_of_block (w := w) (q2.block b hb fun e => hG.2 e.symm)
    · rw [List.length_append]
      rcases q4 with q4 | q4
      · intro e
        exact hG.2 (q4.symm.trans e)
      · intro e
        have := q4.symm.trans e
        injection this with this
        omega
theorem appendXX (w : World) {ops : Array Oper} {rest : List Oper} {o : Oper} {a : Act} {Q : Exit → Act → World → Prop} (hgd : o.guard = none) (s x : Operand)
    (ho : o.op = .call { callee := .builtin .append, args := #[s, x], argTypes := #[47, 47] }) (B : Nat) (G : Nat → Prop) (A : Option Addr) (c : Nat) (l : List MSx) (n : Nat) (hn : l.length = n) (A2 : Option Addr) (c2 : Nat) (M : List Sx) (m : Nat) (hm : M.length = m) (h0 : 0 < m)
    (hs : a.eval s = .slice A n c) (hown : OwnG w B G A c l) (hM : TreeL w (Off G A n c) A2 M) (hx : a.eval x = .slice A2 m c2) (hl : n + m ≤ 1000000) (hB : B ≤ w.heap.size)
    (h : ∀ A' c' w' l', OwnG w' B G A' c' l' → l'.map (·.1) = l.map (·.1) ++ M → w.grownBy w' (Value.slice A n c).ownBlock → wpList Tryz.prog ops Q rest (a.put o.dst (.slice A' (n + m) c')) w') :
    wpList Tryz.prog ops Q (o :: rest) a w := by
  refine wpList_plain hgd fun K hK => ?_
  obtain ⟨A', c', w', l', hr, h2, h3, h4⟩ := run_appendXX w o.type B G A c l n hn A2 c2 M m hm h0 hown hM hl hB
  unfold Oper.wp execOp
  simp only [ho, resolve, invoke, builtin, Sem.run_bind, Sem.run_pure, Result.andThen_ok, List.map_toArray, List.map_cons, List.map_nil, hs, hx, hr]
  exact hK _ _ (h A' c' w' l' h2 h3 h4)
abbrev zX : Array Value := #[.bool false, .int .i64 0, .string ⟨#[]⟩, .int .i64 0, .int .i64 0, .slice none 0 0]
abbrev roomO : Obj := .cells zX 49
abbrev LiesX (W : World) (R : Nat) (cs : Array Value) : Prop := Lies W R 49 cs
theorem ready {W : World} {R : Nat} (h : LiesX W R zX) : W.cell? ⟨R, 0, none⟩ = some (.bool false) ∧ W.cell? ⟨R, 1, none⟩ = some (.int .i64 0) ∧ W.cell? ⟨R, 2, none⟩ = some (.string ⟨#[]⟩) ∧ W.cell? ⟨R, 3, none⟩ = some (.int .i64 0) ∧ W.cell? ⟨R, 4, none⟩ = some (.int .i64 0) ∧ W.cell? ⟨R, 5, none⟩ = some (.slice none 0 0) ∧
    W.frozen? ⟨R, 0, none⟩ = false ∧ W.frozen? ⟨R, 1, none⟩ = false ∧ W.frozen? ⟨R, 2, none⟩ = false ∧ W.frozen? ⟨R, 3, none⟩ = false ∧ W.frozen? ⟨R, 4, none⟩ = false ∧ W.frozen? ⟨R, 5, none⟩ = false :=
  ⟨h.cell 0, h.cell 1, h.cell 2, h.cell 3, h.cell 4, h.cell 5, h.free 0, h.free 1, h.free 2, h.free 3, h.free 4, h.free 5⟩
abbrev fillX (W : World) (R : Nat) (b k t ta a s : Value) : World := (((((W.setCell ⟨R, 0, none⟩ b).setCell ⟨R, 1, none⟩ k).setCell ⟨R, 2, none⟩ t).setCell ⟨R, 3, none⟩ ta).setCell ⟨R, 4, none⟩ a).setCell ⟨R, 5, none⟩ s
theorem fill_lies {W : World} {R : Nat} {v0 v1 v2 v3 v4 v5 : Value} (h : LiesX W R #[v0, v1, v2, v3, v4, v5]) (b k t ta a s : Value) : LiesX (fillX W R b k t ta a s) R #[b, k, t, ta, a, s] := by
  have := (((((h.put 0 b).put 1 k).put 2 t).put 3 ta).put 4 a).put 5 s
  simpa using this
theorem fill_turn {W : World} {R : Nat} (b k t ta a s : Value) : Turn (fun q => q = R) W (fillX W R b k t ta a s) :=
  ((((((Turn.refl (fun q => q = R) W).put (.inl rfl) b).put (.inl rfl) k).put (.inl rfl) t).put (.inl rfl) ta).put (.inl rfl) a).put (.inl rfl) s
theorem fill_cells {W : World} {R : Nat} {v0 v1 v2 v3 v4 v5 : Value} (h : LiesX W R #[v0, v1, v2, v3, v4, v5]) (b k t ta a s : Value) : (fillX W R b k t ta a s).cell? ⟨R, 0, none⟩ = some b ∧ (fillX W R b k t ta a s).cell? ⟨R, 1, none⟩ = some k ∧ (fillX W R b k t ta a s).cell? ⟨R, 2, none⟩ = some t ∧ (fillX W R b k t ta a s).cell? ⟨R, 3, none⟩ = some ta ∧ (fillX W R b k t ta a s).cell? ⟨R, 4, none⟩ = some a ∧ (fillX W R b k t ta a s).cell? ⟨R, 5, none⟩ = some s := by
  have l := fill_lies h b k t ta a s
  exact ⟨l.cell 0, l.cell 1, l.cell 2, l.cell 3, l.cell 4, l.cell 5⟩
theorem fill_below {w W : World} {R : Nat} (hR : w.heap.size ≤ R) (hb : Below w.heap.size w W) (b k t ta a s : Value) : Below w.heap.size w (fillX W R b k t ta a s) :=
  ((Turn.of_below (F := fun q => w.heap.size ≤ q) hb).trans (fill_turn b k t ta a s) fun q e => .inl (by rw [e]; exact hR)).below (Nat.le_refl _) fun _ e => e
theorem room_lies {w W : World} (hb : Below (w.alloc roomO).heap.size (w.alloc roomO) W) : LiesX W w.heap.size zX ∧ Below w.heap.size w W :=
  ⟨(hb.block _ (Lies.new w _ _).lt).trans (Lies.new w _ _), ((Below.refl _ w).alloc (Nat.le_refl _) _).trans (hb.mono (by simp))⟩
theorem fill_said {G : Nat → Prop} {w W : World} {R : Nat} {x : Sx} {A : Option Addr} {c : Nat} (hR : w.heap.size ≤ R) (hb : Below w.heap.size w W) (ht : STree W (fun b _ => (G b ∨ w.heap.size ≤ b) ∧ b ≠ R) x A c) : SxSaid G w x (.returned (sval x A c)) (fillX W R (.bool x.list) (.int .i64 x.k) (.string x.T) (.int .i64 x.ta) (.int .i64 x.at_) (.slice A x.L.length c)) :=
  ⟨⟨A, c, rfl, ht.le, ht.tree.imp (fill_turn _ _ _ _ _ _).size (fun b off hlt h j _ => (fill_turn (W := W) _ _ _ _ _ _).cell (p := ⟨b, off + j, none⟩) hlt h.2) fun b off _ h => h.1⟩, fill_below hR hb _ _ _ _ _ _⟩
def Sh.nameL : List ByteArray := [⟨#[]⟩, ⟨#[]⟩, ⟨#[]⟩, ⟨#[]⟩, ⟨#[]⟩, ⟨#[]⟩, ⟨#[110, 111, 116]⟩, ⟨#[97, 110, 100]⟩, ⟨#[111, 114]⟩, ⟨#[61, 62]⟩, ⟨#[120, 111, 114]⟩, ⟨#[61]⟩, ⟨#[100, 105, 115, 116, 105, 110, 99, 116]⟩, ⟨#[105, 116, 101]⟩, ⟨#[45]⟩, ⟨#[43]⟩, ⟨#[45]⟩, ⟨#[42]⟩, ⟨#[60, 61]⟩, ⟨#[60]⟩, ⟨#[62, 61]⟩, ⟨#[62]⟩, ⟨#[115, 116, 114, 46, 43, 43]⟩, ⟨#[115, 116, 114, 46, 108, 101, 110]⟩, ⟨#[115, 116, 114, 46, 97, 116]⟩, ⟨#[115, 116, 114, 46, 115, 117, 98, 115, 116, 114]⟩, ⟨#[115, 116, 114, 46, 112, 114, 101, 102, 105, 120, 111, 102]⟩, ⟨#[115, 116, 114, 46, 115, 117, 102, 102, 105, 120, 111, 102]⟩, ⟨#[115, 116, 114, 46, 99, 111, 110, 116, 97, 105, 110, 115]⟩, ⟨#[115, 116, 114, 46, 105, 110, 100, 101, 120, 111, 102]⟩, ⟨#[115, 116, 114, 46, 114, 101, 112, 108, 97, 99, 101]⟩]
def Sh.name (op : Int) : ByteArray := if 0 ≤ op then Sh.nameL.getD op.toNat ⟨#[]⟩ else ⟨#[]⟩
def NmT (w : World) : Prop := ∀ (i : Nat) (t : ByteArray), Sh.nameL[i]? = some t → w.cell? ⟨0, i, none⟩ = some (.string t)
theorem NmT.below {w w' : World} (h : NmT w) (hb : Below w.heap.size w w') : NmT w' := fun i t hi => by
  have := h i t hi
  exact (hb.cell (p := ⟨0, i, none⟩) (World.block_lt_of_cell? w _ this)).trans this
theorem NmT.alloc {w : World} (h : NmT w) (o : Obj) : NmT (w.alloc o) := h.below ((Below.refl _ w).alloc (Nat.le_refl _) o)
theorem kname12 (op : Int) (w : World) (h : NmT w) : Calls Tryz.prog 15 #[.int .i64 op] w fun e w' => e = .returned (.string (Sh.name op)) ∧ w' = w := by
  by_cases h0 : op < 0
  · have e : Sh.name op = ⟨#[]⟩ := by unfold Sh.name; rw [if_neg (by omega)]
    have d0 : decide (op < 0) = true := decide_eq_true h0
    rw [e]
    clear e h
    go_enter Tryz.func15, Tryz.ntmps15
    go_wp2
    go_ret
    exact ⟨rfl, rfl⟩
  · have d0 : decide (op < 0) = false := decide_eq_false h0
    by_cases h31 : 31 ≤ op
    · have e : Sh.name op = ⟨#[]⟩ := by
        unfold Sh.name
        rw [if_pos (by omega), List.getD_eq_getElem?_getD, List.getElem?_eq_none (by show 31 ≤ _; omega)]
        rfl
      have d1 : decide (31 ≤ op) = true := decide_eq_true h31
      rw [e]
      clear e h
      go_enter Tryz.func15, Tryz.ntmps15
      go_wp2
      go_ret
      exact ⟨rfl, rfl⟩
    · have d1 : decide (31 ≤ op) = false := decide_eq_false h31
      obtain ⟨i, rfl⟩ : ∃ i : Nat, op = (i : Int) := ⟨op.toNat, by omega⟩
      have hi : i < Sh.nameL.length := by show i < 31; omega
      have hc := h i _ (List.getElem?_eq_getElem hi)
      have e : Sh.name (i : Int) = Sh.nameL[i] := by
        unfold Sh.name
        rw [if_pos (by omega), Int.toNat_natCast, List.getD_eq_getElem?_getD, List.getElem?_eq_getElem hi]
        rfl
      rw [e]
      obtain ⟨t, ht⟩ : ∃ t, Sh.nameL[i] = t := ⟨_, rfl⟩
      rw [ht] at hc ⊢
      have hi0 : (0 : Int) ≤ (i : Int) := by omega
      have hi1 : (i : Int) < 31 := by omega
      have hin : i < 31 := by omega
      clear e ht h hi
      go_enter Tryz.func15, Tryz.ntmps15
      go_wp2
      go_ret
      exact ⟨rfl, rfl⟩
theorem katom12 (k : Int) (t : ByteArray) (w : World) : Calls Tryz.prog 82 #[.int .i64 k, .string t] w fun e w' => e = .returned (.agg #[.bool false, .int .i64 k, .string t, .int .i64 0, .int .i64 0, .slice none 0 0]) ∧ Below w.heap.size w w' := by
  go_enter Tryz.func82, Tryz.ntmps82
  go_wp2
  exact bodyPost_ret (v := .agg #[.bool false, .int .i64 k, .string t, .int .i64 0, .int .i64 0, .slice none 0 0]) (by simp [results, Tryz.results82, go_sem]) rfl ⟨rfl, (Below.refl _ w).alloc (Nat.le_refl _) _⟩
theorem ksymbol12 (t : ByteArray) (w : World) : Calls Tryz.prog 81 #[.string t] w fun e w' => e = .returned (.agg #[.bool false, .int .i64 3, .string t, .int .i64 0, .int .i64 0, .slice none 0 0]) ∧ Below w.heap.size w w' := by
  have HA := Lib.hid fun W => katom12 3 t W
  go_enter Tryz.func81, Tryz.ntmps81
  go_wp2_with fail
  refine (HA.out _).mono ?_
  rintro e w1 ⟨rfl, b1⟩
  obtain ⟨hl, hb⟩ := room_lies b1
  obtain ⟨r0, r1, r2, r3, r4, r5⟩ := fill_cells hl (.bool false) (.int .i64 3) (.string t) (.int .i64 0) (.int .i64 0) (.slice none 0 0)
  have HE := Lib.hid (fill_below (Nat.le_refl _) hb (.bool false) (.int .i64 3) (.string t) (.int .i64 0) (.int .i64 0) (.slice none 0 0))
  obtain ⟨k0, k1, k2, k3, k4, k5, y0, y1, y2, y3, y4, y5⟩ := ready hl
  have hs := hl.lt
  clear b1 hl hb
  go_wp2
  exact bodyPost_ret (v := .agg #[.bool false, .int .i64 3, .string t, .int .i64 0, .int .i64 0, .slice none 0 0]) (by simp [results, Tryz.results81, go_sem, r0, r1, r2, r3, r4, r5]) rfl ⟨rfl, HE.out⟩
theorem klist12 (A : Option Addr) (n c : Nat) (w : World) : Calls Tryz.prog 108 #[.slice A n c] w fun e w' => e = .returned (.agg #[.bool true, .int .i64 0, .string ⟨#[]⟩, .int .i64 0, .int .i64 0, .slice A n c]) ∧ Below w.heap.size w w' := by
  go_enter Tryz.func108, Tryz.ntmps108
  go_wp2
  exact bodyPost_ret (v := .agg #[.bool true, .int .i64 0, .string ⟨#[]⟩, .int .i64 0, .int .i64 0, .slice A n c]) (by simp [results, Tryz.results108, go_sem]) rfl ⟨rfl, (Below.refl _ w).alloc (Nat.le_refl _) _⟩
end Go.Proofs.YtfjpcjebecgglaaGreatDoor
namespace Go.Proofs.YtfjpcjebecgglaaGreatDoor
open Go.RowKit Go.Shelf
theorem apply_first {w w1 : World} {G : Nat → Prop} {A : Option Addr} {M : List Sx} {nm : ByteArray} (hT : TreeL w (fun b _ => G b) A M) (b1 : Below (w.alloc roomO).heap.size (w.alloc roomO) w1) :
    OwnG (w1.alloc (sbox (Sh.atom 3 nm) none 0)) w1.heap.size G (some ⟨w1.heap.size, 0, none⟩) 1 [(Sh.atom 3 nm, none, 0)] ∧ TreeL (w1.alloc (sbox (Sh.atom 3 nm) none 0)) (Off G (some ⟨w1.heap.size, 0, none⟩) 1 1) A M := by
  obtain ⟨_, hb⟩ := room_lies b1
  have hb2 : Below w.heap.size w (w1.alloc (sbox (Sh.atom 3 nm) none 0)) := hb.alloc hb.size _
  refine ⟨OwnG.fresh w1 G [(Sh.atom 3 nm, none, 0)] (by simp) fun x hx => ?_, hT.imp hb2.size (fun b off hlt _ j _ => hb2.cell (p := ⟨b, off + j, none⟩) hlt) fun b off hlt h => ⟨h, fun e => ?_⟩⟩
  · rw [List.mem_singleton.1 hx]
    exact ⟨⟨Nat.le_refl _, Nat.zero_le _⟩, .nil _⟩
  · have e := Option.some.inj e
    have := hb.size
    simp at e
    omega
theorem apply_end {w w1 w3 w4 : World} {G : Nat → Prop} {A' : Option Addr} {c' n : Nat} {l' : List MSx} {M : List Sx} {nm : ByteArray} (hM : M.length = n) (hG : ∀ b, b < w.heap.size ∨ True → True) (b1 : Below (w.alloc roomO).heap.size (w.alloc roomO) w1)
    (ho : OwnG w3 w1.heap.size (fun b => G b ∧ b < w.heap.size) A' c' l') (hl : l'.map (·.1) = [Sh.atom 3 nm] ++ M) (hg : (w1.alloc (sbox (Sh.atom 3 nm) none 0)).grownBy w3 (some w1.heap.size)) (b4 : Below w3.heap.size w3 w4) :
    LiesX w4 w.heap.size zX ∧ SxSaid G w (Sh.app nm M) (.returned (.agg #[.bool true, .int .i64 0, .string ⟨#[]⟩, .int .i64 0, .int .i64 0, .slice A' (1 + n) c'])) (fillX w4 w.heap.size (.bool true) (.int .i64 0) (.string ⟨#[]⟩) (.int .i64 0) (.int .i64 0) (.slice A' (1 + n) c')) := by
  obtain ⟨hr, hb⟩ := room_lies b1
  have hs1 : w.heap.size < w1.heap.size := hr.lt
  have t3 : Turn (fun k => k = w1.heap.size) (w1.alloc (sbox (Sh.atom 3 nm) none 0)) w3 := Turn.of_grown hg fun g e _ => (Option.some.inj e).symm
  have T : Turn (fun k => k = w1.heap.size) w1 w4 := (((Turn.refl (fun k => k = w1.heap.size) w1).alloc _).trans t3 fun _ e => .inl e).step b4
  have hr4 : LiesX w4 w.heap.size zX := T.lies hr (by omega)
  have hb4 : Below w.heap.size w w4 := ((Turn.of_below (F := fun k => w.heap.size ≤ k) hb).trans T fun k e => .inl (by omega)).below (Nat.le_refl _) fun _ e => e
  have hlen : l'.length = 1 + n := by
    have := congrArg List.length hl
    rw [List.length_map, List.length_append, hM] at this
    simpa using this
  have hlen2 : (Sh.app nm M).L.length = 1 + n := by rw [show (Sh.app nm M).L = [Sh.atom 3 nm] ++ M from rfl, List.length_append, hM]; rfl
  have hst : STree w4 (fun b _ => (G b ∨ w.heap.size ≤ b) ∧ b ≠ w.heap.size) (Sh.app nm M) A' c' := by
    have ht := ho.tree.kept b4
    rw [hl] at ht
    refine ⟨⟨by rw [hlen2, ← hlen]; exact ho.parts.1, ho.parts.2.1⟩, ht.mono fun b _ _ h => ?_⟩
    rcases h with ⟨h1, h2⟩ | h
    · exact ⟨.inl h1, by omega⟩
    · exact ⟨.inr (by omega), by omega⟩
  have := fill_said (Nat.le_refl _) hb4 hst
  rw [hlen2] at this
  refine ⟨hr4, ?_⟩
  rw [sval, hlen2] at this
  exact this
theorem kapply12 (op : Int) (A : Option Addr) (n c : Nat) (M : List Sx) (w : World) (G : Nat → Prop) (hM : M.length = n) (h0 : 0 < n) (hn : n ≤ 100000) (hT : TreeL w (fun b _ => G b) A M) (hN : NmT w) :
    Calls Tryz.prog 79 #[.int .i64 op, .slice A n c] w (SxSaid G w (Sh.app (Sh.name op) M)) := by
  have HN := Lib.hid (kname12 op (w.alloc roomO) (hN.alloc _))
  obtain ⟨nm, hnm⟩ : ∃ t, Sh.name op = t := ⟨_, rfl⟩
  rw [hnm] at HN ⊢
  have HS := Lib.hid fun W => ksymbol12 nm W
  have HL := Lib.hid fun A n c W => klist12 A n c W
  have HM := Lib.hid hM
  have HF := Lib.hid fun w1 b1 => apply_first (w1 := w1) (nm := nm) (hT.mono (G' := fun b _ => G b ∧ b < w.heap.size) fun b _ hlt h => ⟨h, hlt⟩) b1
  have HE := Lib.hid fun w1 w3 w4 A' c' l' b1 ho hl hg b4 => apply_end (w := w) (w1 := w1) (w3 := w3) (w4 := w4) (G := G) (A' := A') (c' := c') (n := n) (l' := l') (M := M) (nm := nm) hM (fun _ _ => trivial) b1 ho hl hg b4
  clear hT hN hM hnm
  go_enter Tryz.func79, Tryz.ntmps79
  go_wp2_with (first
    | (go_at_call 15; refine HN.out.mono ?_; rintro e w' ⟨rfl, rfl⟩)
    | (go_at_call 81; refine (HS.out _).mono ?_; rintro e w1 ⟨rfl, b1⟩; obtain ⟨o1, t1⟩ := HF.out w1 b1; have O1 := Lib.hid o1; have T1 := Lib.hid t1; have B1 := Lib.hid b1; clear o1 t1 b1)
    | (at_builtin; refine appendXX _ rfl (.tmp 8) (.tmp 9) rfl w1.heap.size _ _ _ _ 1 rfl A c M n HM.out h0 rfl O1.out T1.out rfl (by omega) (by simp) ?_; intro A3 c3 w3 l3 o3 e3 g3; have O3 := Lib.hid o3; have E3 := Lib.hid e3; have G3 := Lib.hid g3; clear o3 e3 g3)
    | (go_at_call 108; refine (HL.out _ _ _ _).mono ?_; rintro e w4 ⟨rfl, b4⟩; obtain ⟨hr, hs⟩ := HE.out w1 w3 w4 A3 c3 l3 B1.out O3.out E3.out G3.out b4; obtain ⟨k0, k1, k2, k3, k4, k5, y0, y1, y2, y3, y4, y5⟩ := ready hr; obtain ⟨r0, r1, r2, r3, r4, r5⟩ := fill_cells hr (.bool true) (.int .i64 0) (.string ⟨#[]⟩) (.int .i64 0) (.int .i64 0) (.slice A3 (1 + n) c3); have HSaid := Lib.hid hs; have hlt := hr.lt; clear b4 hs hr))
  exact bodyPost_ret (v := .agg #[.bool true, .int .i64 0, .string ⟨#[]⟩, .int .i64 0, .int .i64 0, .slice A3 (1 + n) c3]) (by simp [results, Tryz.results79, go_sem, r0, r1, r2, r3, r4, r5]) rfl HSaid.out
theorem knm12 (k : Nat) (hk : k < 100) (w : World) : Calls Tryz.prog 148 #[.int .i64 (k : Nat)] w fun e w' => e = .returned (.agg #[.bool false, .int .i64 3, .string (Sh.nm k).T, .int .i64 0, .int .i64 0, .slice none 0 0]) ∧ Below w.heap.size w w' := by
  have HI := Lib.hid fun W => Tryz.strconv_Itoa_small k hk W
  obtain ⟨D, hD⟩ : ∃ D : ByteArray, (⟨(Lib.decDigits k).toArray⟩ : ByteArray) = D := ⟨_, rfl⟩
  have hsz : D.size ≤ 100 := by
    rw [← hD]
    show (Lib.decDigits k).toArray.size ≤ 100
    rw [List.size_toArray]
    by_cases h10 : k < 10
    · rw [Lib.decDigits_one h10]; simp
    · rw [Lib.decDigits_two h10 hk]; simp
  have hadd : ∀ W : World, (Op.stringOp .add ⟨#[100]⟩ D).run Tryz.prog W = .ok (.string ((⟨#[100]⟩ : ByteArray) ++ D)) W := fun W => run_string_add W _ _ (by decide) (by omega)
  have hT : (Sh.nm k).T = (⟨#[100]⟩ : ByteArray) ++ D := by rw [← hD]; rfl
  rw [hD] at HI
  obtain ⟨t, ht⟩ : ∃ t, (⟨#[100]⟩ : ByteArray) ++ D = t := ⟨_, rfl⟩
  rw [ht] at hadd hT
  rw [hT]
  have HS := Lib.hid fun W => ksymbol12 t W
  have HE := Lib.hid fun w1 (b1 : Below (w.alloc roomO).heap.size (w.alloc roomO) w1) => room_lies b1
  clear hD hT ht hsz
  go_enter Tryz.func148, Tryz.ntmps148
  go_wp2_with (first
    | (go_at_call 157; refine (HI.out _).mono ?_; rintro e w' ⟨rfl, rfl⟩)
    | (go_at_call 81; refine (HS.out _).mono ?_; rintro e w1 ⟨rfl, b1⟩; obtain ⟨hr, hb⟩ := HE.out w1 b1; obtain ⟨k0, k1, k2, k3, k4, k5, y0, y1, y2, y3, y4, y5⟩ := ready hr; obtain ⟨r0, r1, r2, r3, r4, r5⟩ := fill_cells hr (.bool false) (.int .i64 3) (.string t) (.int .i64 0) (.int .i64 0) (.slice none 0 0); have HB := Lib.hid (fill_below (Nat.le_refl _) hb (.bool false) (.int .i64 3) (.string t) (.int .i64 0) (.int .i64 0) (.slice none 0 0)); have hlt := hr.lt; clear b1 hb hr))
  exact bodyPost_ret (v := .agg #[.bool false, .int .i64 3, .string t, .int .i64 0, .int .i64 0, .slice none 0 0]) (by simp [results, Tryz.results148, go_sem, r0, r1, r2, r3, r4, r5]) rfl ⟨rfl, HB.out⟩
end Go.Proofs.YtfjpcjebecgglaaGreatDoor
namespace Go.Proofs.YtfjpcjebecgglaaGreatDoor
open Go.RowKit Go.ChangeShapes Go.WideShapes Go.Deep
def ArgR (w : World) (A : Option Addr) (n : Nat) (R : List (Int × Int)) : Prop := RunS w A n R ∧ ∀ x ∈ R, (Lit.int .i64 x.1).wf = true ∧ (Lit.int .i64 x.2).wf = true
theorem open_argR {H : Type} {enc : TypeId × Value → H} {W : World} {fuel : Nat} {v : Value} {y : DataW H × List MemPlace} (h : DataW.trod enc Tryz.prog W 0 (fun _ => true) true fuel 40 [v] = some y) :
    ∃ A n c R, v = .slice A n c ∧ ArgR W A n R := by
  rcases open_slice Tryz.underlying40 h with ⟨hcs, _⟩ | ⟨a, len, cap, m, n, D, Pl, hcs, _, hl, hm, hmm, _, hi⟩
  · injection hcs with hcs
    subst hcs
    exact ⟨none, 0, 0, [], rfl, RunS.nil _ _, fun x hx => absurd hx List.not_mem_nil⟩
  · injection hcs with hcs
    subst hcs
    have hm' : m = cap := by simpa using hmm
    have each : ∀ i, i < len → ∃ q : Int × Int, (W.cell? ((a.add (i * 2)).add 0) = some (.int .i64 q.1) ∧ W.cell? ((a.add (i * 2)).add 1) = some (.int .i64 q.2)) ∧ (Lit.int .i64 q.1).wf = true ∧ (Lit.int .i64 q.2).wf = true := by
      intro i hlt
      obtain ⟨cs', h1, h2⟩ := hi i (by omega)
      rw [show Tryz.prog.cellsOf 70 = 2 by kernel_rfl] at h1
      obtain ⟨_, hlen, hcell⟩ := World.cells?_some h1
      obtain ⟨xs, k, _, _, _, hxl, hf⟩ := DataW.trod_struct Tryz.underlying70 h2
      match xs, hxl, cs', hlen with
      | [y0, y1], _, [v0, v1], _ =>
        have e0 : DataW.trod enc Tryz.prog W 0 (fun _ => true) true k 3 [v0] = some y0 := hf 0 _ rfl
        have e1 : DataW.trod enc Tryz.prog W 0 (fun _ => true) true k 3 [v1] = some y1 := hf 1 _ rfl
        obtain ⟨z0, hz0, _, w0⟩ := DataW.trod_int Tryz.underlying3 e0
        obtain ⟨z1, hz1, _, w1⟩ := DataW.trod_int Tryz.underlying3 e1
        injection hz0 with hz0
        injection hz1 with hz1
        subst hz0
        subst hz1
        exact ⟨(z0, z1), ⟨hcell 0 (by omega), hcell 1 (by omega)⟩, w0, w1⟩
    obtain ⟨q, hq⟩ := choose_lt each
    refine ⟨some a, len, cap, (List.range len).map q, rfl, ⟨by simp, fun hn => ?_⟩, fun x hx => ?_⟩
    · have hc0 := (hq 0 hn).1.1
      obtain ⟨b, off, spot⟩ := a
      have hspot : spot = none := by simpa [Addr.add] using World.cell?_spot hc0
      subst hspot
      have hb : b < W.heap.size := by
        have := World.block_lt_of_cell? W _ hc0
        simpa [Addr.add] using this
      refine ⟨b, off, rfl, hb, fun i o ho => ?_⟩
      obtain ⟨hil, rfl⟩ := get_range ho
      have := (hq i hil).1
      rw [addr_add, addr_add, addr_add, Nat.add_zero] at this
      exact this
    · obtain ⟨i, hi', rfl⟩ := List.mem_map.1 hx
      exact (hq i (by simpa using hi')).2
end Go.Proofs.YtfjpcjebecgglaaGreatDoor
