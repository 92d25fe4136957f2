/- Rows of terms in memory; the reference's Add. -/
import Derived.Test.YtkooconjkimgoaaDoorN2
import Derived.Test.YtkooconjkimgoaaDoorJ7
import Derived.Laws.AppendOwnNone
namespace Go.Proofs.YtkooconjkimgoaaDoor
open Go.RowKit

theorem flat_len {α : Type} {k : Nat} {f : α → List Value} (hk : ∀ a, (f a).length = k) : ∀ L : List α, (L.flatMap f).length = L.length * k
  | [] => by simp
  | a :: L => by rw [List.flatMap_cons, List.length_append, hk, flat_len hk L, List.length_cons, Nat.succ_mul]; omega
theorem flat_get {α : Type} {k : Nat} {f : α → List Value} (hk : ∀ a, (f a).length = k) : ∀ (L : List α) (i j : Nat) (a : α), L[i]? = some a → j < k → (L.flatMap f)[i * k + j]? = (f a)[j]?
  | [], i, j, a, h, _ => by simp at h
  | b :: L, 0, j, a, h, hj => by
    obtain rfl : b = a := by simpa using h
    rw [List.flatMap_cons, List.getElem?_append_left (by rw [hk]; omega)]
    congr 1
    omega
  | b :: L, i + 1, j, a, h, hj => by
    rw [List.flatMap_cons, List.getElem?_append_right (by rw [hk, Nat.succ_mul]; omega), hk, ← flat_get hk L i j a (by simpa using h) hj]
    congr 1
    rw [Nat.succ_mul]
    omega
theorem flat_at {α : Type} {k : Nat} {f : α → List Value} (hk : ∀ a, (f a).length = k) (h0 : 0 < k) {L : List α} {j : Nat} {u : Value} (h : (L.flatMap f)[j]? = some u) : ∃ a, L[j / k]? = some a ∧ (f a)[j % k]? = some u := by
  have hlt := (List.getElem?_eq_some_iff.1 h).1
  rw [flat_len hk] at hlt
  have hi : j / k < L.length := (Nat.div_lt_iff_lt_mul h0).2 hlt
  refine ⟨L[j / k], List.getElem?_eq_getElem hi, ?_⟩
  have := flat_get hk L (j / k) (j % k) _ (List.getElem?_eq_getElem hi) (Nat.mod_lt _ h0)
  rw [Nat.mul_comm, Nat.div_add_mod] at this
  rw [← this, h]

/-- the slice of n terms at A reads as l -/
structure NodS (w : World) (G : Nat → Prop) (A : Option Addr) (n c : Nat) (l : List Nd) : Prop where
  len : l.length = n
  g : Gs G A n
  nil : A = none → n = 0 ∧ c = 0
  at_ : 0 < n → ∃ b off, A = some ⟨b, off, none⟩ ∧ b < w.heap.size ∧ ∀ (i : Nat) x, l[i]? = some x → ∃ P : NdP, (∀ j u, (P.cells x)[j]? = some u → w.cell? ⟨b, off + i * 7 + j, none⟩ = some u) ∧ NdAs w G P x
theorem NodS.mono {w : World} {G G' : Nat → Prop} {A : Option Addr} {n c : Nat} {l : List Nd} (h : NodS w G A n c l) (hG : ∀ k, G k → G' k) : NodS w G' A n c l :=
  ⟨h.len, h.g.mono hG, h.nil, fun hn => by
    obtain ⟨b, off, e, hlt, hc⟩ := h.at_ hn
    refine ⟨b, off, e, hlt, fun i x hx => ?_⟩
    obtain ⟨P, h1, h2⟩ := hc i x hx
    exact ⟨P, h1, h2.mono hG⟩⟩
theorem NodS.turn {F G : Nat → Prop} {w w' : World} {A : Option Addr} {n c : Nat} {l : List Nd} (h : NodS w G A n c l) (hT : Turn F w w') (hG : ∀ k, G k → ¬ F k) : NodS w' G A n c l :=
  ⟨h.len, h.g, h.nil, fun hn => by
    obtain ⟨b, off, e, hlt, hc⟩ := h.at_ hn
    have hb := hG _ (h.g _ e hn)
    refine ⟨b, off, e, Nat.lt_of_lt_of_le hlt hT.size, fun i x hx => ?_⟩
    obtain ⟨P, h1, h2⟩ := hc i x hx
    exact ⟨P, fun j u hu => (hT.cell (p := ⟨b, off + i * 7 + j, none⟩) hlt hb).trans (h1 j u hu), h2.turn hT hG⟩⟩
theorem NodS.below {w w' : World} {G : Nat → Prop} {A : Option Addr} {n c : Nat} {l : List Nd} (h : NodS w G A n c l) (hb : Below w.heap.size w w') : NodS w' G A n c l :=
  ⟨h.len, h.g, h.nil, fun hn => by
    obtain ⟨b, off, e, hlt, hc⟩ := h.at_ hn
    refine ⟨b, off, e, Nat.lt_of_lt_of_le hlt hb.size, fun i x hx => ?_⟩
    obtain ⟨P, h1, h2⟩ := hc i x hx
    exact ⟨P, fun j u hu => (hb.cell (p := ⟨b, off + i * 7 + j, none⟩) hlt).trans (h1 j u hu), h2.below hb⟩⟩
theorem NodS.none_ (w : World) (G : Nat → Prop) : NodS w G none 0 0 [] := ⟨rfl, Gs.zero G _, fun _ => ⟨rfl, rfl⟩, fun h => absurd h (by decide)⟩
theorem NodS.get {w : World} {G : Nat → Prop} {A : Option Addr} {n c i : Nat} {l : List Nd} (h : NodS w G A n c l) (hi : i < n) :
    ∃ b off x P, A = some ⟨b, off, none⟩ ∧ l[i]? = some x ∧ b < w.heap.size ∧ NdAs w G P x ∧ ∀ W, Below w.heap.size w W →
      W.cell? ⟨b, off + i * 7, none⟩ = some (.int .i64 x.op) ∧ W.cell? ⟨b, off + i * 7 + 1, none⟩ = some (.int .i64 x.sort) ∧ W.cell? ⟨b, off + i * 7 + 2, none⟩ = some (.slice P.A P.n P.c) ∧ W.cell? ⟨b, off + i * 7 + 3, none⟩ = some (.string x.name) ∧
      W.cell? ⟨b, off + i * 7 + 4, none⟩ = some (.bool P.g) ∧ W.cell? ⟨b, off + i * 7 + 5, none⟩ = some (.slice P.B P.m P.d) ∧ W.cell? ⟨b, off + i * 7 + 6, none⟩ = some (.slice P.C P.p P.f) := by
  obtain ⟨b, off, e, hlt, hc⟩ := h.at_ (by omega)
  obtain ⟨x, hx⟩ : ∃ x, l[i]? = some x := ⟨_, List.getElem?_eq_getElem (by rw [h.len]; exact hi)⟩
  obtain ⟨P, h1, h2⟩ := hc i x hx
  refine ⟨b, off, x, P, e, hx, hlt, h2, fun W hW => ?_⟩
  have g : ∀ j u, (P.cells x)[j]? = some u → W.cell? ⟨b, off + i * 7 + j, none⟩ = some u := fun j u hu => (hW.cell (p := ⟨b, _, none⟩) hlt).trans (h1 j u hu)
  exact ⟨g 0 _ rfl, g 1 _ rfl, g 2 _ rfl, g 3 _ rfl, g 4 _ rfl, g 5 _ rfl, g 6 _ rfl⟩

abbrev ncell (q : NdP × Nd) : List Value := (q.1.cells q.2).toList
abbrev ncells (L : List (NdP × Nd)) : List Value := L.flatMap ncell
theorem nc_one (L : List (NdP × Nd)) : ∀ u ∈ ncells L, u.oneCell' = true := by
  intro u hu
  obtain ⟨q, _, hu⟩ := List.mem_flatMap.1 hu
  simp [ncell] at hu
  rcases hu with rfl | rfl | rfl | rfl | rfl | rfl | rfl <;> rfl
theorem infoN9 : (Tryd.prog.info? 47).map (fun i => (i.zero, i.size, i.bytes)) = some (some (.agg #[.int .i64 0, .int .i64 0, .slice none 0 0, .string ByteArray.empty, .bool false, .slice none 0 0, .slice none 0 0]), 7, 112) := by kernel_rfl
/-- a row of terms of one's own -/
def OwnD (w : World) (B : Nat) (A : Option Addr) (c : Nat) (L : List (NdP × Nd)) : Prop := w.ownsRow B 47 7 (.slice A L.length c) L.length (ncells L)
theorem OwnD.cell {w : World} {B g c : Nat} {L : List (NdP × Nd)} (h : OwnD w B (some ⟨g, 0, none⟩) c L) {i j : Nat} {q : NdP × Nd} {u : Value} (hq : L[i]? = some q) (hj : (q.1.cells q.2)[j]? = some u) : w.cell? ⟨g, i * 7 + j, none⟩ = some u := by
  have hj' := (Array.getElem?_eq_some_iff.1 hj).1
  have := World.ownsRow.cells (g := g) h rfl (i * 7 + j) u (by rw [flat_get (k := 7) (fun _ => rfl) L i j q hq hj']; simpa using hj)
  rwa [addr_add, Nat.zero_add] at this
theorem OwnD.nods {w w' : World} {G : Nat → Prop} {B : Nat} {A : Option Addr} {c n : Nat} {L : List (NdP × Nd)} {l : List Nd} (h : OwnD w B A c L) (hl : L.map (·.2) = l) (hn : l.length = n) (ha : ∀ q ∈ L, NdAs w G q.1 q.2) (hG : ∀ k, B ≤ k → G k) (hb : Below w.heap.size w w') : NodS w' G A n c l := by
  have hL : L.length = n := by rw [← hn, ← hl, List.length_map]
  subst hL
  refine NodS.below ⟨by rw [← hl, List.length_map], fun a e h0 => ?_, fun e => ?_, fun h0 => ?_⟩ hb
  · rcases h.2 with ⟨q, _⟩ | ⟨g, cap, cur, q1, q2, _⟩
    · injection q with q _ _
      rw [e] at q
      cases q
    · injection q1 with q1 _ _
      rw [e] at q1
      injection q1 with q1
      subst q1
      exact hG _ q2
  · rcases h.2 with ⟨q, q2⟩ | ⟨g, cap, cur, q1, _⟩
    · injection q with _ h1 h2
      exact ⟨h1, h2⟩
    · rw [e] at q1
      cases q1
  · rcases h.2 with ⟨_, h1⟩ | ⟨g, cap, cur, e, _, hg, _⟩
    · omega
    · injection e with e1 _ _
      subst e1
      refine ⟨g, 0, rfl, (Array.getElem?_eq_some_iff.1 hg).1, fun i x hx => ?_⟩
      rw [← hl, List.getElem?_map] at hx
      obtain ⟨q, hq, rfl⟩ := Option.map_eq_some_iff.1 hx
      exact ⟨q.1, fun j u hu => by rw [Nat.zero_add]; exact h.cell hq hu, ha q (List.mem_of_getElem? hq)⟩
/-- what lies there, with where its lists lie -/
theorem NodS.rows {w : World} {G : Nat → Prop} {A : Option Addr} {n c : Nat} {l : List Nd} (h : NodS w G A n c l) : ∃ L : List (NdP × Nd), L.map (·.2) = l ∧ L.length = n ∧ (∀ q ∈ L, NdAs w G q.1 q.2) ∧
    (0 < n → ∃ b off, A = some ⟨b, off, none⟩ ∧ b < w.heap.size ∧ ∀ j u, (ncells L)[j]? = some u → w.cell? ⟨b, off + j, none⟩ = some u) := by
  rcases Nat.eq_zero_or_pos n with e | e
  · subst e
    exact ⟨[], (List.eq_nil_of_length_eq_zero h.len).symm, rfl, fun q hq => (List.not_mem_nil hq).elim, fun h => absurd h (by decide)⟩
  obtain ⟨b, off, eA, hlt, hc⟩ := h.at_ e
  have hex : ∀ k, k ≤ n → ∃ L : List (NdP × Nd), L.map (·.2) = l.take k ∧ L.length = k ∧ ∀ (i : Nat) q, L[i]? = some q → (∀ j u, (q.1.cells q.2)[j]? = some u → w.cell? ⟨b, off + i * 7 + j, none⟩ = some u) ∧ NdAs w G q.1 q.2 := by
    intro k
    induction k with
    | zero => exact fun _ => ⟨[], by simp, rfl, fun i q hq => by simp at hq⟩
    | succ k ih =>
      intro hk
      obtain ⟨L, h1, h2, h3⟩ := ih (by omega)
      obtain ⟨x, hx⟩ : ∃ x, l[k]? = some x := ⟨_, List.getElem?_eq_getElem (by rw [h.len]; omega)⟩
      obtain ⟨P, p1, p2⟩ := hc k x hx
      refine ⟨L ++ [(P, x)], by rw [List.map_append, h1, take_one hx]; rfl, by simp [h2], fun i q hq => ?_⟩
      rcases Nat.lt_or_ge i k with e | e
      · rw [List.getElem?_append_left (by omega)] at hq
        exact h3 i q hq
      · have hi := (List.getElem?_eq_some_iff.1 hq).1
        simp at hi
        obtain rfl : i = k := by omega
        rw [List.getElem?_append_right (by omega), h2, Nat.sub_self] at hq
        obtain rfl : (P, x) = q := by simpa using hq
        exact ⟨p1, p2⟩
  obtain ⟨L, h1, h2, h3⟩ := hex n (Nat.le_refl _)
  refine ⟨L, by rw [h1, ← h.len, List.take_length], h2, fun q hq => ?_, fun _ => ⟨b, off, eA, hlt, fun j u hu => ?_⟩⟩
  · obtain ⟨i, hi⟩ := List.getElem?_of_mem hq
    exact (h3 i q hi).2
  · obtain ⟨q, hq, hj⟩ := flat_at (k := 7) (fun _ => rfl) (by decide) hu
    have := (h3 _ q hq).1 (j % 7) u (by simpa using hj)
    rw [Nat.add_assoc, show j / 7 * 7 + j % 7 = j by omega] at this
    exact this
/-- a row of terms, copied -/
theorem copyD (w : World) {G : Nat → Prop} {ops : Array Oper} {rest : List Oper} {o : Oper} {a : Act} {Q : Exit → Act → World → Prop} (hgd : o.guard = none) (x : Operand)
    (ho : o.op = .call { callee := .builtin .append, args := #[.const (.slice none 0 0), x], argTypes := #[30, 30] }) (A : Option Addr) (n c : Nat) (l : List Nd)
    (hx : a.eval x = .slice A n c) (hr : NodS w G A n c l) (hn : n ≤ 1000000)
    (h : ∀ A' c' w' L, OwnD w' w.heap.size A' c' L → L.map (·.2) = l → L.length = n → (∀ q ∈ L, NdAs w G q.1 q.2) → Below w.heap.size w w' → wpList Tryd.prog ops Q rest (a.put o.dst (.slice A' n c')) w') :
    wpList Tryd.prog ops Q (o :: rest) a w := by
  obtain ⟨i0, hi, hz0, hz1, hz2⟩ := info_parts infoN9
  obtain ⟨L, h1, h2, h3, h4⟩ := hr.rows
  cases A with
  | none =>
    obtain ⟨rfl, rfl⟩ := hr.nil rfl
    obtain rfl := List.eq_nil_of_length_eq_zero h2
    exact wpList_append_own_none hgd _ x 30 ho w.heap.size 47 i0 7 Tryd.underlying30 hi (.slice none 0 0) 0 [] rfl (World.ownsRow_nil _ _ _ _) hx (h none 0 w [] (World.ownsRow_nil _ _ _ _) h1 rfl h3 (Below.refl _ _))
  | some ad =>
    refine wpList_append_own_at w hgd _ x 30 ho w.heap.size 47 i0 (.agg #[.int .i64 0, .int .i64 0, .slice none 0 0, .string ByteArray.empty, .bool false, .slice none 0 0, .slice none 0 0]) 7 112 Tryd.underlying30 hi hz0 hz1 hz2 rfl (by decide) (.slice none 0 0) 0 [] rfl (World.ownsRow_nil _ _ _ _)
      ad n c (ncells L) hx (by rw [flat_len (k := 7) (fun _ => rfl), h2]) (fun j u hu => ?_) (nc_one L) (by unfold maxLen; omega) (by omega) (Nat.le_refl _) fun v' w' q1 q2 _ _ => ?_
    · have hj := (List.getElem?_eq_some_iff.1 hu).1
      rw [flat_len (k := 7) (fun _ => rfl)] at hj
      obtain ⟨b, off, e, _, hc⟩ := h4 (by omega)
      obtain rfl := Option.some.inj e
      rw [addr_add]
      exact hc j u hu
    · simp only [Nat.zero_add, List.nil_append] at q1
      obtain ⟨A', c', rfl⟩ := own_form q1
      have hb : Below w.heap.size w w' := ⟨q2.os, q2.tape, q2.output, q2.size, fun k hk => q2.block k hk (by simp [Value.ownBlock])⟩
      subst h2
      exact h A' c' w' L q1 h1 rfl h3 hb
/-- one more term, behind a row of one's own -/
theorem appendD (w : World) {ops : Array Oper} {rest : List Oper} {o : Oper} {a : Act} {Q : Exit → Act → World → Prop} (hgd : o.guard = none) (s x : Operand)
    (ho : o.op = .call { callee := .builtin .append, args := #[s, x], argTypes := #[30, 30] }) (B : Nat) (A : Option Addr) (c : Nat) (L : List (NdP × Nd)) (n : Nat) (hn : L.length = n) (q : NdP × Nd)
    (hs : a.eval s = .slice A n c) (hown : OwnD w B A c L) (hx : a.eval x = .slice (some ⟨w.heap.size, 0, none⟩) 1 1) (hl : n ≤ 1000000) (hB : B ≤ w.heap.size)
    (h : ∀ A' c' w', OwnD w' B A' c' (L ++ [q]) → w.grownBy w' (Value.slice A n c).ownBlock → wpList Tryd.prog ops Q rest (a.put o.dst (.slice A' (n + 1) c')) w') :
    wpList Tryd.prog ops Q (o :: rest) a (w.alloc (.cells (q.1.cells q.2) 47)) := by
  subst hn
  obtain ⟨i0, hi, hz0, hz1, hz2⟩ := info_parts infoN9
  refine wpList_append_own_at _ hgd s x 30 ho B 47 i0 (.agg #[.int .i64 0, .int .i64 0, .slice none 0 0, .string ByteArray.empty, .bool false, .slice none 0 0, .slice none 0 0]) 7 112 Tryd.underlying30 hi hz0 hz1 hz2 rfl (by decide) _ L.length (ncells L) hs (World.ownsRow.alloc hown _)
    ⟨w.heap.size, 0, none⟩ 1 1 (ncells [q]) hx (by simp) (fun j u hu => ?_) (nc_one [q]) (by unfold maxLen; omega) (by omega) (by simp; omega) fun v' w' q1 q2 _ _ => ?_
  · rw [addr_add, Nat.zero_add, (Lies.new w 47 (q.1.cells q.2)).cell]
    simpa [ncells, ncell] using hu
  · obtain ⟨A', c', rfl⟩ := own_form q1
    refine h A' c' w' ?_ ?_
    · unfold OwnD
      have e : ncells L ++ ncells [q] = ncells (L ++ [q]) := by simp [ncells]
      rw [e] at q1
      rw [List.length_append]
      exact q1
    · refine ⟨q2.os, q2.tape, q2.output, Nat.le_trans (by simp) q2.size, fun k hk hne => (q2.block k (by simp; omega) hne).trans (Below.heap_alloc w _ k hk)⟩
/-- what a call answers that makes terms -/
def NAns (w : World) (G : Nat → Prop) (r : List Nd × Int × Int) (e : Ending) (w' : World) : Prop := (∃ A c, e = .returned (.tuple #[.slice A r.1.length c, .int .i64 r.2.1, .int .i64 r.2.2]) ∧ NodS w' (fun k => G k ∨ w.heap.size ≤ k) A r.1.length c r.1) ∧ Below w.heap.size w w'
theorem NAns.up {w W w' : World} {G G' : Nat → Prop} {r : List Nd × Int × Int} {e : Ending} (h : NAns W G' r e w') (hb : Below w.heap.size w W) (hG : ∀ k, G' k → G k ∨ w.heap.size ≤ k) : NAns w G r e w' := by
  obtain ⟨⟨A, c, h1, h2⟩, h3⟩ := h
  exact ⟨⟨A, c, h1, h2.mono fun k hk => hk.elim (hG k) fun h => .inr (Nat.le_trans hb.size h)⟩, hb.trans (h3.mono hb.size)⟩
end Go.Proofs.YtkooconjkimgoaaDoor
