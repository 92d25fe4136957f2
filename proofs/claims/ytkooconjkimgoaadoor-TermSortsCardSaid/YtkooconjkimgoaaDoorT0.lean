/- Memory by blocks: a block known whole; what a call may have changed; a list's places. Nothing of the program's text. -/
import Derived.WalkKit
import Derived.Below
import Derived.Laws.Rows
import Derived.Maps.AppendAt
import Derived.Maps.OwnSet
import Derived.Lib.SliceRun
import Derived.Lib.Hide
import Derived.Deep.Draws
import Derived.Laws.AppendOwnNone
import Derived.Deep.RegionLaw
namespace Go.Proofs.YtkooconjkimgoaaDoor
open Go.RowKit

instance bytesLaw : LawfulBEq ByteArray where
  eq_of_beq := by
    intro a b h
    have h' : (a.data == b.data) = true := h
    have := eq_of_beq h'
    cases a
    cases b
    simp_all
  rfl := by
    intro a
    show (a.data == a.data) = true
    simp
theorem wf_nat {n : Nat} (h : n ≤ 1000000) : (Lit.int .i64 (n : Int)).wf = true := WalkArith.wf_i64 (by omega)
theorem ret_i {k : IntKind} {a b : Int} (h : a = b) : Ending.returned (.int k a) = .returned (.int k b) := by rw [h]
theorem lit_i64 {a b : Int} (h : (DataW.lit (.int .i64 a) : DataW Unit) = .lit (.int .i64 b)) : a = b := by simpa using h
abbrev i64s (l : List Int) : List Value := l.map fun x => .int .i64 x
abbrev nats (l : List Nat) : List Value := l.map fun (x : Nat) => .int .i64 (x : Int)
theorem i64s_one {l : List Int} : ∀ u ∈ i64s l, u.oneCell' = true := by
  intro u hu
  obtain ⟨x, _, rfl⟩ := List.mem_map.1 hu
  rfl
theorem take_one {α : Type} {l : List α} {i : Nat} {x : α} (h : l[i]? = some x) : l.take (i + 1) = l.take i ++ [x] := by
  obtain ⟨hi, e⟩ := List.getElem?_eq_some_iff.1 h
  rw [List.take_succ_eq_append_getElem hi, e]
theorem get_range {α : Type} {f : Nat → α} {n i : Nat} {o : α} (h : ((List.range n).map f)[i]? = some o) : i < n ∧ o = f i := by
  have hl := (List.getElem?_eq_some_iff.1 h).1
  rw [List.length_map, List.length_range] at hl
  rw [List.getElem?_map, List.getElem?_range hl] at h
  exact ⟨hl, (Option.some.inj h).symm⟩
theorem addr_add (b off i : Nat) : (⟨b, off, none⟩ : Addr).add i = ⟨b, off + i, none⟩ := by unfold Addr.add; split <;> simp_all

/-- block g holds just the cells cs of type t, none of them frozen -/
def Lies (w : World) (g : Nat) (t : TypeId) (cs : Array Value) : Prop := w.heap[g]? = some (.cells cs t (0, 0))
theorem Lies.lt {w : World} {g : Nat} {t : TypeId} {cs : Array Value} (h : Lies w g t cs) : g < w.heap.size := (Array.getElem?_eq_some_iff.1 h).1
theorem Lies.cell {w : World} {g : Nat} {t : TypeId} {cs : Array Value} (h : Lies w g t cs) (i : Nat) : w.cell? ⟨g, i, none⟩ = cs[i]? := cell_of_row w g i cs t (0, 0) h
theorem Lies.free {w : World} {g : Nat} {t : TypeId} {cs : Array Value} (h : Lies w g t cs) (i : Nat) : w.frozen? ⟨g, i, none⟩ = false := by
  have h' : w.heap[g]? = some (.cells cs t (0, 0)) := h
  simp [World.frozen?, h']
theorem Lies.new (w : World) (t : TypeId) (cs : Array Value) : Lies (w.alloc (.cells cs t)) w.heap.size t cs := heap_alloc_new w _
theorem Lies.put {w : World} {g : Nat} {t : TypeId} {cs : Array Value} (h : Lies w g t cs) (i : Nat) (u : Value) : Lies (w.setCell ⟨g, i, none⟩ u) g t (cs.setIfInBounds i u) := by
  have h' : w.heap[g]? = some (.cells cs t (0, 0)) := h
  show (w.setCell ⟨g, i, none⟩ u).heap[g]? = _
  simp [World.setCell, Array.getElem?_modify, h']

/-- of the old blocks, only those of F may have turned -/
structure Turn (F : Nat → Prop) (w w' : World) : Prop where
  os : w'.os = w.os
  tape : w'.tape = w.tape
  output : w'.output = w.output
  size : w.heap.size ≤ w'.heap.size
  block : ∀ k, k < w.heap.size → ¬ F k → w'.heap[k]? = w.heap[k]?

section
variable {F G : Nat → Prop} {a b c w w' : World}
theorem Turn.refl (F : Nat → Prop) (w : World) : Turn F w w := ⟨rfl, rfl, rfl, Nat.le_refl _, fun _ _ _ => rfl⟩
theorem Turn.trans (h : Turn F a b) (k : Turn G b c) (hG : ∀ i, G i → F i ∨ a.heap.size ≤ i) : Turn F a c :=
  ⟨k.os.trans h.os, k.tape.trans h.tape, k.output.trans h.output, Nat.le_trans h.size k.size, fun i hi hn =>
    (k.block i (Nat.lt_of_lt_of_le hi h.size) (fun g => (hG i g).elim hn (fun e => absurd hi (Nat.not_lt.2 e)))).trans (h.block i hi hn)⟩
theorem Turn.mono (h : Turn F a b) (hF : ∀ i, i < a.heap.size → F i → G i) : Turn G a b := ⟨h.os, h.tape, h.output, h.size, fun i hi hn => h.block i hi (fun f => hn (hF i hi f))⟩
theorem Turn.of_below (h : Below w.heap.size w w') : Turn F w w' := ⟨h.os, h.tape, h.output, h.size, fun i hi _ => h.block i hi⟩
theorem Turn.of_grown {row : Option Nat} (h : w.grownBy w' row) (hr : ∀ g, row = some g → g < w.heap.size → F g) : Turn F w w' :=
  ⟨h.os, h.tape, h.output, h.size, fun i hi hn => h.block i hi (fun e => hn (hr i e.symm hi))⟩
theorem Turn.drew (h : Turn F a w) : Turn F a w.drew := ⟨h.os, h.tape, h.output, h.size, h.block⟩
theorem Turn.drewN (h : Turn F a w) (n : Nat) : Turn F a (w.drewN n) := ⟨h.os, h.tape, h.output, h.size, h.block⟩
theorem Turn.alloc (h : Turn F a w) (o : Obj) : Turn F a (w.alloc o) :=
  h.trans (G := fun _ => False) ⟨rfl, rfl, rfl, by simp, fun i hi _ => Below.heap_alloc w o i hi⟩ (fun _ e => e.elim)
theorem Turn.put (h : Turn F a w) {p : Addr} (hp : F p.block ∨ a.heap.size ≤ p.block) (u : Value) : Turn F a (w.setCell p u) :=
  h.trans (G := fun i => i = p.block) ⟨rfl, rfl, rfl, by simp [World.setCell], fun i _ hn => Below.heap_setCell w p u i hn⟩ (fun _ e => e ▸ hp)
theorem Turn.step (h : Turn F a w) (k : Below w.heap.size w w') : Turn F a w' := h.trans (G := fun _ => False) (Turn.of_below k) (fun _ e => e.elim)
theorem Turn.below {B : Nat} (h : Turn F w w') (hB : B ≤ w.heap.size) (hF : ∀ i, F i → B ≤ i) : Below B w w' :=
  ⟨h.os, h.tape, h.output, h.size, fun i hi => h.block i (Nat.lt_of_lt_of_le hi hB) (fun f => absurd hi (Nat.not_lt.2 (hF i f)))⟩
theorem Turn.none_ (h : Turn F w w') (hF : ∀ i, ¬ F i) : Below w.heap.size w w' := ⟨h.os, h.tape, h.output, h.size, fun i hi => h.block i hi (hF i)⟩
theorem Below.turn_ (h : Below w.heap.size w w') : Turn (fun _ => False) w w' := Turn.of_below h
theorem Turn.lies {g : Nat} {t : TypeId} {cs : Array Value} (h : Turn F w w') (hl : Lies w g t cs) (hg : ¬ F g) : Lies w' g t cs := (h.block g hl.lt hg).trans hl
theorem Turn.cell {p : Addr} (h : Turn F w w') (hp : p.block < w.heap.size) (hF : ¬ F p.block) : w'.cell? p = w.cell? p := World.cell?_of_block (w := w) (h.block p.block hp hF)
theorem Turn.own {base : Nat} {e : TypeId} {size n : Nat} {v : Value} {xs : List Value} (h : Turn F w w') (ho : w.ownsRow base e size v n xs) (hv : ∀ g, v.ownBlock = some g → ¬ F g) : w'.ownsRow base e size v n xs := by
  refine ⟨ho.1, ?_⟩
  rcases ho.2 with hn | ⟨g, cap, cur, rfl, hb, hg, rest⟩
  · exact .inl hn
  · exact .inr ⟨g, cap, cur, rfl, hb, (h.block g (Array.getElem?_eq_some_iff.1 hg).1 (hv g rfl)).trans hg, rest⟩
theorem Turn.map {H : Type} {P : Program} {k : TypeId} {R : Value → Option (DataW H × List MemPlace)} {b n : Nat} {D : DataW H} (h : Turn F w w') (ho : w.ownsMap P k R b n D) (hb : ¬ F b) : w'.ownsMap P k R b n D := by
  have hlt := ho.lt
  obtain ⟨es, clock, e, r⟩ := ho
  exact ⟨es, clock, (h.block b hlt hb).trans e, r⟩
end

/-- the row that a value owns is a row of cells: no map lies there, and no row of another type -/
theorem own_heap {w : World} {base : Nat} {e : TypeId} {size n : Nat} {v : Value} {xs : List Value} (h : w.ownsRow base e size v n xs) {g : Nat} (hg : v.ownBlock = some g) : ∃ cs, Lies w g e cs := by
  rcases h.2 with ⟨rfl, _⟩ | ⟨g', cap, cur, rfl, _, hh, _⟩
  · cases hg
  · have : g' = g := by simpa [Value.ownBlock] using hg
    subst this
    exact ⟨cur, hh⟩
theorem own_not_lies {w : World} {base : Nat} {e t : TypeId} {size n g : Nat} {v : Value} {xs : List Value} {cs : Array Value} (h : w.ownsRow base e size v n xs) (hl : Lies w g t cs) (hne : e ≠ t) : v.ownBlock ≠ some g := by
  intro hg
  obtain ⟨cs', h'⟩ := own_heap h hg
  have := Option.some.inj (h'.symm.trans hl)
  injection this with _ h2
  exact hne h2
theorem own_apart {w : World} {base base' : Nat} {e e' : TypeId} {size size' n n' : Nat} {v v' : Value} {xs xs' : List Value} (h : w.ownsRow base e size v n xs) (h' : w.ownsRow base' e' size' v' n' xs') (hne : e ≠ e') : ∀ g, v.ownBlock = some g → v'.ownBlock ≠ some g := by
  intro g hg hg'
  obtain ⟨cs', q⟩ := own_heap h' hg'
  exact own_not_lies h q hne hg
theorem own_not_map {H : Type} {P : Program} {k : TypeId} {R : Value → Option (DataW H × List MemPlace)} {b m : Nat} {D : DataW H} {w : World} {base : Nat} {e : TypeId} {size n : Nat} {v : Value} {xs : List Value} (h : w.ownsRow base e size v n xs) (ho : w.ownsMap P k R b m D) : v.ownBlock ≠ some b := by
  intro hg
  obtain ⟨cs', h'⟩ := own_heap h hg
  obtain ⟨es, clock, e, _⟩ := ho
  have h'' : w.heap[b]? = some (.cells cs' _ (0, 0)) := h'
  rw [e] at h''
  cases h''
theorem lies_not_map {H : Type} {P : Program} {k : TypeId} {R : Value → Option (DataW H × List MemPlace)} {b m g : Nat} {D : DataW H} {w : World} {t : TypeId} {cs : Array Value} (h : Lies w g t cs) (ho : w.ownsMap P k R b m D) : g ≠ b := by
  rintro rfl
  obtain ⟨es, clock, e, _⟩ := ho
  have h'' : w.heap[g]? = some (.cells cs _ (0, 0)) := h
  rw [e] at h''
  cases h''

/-- a map of as many entries as it reads -/
theorem ownsMap_tight {H : Type} {P : Program} {k : TypeId} {R : Value → Option (DataW H × List MemPlace)} {b n m : Nat} {D : DataW H} {w : World} (h : w.ownsMap P k R b n D) (hm : Maps.size D ≤ m) : w.ownsMap P k R b m D := by
  obtain ⟨es, clock, e, F, _, rfl⟩ := h
  refine ⟨es, clock, e, F, ?_, rfl⟩
  rw [Maps.size_eq, length_sorted, List.length_map, Array.length_toList] at hm
  exact hm

theorem own_form {w : World} {base : Nat} {e : TypeId} {size n : Nat} {v : Value} {xs : List Value} (h : w.ownsRow base e size v n xs) : ∃ A c, v = .slice A n c := by
  rcases h.2 with ⟨rfl, rfl⟩ | ⟨g, cap, cur, rfl, _⟩
  · exact ⟨none, 0, rfl⟩
  · exact ⟨_, _, rfl⟩

/-- append to a row of one's own: what comes back is written out as a slice -/
theorem append_row {P : Program} (w : World) {ops : Array Oper} {rest : List Oper} {o : Oper} {a : Act} {Q : Exit → Act → World → Prop} (hgd : o.guard = none) (s x : Operand) (t : TypeId)
    (ho : o.op = .call { callee := .builtin .append, args := #[s, x], argTypes := #[t, t] })
    (base : Nat) (e : TypeId) (i : TypeInfo) (z : Value) (bytes : Nat) (ht : P.underlying t = some (.slice e)) (hi : P.info? e = some i) (hz : i.zero = some z)
    (hsize : i.size = 1) (hby : i.bytes = bytes) (hzs : z.cells.size = 1)
    (v : Value) (n : Nat) (xs : List Value) (hs : a.eval s = v) (hown : w.ownsRow base e 1 v n xs)
    (ad : Addr) (m c : Nat) (news : List Value) (hx : a.eval x = .slice (some ad) m c) (hl : news.length = m * 1) (hnews : ∀ j u, news[j]? = some u → w.cell? (ad.add j) = some u) (h1 : ∀ u ∈ news, u.oneCell' = true)
    (h63 : n + m ≤ maxLen) (hbytes : (n + m) * bytes ≤ 140737488355328) (hbase : base ≤ w.heap.size)
    (h : ∀ A' c' w', w'.ownsRow base e 1 (.slice A' (n + m) c') (n + m) (xs ++ news) → w.grownBy w' v.ownBlock → ((Value.slice A' (n + m) c').ownBlock = v.ownBlock ∨ (Value.slice A' (n + m) c').ownBlock = some w.heap.size) → wpList P ops Q rest (a.put o.dst (.slice A' (n + m) c')) w') :
    wpList P ops Q (o :: rest) a w :=
  wpList_append_own_at w hgd s x t ho base e i z 1 bytes ht hi hz hsize hby hzs (by decide) v n xs hs hown ad m c news hx hl hnews h1 h63 hbytes hbase fun v' w' q1 q2 _ q4 => by
    obtain ⟨A', c', rfl⟩ := own_form q1
    exact h A' c' w' q1 q2 q4

/-- .. as one step of a region that draws -/
theorem step_append_row {P : Program} {w : World} {ops : Array Oper} {o : Oper} {a : Act} {K : Act → World → Prop} {Q : Exit → Act → World → Prop} {E : Prop} (hgd : o.guard = none) (s x : Operand) (t : TypeId)
    (ho : o.op = .call { callee := .builtin .append, args := #[s, x], argTypes := #[t, t] })
    (base : Nat) (e : TypeId) (i : TypeInfo) (z : Value) (bytes : Nat) (ht : P.underlying t = some (.slice e)) (hi : P.info? e = some i) (hz : i.zero = some z)
    (hsize : i.size = 1) (hby : i.bytes = bytes) (hzs : z.cells.size = 1)
    (v : Value) (n : Nat) (xs : List Value) (hs : a.eval s = v) (hown : w.ownsRow base e 1 v n xs)
    (ad : Addr) (m c : Nat) (news : List Value) (hx : a.eval x = .slice (some ad) m c) (hl : news.length = m * 1) (hnews : ∀ j u, news[j]? = some u → w.cell? (ad.add j) = some u) (h1 : ∀ u ∈ news, u.oneCell' = true)
    (h63 : n + m ≤ maxLen) (hbytes : (n + m) * bytes ≤ 140737488355328) (hbase : base ≤ w.heap.size)
    (h : ∀ A' c' w', w'.ownsRow base e 1 (.slice A' (n + m) c') (n + m) (xs ++ news) → w.grownBy w' v.ownBlock → ((Value.slice A' (n + m) c').ownBlock = v.ownBlock ∨ (Value.slice A' (n + m) c').ownBlock = some w.heap.size) → K (a.put o.dst (.slice A' (n + m) c')) w') :
    if Region.wanted o (yielded ops a.tmps) = true then Oper.wp P o a w K Q else E := by
  have hw : Region.wanted o (yielded ops a.tmps) = true := by simp [Region.wanted, hgd]
  rw [if_pos hw]
  obtain ⟨v', w', hr, q1, q2, _, q4⟩ := run_append_own_at (P := P) w base t o.type e i z 1 bytes ht hi hz hsize hby hzs (by decide) v n xs hown ad m c news hl hnews h1 h63 hbytes hbase
  obtain ⟨A', c', rfl⟩ := own_form q1
  unfold Oper.wp
  simp [execOp, ho, resolve, invoke, builtin, hs, hx, hr, Result.andThen]
  exact h A' c' w' q1 q2 q4

/-- the slice of n cells (and room for c) at A reads as xs; its cells lie in blocks of G -/
structure Rd (w : World) (G : Nat → Prop) (A : Option Addr) (n c : Nat) (xs : List Value) : Prop where
  len : xs.length = n
  nil : A = none → n = 0 ∧ c = 0
  le : n ≤ c
  cm : c ≤ maxLen
  at_ : 0 < n → ∃ b off, A = some ⟨b, off, none⟩ ∧ G b ∧ b < w.heap.size ∧ ∀ j u, xs[j]? = some u → w.cell? ⟨b, off + j, none⟩ = some u

theorem Rd.nil_ (w : World) (G : Nat → Prop) : Rd w G none 0 0 [] := ⟨rfl, fun _ => ⟨rfl, rfl⟩, Nat.le_refl _, Nat.zero_le _, fun h => absurd h (by omega)⟩
theorem Rd.turn {w w' : World} {F G : Nat → Prop} {A : Option Addr} {n c : Nat} {xs : List Value} (h : Rd w G A n c xs) (ht : Turn F w w') (hG : ∀ b, b < w.heap.size → G b → ¬ F b) : Rd w' G A n c xs :=
  ⟨h.len, h.nil, h.le, h.cm, fun hn => by
    obtain ⟨b, off, e, hg, hb, hc⟩ := h.at_ hn
    exact ⟨b, off, e, hg, Nat.lt_of_lt_of_le hb ht.size, fun j u hu => (ht.cell (p := ⟨b, off + j, none⟩) hb (hG b hb hg)).trans (hc j u hu)⟩⟩
theorem Rd.below {w w' : World} {G : Nat → Prop} {A : Option Addr} {n c : Nat} {xs : List Value} (h : Rd w G A n c xs) (ht : Below w.heap.size w w') : Rd w' G A n c xs :=
  h.turn (F := fun _ => False) (Turn.of_below ht) (fun _ _ _ e => e)
theorem Rd.mono {w : World} {G G' : Nat → Prop} {A : Option Addr} {n c : Nat} {xs : List Value} (h : Rd w G A n c xs) (hG : ∀ b, b < w.heap.size → G b → G' b) : Rd w G' A n c xs :=
  ⟨h.len, h.nil, h.le, h.cm, fun hn => by
    obtain ⟨b, off, e, hg, hb, hc⟩ := h.at_ hn
    exact ⟨b, off, e, hG b hb hg, hb, hc⟩⟩
theorem Rd.take {w : World} {G : Nat → Prop} {A : Option Addr} {n c : Nat} {xs : List Value} (h : Rd w G A n c xs) {k : Nat} (hk : k ≤ n) : Rd w G A k c (xs.take k) :=
  ⟨by rw [List.length_take, h.len]; omega, fun e => ⟨by have := (h.nil e).1; omega, (h.nil e).2⟩, Nat.le_trans hk h.le, h.cm, fun hn => by
    obtain ⟨b, off, e, hg, hb, hc⟩ := h.at_ (by omega)
    exact ⟨b, off, e, hg, hb, fun j u hu => hc j u (by
      rw [List.getElem?_take] at hu
      split at hu
      · exact hu
      · cases hu)⟩⟩
theorem Rd.of_own {w : World} {base : Nat} {e : TypeId} {A : Option Addr} {n c : Nat} {xs : List Value} (h : w.ownsRow base e 1 (.slice A n c) n xs) : Rd w (fun b => base ≤ b) A n c xs := by
  have hl := h.1
  rcases h.2 with ⟨e, rfl⟩ | ⟨g, cap, cur, e, hb, hg, q1, q2, q3, q4⟩
  · injection e with e1 e2 e3
    subst e1
    subst e3
    exact ⟨by omega, fun _ => ⟨rfl, rfl⟩, Nat.le_refl _, Nat.zero_le _, fun hn => absurd hn (by omega)⟩
  · injection e with e1 e2 e3
    subst e1
    subst e3
    refine ⟨by omega, fun e => (by cases e), q1, q2, fun hn => ⟨g, 0, rfl, hb, (Array.getElem?_eq_some_iff.1 hg).1, fun j u hu => ?_⟩⟩
    have := h.cells (g := g) rfl j u hu
    rw [Nat.zero_add]
    rw [show (⟨g, 0, none⟩ : Addr).add j = ⟨g, j, none⟩ by unfold Addr.add; split <;> simp_all] at this
    exact this

/-- append to a row of one's own whatever reads as a list -/
theorem append_any {P : Program} (w : World) {ops : Array Oper} {rest : List Oper} {o : Oper} {a : Act} {Q : Exit → Act → World → Prop} (hgd : o.guard = none) (s x : Operand) (t : TypeId)
    (ho : o.op = .call { callee := .builtin .append, args := #[s, x], argTypes := #[t, t] })
    (base : Nat) (e : TypeId) (i : TypeInfo) (z : Value) (bytes : Nat) (ht : P.underlying t = some (.slice e)) (hi : P.info? e = some i) (hz : i.zero = some z)
    (hsize : i.size = 1) (hby : i.bytes = bytes) (hzs : z.cells.size = 1)
    (v : Value) (n : Nat) (xs : List Value) (hs : a.eval s = v) (hown : w.ownsRow base e 1 v n xs)
    (G : Nat → Prop) (A : Option Addr) (m c : Nat) (news : List Value) (hx : a.eval x = .slice A m c) (hr : Rd w G A m c news) (h1 : ∀ u ∈ news, u.oneCell' = true)
    (h63 : n + m ≤ maxLen) (hbytes : (n + m) * bytes ≤ 140737488355328) (hbase : base ≤ w.heap.size)
    (h : ∀ A' c' w', w'.ownsRow base e 1 (.slice A' (n + m) c') (n + m) (xs ++ news) → w.grownBy w' v.ownBlock → ((Value.slice A' (n + m) c').ownBlock = v.ownBlock ∨ (Value.slice A' (n + m) c').ownBlock = some w.heap.size) → wpList P ops Q rest (a.put o.dst (.slice A' (n + m) c')) w') :
    wpList P ops Q (o :: rest) a w := by
  cases A with
  | none =>
    obtain ⟨rfl, rfl⟩ := hr.nil rfl
    obtain rfl : news = [] := List.eq_nil_of_length_eq_zero hr.len
    obtain ⟨A', c', rfl⟩ := own_form hown
    exact wpList_append_own_none hgd s x t ho base e i 1 ht hi (.slice A' n c') n xs hs hown hx (h A' c' w (by simpa using hown) ⟨rfl, rfl, rfl, Nat.le_refl _, fun _ _ _ => rfl⟩ (.inl rfl))
  | some ad =>
    refine append_row w hgd s x t ho base e i z bytes ht hi hz hsize hby hzs v n xs hs hown ad m c news hx (by rw [hr.len]; omega) (fun j u hu => ?_) h1 h63 hbytes hbase h
    have hm : 0 < m := by
      rcases Nat.eq_zero_or_pos m with e | e
      · have := hr.len
        rw [e] at this
        rw [List.eq_nil_of_length_eq_zero this] at hu
        simp at hu
      · exact e
    obtain ⟨b, off, e, _, _, hc⟩ := hr.at_ hm
    obtain rfl := Option.some.inj e
    rw [show (⟨b, off, none⟩ : Addr).add j = ⟨b, off + j, none⟩ by unfold Addr.add; split <;> simp_all]
    exact hc j u hu

/-- a row that is filled from a place on -/
theorem Lies.fill {g : Nat} {t : TypeId} : ∀ (vs : List Value) (o : Nat) {w : World} {cs : Array Value}, Lies w g t cs →
    ∃ cs', Lies (w.setCells g o vs) g t cs' ∧ cs'.size = cs.size ∧ (∀ i, i < o → cs'[i]? = cs[i]?) ∧ w.grownBy (w.setCells g o vs) (some g)
  | [], o, w, cs, h => ⟨cs, h, rfl, fun _ _ => rfl, ⟨rfl, rfl, rfl, Nat.le_refl _, fun _ _ _ => rfl⟩⟩
  | v :: vs, o, w, cs, h => by
    obtain ⟨cs', h1, h2, h3, h4⟩ := Lies.fill vs (o + 1) (h.put o v)
    refine ⟨cs', h1, by rw [h2]; simp, fun i hi => ?_, ?_⟩
    · rw [h3 i (by omega), Array.getElem?_setIfInBounds, if_neg (by omega)]
    · have hs : w.grownBy (w.setCell ⟨g, o, none⟩ v) (some g) := ⟨rfl, rfl, rfl, by simp [World.setCell], fun i _ hn => Below.heap_setCell w ⟨g, o, none⟩ v i (fun e => hn (by rw [e]))⟩
      exact hs.trans h4

/-- the place of a thing in a list -/
theorem idx_snoc_old {α : Type} [BEq α] [LawfulBEq α] {l : List α} {x y : α} (h : x ∈ l) : (l ++ [y]).idxOf x = l.idxOf x := by rw [List.idxOf_append, if_pos h]
theorem idx_snoc_new {α : Type} [BEq α] [LawfulBEq α] {l : List α} {x : α} (h : x ∉ l) : (l ++ [x]).idxOf x = l.length := by
  rw [List.idxOf_append, if_neg h]
  simp
theorem idx_take {α : Type} [BEq α] [LawfulBEq α] {l : List α} {n : Nat} {x : α} (h : x ∈ l.take n) : (l.take n).idxOf x = l.idxOf x := by
  have := List.idxOf_append (l₁ := l.take n) (l₂ := l.drop n) (a := x)
  rw [List.take_append_drop, if_pos h] at this
  exact this.symm
theorem idx_lt {α : Type} [BEq α] [LawfulBEq α] {l : List α} {x : α} (h : x ∈ l) : l.idxOf x < l.length := List.idxOf_lt_length_of_mem h
theorem idx_get {α : Type} [BEq α] [LawfulBEq α] {l : List α} {x : α} (h : x ∈ l) : l[l.idxOf x]? = some x := by
  rw [List.getElem?_eq_getElem (idx_lt h)]
  exact congrArg some (List.getElem_idxOf (idx_lt h))
/-- what stands at a place of a list without repeats has that place -/
theorem idx_at {α : Type} [BEq α] [LawfulBEq α] {l : List α} (hn : l.Nodup) {i : Nat} {x : α} (h : l[i]? = some x) : l.idxOf x = i := by
  obtain ⟨hi, e⟩ := List.getElem?_eq_some_iff.1 h
  subst e
  exact hn.idxOf_getElem i hi
theorem mem_take_iff {α : Type} [BEq α] [LawfulBEq α] {l : List α} {n : Nat} {x : α} (h : x ∈ l) : x ∈ l.take n ↔ l.idxOf x < n := by
  constructor
  · intro hm
    rw [← idx_take hm]
    exact Nat.lt_of_lt_of_le (idx_lt hm) (by rw [List.length_take]; omega)
  · intro hlt
    have := idx_get h
    rw [← List.getElem?_take_of_lt hlt] at this
    exact List.mem_of_getElem? this
end Go.Proofs.YtkooconjkimgoaaDoor
