/- What the proofs of this claim use, text by text. -/
import Derived.WalkKit
import Derived.Below
import Derived.Laws.Rows
import Derived.Maps.AppendAt
import Derived.Maps.OwnSet
import Derived.Lib.SliceRun
import Derived.Lib.Hide
import Derived.Deep.Draws
import Derived.Laws.AppendOwnNone
import Derived.Deep.RegionLaw
import Derived.Test.YtfjpcjebecgglaaGreatDoorRows
import Derived.Deep.Slices
import Derived.Deep.Fields
import Derived.ChangeSame
import Derived.ProofKit
import Derived.OpenShut
import Derived.Laws.OwnMore
import Derived.Deep.QuietTactic
import Derived.WalkSpells
import Derived.WalkLawsBesides
import Derived.KernelRfl
import Derived.BigQuiet
import Derived.Laws.StructEq
set_option linter.unusedSimpArgs false
set_option linter.unusedVariables false
set_option maxRecDepth 100000
set_option maxHeartbeats 25600000
namespace Go.Proofs.YtfjpcjebecgglaaGreatDoor
open Go.RowKit
abbrev i64s (l : List Int) : List Value := l.map fun x => .int .i64 x
theorem take_one {α : Type} {l : List α} {i : Nat} {x : α} (h : l[i]? = some x) : l.take (i + 1) = l.take i ++ [x] := by
  obtain ⟨hi, e⟩ := List.getElem?_eq_some_iff.1 h
  rw [List.take_succ_eq_append_getElem hi, e]
theorem get_range {α : Type} {f : Nat → α} {n i : Nat} {o : α} (h : ((List.range n).map f)[i]? = some o) : i < n ∧ o = f i := by
  have hl := (List.getElem?_eq_some_iff.1 h).1
  rw [List.length_map, List.length_range] at hl
  rw [List.getElem?_map, List.getElem?_range hl] at h
  exact ⟨hl, (Option.some.inj h).symm⟩
theorem addr_add (b off i : Nat) : (⟨b, off, none⟩ : Addr).add i = ⟨b, off + i, none⟩ := by unfold Addr.add; split <;> simp_all
def Lies (w : World) (g : Nat) (t : TypeId) (cs : Array Value) : Prop := w.heap[g]? = some (.cells cs t (0, 0))
theorem Lies.lt {w : World} {g : Nat} {t : TypeId} {cs : Array Value} (h : Lies w g t cs) : g < w.heap.size := (Array.getElem?_eq_some_iff.1 h).1
theorem Lies.cell {w : World} {g : Nat} {t : TypeId} {cs : Array Value} (h : Lies w g t cs) (i : Nat) : w.cell? ⟨g, i, none⟩ = cs[i]? := cell_of_row w g i cs t (0, 0) h
theorem Lies.free {w : World} {g : Nat} {t : TypeId} {cs : Array Value} (h : Lies w g t cs) (i : Nat) : w.frozen? ⟨g, i, none⟩ = false := by
  have h' : w.heap[g]? = some (.cells cs t (0, 0)) := h
  simp [World.frozen?, h']
theorem Lies.new (w : World) (t : TypeId) (cs : Array Value) : Lies (w.alloc (.cells cs t)) w.heap.size t cs := heap_alloc_new w _
theorem Lies.put {w : World} {g : Nat} {t : TypeId} {cs : Array Value} (h : Lies w g t cs) (i : Nat) (u : Value) : Lies (w.setCell ⟨g, i, none⟩ u) g t (cs.setIfInBounds i u) := by
  have h' : w.heap[g]? = some (.cells cs t (0, 0)) := h
  show (w.setCell ⟨g, i, none⟩ u).heap[g]? = _
  simp [World.setCell, Array.getElem?_modify, h']
structure Turn (F : Nat → Prop) (w w' : World) : Prop where
  os : w'.os = w.os
  tape : w'.tape = w.tape
  output : w'.output = w.output
  size : w.heap.size ≤ w'.heap.size
  block : ∀ k, k < w.heap.size → ¬ F k → w'.heap[k]? = w.heap[k]?
section
variable {F G : Nat → Prop} {a b c w w' : World}
theorem Turn.refl (F : Nat → Prop) (w : World) : Turn F w w := ⟨rfl, rfl, rfl, Nat.le_refl _, fun _ _ _ => rfl⟩
theorem Turn.trans (h : Turn F a b) (k : Turn G b c) (hG : ∀ i, G i → F i ∨ a.heap.size ≤ i) : Turn F a c :=
  ⟨k.os.trans h.os, k.tape.trans h.tape, k.output.trans h.output, Nat.le_trans h.size k.size, fun i hi hn =>
    (k.block i (Nat.lt_of_lt_of_le hi h.size) (fun g => (hG i g).elim hn (fun e => absurd hi (Nat.not_lt.2 e)))).trans (h.block i hi hn)⟩
theorem Turn.mono (h : Turn F a b) (hF : ∀ i, i < a.heap.size → F i → G i) : Turn G a b := ⟨h.os, h.tape, h.output, h.size, fun i hi hn => h.block i hi (fun f => hn (hF i hi f))⟩
theorem Turn.of_below (h : Below w.heap.size w w') : Turn F w w' := ⟨h.os, h.tape, h.output, h.size, fun i hi _ => h.block i hi⟩
theorem Turn.of_grown {row : Option Nat} (h : w.grownBy w' row) (hr : ∀ g, row = some g → g < w.heap.size → F g) : Turn F w w' :=
  ⟨h.os, h.tape, h.output, h.size, fun i hi hn => h.block i hi (fun e => hn (hr i e.symm hi))⟩
theorem Turn.drewN (h : Turn F a w) (n : Nat) : Turn F a (w.drewN n) := ⟨h.os, h.tape, h.output, h.size, h.block⟩
theorem Turn.alloc (h : Turn F a w) (o : Obj) : Turn F a (w.alloc o) :=
  h.trans (G := fun _ => False) ⟨rfl, rfl, rfl, by simp, fun i hi _ => Below.heap_alloc w o i hi⟩ (fun _ e => e.elim)
theorem Turn.put (h : Turn F a w) {p : Addr} (hp : F p.block ∨ a.heap.size ≤ p.block) (u : Value) : Turn F a (w.setCell p u) :=
  h.trans (G := fun i => i = p.block) ⟨rfl, rfl, rfl, by simp [World.setCell], fun i _ hn => Below.heap_setCell w p u i hn⟩ (fun _ e => e ▸ hp)
theorem Turn.step (h : Turn F a w) (k : Below w.heap.size w w') : Turn F a w' := h.trans (G := fun _ => False) (Turn.of_below k) (fun _ e => e.elim)
theorem Turn.below {B : Nat} (h : Turn F w w') (hB : B ≤ w.heap.size) (hF : ∀ i, F i → B ≤ i) : Below B w w' :=
  ⟨h.os, h.tape, h.output, h.size, fun i hi => h.block i (Nat.lt_of_lt_of_le hi hB) (fun f => absurd hi (Nat.not_lt.2 (hF i f)))⟩
theorem Turn.none_ (h : Turn F w w') (hF : ∀ i, ¬ F i) : Below w.heap.size w w' := ⟨h.os, h.tape, h.output, h.size, fun i hi => h.block i hi (hF i)⟩
theorem Turn.lies {g : Nat} {t : TypeId} {cs : Array Value} (h : Turn F w w') (hl : Lies w g t cs) (hg : ¬ F g) : Lies w' g t cs := (h.block g hl.lt hg).trans hl
theorem Turn.cell {p : Addr} (h : Turn F w w') (hp : p.block < w.heap.size) (hF : ¬ F p.block) : w'.cell? p = w.cell? p := World.cell?_of_block (w := w) (h.block p.block hp hF)
theorem Turn.own {base : Nat} {e : TypeId} {size n : Nat} {v : Value} {xs : List Value} (h : Turn F w w') (ho : w.ownsRow base e size v n xs) (hv : ∀ g, v.ownBlock = some g → ¬ F g) : w'.ownsRow base e size v n xs := by
  refine ⟨ho.1, ?_⟩
  rcases ho.2 with hn | ⟨g, cap, cur, rfl, hb, hg, rest⟩
  · exact .inl hn
  · exact .inr ⟨g, cap, cur, rfl, hb, (h.block g (Array.getElem?_eq_some_iff.1 hg).1 (hv g rfl)).trans hg, rest⟩
end
theorem own_heap {w : World} {base : Nat} {e : TypeId} {size n : Nat} {v : Value} {xs : List Value} (h : w.ownsRow base e size v n xs) {g : Nat} (hg : v.ownBlock = some g) : ∃ cs, Lies w g e cs := by
  rcases h.2 with ⟨rfl, _⟩ | ⟨g', cap, cur, rfl, _, hh, _⟩
  · cases hg
  · have : g' = g := by simpa [Value.ownBlock] using hg
    subst this
    exact ⟨cur, hh⟩
theorem own_not_lies {w : World} {base : Nat} {e t : TypeId} {size n g : Nat} {v : Value} {xs : List Value} {cs : Array Value} (h : w.ownsRow base e size v n xs) (hl : Lies w g t cs) (hne : e ≠ t) : v.ownBlock ≠ some g := by
  intro hg
  obtain ⟨cs', h'⟩ := own_heap h hg
  have := Option.some.inj (h'.symm.trans hl)
  injection this with _ h2
  exact hne h2
theorem own_apart {w : World} {base base' : Nat} {e e' : TypeId} {size size' n n' : Nat} {v v' : Value} {xs xs' : List Value} (h : w.ownsRow base e size v n xs) (h' : w.ownsRow base' e' size' v' n' xs') (hne : e ≠ e') : ∀ g, v.ownBlock = some g → v'.ownBlock ≠ some g := by
  intro g hg hg'
  obtain ⟨cs', q⟩ := own_heap h' hg'
  exact own_not_lies h q hne hg
theorem own_form {w : World} {base : Nat} {e : TypeId} {size n : Nat} {v : Value} {xs : List Value} (h : w.ownsRow base e size v n xs) : ∃ A c, v = .slice A n c := by
  rcases h.2 with ⟨rfl, rfl⟩ | ⟨g, cap, cur, rfl, _⟩
  · exact ⟨none, 0, rfl⟩
  · exact ⟨_, _, rfl⟩
theorem append_row {P : Program} (w : World) {ops : Array Oper} {rest : List Oper} {o : Oper} {a : Act} {Q : Exit → Act → World → Prop} (hgd : o.guard = none) (s x : Operand) (t : TypeId)
    (ho : o.op = .call { callee := .builtin .append, args := #[s, x], argTypes := #[t, t] })
    (base : Nat) (e : TypeId) (i : TypeInfo) (z : Value) (bytes : Nat) (ht : P.underlying t = some (.slice e)) (hi : P.info? e = some i) (hz : i.zero = some z)
    (hsize : i.size = 1) (hby : i.bytes = bytes) (hzs : z.cells.size = 1)
    (v : Value) (n : Nat) (xs : List Value) (hs : a.eval s = v) (hown : w.ownsRow base e 1 v n xs)
    (ad : Addr) (m c : Nat) (news : List Value) (hx : a.eval x = .slice (some ad) m c) (hl : news.length = m * 1) (hnews : ∀ j u, news[j]? = some u → w.cell? (ad.add j) = some u) (h1 : ∀ u ∈ news, u.oneCell' = true)
    (h63 : n + m ≤ maxLen) (hbytes : (n + m) * bytes ≤ 140737488355328) (hbase : base ≤ w.heap.size)
    (h : ∀ A' c' w', w'.ownsRow base e 1 (.slice A' (n + m) c') (n + m) (xs ++ news) → w.grownBy w' v.ownBlock → ((Value.slice A' (n + m) c').ownBlock = v.ownBlock ∨ (Value.slice A' (n + m) c').ownBlock = some w.heap.size) → wpList P ops Q rest (a.put o.dst (.slice A' (n + m) c')) w') :
    wpList P ops Q (o :: rest) a w :=
  wpList_append_own_at w hgd s x t ho base e i z 1 bytes ht hi hz hsize hby hzs (by decide) v n xs hs hown ad m c news hx hl hnews h1 h63 hbytes hbase fun v' w' q1 q2 _ q4 => by
    obtain ⟨A', c', rfl⟩ := own_form q1
    exact h A' c' w' q1 q2 q4
end Go.Proofs.YtfjpcjebecgglaaGreatDoor
namespace Go.Proofs.YtfjpcjebecgglaaGreatDoor
structure Sx where
  list : Bool
  k : Int
  T : ByteArray
  ta : Int
  at_ : Int
  L : List Sx
def Sx.zero : Sx := ⟨false, 0, ByteArray.empty, 0, 0, []⟩
def Sx.dep : Nat → Sx → Nat
  | 0, _ => 0
  | m + 1, x => if x.list then (x.L.map (Sx.dep m)).foldl max 0 + 1 else 0
mutual
def Sx.size : Sx → Nat
  | ⟨_, _, _, _, _, L⟩ => Sx.sizes L + 1
def Sx.sizes : List Sx → Nat
  | [] => 0
  | x :: l => Sx.size x + Sx.sizes l
end
theorem Sx.sizes_app : ∀ l m : List Sx, Sx.sizes (l ++ m) = Sx.sizes l + Sx.sizes m
  | [], m => by simp [Sx.sizes]
  | x :: l, m => by rw [List.cons_append, Sx.sizes, Sx.sizes, Sx.sizes_app l m]; omega
theorem Sx.size_eq (x : Sx) : x.size = Sx.sizes x.L + 1 := by cases x; rw [Sx.size]
theorem Sx.sizes_get {l : List Sx} {i : Nat} {x : Sx} (h : l[i]? = some x) : x.size + Sx.sizes (l.drop (i + 1)) = Sx.sizes (l.drop i) := by
  obtain ⟨hi, rfl⟩ := List.getElem?_eq_some_iff.1 h
  rw [List.drop_eq_getElem_cons hi, Sx.sizes]
theorem Sx.sizes_le {l : List Sx} {x : Sx} (h : x ∈ l) : x.size ≤ Sx.sizes l := by
  obtain ⟨a, b, rfl⟩ := List.append_of_mem h
  rw [Sx.sizes_app, Sx.sizes]
  omega
theorem Sx.size_lt {x y : Sx} (h : y ∈ x.L) : y.size < x.size := by
  have := Sx.sizes_le h
  rw [x.size_eq]
  omega
theorem Sx.size_pos (x : Sx) : 0 < x.size := by rw [x.size_eq]; omega
theorem foldl_max (l : List Nat) : ∀ a : Nat, l.foldl max a = max a (l.foldl max 0) := by
  induction l with
  | nil => intro a; simp
  | cons x l ih => intro a; rw [List.foldl_cons, List.foldl_cons, ih, ih (max 0 x)]; omega
theorem Sx.dep_le : ∀ (m : Nat) (x : Sx), Sx.dep m x ≤ m
  | 0, x => Nat.le_refl _
  | m + 1, x => by
    rw [Sx.dep]
    split
    · have : ∀ (l : List Sx), (l.map (Sx.dep m)).foldl max 0 ≤ m := by
        intro l
        induction l with
        | nil => simp
        | cons y l ih =>
          rw [List.map_cons, List.foldl_cons, foldl_max]
          have := Sx.dep_le m y
          omega
      exact Nat.succ_le_succ (this _)
    · omega
end Go.Proofs.YtfjpcjebecgglaaGreatDoor
namespace Go.Proofs.YtfjpcjebecgglaaGreatDoor
theorem Lt.len_bytes (s : ByteArray) : s.data.toList.length = s.size := by rw [Array.length_toList]; rfl
theorem Lt.app_bytes (a b : ByteArray) : (a ++ b).data.toList = a.data.toList ++ b.data.toList ∧ (a ++ b).size = a.size + b.size := by
  have e : (a ++ b).data.toList = a.data.toList ++ b.data.toList := by simp [ByteArray.data_append]
  refine ⟨e, ?_⟩
  rw [← Lt.len_bytes, e, List.length_append, Lt.len_bytes, Lt.len_bytes]
theorem Lt.bytes_eq {a b : ByteArray} (h : a.data.toList = b.data.toList) : a = b := by
  have e := Array.toList_inj.1 h
  cases a
  cases b
  simp only at e
  rw [e]
def Lt.dig (c : UInt8) : Option Nat :=
  if 48 ≤ c.toNat ∧ c.toNat ≤ 57 then some (c.toNat - 48) else if 97 ≤ c.toNat ∧ c.toNat ≤ 102 then some (c.toNat - 87) else if 65 ≤ c.toNat ∧ c.toNat ≤ 70 then some (c.toNat - 55) else none
def Lt.val : Nat → List UInt8 → Option Nat
  | n, [] => some n
  | n, c :: t => match Lt.dig c with
    | none => none
    | some d => Lt.val (n * 16 + d) t
theorem Lt.val_none {n : Nat} {c : UInt8} (t : List UInt8) (h : Lt.dig c = none) : Lt.val n (c :: t) = none := by rw [Lt.val, h]
theorem Lt.val_some {n d : Nat} {c : UInt8} (t : List UInt8) (h : Lt.dig c = some d) : Lt.val n (c :: t) = Lt.val (n * 16 + d) t := by rw [Lt.val, h]
theorem Lt.val_app : ∀ (a b : List UInt8) (n : Nat), Lt.val n (a ++ b) = (Lt.val n a).bind fun m => Lt.val m b
  | [], b, n => rfl
  | c :: a, b, n => by
    rw [List.cons_append]
    cases h : Lt.dig c with
    | none => rw [Lt.val_none _ h, Lt.val_none _ h]; rfl
    | some d => rw [Lt.val_some _ h, Lt.val_some _ h, Lt.val_app a b]
def Lt.pt (z : Int) : Bool := decide (0 ≤ z ∧ z ≤ 196607)
def Lt.hd (n : Nat) : UInt8 := UInt8.ofNat (if n < 10 then 48 + n else 87 + n)
theorem Lt.dig_hd : ∀ n, n < 16 → Lt.dig (Lt.hd n) = some n := by decide
theorem Lt.hd_facts : ∀ n, n < 16 → 32 ≤ (Lt.hd n).toNat ∧ (Lt.hd n).toNat ≤ 126 ∧ Lt.hd n ≠ 123 := by decide
def Lt.hex (n : Nat) : List UInt8 := if n < 16 then [Lt.hd n] else Lt.hex (n / 16) ++ [Lt.hd (n % 16)]
termination_by n
theorem Lt.hex_small {n : Nat} (h : n < 16) : Lt.hex n = [Lt.hd n] := by rw [Lt.hex, if_pos h]
theorem Lt.hex_big {n : Nat} (h : ¬ n < 16) : Lt.hex n = Lt.hex (n / 16) ++ [Lt.hd (n % 16)] := by rw [Lt.hex, if_neg h]
theorem Lt.hex_facts : ∀ (k n : Nat), n < 16 ^ (k + 1) → Lt.hex n ≠ [] ∧ (Lt.hex n).length ≤ k + 1 ∧ Lt.val 0 (Lt.hex n) = some n ∧ ∀ c ∈ Lt.hex n, 32 ≤ c.toNat ∧ c.toNat ≤ 126
  | k, n, h => by
    by_cases hn : n < 16
    · rw [Lt.hex_small hn]
      have := Lt.hd_facts n hn
      refine ⟨by simp, by simp, by rw [Lt.val_some _ (Lt.dig_hd n hn), Lt.val]; simp, fun c hc => ?_⟩
      rw [List.mem_singleton.1 hc]
      exact ⟨this.1, this.2.1⟩
    · cases k with
      | zero => omega
      | succ k =>
        have hlt : n / 16 < 16 ^ (k + 1) := by
          rw [Nat.pow_succ] at h
          exact Nat.div_lt_of_lt_mul (by rw [Nat.mul_comm]; exact h)
        obtain ⟨i1, i2, i3, i4⟩ := Lt.hex_facts k (n / 16) hlt
        have hm : n % 16 < 16 := Nat.mod_lt _ (by decide)
        have hf := Lt.hd_facts _ hm
        rw [Lt.hex_big hn]
        refine ⟨by simp, by rw [List.length_append]; simp; omega, ?_, fun c hc => ?_⟩
        · rw [Lt.val_app, i3, Option.bind_some, Lt.val_some _ (Lt.dig_hd _ hm), Lt.val]
          congr 1
          omega
        · rcases List.mem_append.1 hc with hc | hc
          · exact i4 c hc
          · rw [List.mem_singleton.1 hc]
            exact ⟨hf.1, hf.2.1⟩
def Lt.esc1 (z : Int) : List UInt8 := if 32 ≤ z ∧ z ≤ 126 ∧ z ≠ 92 then [UInt8.ofNat z.toNat] else 92 :: 117 :: 123 :: (Lt.hex z.toNat ++ [125])
def Lt.escape (zs : List Int) : List UInt8 := zs.flatMap Lt.esc1
theorem Lt.escape_app (a b : List Int) : Lt.escape (a ++ b) = Lt.escape a ++ Lt.escape b := by simp [Lt.escape]
theorem Lt.pt_facts {z : Int} (h : Lt.pt z = true) : 0 ≤ z ∧ z ≤ 196607 := of_decide_eq_true h
theorem Lt.esc1_facts {z : Int} (h : Lt.pt z = true) : (Lt.esc1 z).length ≤ 9 ∧ ∀ c ∈ Lt.esc1 z, 32 ≤ c.toNat ∧ c.toNat ≤ 126 := by
  obtain ⟨h0, h1⟩ := Lt.pt_facts h
  obtain ⟨i1, i2, i3, i4⟩ := Lt.hex_facts 4 z.toNat (by omega)
  unfold Lt.esc1
  split
  · refine ⟨by simp, fun c hc => ?_⟩
    rw [List.mem_singleton.1 hc]
    simp
    omega
  · refine ⟨by simp; omega, fun c hc => ?_⟩
    simp only [List.mem_cons, List.mem_append, List.not_mem_nil, or_false] at hc
    rcases hc with rfl | rfl | rfl | hc | rfl
    · decide
    · decide
    · decide
    · exact i4 c hc
    · decide
end Go.Proofs.YtfjpcjebecgglaaGreatDoor
namespace Go.Proofs.YtfjpcjebecgglaaGreatDoor
def Lt.expand (R : List (Int × Int)) : List Int := R.flatMap fun x => List.replicate x.2.toNat x.1
theorem Lt.expand_app (R S : List (Int × Int)) : Lt.expand (R ++ S) = Lt.expand R ++ Lt.expand S := by simp [Lt.expand]
theorem Lt.expand_one (c n : Int) : Lt.expand [(c, n)] = List.replicate n.toNat c := by simp [Lt.expand]
def Lt.total : List (Int × Int) → Int
  | [] => 0
  | x :: R => x.2 + Lt.total R
theorem Lt.total_app : ∀ R S : List (Int × Int), Lt.total (R ++ S) = Lt.total R + Lt.total S
  | [], S => by rw [List.nil_append, Lt.total]; omega
  | x :: R, S => by rw [List.cons_append, Lt.total, Lt.total, Lt.total_app R S]; omega
theorem Lt.total_one (c n : Int) : Lt.total [(c, n)] = n := by rw [Lt.total, Lt.total]; omega
def Lt.bad (R : List (Int × Int)) : Bool := R.any fun x => !Lt.pt x.1 || decide (x.2 < 1)
theorem Lt.bad_false {R : List (Int × Int)} : Lt.bad R = false ↔ ∀ x ∈ R, Lt.pt x.1 = true ∧ ¬ x.2 < 1 := by
  unfold Lt.bad
  rw [List.any_eq_false]
  refine forall_congr' fun x => forall_congr' fun _ => ?_
  cases Lt.pt x.1 <;> simp
theorem Lt.total_pos : ∀ {R : List (Int × Int)}, (∀ x ∈ R, ¬ x.2 < 1) → 0 ≤ Lt.total R
  | [], _ => Int.le_refl _
  | x :: R, h => by
    have h1 := h x List.mem_cons_self
    have h2 := Lt.total_pos (R := R) fun y hy => h y (List.mem_cons_of_mem _ hy)
    rw [Lt.total]
    omega
theorem Lt.expand_len : ∀ {R : List (Int × Int)}, (∀ x ∈ R, ¬ x.2 < 1) → ((Lt.expand R).length : Int) = Lt.total R
  | [], _ => rfl
  | x :: R, h => by
    have h1 := h x List.mem_cons_self
    have h2 := Lt.expand_len (R := R) fun y hy => h y (List.mem_cons_of_mem _ hy)
    have e : Lt.expand (x :: R) = List.replicate x.2.toNat x.1 ++ Lt.expand R := rfl
    rw [Lt.total, e, List.length_append, List.length_replicate]
    omega
def Lt.list (R : List (Int × Int)) (most : Int) : Int × List Int := if Lt.bad R then (1, []) else if most < Lt.total R then (2, []) else (0, Lt.expand R)
theorem Lt.list_bad {R : List (Int × Int)} {most : Int} (h : Lt.bad R = true) : Lt.list R most = (1, []) := by rw [Lt.list, if_pos h]
theorem Lt.list_long {R : List (Int × Int)} {most : Int} (h : Lt.bad R = false) (hm : most < Lt.total R) : Lt.list R most = (2, []) := by rw [Lt.list, if_neg (by rw [h]; decide), if_pos hm]
theorem Lt.list_ok {R : List (Int × Int)} {most : Int} (h : Lt.bad R = false) (hm : ¬ most < Lt.total R) : Lt.list R most = (0, Lt.expand R) := by rw [Lt.list, if_neg (by rw [h]; decide), if_neg hm]
def Lt.escOf (zs : List Int) : Int × List UInt8 := if zs.all Lt.pt then (0, Lt.escape zs) else (1, [])
end Go.Proofs.YtfjpcjebecgglaaGreatDoor
namespace Go.Proofs.YtfjpcjebecgglaaGreatDoor
structure Tx.Own (R : List (Int × Int)) : Prop where
  pos : ∀ x ∈ R, Lt.pt x.1 = true ∧ 1 ≤ x.2
  adj : ∀ i x y, R[i]? = some x → R[i + 1]? = some y → x.1 ≠ y.1
structure Tx.May (R : List (Int × Int)) : Prop where
  own : Tx.Own R
  few : R.length ≤ 65536
  most : Lt.total R ≤ 1099511627776
end Go.Proofs.YtfjpcjebecgglaaGreatDoor
namespace Go.Proofs.YtfjpcjebecgglaaGreatDoor
open Go.RowKit
structure NumS (w : World) (A : Option Addr) (n : Nat) (l : List Int) : Prop where
  len : l.length = n
  at_ : 0 < n → ∃ b off, A = some ⟨b, off, none⟩ ∧ b < w.heap.size ∧ ∀ (i : Nat) x, l[i]? = some x → w.cell? ⟨b, off + i, none⟩ = some (.int .i64 x)
theorem NumS.get {w : World} {A : Option Addr} {n i : Nat} {l : List Int} (h : NumS w A n l) (hi : i < n) :
    ∃ b off x, A = some ⟨b, off, none⟩ ∧ l[i]? = some x ∧ x ∈ l ∧ l.drop i = x :: l.drop (i + 1) ∧ ∀ W, Below w.heap.size w W → b < W.heap.size ∧ W.cell? ⟨b, off + i, none⟩ = some (.int .i64 x) := by
  obtain ⟨b, off, e, hlt, hc⟩ := h.at_ (by omega)
  have hi' : i < l.length := by rw [h.len]; exact hi
  exact ⟨b, off, l[i], e, List.getElem?_eq_getElem hi', List.getElem_mem hi', List.drop_eq_getElem_cons hi', fun W hW => ⟨Nat.lt_of_lt_of_le hlt hW.size, (hW.cell (p := ⟨b, off + i, none⟩) hlt).trans (hc i _ (List.getElem?_eq_getElem hi'))⟩⟩
theorem infoJ : (Tryz.prog.info? 3).map (fun i => (i.zero, i.size, i.bytes)) = some (some (.int .i64 0), 1, 8) := by kernel_rfl
def OwnN (w : World) (B : Nat) (A : Option Addr) (c : Nat) (l : List Int) : Prop := w.ownsRow B 3 1 (.slice A l.length c) l.length (i64s l)
theorem OwnN.nil (w : World) (B : Nat) : OwnN w B none 0 [] := World.ownsRow_nil _ _ _ _
theorem OwnN.kept {w w' : World} {B : Nat} {A : Option Addr} {c : Nat} {l : List Int} (h : OwnN w B A c l) (hb : Below w.heap.size w w') : OwnN w' B A c l := (Turn.of_below (F := fun _ => False) hb).own h (fun _ _ => id)
theorem OwnN.lt {w : World} {B : Nat} {A : Option Addr} {c n : Nat} {l : List Int} (h : OwnN w B A c l) (hn : l.length = n) {q : Nat} (hq : (Value.slice A n c).ownBlock = some q) : B ≤ q ∧ q < w.heap.size := by
  subst hn
  exact World.ownsRow.lt h q hq
theorem OwnN.nums {w : World} {B : Nat} {A : Option Addr} {c n : Nat} {l : List Int} (h : OwnN w B A c l) (hn : l.length = n) : NumS w A n l := by
  subst hn
  refine ⟨rfl, fun h0 => ?_⟩
  rcases h.2 with ⟨e, h1⟩ | ⟨g, cap, cur, e, _, hg, _⟩
  · omega
  · injection e with e1 _ _
    subst e1
    refine ⟨g, 0, rfl, (Array.getElem?_eq_some_iff.1 hg).1, fun i x hx => ?_⟩
    have := World.ownsRow.cells (g := g) h rfl i (.int .i64 x) (by rw [List.getElem?_map, hx]; rfl)
    rwa [addr_add] at this
theorem appendN (w : World) {ops : Array Oper} {rest : List Oper} {o : Oper} {a : Act} {Q : Exit → Act → World → Prop} (hgd : o.guard = none) (s x : Operand)
    (ho : o.op = .call { callee := .builtin .append, args := #[s, x], argTypes := #[36, 36] }) (B : Nat) (A : Option Addr) (c : Nat) (l : List Int) (n : Nat) (hn : l.length = n) (z : Int)
    (hs : a.eval s = .slice A n c) (hown : OwnN w B A c l) (hx : a.eval x = .slice (some ⟨w.heap.size, 0, none⟩) 1 1) (hl : n ≤ 1000000000) (hB : B ≤ w.heap.size)
    (h : ∀ A' c' w', OwnN w' B A' c' (l ++ [z]) → w.grownBy w' (Value.slice A n c).ownBlock → wpList Tryz.prog ops Q rest (a.put o.dst (.slice A' (n + 1) c')) w') :
    wpList Tryz.prog ops Q (o :: rest) a (w.alloc (.cells #[.int .i64 z] 3)) := by
  subst hn
  obtain ⟨i0, hi, hz0, hz1, hz2⟩ := info_parts infoJ
  refine append_row _ hgd s x 36 ho B 3 i0 (.int .i64 0) 8 Tryz.underlying36 hi hz0 hz1 hz2 rfl _ l.length (i64s l) hs (World.ownsRow.alloc hown _) ⟨w.heap.size, 0, none⟩ 1 1 [.int .i64 z] hx rfl (cell_one_new _ _ _) (fun u hu => by simp at hu; subst hu; rfl) (by unfold maxLen; omega) (by omega) (by simp; omega) ?_
  intro A' c' w' o' g' _
  refine h A' c' w' ?_ ?_
  · unfold OwnN
    have e : i64s l ++ [.int .i64 z] = i64s (l ++ [z]) := by simp
    rw [e] at o'
    rw [List.length_append]
    exact o'
  · refine ⟨g'.os, g'.tape, g'.output, Nat.le_trans (by simp) g'.size, fun k hk hne => (g'.block k (by simp; omega) hne).trans (Below.heap_alloc w _ k hk)⟩
structure RunS (w : World) (A : Option Addr) (n : Nat) (l : List (Int × Int)) : Prop where
  len : l.length = n
  at_ : 0 < n → ∃ b off, A = some ⟨b, off, none⟩ ∧ b < w.heap.size ∧ ∀ (i : Nat) x, l[i]? = some x → w.cell? ⟨b, off + i * 2, none⟩ = some (.int .i64 x.1) ∧ w.cell? ⟨b, off + i * 2 + 1, none⟩ = some (.int .i64 x.2)
theorem RunS.below {w w' : World} {A : Option Addr} {n : Nat} {l : List (Int × Int)} (h : RunS w A n l) (hb : Below w.heap.size w w') : RunS w' A n l :=
  ⟨h.len, fun hn => by
    obtain ⟨b, off, e, hlt, hc⟩ := h.at_ hn
    exact ⟨b, off, e, Nat.lt_of_lt_of_le hlt hb.size, fun i x hx => ⟨(hb.cell (p := ⟨b, off + i * 2, none⟩) hlt).trans (hc i x hx).1, (hb.cell (p := ⟨b, off + i * 2 + 1, none⟩) hlt).trans (hc i x hx).2⟩⟩⟩
theorem RunS.get {w : World} {A : Option Addr} {n i : Nat} {l : List (Int × Int)} (h : RunS w A n l) (hi : i < n) :
    ∃ b off x, A = some ⟨b, off, none⟩ ∧ l[i]? = some x ∧ x ∈ l ∧ l.drop i = x :: l.drop (i + 1) ∧ ∀ W, Below w.heap.size w W → b < W.heap.size ∧ W.cell? ⟨b, off + i * 2, none⟩ = some (.int .i64 x.1) ∧ W.cell? ⟨b, off + i * 2 + 1, none⟩ = some (.int .i64 x.2) := by
  obtain ⟨b, off, e, hlt, hc⟩ := h.at_ (by omega)
  have hi' : i < l.length := by rw [h.len]; exact hi
  have hg := List.getElem?_eq_getElem hi'
  exact ⟨b, off, l[i], e, hg, List.getElem_mem hi', List.drop_eq_getElem_cons hi', fun W hW => ⟨Nat.lt_of_lt_of_le hlt hW.size, (hW.cell (p := ⟨b, off + i * 2, none⟩) hlt).trans (hc i _ hg).1, (hW.cell (p := ⟨b, off + i * 2 + 1, none⟩) hlt).trans (hc i _ hg).2⟩⟩
theorem RunS.nil (w : World) (A : Option Addr) : RunS w A 0 [] := ⟨rfl, fun h => absurd h (by decide)⟩
end Go.Proofs.YtfjpcjebecgglaaGreatDoor
namespace Go.Proofs.YtfjpcjebecgglaaGreatDoor
open Go.RowKit
theorem Lt.all_false {l : List Int} {z : Int} (hz : z ∈ l) (h : Lt.pt z = false) : l.all Lt.pt = false := by
  rw [List.all_eq_false]
  exact ⟨z, hz, by rw [h]; decide⟩
theorem Lt.esc1_plain {z : Int} (h : 32 ≤ z ∧ z ≤ 126 ∧ z ≠ 92) : Lt.esc1 z = [UInt8.ofNat z.toNat] := by rw [Lt.esc1, if_pos h]
theorem Lt.esc1_hex {z : Int} (h : ¬ (32 ≤ z ∧ z ≤ 126 ∧ z ≠ 92)) : Lt.esc1 z = 92 :: 117 :: 123 :: (Lt.hex z.toNat ++ [125]) := by rw [Lt.esc1, if_neg h]
def EscSaid (w : World) (x : Int × List UInt8) (e : Ending) (w' : World) : Prop := e = .returned (.tuple #[.string ⟨x.2.toArray⟩, .int .i64 x.1]) ∧ Below w.heap.size w w'
end Go.Proofs.YtfjpcjebecgglaaGreatDoor
namespace Go.Proofs.YtfjpcjebecgglaaGreatDoor
open Go.RowKit
abbrev rcells (l : List (Int × Int)) : List Value := l.flatMap fun x => [.int .i64 x.1, .int .i64 x.2]
theorem rs_get : ∀ (l : List (Int × Int)) (i : Nat) (x : Int × Int), l[i]? = some x → (rcells l)[i * 2]? = some (.int .i64 x.1) ∧ (rcells l)[i * 2 + 1]? = some (.int .i64 x.2)
  | [], i, x, h => by simp at h
  | y :: l, 0, x, h => by
    obtain rfl : y = x := by simpa using h
    exact ⟨rfl, rfl⟩
  | y :: l, i + 1, x, h => by
    obtain ⟨h1, h2⟩ := rs_get l i x (by simpa using h)
    rw [rcells, List.flatMap_cons, show (i + 1) * 2 = i * 2 + 2 by omega]
    exact ⟨h1, h2⟩
end Go.Proofs.YtfjpcjebecgglaaGreatDoor
namespace Go.Proofs.YtfjpcjebecgglaaGreatDoor
open Go.RowKit
noncomputable def Tx.mayB (R : List (Int × Int)) : Bool := @decide (Tx.May R) (Classical.propDecidable _)
theorem Tx.mayB_true {R : List (Int × Int)} (h : Tx.May R) : Tx.mayB R = true := @decide_eq_true _ (Classical.propDecidable _) h
theorem Tx.mayB_false {R : List (Int × Int)} (h : ¬ Tx.May R) : Tx.mayB R = false := @decide_eq_false _ (Classical.propDecidable _) h
theorem Tx.Own.take {R : List (Int × Int)} (h : Tx.Own R) (i : Nat) : Tx.Own (R.take i) :=
  ⟨fun x hx => h.pos x (List.mem_of_mem_take hx), fun j x y h1 h2 => by
    rw [List.getElem?_take] at h1 h2
    split at h1
    · split at h2
      · exact h.adj j x y h1 h2
      · cases h2
    · cases h1⟩
theorem Tx.Own.nil : Tx.Own [] := ⟨fun _ h => absurd h List.not_mem_nil, fun i x y h => by simp at h⟩
theorem Tx.Own.snoc {R : List (Int × Int)} {i : Nat} {x : Int × Int} (hx : R[i]? = some x) (h : Tx.Own (R.take i)) (hp : Lt.pt x.1 = true) (hn : 1 ≤ x.2) (ha : ∀ j y, i = j + 1 → R[j]? = some y → y.1 ≠ x.1) : Tx.Own (R.take (i + 1)) := by
  have hl := (List.getElem?_eq_some_iff.1 hx).1
  refine ⟨fun y hy => ?_, fun j y z h1 h2 => ?_⟩
  · rw [take_one hx] at hy
    rcases List.mem_append.1 hy with hy | hy
    · exact h.pos y hy
    · rw [List.mem_singleton.1 hy]
      exact ⟨hp, hn⟩
  · have hj : j + 1 < i + 1 := by
      have := (List.getElem?_eq_some_iff.1 h2).1
      rw [List.length_take] at this
      omega
    rw [List.getElem?_take, if_pos (by omega)] at h1 h2
    by_cases hji : j + 1 = i
    · subst hji
      obtain rfl := Option.some.inj (hx.symm.trans h2)
      exact ha j y rfl h1
    · exact h.adj j y z (by rw [List.getElem?_take, if_pos (by omega)]; exact h1) (by rw [List.getElem?_take, if_pos (by omega)]; exact h2)
theorem Tx.take_tot {R : List (Int × Int)} {i : Nat} {x : Int × Int} (h : R[i]? = some x) : Lt.total (R.take (i + 1)) = Lt.total (R.take i) + x.2 := by
  rw [take_one h, Lt.total_app, Lt.total, Lt.total]
  omega
theorem Tx.May.part {R : List (Int × Int)} (h : Tx.May R) (i : Nat) : Lt.total (R.take i) ≤ 1099511627776 := by
  have e : Lt.total (R.take i) + Lt.total (R.drop i) = Lt.total R := by rw [← Lt.total_app, List.take_append_drop]
  have := Lt.total_pos (R := R.drop i) fun x hx => Int.not_lt.2 (h.own.pos x (List.mem_of_mem_drop hx)).2
  have := h.most
  omega
end Go.Proofs.YtfjpcjebecgglaaGreatDoor
namespace Go.Proofs.YtfjpcjebecgglaaGreatDoor
def Lx.blank (c : UInt8) : Bool := decide (c.toNat = 9) || decide (c.toNat = 10) || decide (c.toNat = 13) || decide (c.toNat = 32)
def Lx.digit (c : UInt8) : Bool := decide (48 ≤ c.toNat) && decide (c.toNat ≤ 57)
def Lx.marks : List Nat := [126, 33, 64, 36, 37, 94, 38, 42, 95, 45, 43, 61, 60, 62, 46, 63, 47]
def Lx.name (c : UInt8) : Bool := (decide (97 ≤ c.toNat) && decide (c.toNat ≤ 122)) || (decide (65 ≤ c.toNat) && decide (c.toNat ≤ 90)) || Lx.digit c || Lx.marks.contains c.toNat
def Lx.good (c : UInt8) : Bool := Lx.blank c || (decide (33 ≤ c.toNat) && decide (c.toNat ≤ 126))
def Lx.hex (c : UInt8) : Bool := Lx.digit c || (decide (97 ≤ c.toNat) && decide (c.toNat ≤ 102)) || (decide (65 ≤ c.toNat) && decide (c.toNat ≤ 70))
def Lx.bit (c : UInt8) : Bool := decide (c.toNat = 48) || decide (c.toNat = 49)
def Lx.skip : Bool → List UInt8 → List UInt8
  | _, [] => []
  | r, c :: t => if Lx.good c then
      let r' := (r && !decide (c.toNat = 10)) || decide (c.toNat = 59)
      if !r' && !Lx.blank c then c :: t else Lx.skip r' t
    else c :: t
def Lx.quo (q : UInt8) : List UInt8 → List UInt8 × Int × List UInt8
  | [] => ([], 51, [])
  | [c] => if Lx.good c then (if c = q then ([], 0, []) else ([c], 51, [])) else ([], 50, [c])
  | c :: d :: t => if Lx.good c then
      (if c = q then
        (if q.toNat = 34 ∧ d = q then let x := Lx.quo q t; (q :: x.1, x.2) else ([], 0, d :: t))
      else let x := Lx.quo q (d :: t); (c :: x.1, x.2))
    else ([], 50, c :: d :: t)
def Lx.digits (x : List UInt8) : Bool := !x.isEmpty && x.all Lx.digit
def Lx.number (x : List UInt8) : Int :=
  let w := x.takeWhile fun c => !decide (c.toNat = 46)
  if !Lx.digits w || (decide (1 < w.length) && decide ((x.headD 0).toNat = 48)) then 0
  else match x.dropWhile fun c => !decide (c.toNat = 46) with
    | [] => 4
    | _ :: p => if Lx.digits p then 5 else 0
def Lx.other : List UInt8 → Bool
  | _ :: d :: y => (decide (d.toNat = 120) || decide (d.toNat = 98)) && !y.isEmpty && y.all fun c => Lx.hex c && (!decide (d.toNat = 98) || Lx.bit c)
  | _ => false
def Lx.one (l : List UInt8) : Int × List UInt8 × Int × List UInt8 :=
  match l with
  | [] => (0, [], 50, [])
  | c :: t =>
    if c.toNat = 40 then (1, [c], 0, t)
    else if c.toNat = 41 then (2, [c], 0, t)
    else if c.toNat = 124 ∨ c.toNat = 34 then
      let x := Lx.quo c t
      if x.2.1 = 0 then
        (if c.toNat = 34 then (6, x.1, 0, x.2.2)
        else if x.1.any (fun d => decide (d.toNat = 92)) then (0, [], 8, l) else (3, x.1, 0, x.2.2))
      else if x.2.1 = 50 then (0, [], 50, x.2.2) else (0, [], 51, l)
    else if Lx.digit c then
      (if Lx.number (c :: t.takeWhile Lx.name) = 0 then (0, [], 8, l) else (Lx.number (c :: t.takeWhile Lx.name), c :: t.takeWhile Lx.name, 0, t.dropWhile Lx.name))
    else if Lx.name c then (3, c :: t.takeWhile Lx.name, 0, t.dropWhile Lx.name)
    else if c.toNat = 58 then (if (t.takeWhile Lx.name).isEmpty then (0, [], 8, l) else (7, c :: t.takeWhile Lx.name, 0, t.dropWhile Lx.name))
    else if c.toNat = 35 then (if Lx.other (c :: t.takeWhile Lx.name) then (8, c :: t.takeWhile Lx.name, 0, t.dropWhile Lx.name) else (0, [], 8, l))
    else (0, [], 50, l)
abbrev Lx.Tok := Int × List UInt8 × Nat
def Lx.lex : Nat → List UInt8 → List Lx.Tok × Int × List UInt8
  | k, l => match Lx.skip false l with
    | [] => ([], 0, [])
    | c :: t => if Lx.good c then
        match k with
        | 0 => ([], 2, c :: t)
        | k + 1 =>
          let x := Lx.one (c :: t)
          if x.2.2.1 = 0 then
            let y := Lx.lex k x.2.2.2
            ((x.1, x.2.1, (c :: t).length) :: y.1, y.2)
          else ([], x.2.2.1, x.2.2.2)
      else ([], 50, c :: t)
theorem Lx.skip_cons (r : Bool) (c : UInt8) (t : List UInt8) : Lx.skip r (c :: t) = if Lx.good c then (if !((r && !decide (c.toNat = 10)) || decide (c.toNat = 59)) && !Lx.blank c then c :: t else Lx.skip ((r && !decide (c.toNat = 10)) || decide (c.toNat = 59)) t) else c :: t := rfl
theorem Lx.skip_head {c : UInt8} {t : List UInt8} : ∀ (l : List UInt8) (r : Bool), Lx.skip r l = c :: t → Lx.good c = true → Lx.blank c = false ∧ c.toNat ≠ 59
  | [], r, h, _ => by cases h
  | d :: l, r, h, hc => by
    rw [Lx.skip_cons] at h
    split at h
    · split at h
      · rename_i hr
        injection h with h1 h2
        subst h1
        simp at hr
        exact ⟨by simpa using hr.2, hr.1.2⟩
      · exact Lx.skip_head l _ h hc
    · rename_i hg
      injection h with h1 h2
      subst h1
      exact absurd hc hg
theorem Lx.quo_err (q : UInt8) : ∀ l : List UInt8, (Lx.quo q l).2.1 = 0 ∨ (Lx.quo q l).2.1 = 50 ∨ (Lx.quo q l).2.1 = 51
  | [] => .inr (.inr rfl)
  | [c] => by
    unfold Lx.quo
    split
    · split
      · exact .inl rfl
      · exact .inr (.inr rfl)
    · exact .inr (.inl rfl)
  | c :: d :: t => by
    unfold Lx.quo
    split
    · split
      · split
        · exact Lx.quo_err q t
        · exact .inl rfl
      · exact Lx.quo_err q (d :: t)
    · exact .inr (.inl rfl)
end Go.Proofs.YtfjpcjebecgglaaGreatDoor
namespace Go.Proofs.YtfjpcjebecgglaaGreatDoor
section
variable {k : Nat} {l t : List UInt8} {c : UInt8}
theorem Lx.lex_nil (k : Nat) (h : Lx.skip false l = []) : Lx.lex k l = ([], 0, []) := by
  unfold Lx.lex
  rw [h]
theorem Lx.lex_bad (k : Nat) (h : Lx.skip false l = c :: t) (hg : Lx.good c = false) : Lx.lex k l = ([], 50, c :: t) := by
  unfold Lx.lex
  rw [h]
  simp [hg]
theorem Lx.lex_zero (h : Lx.skip false l = c :: t) (hg : Lx.good c = true) : Lx.lex 0 l = ([], 2, c :: t) := by
  unfold Lx.lex
  rw [h]
  simp [hg]
theorem Lx.lex_err (k : Nat) (h : Lx.skip false l = c :: t) (hg : Lx.good c = true) (he : (Lx.one (c :: t)).2.2.1 ≠ 0) : Lx.lex (k + 1) l = ([], (Lx.one (c :: t)).2.2.1, (Lx.one (c :: t)).2.2.2) := by
  rw [Lx.lex, h]
  simp [hg, he]
theorem Lx.lex_ok (k : Nat) (h : Lx.skip false l = c :: t) (hg : Lx.good c = true) (he : (Lx.one (c :: t)).2.2.1 = 0) :
    Lx.lex (k + 1) l = (((Lx.one (c :: t)).1, (Lx.one (c :: t)).2.1, (c :: t).length) :: (Lx.lex k (Lx.one (c :: t)).2.2.2).1, (Lx.lex k (Lx.one (c :: t)).2.2.2).2) := by
  rw [Lx.lex, h]
  simp [hg, he]
end
end Go.Proofs.YtfjpcjebecgglaaGreatDoor
namespace Go.Proofs.YtfjpcjebecgglaaGreatDoor
def Lx.simple (s : List UInt8) : Bool := !s.isEmpty && !Lx.digit (s.headD 0) && s.all Lx.name
def Lx.dbl : List UInt8 → List UInt8
  | [] => []
  | c :: t => if c.toNat = 34 then c :: c :: Lx.dbl t else c :: Lx.dbl t
def Lx.show (k : Int) (s : List UInt8) : List UInt8 := if k = 3 then (if Lx.simple s then s else 124 :: (s ++ [124])) else if k = 6 then 34 :: (Lx.dbl s ++ [34]) else s
structure Lx.Whole (x : List UInt8) (k : Int) (s : List UInt8) : Prop where
  one : Lx.one x = (k, s, 0, [])
  at_ : ∃ c t, x = c :: t ∧ Lx.good c = true ∧ Lx.blank c = false ∧ c.toNat ≠ 59
theorem Lx.skip_blank {b : UInt8} (m : List UInt8) (hb : Lx.blank b = true) : Lx.skip false (b :: m) = Lx.skip false m := by
  have h1 : Lx.good b = true := by simp [Lx.good, hb]
  have h2 : b.toNat ≠ 59 := by simp [Lx.blank] at hb; omega
  rw [Lx.skip_cons, if_pos h1, if_neg (by simp [hb])]
  simp [h2]
theorem Lx.skip_end : ∀ (l : List UInt8) (r : Bool), ∃ p, l = p ++ Lx.skip r l
  | [], r => ⟨[], rfl⟩
  | d :: l, r => by
    rw [Lx.skip_cons]
    split
    · split
      · exact ⟨[], rfl⟩
      · obtain ⟨p, hp⟩ := Lx.skip_end l ((r && !decide (d.toNat = 10)) || decide (d.toNat = 59))
        exact ⟨d :: p, by rw [List.cons_append, ← hp]⟩
    · exact ⟨[], rfl⟩
theorem Lx.lex_skip (k : Nat) {l l' : List UInt8} (h : Lx.skip false l = Lx.skip false l') : Lx.lex k l = Lx.lex k l' := by
  cases k <;> · unfold Lx.lex; rw [h]
abbrev Lx.says (x : Lx.Tok) : Int × List UInt8 := (x.1, x.2.1)
theorem Lx.digit_name {c : UInt8} (h : Lx.digit c = true) : Lx.name c = true := by simp [Lx.name, h]
theorem Lx.take_all (p : UInt8 → Bool) : ∀ l : List UInt8, (l.takeWhile p).all p = true
  | [] => rfl
  | c :: l => by
    rw [List.takeWhile_cons]
    split
    · rename_i h
      rw [List.all_cons, h, Lx.take_all p l]
      rfl
    · rfl
theorem Lx.all_take (p : UInt8 → Bool) : ∀ l : List UInt8, l.all p = true → l.takeWhile p = l ∧ l.dropWhile p = []
  | [], _ => ⟨rfl, rfl⟩
  | c :: l, h => by
    rw [List.all_cons, Bool.and_eq_true] at h
    obtain ⟨h1, h2⟩ := Lx.all_take p l h.2
    simp [h.1, h1, h2]
theorem Lx.take_drop (p : UInt8 → Bool) : ∀ l : List UInt8, l.takeWhile p ++ l.dropWhile p = l
  | [] => rfl
  | c :: l => by
    rw [List.takeWhile_cons, List.dropWhile_cons]
    split
    · rw [List.cons_append, Lx.take_drop p l]
    · rfl
theorem Lx.dbl_cons (c : UInt8) (t : List UInt8) : Lx.dbl (c :: t) = if c.toNat = 34 then c :: c :: Lx.dbl t else c :: Lx.dbl t := rfl
theorem Lx.byte_eq {c : UInt8} {n : Nat} (h : c.toNat = n) : c = UInt8.ofNat n := by rw [← h]; simp
end Go.Proofs.YtfjpcjebecgglaaGreatDoor
