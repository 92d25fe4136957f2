/- What a slice of limbs in memory is, and how that lasts. Nothing of the program's text but its types. -/
import Derived.Test.YtefkkmnhnldcbaaRows
import Derived.Test.YtefkkmnhnldcbaaMath
import Derived.WalkKit
import Derived.WalkSpells
import Derived.WalkLawsBesides
import Derived.Deep.QuietTactic
import Derived.BigQuiet
import Derived.Deep.Draws
import Derived.Lib.Hide
import Derived.Deep.AppendLies
import Derived.Deep.OwnRows
import Derived.Laws.CopyOwn
import Derived.Laws.Rows
namespace Go.Proofs.Ytefkkmnhnldcbaa
open Go.RowKit

theorem ret_int {k : IntKind} {a b : Int} (h : a = b) : Ending.returned (.int k a) = .returned (.int k b) := by rw [h]

/-- a call that leaves the world as it is, in a region that has drawn already -/
theorem quiet_add {P : Program} {f : FuncId} {args : Array Value} {w : World} {a n : Nat} {v : Value}
    (h : Calls P f args (w.drewN (a + n)) fun e w' => e = .returned v ∧ w' = w.drewN (a + n)) :
    Calls P f args (w.drewN (a + n)) fun e w'' => e = .returned v ∧ ∃ m, w'' = w.drewN (a + m) :=
  h.mono fun _ _ ⟨he, hm⟩ => ⟨he, n, hm⟩

/-- the slice of n cells at a holds the limbs l -/
def Lims (w : World) (a : Option Addr) (n : Nat) (l : List Nat) : Prop :=
  l.length = n ∧ M.Fit l ∧ (0 < n → ∃ b off, a = some ⟨b, off, none⟩ ∧ b < w.heap.size ∧ ∀ j, j < n → w.cell? ⟨b, off + j, none⟩ = some (.int .u32 ((l.getD j 0 : Nat) : Int)))

theorem Lims.nil_ (w : World) (a : Option Addr) : Lims w a 0 [] := ⟨rfl, M.Fit.nil, fun h => absurd h (by omega)⟩
theorem Lims.at_ {w : World} {a : Option Addr} {n : Nat} {l : List Nat} (h : Lims w a n l) (hn : 0 < n) :
    ∃ b off, a = some ⟨b, off, none⟩ ∧ b < w.heap.size ∧ ∀ j, j < n → ∃ x : Nat, Hid (x = l.getD j 0) ∧ x ≤ 4294967295 ∧ w.cell? ⟨b, off + j, none⟩ = some (.int .u32 (x : Int)) := by
  obtain ⟨h1, h2, h3⟩ := h
  obtain ⟨b, off, e, hb, hc⟩ := h3 hn
  refine ⟨b, off, e, hb, fun j hj => ⟨l.getD j 0, rfl, ?_, hc j hj⟩⟩
  have := h2 j
  rw [M.BB_eq] at this
  omega
theorem Lims.below {w w' : World} {a : Option Addr} {n : Nat} {l : List Nat} (h : Lims w a n l) (hb : Below w.heap.size w w') : Lims w' a n l :=
  ⟨h.1, h.2.1, fun hn => by
    obtain ⟨b, off, e, h1, h2⟩ := h.2.2 hn
    exact ⟨b, off, e, Nat.lt_of_lt_of_le h1 hb.size, fun j hj => (hb.cell h1).trans (h2 j hj)⟩⟩
theorem below_drewN {B : Nat} {a w : World} (h : Below B a w) (n : Nat) : Below B a (w.drewN n) := ⟨h.os, h.tape, h.output, h.size, h.block⟩
theorem Lims.drewN {w : World} {a : Option Addr} {n : Nat} {l : List Nat} (h : Lims w a n l) (k : Nat) : Lims (w.drewN k) a n l := h.below (below_drewN (Below.refl _ _) k)
theorem Lims.take {w : World} {a : Option Addr} {n : Nat} {l : List Nat} (h : Lims w a n l) {k : Nat} (hk : k ≤ n) : Lims w a k (l.take k) :=
  ⟨by rw [List.length_take, h.1]; omega, h.2.1.take k, fun hn => by
    obtain ⟨b, off, e, h1, h2⟩ := h.2.2 (by omega)
    refine ⟨b, off, e, h1, fun j hj => (h2 j (by omega)).trans ?_⟩
    congr 3
    simp [List.getD_eq_getElem?_getD, hj]⟩

/-- the cells of limbs -/
def cellsOf (l : List Nat) : List Value := l.map fun (x : Nat) => .int .u32 (x : Int)
theorem cellsOf_length (l : List Nat) : (cellsOf l).length = l.length := by simp [cellsOf]
theorem cellsOf_get {l : List Nat} {j : Nat} (h : j < l.length) : (cellsOf l)[j]? = some (.int .u32 ((l.getD j 0 : Nat) : Int)) := by
  simp [cellsOf, List.getD_eq_getElem?_getD, h]
theorem cellsOf_one {l : List Nat} : ∀ v ∈ cellsOf l, v.oneCell' = true := by
  intro v hv
  obtain ⟨x, _, rfl⟩ := List.mem_map.1 hv
  rfl

/-- block g is a row of limbs of the call's own -/
def Row (w : World) (g : Nat) (l : List Nat) : Prop := w.heap[g]? = some (.cells (cellsOf l).toArray 43 (0, 0))

theorem Row.lt {w : World} {g : Nat} {l : List Nat} (h : Row w g l) : g < w.heap.size := by
  rcases Nat.lt_or_ge g w.heap.size with hlt | hge
  · exact hlt
  · unfold Row at h; rw [Array.getElem?_eq_none hge] at h; cases h
theorem Row.cell {w : World} {g : Nat} {l : List Nat} (h : Row w g l) {j : Nat} (hj : j < l.length) : w.cell? ⟨g, j, none⟩ = some (.int .u32 ((l.getD j 0 : Nat) : Int)) := by
  rw [cell_of_row w g j _ _ (0, 0) h, List.getElem?_toArray, cellsOf_get hj]
theorem Row.frozen {w : World} {g : Nat} {l : List Nat} (h : Row w g l) (i : Nat) : w.frozen? ⟨g, i, none⟩ = false := by
  unfold Row at h
  simp [World.frozen?, h]
theorem Row.lims {w : World} {g : Nat} {l : List Nat} (h : Row w g l) (hf : M.Fit l) {n : Nat} (hn : l.length = n) : Lims w (some ⟨g, 0, none⟩) n l :=
  ⟨hn, hf, fun _ => ⟨g, 0, rfl, h.lt, fun j hj => by rw [Nat.zero_add]; exact h.cell (by omega)⟩⟩
/-- a piece of a row -/
theorem Row.lims_at {w : World} {g : Nat} {l : List Nat} (h : Row w g l) (hf : M.Fit l) {i n : Nat} (hn : i + n ≤ l.length) : Lims w (some ⟨g, i, none⟩) n ((l.drop i).take n) :=
  ⟨by simp; omega, (hf.drop i).take n, fun _ => ⟨g, i, rfl, h.lt, fun j hj => by
    rw [h.cell (by omega)]
    congr 3
    simp [List.getD_eq_getElem?_getD, hj]⟩⟩
theorem Row.below {w w' : World} {g : Nat} {l : List Nat} {B : Nat} (h : Row w g l) (hb : Below B w w') (hg : g < B) : Row w' g l := (hb.block g hg).trans h
theorem Row.drewN {w : World} {g : Nat} {l : List Nat} (h : Row w g l) (n : Nat) : Row (w.drewN n) g l := h
theorem Row.alloc {w : World} {g : Nat} {l : List Nat} (h : Row w g l) (o : Obj) : Row (w.alloc o) g l := (Below.heap_alloc w o g h.lt).trans h
theorem Row.grown {w w' : World} {g : Nat} {l : List Nat} {row : Option Nat} (h : Row w g l) (hg : w.grownBy w' row) (hne : some g ≠ row) : Row w' g l := (hg.block g h.lt hne).trans h
theorem Row.set_ {w : World} {g : Nat} {l : List Nat} (h : Row w g l) (i x : Nat) : Row (w.setCell ⟨g, i, none⟩ (.int .u32 (x : Int))) g (l.set i x) := by
  unfold Row at h ⊢
  simp [World.setCell, Array.getElem?_modify, h, cellsOf, List.map_set]
theorem Row.set_' {w : World} {g : Nat} {l : List Nat} (h : Row w g l) (i : Nat) {v : Int} (x : Nat) (hv : v = (x : Int)) : Row (w.setCell ⟨g, i, none⟩ (.int .u32 v)) g (l.set i x) := by
  rw [hv]
  exact h.set_ i x
theorem Row.far {w : World} {g : Nat} {l : List Nat} (h : Row w g l) {p : Addr} (hp : g ≠ p.block) (u : Value) : Row (w.setCell p u) g l := (Below.heap_setCell w p u g hp).trans h

theorem only_drewN {a w : World} {row : Option Nat} (h : a.grownBy w row) (n : Nat) : a.grownBy (w.drewN n) row := ⟨h.os, h.tape, h.output, h.size, h.block⟩
theorem only_setCell {a w : World} {g : Nat} (h : a.grownBy w (some g)) {p : Addr} (hp : p.block = g ∨ a.heap.size ≤ p.block) (u : Value) : a.grownBy (w.setCell p u) (some g) :=
  ⟨h.os, h.tape, h.output, by simpa [World.setCell] using h.size, fun i hi hne => (Below.heap_setCell w p u i (by
    rintro rfl
    rcases hp with hp | hp
    · exact hne (by rw [hp])
    · omega)).trans (h.block i hi hne)⟩
theorem only_below {a w : World} {g B : Nat} (h : a.grownBy w (some g)) (hB : B ≤ g) (hg : g < a.heap.size) : Below B a w :=
  (Below.refl B a).grown h (by omega) (by intro k hk; injection hk with hk; omega)
theorem Lims.only {w w' : World} {A : Option Addr} {n g : Nat} {l : List Nat} (h : Lims w A n l) (hg : w.grownBy w' (some g)) (hne : ∀ b off, A = some ⟨b, off, none⟩ → b ≠ g) : Lims w' A n l :=
  ⟨h.1, h.2.1, fun hn => by
    obtain ⟨b, off, e, h1, h2⟩ := h.2.2 hn
    exact ⟨b, off, e, Nat.lt_of_lt_of_le h1 hg.size, fun j hj => (World.cell?_of_block (hg.block b h1 (by have := hne b off e; simp; omega))).trans (h2 j hj)⟩⟩

/-- noughts, as make lays them -/
def zeros (n : Nat) : Array Value := (cellsOf (List.replicate n 0)).toArray
theorem Row.zeros_ (w : World) (n : Nat) : Row (w.alloc (.cells (zeros n) 43)) w.heap.size (List.replicate n 0) := heap_alloc_new w _

theorem Try.info_u32 : (Try.prog.info? 43).map (fun i => (i.zero, i.size, i.bytes)) = some (some (.int .u32 0), 1, 4) := by kernel_rfl
theorem Try.size_u32 : (Try.prog.info? 43).map (·.size) = some 1 := by kernel_rfl

theorem zeros_eq (n : Nat) : madeCells #[Value.int .u32 0] n = zeros n := by
  apply Array.ext
  · simp [madeCells, zeros, cellsOf]
  · intro i h1 h2
    have e : i % 1 = 0 := by omega
    simp [madeCells, zeros, cellsOf, e]

/-- make, for every world -/
theorem make_any (n : Nat) (hn : n ≤ 1099511627776) (w : World) :
    (Instr.makeSlice 22 (.int .i64 (n : Int)) (.int .i64 (n : Int))).run Try.prog w = .ok (.slice (some ⟨w.heap.size, 0, none⟩) n n) (w.alloc (.cells (zeros n) 43)) := by
  rw [← zeros_eq]
  exact run_make_row' 22 43 (.int .u32 0) 4 Try.underlying22 Try.info_u32 rfl .i64 .i64 n (by omega) (by omega) w

/-- copy of limbs onto the beginning of a row of noughts -/
theorem copy_any {w : World} {ops : Array Oper} {rest : List Oper} {o : Oper} {a : Act} {Q : Exit → Act → World → Prop} (hgd : o.guard = none) (d s : Operand)
    (ho : o.op = .call { callee := .builtin .copy, args := #[d, s], argTypes := #[22, 22] })
    {g m k n c : Nat} {A : Option Addr} {l : List Nat} (hd : a.eval d = .slice (some ⟨g, 0, none⟩) m k) (hs : a.eval s = .slice A n c)
    (hrow : Row w g (List.replicate m 0)) (hl : Lims w A n l) (hnm : n ≤ m) {w0 : World} (hb : Below g w0 w)
    (h : ∀ w', Row w' g (l ++ List.replicate (m - n) 0) → Below g w0 w' → wpList Try.prog ops Q rest (a.put o.dst (goInt n)) w') :
    wpList Try.prog ops Q (o :: rest) a w := by
  have hlen := hl.1
  refine wpList_copy_splice hgd d s 22 22 ho 43 Try.underlying22 Try.size_u32 _ _ m k n c hd hs g 0 (cellsOf (List.replicate m 0)) 43 hrow (cellsOf l)
    (by rw [cellsOf_length, hlen]; exact (Nat.min_eq_left hnm).symm) ?_ (by simp [cellsOf_length]; omega) cellsOf_one g w0 hb (Nat.le_refl _) ?_
  · intro h0
    rw [cellsOf_length, hlen] at h0
    obtain ⟨b, off, e, _, hc⟩ := hl.2.2 h0
    refine ⟨rfl, _, e, fun j v hv => ?_⟩
    have hj : j < l.length := by
      rcases Nat.lt_or_ge j l.length with h1 | h1
      · exact h1
      · rw [List.getElem?_eq_none (by rw [cellsOf_length]; exact h1)] at hv; cases hv
    rw [cellsOf_get hj] at hv
    injection hv with hv
    subst hv
    have := hc j (by omega)
    unfold Addr.add
    split <;> simp_all
  · intro w' hr hb'
    have hr := hr.out
    have e : splice (cellsOf (List.replicate m 0)) 0 (cellsOf l) = cellsOf (l ++ List.replicate (m - n) 0) := by
      simp [splice, cellsOf, hlen]
    rw [e] at hr
    rw [cellsOf_length, hlen]
    exact h w' hr hb'

theorem lims_two (w : World) (x y : Nat) (hx : x ≤ 4294967295) (hy : y ≤ 4294967295) : Lims (w.alloc (.cells #[.int .u32 (x : Int), .int .u32 (y : Int)] 43)) (some ⟨w.heap.size, 0, none⟩) 2 [x, y] :=
  Row.lims (l := [x, y]) (heap_alloc_new w _) (M.Fit.cons (by rw [M.BB_eq]; omega) (M.Fit.cons (by rw [M.BB_eq]; omega) M.Fit.nil)) rfl
theorem lims_one (w : World) (x : Nat) (hx : x ≤ 4294967295) : Lims (w.alloc (.cells #[.int .u32 (x : Int)] 43)) (some ⟨w.heap.size, 0, none⟩) 1 [x] :=
  Row.lims (l := [x]) (heap_alloc_new w _) (M.Fit.cons (by rw [M.BB_eq]; omega) M.Fit.nil) rfl

end Go.Proofs.Ytefkkmnhnldcbaa
