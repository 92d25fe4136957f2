/- several texts in one. -/
import Derived.Test.YtiehkciofggonaaRows
import Derived.Test.YtiehkciofggonaaGM
import Derived.WalkKit
import Derived.WalkSpells
import Derived.WalkLawsBesides
import Derived.Deep.QuietTactic
import Derived.BigQuiet
import Derived.Deep.Draws
import Derived.Lib.Hide
import Derived.Deep.AppendLies
import Derived.Deep.OwnRows
import Derived.Laws.CopyOwn
import Derived.Laws.Rows
import Derived.Deep.DeepCutAuto
/- What a slice of limbs in memory is, and how that lasts. Nothing of the program's text but its types. -/
namespace Go.Proofs.Ytiehkciofggonaa
open Go.RowKit

theorem ret_int {k : IntKind} {a b : Int} (h : a = b) : Ending.returned (.int k a) = .returned (.int k b) := by rw [h]

/-- a call that leaves the world as it is, in a region that has drawn already -/
theorem quiet_add {P : Program} {f : FuncId} {args : Array Value} {w : World} {a n : Nat} {v : Value}
    (h : Calls P f args (w.drewN (a + n)) fun e w' => e = .returned v ∧ w' = w.drewN (a + n)) :
    Calls P f args (w.drewN (a + n)) fun e w'' => e = .returned v ∧ ∃ m, w'' = w.drewN (a + m) :=
  h.mono fun _ _ ⟨he, hm⟩ => ⟨he, n, hm⟩

/-- the slice of n cells at a holds the limbs l -/
def Lims (w : World) (a : Option Addr) (n : Nat) (l : List Nat) : Prop :=
  l.length = n ∧ M.Fit l ∧ (0 < n → ∃ b off, a = some ⟨b, off, none⟩ ∧ b < w.heap.size ∧ ∀ j, j < n → w.cell? ⟨b, off + j, none⟩ = some (.int .u32 ((l.getD j 0 : Nat) : Int)))

theorem Lims.nil_ (w : World) (a : Option Addr) : Lims w a 0 [] := ⟨rfl, M.Fit.nil, fun h => absurd h (by omega)⟩
theorem Lims.at_ {w : World} {a : Option Addr} {n : Nat} {l : List Nat} (h : Lims w a n l) (hn : 0 < n) :
    ∃ b off, a = some ⟨b, off, none⟩ ∧ b < w.heap.size ∧ ∀ j, j < n → ∃ x : Nat, Hid (x = l.getD j 0) ∧ x ≤ 4294967295 ∧ w.cell? ⟨b, off + j, none⟩ = some (.int .u32 (x : Int)) := by
  obtain ⟨h1, h2, h3⟩ := h
  obtain ⟨b, off, e, hb, hc⟩ := h3 hn
  refine ⟨b, off, e, hb, fun j hj => ⟨l.getD j 0, rfl, ?_, hc j hj⟩⟩
  have := h2 j
  rw [M.BB_eq] at this
  omega
theorem Lims.below {w w' : World} {a : Option Addr} {n : Nat} {l : List Nat} (h : Lims w a n l) (hb : Below w.heap.size w w') : Lims w' a n l :=
  ⟨h.1, h.2.1, fun hn => by
    obtain ⟨b, off, e, h1, h2⟩ := h.2.2 hn
    exact ⟨b, off, e, Nat.lt_of_lt_of_le h1 hb.size, fun j hj => (hb.cell h1).trans (h2 j hj)⟩⟩
theorem below_drewN {B : Nat} {a w : World} (h : Below B a w) (n : Nat) : Below B a (w.drewN n) := ⟨h.os, h.tape, h.output, h.size, h.block⟩
theorem Lims.drewN {w : World} {a : Option Addr} {n : Nat} {l : List Nat} (h : Lims w a n l) (k : Nat) : Lims (w.drewN k) a n l := h.below (below_drewN (Below.refl _ _) k)
theorem Lims.take {w : World} {a : Option Addr} {n : Nat} {l : List Nat} (h : Lims w a n l) {k : Nat} (hk : k ≤ n) : Lims w a k (l.take k) :=
  ⟨by rw [List.length_take, h.1]; omega, h.2.1.take k, fun hn => by
    obtain ⟨b, off, e, h1, h2⟩ := h.2.2 (by omega)
    refine ⟨b, off, e, h1, fun j hj => (h2 j (by omega)).trans ?_⟩
    congr 3
    simp [List.getD_eq_getElem?_getD, hj]⟩

/-- the cells of limbs -/
def cellsOf (l : List Nat) : List Value := l.map fun (x : Nat) => .int .u32 (x : Int)
theorem cellsOf_length (l : List Nat) : (cellsOf l).length = l.length := by simp [cellsOf]
theorem cellsOf_get {l : List Nat} {j : Nat} (h : j < l.length) : (cellsOf l)[j]? = some (.int .u32 ((l.getD j 0 : Nat) : Int)) := by
  simp [cellsOf, List.getD_eq_getElem?_getD, h]
theorem cellsOf_one {l : List Nat} : ∀ v ∈ cellsOf l, v.oneCell' = true := by
  intro v hv
  obtain ⟨x, _, rfl⟩ := List.mem_map.1 hv
  rfl

/-- block g is a row of limbs of the call's own -/
def Row (w : World) (g : Nat) (l : List Nat) : Prop := w.heap[g]? = some (.cells (cellsOf l).toArray 57 (0, 0))

theorem Row.lt {w : World} {g : Nat} {l : List Nat} (h : Row w g l) : g < w.heap.size := by
  rcases Nat.lt_or_ge g w.heap.size with hlt | hge
  · exact hlt
  · unfold Row at h; rw [Array.getElem?_eq_none hge] at h; cases h
theorem Row.cell {w : World} {g : Nat} {l : List Nat} (h : Row w g l) {j : Nat} (hj : j < l.length) : w.cell? ⟨g, j, none⟩ = some (.int .u32 ((l.getD j 0 : Nat) : Int)) := by
  rw [cell_of_row w g j _ _ (0, 0) h, List.getElem?_toArray, cellsOf_get hj]
theorem Row.frozen {w : World} {g : Nat} {l : List Nat} (h : Row w g l) (i : Nat) : w.frozen? ⟨g, i, none⟩ = false := by
  unfold Row at h
  simp [World.frozen?, h]
theorem Row.lims {w : World} {g : Nat} {l : List Nat} (h : Row w g l) (hf : M.Fit l) {n : Nat} (hn : l.length = n) : Lims w (some ⟨g, 0, none⟩) n l :=
  ⟨hn, hf, fun _ => ⟨g, 0, rfl, h.lt, fun j hj => by rw [Nat.zero_add]; exact h.cell (by omega)⟩⟩
/-- a piece of a row -/
theorem Row.lims_at {w : World} {g : Nat} {l : List Nat} (h : Row w g l) (hf : M.Fit l) {i n : Nat} (hn : i + n ≤ l.length) : Lims w (some ⟨g, i, none⟩) n ((l.drop i).take n) :=
  ⟨by simp; omega, (hf.drop i).take n, fun _ => ⟨g, i, rfl, h.lt, fun j hj => by
    rw [h.cell (by omega)]
    congr 3
    simp [List.getD_eq_getElem?_getD, hj]⟩⟩
theorem Row.below {w w' : World} {g : Nat} {l : List Nat} {B : Nat} (h : Row w g l) (hb : Below B w w') (hg : g < B) : Row w' g l := (hb.block g hg).trans h
theorem Row.drewN {w : World} {g : Nat} {l : List Nat} (h : Row w g l) (n : Nat) : Row (w.drewN n) g l := h
theorem Row.alloc {w : World} {g : Nat} {l : List Nat} (h : Row w g l) (o : Obj) : Row (w.alloc o) g l := (Below.heap_alloc w o g h.lt).trans h
theorem Row.grown {w w' : World} {g : Nat} {l : List Nat} {row : Option Nat} (h : Row w g l) (hg : w.grownBy w' row) (hne : some g ≠ row) : Row w' g l := (hg.block g h.lt hne).trans h
theorem Row.set_ {w : World} {g : Nat} {l : List Nat} (h : Row w g l) (i x : Nat) : Row (w.setCell ⟨g, i, none⟩ (.int .u32 (x : Int))) g (l.set i x) := by
  unfold Row at h ⊢
  simp [World.setCell, Array.getElem?_modify, h, cellsOf, List.map_set]
theorem Row.set_' {w : World} {g : Nat} {l : List Nat} (h : Row w g l) (i : Nat) {v : Int} (x : Nat) (hv : v = (x : Int)) : Row (w.setCell ⟨g, i, none⟩ (.int .u32 v)) g (l.set i x) := by
  rw [hv]
  exact h.set_ i x
theorem Row.far {w : World} {g : Nat} {l : List Nat} (h : Row w g l) {p : Addr} (hp : g ≠ p.block) (u : Value) : Row (w.setCell p u) g l := (Below.heap_setCell w p u g hp).trans h

theorem only_drewN {a w : World} {row : Option Nat} (h : a.grownBy w row) (n : Nat) : a.grownBy (w.drewN n) row := ⟨h.os, h.tape, h.output, h.size, h.block⟩
theorem only_setCell {a w : World} {g : Nat} (h : a.grownBy w (some g)) {p : Addr} (hp : p.block = g ∨ a.heap.size ≤ p.block) (u : Value) : a.grownBy (w.setCell p u) (some g) :=
  ⟨h.os, h.tape, h.output, by simpa [World.setCell] using h.size, fun i hi hne => (Below.heap_setCell w p u i (by
    rintro rfl
    rcases hp with hp | hp
    · exact hne (by rw [hp])
    · omega)).trans (h.block i hi hne)⟩
theorem only_below {a w : World} {g B : Nat} (h : a.grownBy w (some g)) (hB : B ≤ g) (hg : g < a.heap.size) : Below B a w :=
  (Below.refl B a).grown h (by omega) (by intro k hk; injection hk with hk; omega)
theorem Lims.only {w w' : World} {A : Option Addr} {n g : Nat} {l : List Nat} (h : Lims w A n l) (hg : w.grownBy w' (some g)) (hne : ∀ b off, A = some ⟨b, off, none⟩ → b ≠ g) : Lims w' A n l :=
  ⟨h.1, h.2.1, fun hn => by
    obtain ⟨b, off, e, h1, h2⟩ := h.2.2 hn
    exact ⟨b, off, e, Nat.lt_of_lt_of_le h1 hg.size, fun j hj => (World.cell?_of_block (hg.block b h1 (by have := hne b off e; simp; omega))).trans (h2 j hj)⟩⟩

/-- noughts, as make lays them -/
def zeros (n : Nat) : Array Value := (cellsOf (List.replicate n 0)).toArray
theorem Row.zeros_ (w : World) (n : Nat) : Row (w.alloc (.cells (zeros n) 57)) w.heap.size (List.replicate n 0) := heap_alloc_new w _

theorem Try.info_u32 : (Try.prog.info? 57).map (fun i => (i.zero, i.size, i.bytes)) = some (some (.int .u32 0), 1, 4) := by kernel_rfl
theorem Try.size_u32 : (Try.prog.info? 57).map (·.size) = some 1 := by kernel_rfl

theorem zeros_eq (n : Nat) : madeCells #[Value.int .u32 0] n = zeros n := by
  apply Array.ext
  · simp [madeCells, zeros, cellsOf]
  · intro i h1 h2
    have e : i % 1 = 0 := by omega
    simp [madeCells, zeros, cellsOf, e]

/-- make, for every world -/
theorem make_any (n : Nat) (hn : n ≤ 1099511627776) (w : World) :
    (Instr.makeSlice 22 (.int .i64 (n : Int)) (.int .i64 (n : Int))).run Try.prog w = .ok (.slice (some ⟨w.heap.size, 0, none⟩) n n) (w.alloc (.cells (zeros n) 57)) := by
  rw [← zeros_eq]
  exact run_make_row' 22 57 (.int .u32 0) 4 Try.underlying22 Try.info_u32 rfl .i64 .i64 n (by omega) (by omega) w

/-- copy of limbs onto the beginning of a row of noughts -/
theorem copy_any {w : World} {ops : Array Oper} {rest : List Oper} {o : Oper} {a : Act} {Q : Exit → Act → World → Prop} (hgd : o.guard = none) (d s : Operand)
    (ho : o.op = .call { callee := .builtin .copy, args := #[d, s], argTypes := #[22, 22] })
    {g m k n c : Nat} {A : Option Addr} {l : List Nat} (hd : a.eval d = .slice (some ⟨g, 0, none⟩) m k) (hs : a.eval s = .slice A n c)
    (hrow : Row w g (List.replicate m 0)) (hl : Lims w A n l) (hnm : n ≤ m) {w0 : World} (hb : Below g w0 w)
    (h : ∀ w', Row w' g (l ++ List.replicate (m - n) 0) → Below g w0 w' → wpList Try.prog ops Q rest (a.put o.dst (goInt n)) w') :
    wpList Try.prog ops Q (o :: rest) a w := by
  have hlen := hl.1
  refine wpList_copy_splice hgd d s 22 22 ho 57 Try.underlying22 Try.size_u32 _ _ m k n c hd hs g 0 (cellsOf (List.replicate m 0)) 57 hrow (cellsOf l)
    (by rw [cellsOf_length, hlen]; exact (Nat.min_eq_left hnm).symm) ?_ (by simp [cellsOf_length]; omega) cellsOf_one g w0 hb (Nat.le_refl _) ?_
  · intro h0
    rw [cellsOf_length, hlen] at h0
    obtain ⟨b, off, e, _, hc⟩ := hl.2.2 h0
    refine ⟨rfl, _, e, fun j v hv => ?_⟩
    have hj : j < l.length := by
      rcases Nat.lt_or_ge j l.length with h1 | h1
      · exact h1
      · rw [List.getElem?_eq_none (by rw [cellsOf_length]; exact h1)] at hv; cases hv
    rw [cellsOf_get hj] at hv
    injection hv with hv
    subst hv
    have := hc j (by omega)
    unfold Addr.add
    split <;> simp_all
  · intro w' hr hb'
    have hr := hr.out
    have e : splice (cellsOf (List.replicate m 0)) 0 (cellsOf l) = cellsOf (l ++ List.replicate (m - n) 0) := by
      simp [splice, cellsOf, hlen]
    rw [e] at hr
    rw [cellsOf_length, hlen]
    exact h w' hr hb'

theorem lims_two (w : World) (x y : Nat) (hx : x ≤ 4294967295) (hy : y ≤ 4294967295) : Lims (w.alloc (.cells #[.int .u32 (x : Int), .int .u32 (y : Int)] 57)) (some ⟨w.heap.size, 0, none⟩) 2 [x, y] :=
  Row.lims (l := [x, y]) (heap_alloc_new w _) (M.Fit.cons (by rw [M.BB_eq]; omega) (M.Fit.cons (by rw [M.BB_eq]; omega) M.Fit.nil)) rfl
theorem lims_one (w : World) (x : Nat) (hx : x ≤ 4294967295) : Lims (w.alloc (.cells #[.int .u32 (x : Int)] 57)) (some ⟨w.heap.size, 0, none⟩) 1 [x] :=
  Row.lims (l := [x]) (heap_alloc_new w _) (M.Fit.cons (by rw [M.BB_eq]; omega) M.Fit.nil) rfl

end Go.Proofs.Ytiehkciofggonaa

/- nat: trim, limb, sign, small: what each answers. -/
namespace Go.Proofs.Ytiehkciofggonaa
open Go.RowKit

/-- trim's answer -/
def Trimmed (w : World) (l : List Nat) (cap : Nat) (e : Ending) (w' : World) : Prop :=
  ∃ A n c, e = .returned (.slice A n c) ∧ Lims w A n (l.take n) ∧ M.Top (l.take n) ∧ M.val (l.take n) = M.val l ∧ n ≤ l.length ∧ n ≤ c ∧ c ≤ cap ∧ w = w'

theorem trimmed_zero {w : World} {l : List Nat} {cap : Nat} (hz : ∀ j, 0 ≤ j → l.getD j 0 = 0) : Trimmed w l cap (.returned (.slice none 0 0)) w :=
  ⟨none, 0, 0, rfl, by simpa using Lims.nil_ w none, by simpa using M.Top.nil, M.val_zeros l 0 hz, by omega, by omega, by omega, rfl⟩
theorem trimmed_some {w : World} {A : Option Addr} {n c k : Nat} {l : List Nat} (h : Lims w A n l) (hk : k ≤ n) (hn : n ≤ c) (h0 : 0 < k) (hx : l.getD (k - 1) 0 ≠ 0) (hz : ∀ j, k ≤ j → l.getD j 0 = 0) :
    Trimmed w l c (.returned (.slice A k c)) w := by
  refine ⟨A, k, c, rfl, h.take hk, fun _ => ?_, M.val_zeros l k hz, by rw [h.1]; exact hk, by omega, by omega, rfl⟩
  rw [List.length_take, h.1, Nat.min_eq_left hk]
  simpa [List.getD_eq_getElem?_getD, List.getElem?_take, show k - 1 < k from by omega] using hx

/-- and where it lies -/
def TrimmedAt (w : World) (A : Option Addr) (l : List Nat) (cap : Nat) (e : Ending) (w' : World) : Prop :=
  Trimmed w l cap e w' ∧ (e = .returned (.slice none 0 0) ∨ ∃ n c, 0 < n ∧ e = .returned (.slice A n c))

theorem trim_at (A : Option Addr) (n c : Nat) (l : List Nat) (w : World) (h : Lims w A n l) (hn : n ≤ c) (hc : c ≤ maxLen) :
    Calls Try.prog 60 #[.slice A n c] w (TrimmedAt w A l c) := by
  unfold maxLen at hc
  go_enter Try.func60, Try.ntmps60
  go_wp2
  go_loop [3] (fun t => ∃ k : Nat, k ≤ n ∧ t = .int .i64 k ∧ ∀ j, k ≤ j → l.getD j 0 = 0) (fun t => (intOf t).toNat)
  case atStart => exact ⟨n, Nat.le_refl _, rfl, fun j hj => M.getD_ge (by rw [h.1]; exact hj)⟩
  case round =>
    obtain ⟨k, hk, rfl, hz⟩ := hrel
    have HZ := Lib.hid hz
    clear hz
    by_cases h0 : 0 < k
    · obtain ⟨b, off, rfl, hb, hcs⟩ := h.at_ (by omega)
      obtain ⟨x, HX, hx, hcell⟩ := hcs (k - 1) (by omega)
      clear hcs
      by_cases hx0 : x = 0
      · subst hx0
        go_wp2
        go_round
        case rel => exact ⟨k - 1, by omega, by go_num, fun j hj => by
          by_cases e : j = k - 1
          · subst e; exact HX.out.symm
          · exact HZ.out j (by omega)⟩
        case measure => simp [intOf]; omega
      · have hx1 : ((x : Int) == 0) = false := by simpa using hx0
        have hk1 : ((k : Int) == 0) = false := by simp; omega
        clear hx0
        go_wp2
        go_ret
        exact ⟨trimmed_some h hk hn h0 (by rw [← HX.out]; simpa using hx1) HZ.out, .inr ⟨k, c, h0, rfl⟩⟩
    · go_wp2
      go_ret
      exact ⟨trimmed_zero fun j _ => HZ.out j (by omega), .inl rfl⟩
theorem trim_any (A : Option Addr) (n c : Nat) (l : List Nat) (w : World) (h : Lims w A n l) (hn : n ≤ c) (hc : c ≤ maxLen) :
    Calls Try.prog 60 #[.slice A n c] w (Trimmed w l c) := (trim_at A n c l w h hn hc).mono fun _ _ h => h.1

/-- limb's answer -/
theorem limb_any (A : Option Addr) (n c i : Nat) (l : List Nat) (w : World) (h : Lims w A n l) (hc : n ≤ maxLen) (hi : i ≤ maxLen) :
    Calls Try.prog 81 #[.slice A n c, .int .i64 i] w fun e w' => e = .returned (.int .u64 (l.getD i 0 : Nat)) ∧ w = w' := by
  unfold maxLen at hc hi
  by_cases hlt : i < n
  · obtain ⟨b, off, rfl, hb, hcs⟩ := h.at_ (by omega)
    obtain ⟨x, HX, hx, hcell⟩ := hcs i hlt
    rw [← HX.out]
    clear hcs
    go_enter Try.func81, Try.ntmps81
    go_wp2
    go_ret
    exact ⟨rfl, rfl⟩
  · rw [M.getD_ge (by rw [h.1]; omega)]
    go_enter Try.func81, Try.ntmps81
    go_wp2
    go_ret
    exact ⟨rfl, rfl⟩

theorem sign_any (b : Bool) (w : World) : Calls Try.prog 71 #[.bool b] w fun e w' => e = .returned (.int .i64 (if b then -1 else 1)) ∧ w = w' := by
  cases b
  · go_enter Try.func71, Try.ntmps71
    go_wp2
    go_ret
    exact ⟨rfl, rfl⟩
  · go_enter Try.func71, Try.ntmps71
    go_wp2
    go_ret
    exact ⟨rfl, rfl⟩

theorem limb_at {A : Option Addr} {n c i x : Nat} {l : List Nat} {w : World} (h : Lims w A n l) (hc : n ≤ maxLen) (hi : i ≤ maxLen) (hx : Hid (x = l.getD i 0)) :
    Calls Try.prog 81 #[.slice A n c, .int .i64 i] w fun e w' => e = .returned (.int .u64 (x : Nat)) ∧ w = w' := by
  rw [hx.out]
  exact limb_any A n c i l w h hc hi

theorem or_val (x y : Nat) (hx : x ≤ 4294967295) (hy : y ≤ 4294967295) : bits .or .u64 ((y : Int) * 4294967296) (x : Int) = ((x + 4294967296 * y : Nat) : Int) := by
  rw [show (y : Int) * 4294967296 = ((4294967296 * y : Nat) : Int) from by omega, Go.u64_or_nat _ _ (by omega) (by omega)]
  congr 1
  have := Nat.two_pow_add_eq_or_of_lt (i := 32) (b := x) (by omega) y
  simp only [show (2 : Nat) ^ 32 = 4294967296 from rfl] at this
  rw [← this]
  omega

theorem small_yes (A : Option Addr) (n c : Nat) (l : List Nat) (w : World) (h : Lims w A n l) (hn : n ≤ 2) :
    Calls Try.prog 77 #[.slice A n c] w fun e w' => e = .returned (.tuple #[.int .u64 (M.val l : Nat), .bool true]) ∧ w = w' := by
  obtain ⟨x, HX⟩ : ∃ x, Hid (x = l.getD 0 0) := ⟨_, rfl⟩
  obtain ⟨y, HY⟩ : ∃ y, Hid (y = l.getD 1 0) := ⟨_, rfl⟩
  have hx : x ≤ 4294967295 := by have := h.2.1 0; rw [← HX.out, M.BB_eq] at this; omega
  have hy : y ≤ 4294967295 := by have := h.2.1 1; rw [← HY.out, M.BB_eq] at this; omega
  have hv : M.val l = x + 4294967296 * y := by
    rw [HX.out, HY.out]
    have := h.1
    match l, this with
    | [], _ => simp [M.val]
    | [a], _ => simp [M.val]
    | [a, b], _ => simp [M.val, M.BB_eq]
    | _ :: _ :: _ :: _, e => simp at e; omega
  rw [hv]
  clear hv
  have ho := or_val x y hx hy
  go_enter Try.func77, Try.ntmps77
  go_wp2_with fail
  refine (limb_at h (by unfold maxLen; omega) (by unfold maxLen; omega) HY).mono ?_
  rintro e w1 ⟨rfl, rfl⟩
  go_wp2_with fail
  refine (limb_at h (by unfold maxLen; omega) (by unfold maxLen; omega) HX).mono ?_
  rintro e w1 ⟨rfl, rfl⟩
  go_wp2_with fail
  go_ret2
  exact ⟨rfl, rfl⟩

theorem small_no (A : Option Addr) (n c : Nat) (w : World) (hn : 2 < n) :
    Calls Try.prog 77 #[.slice A n c] w fun e w' => e = .returned (.tuple #[.int .u64 0, .bool false]) ∧ w = w' := by
  go_enter Try.func77, Try.ntmps77
  go_wp2
  go_ret2
  exact ⟨rfl, rfl⟩

end Go.Proofs.Ytiehkciofggonaa

/- nat: Of, Int, Cmp, Norm; the reference's Same: what each answers. -/
namespace Go.Proofs.Ytiehkciofggonaa
open Go.RowKit

/-- v is the number N in memory, in its own form -/
def Num (w : World) (v : Value) (N : Nat) : Prop :=
  ∃ A n c l, v = .slice A n c ∧ Lims w A n l ∧ M.Top l ∧ M.val l = N ∧ n ≤ c ∧ c ≤ maxLen
/-- the call answers the number N, and leaves what was there -/
def Gives (W : World) (N : Nat) (e : Ending) (w' : World) : Prop := ∃ v, e = .returned v ∧ Num w' v N ∧ Below W.heap.size W w'

theorem Num.below {w w' : World} {v : Value} {N : Nat} (h : Num w v N) (hb : Below w.heap.size w w') : Num w' v N := by
  obtain ⟨A, n, c, l, e, h1, h2⟩ := h
  exact ⟨A, n, c, l, e, h1.below hb, h2⟩
theorem Trimmed.gives {W w : World} {l : List Nat} {cap : Nat} {e : Ending} {w' : World} (h : Trimmed w l cap e w') (hc : cap ≤ maxLen) (hb : Below W.heap.size W w) : Gives W (M.val l) e w' := by
  obtain ⟨A, n, c, rfl, h1, h2, h3, h4, h5, h6, rfl⟩ := h
  exact ⟨_, rfl, ⟨A, n, c, _, rfl, h1, h2, h3, h5, by omega⟩, hb⟩

theorem of_any (x : Nat) (w : World) (hx : x ≤ 18446744073709551615) :
    Calls Try.prog 54 #[.int .u64 x] w (Gives w x) := by
  have hv : M.val [x % 4294967296, x / 4294967296] = x := by simp [M.val, M.BB_eq]; omega
  have HT := Lib.hid (trim_any (some ⟨w.heap.size, 0, none⟩) 2 2 [x % 4294967296, x / 4294967296] _ (lims_two w (x % 4294967296) (x / 4294967296) (by omega) (by omega)) (by omega) (by unfold maxLen; omega))
  have HV := Lib.hid hv
  clear hv
  go_enter Try.func54, Try.ntmps54
  go_wp2_with fail
  refine HT.out.mono ?_
  rintro e w1 ⟨A, n, c, rfl, h⟩
  go_wp2_with fail
  go_ret
  have := Trimmed.gives (W := w) ⟨A, n, c, rfl, h⟩ (by unfold maxLen; omega) ((Below.refl _ _).alloc (Nat.le_refl _) _)
  rw [HV.out] at this
  exact this

set_option maxRecDepth 100000 in
theorem int_small (A : Option Addr) (n c : Nat) (l : List Nat) (w : World) (h : Lims w A n l) (hn : n ≤ c) (hc : c ≤ maxLen) (hv : (M.val l : Int) < 4611686018427387904) :
    Calls Try.prog 56 #[.slice A n c] w fun e w' => e = .returned (.tuple #[.int .i64 (M.val l : Nat), .bool true]) ∧ w = w' := by
  obtain ⟨x, HX⟩ : ∃ x, Hid (x = M.val l) := ⟨_, rfl⟩
  rw [← HX.out] at hv ⊢
  have HV := Lib.hid hv
  clear hv
  go_enter Try.func56, Try.ntmps56
  go_wp2_with fail
  refine (trim_any _ _ _ _ _ h hn hc).mono ?_
  rintro e w1 ⟨A', n', c', rfl, h1, h2, h3, h4, h5, h6, rfl⟩
  have hn2 : n' ≤ 2 := M.len_le h2 h1.1 (k := 2) (by rw [h3, ← HX.out]; simp [M.BB_eq]; have := HV.out; omega)
  have HS := Lib.hid (small_yes A' n' c' _ w h1 hn2)
  rw [h3, ← HX.out] at HS
  clear h3 h2
  go_wp2_with fail
  refine HS.out.mono ?_
  rintro e w1 ⟨rfl, rfl⟩
  have hb : decide ((4611686018427387904 : Int) ≤ (x : Int)) = false := by rw [decide_eq_false_iff_not]; have := HV.out; omega
  have hw : IntKind.i64.wrap (x : Int) = (x : Int) := IntWalk.i64_in _ (by have := HV.out; omega)
  go_wp2_with fail
  go_ret2
  exact ⟨rfl, rfl⟩

set_option maxRecDepth 100000 in
theorem int_great (A : Option Addr) (n c : Nat) (l : List Nat) (w : World) (h : Lims w A n l) (hn : n ≤ c) (hc : c ≤ maxLen) (hv : 4611686018427387904 ≤ (M.val l : Int)) :
    Calls Try.prog 56 #[.slice A n c] w fun e w' => e = .returned (.tuple #[.int .i64 0, .bool false]) ∧ w = w' := by
  obtain ⟨x, HX⟩ : ∃ x, Hid (x = M.val l) := ⟨_, rfl⟩
  rw [← HX.out] at hv
  have HV := Lib.hid hv
  clear hv
  go_enter Try.func56, Try.ntmps56
  go_wp2_with fail
  refine (trim_any _ _ _ _ _ h hn hc).mono ?_
  rintro e w1 ⟨A', n', c', rfl, h1, h2, h3, h4, h5, h6, rfl⟩
  by_cases hn2 : n' ≤ 2
  · have HS := Lib.hid (small_yes A' n' c' _ w h1 hn2)
    have hx : x < 18446744073709551616 := by
      have := M.val_lt h1.2.1
      rw [h3, ← HX.out, h1.1] at this
      exact Nat.lt_of_lt_of_le this (Nat.le_trans (Nat.pow_le_pow_right M.BB_pos hn2) (by simp [M.BB_eq]))
    rw [h3, ← HX.out] at HS
    clear h3 h2
    have HX2 := Lib.hid hx
    clear hx
    go_wp2_with fail
    refine HS.out.mono ?_
    rintro e w1 ⟨rfl, rfl⟩
    have hv := HV.out
    go_wp2_with fail
    go_ret2
    exact ⟨rfl, rfl⟩
  · clear h3 h2
    go_wp2_with fail
    refine (small_no A' n' c' w (by omega)).mono ?_
    rintro e w1 ⟨rfl, rfl⟩
    go_wp2_with fail
    go_ret2
    exact ⟨rfl, rfl⟩

/-- Same: are two lists the same? -/
theorem same_any (A B : Option Addr) (n m c d : Nat) (k l : List Nat) (w : World) (hk : Lims w A n k) (hl : Lims w B m l) (hn : n ≤ maxLen) (hm : m ≤ maxLen) :
    Calls Try.prog 38 #[.slice A n c, .slice B m d] w fun e w' => e = .returned (.bool (decide (k = l))) ∧ ∃ j, w' = w.drewN j := by
  unfold maxLen at hn hm
  by_cases hnm : n = m
  · subst hnm
    go_enter Try.func38, Try.ntmps38
    go_wp2_with fail
    go_loopw [5] (fun i wr => ∃ k' : Nat, k' ≤ n ∧ i = .int .i64 k' ∧ (∀ j, j < k' → k.getD j 0 = l.getD j 0) ∧ ∃ q, wr = w.drewN q) (fun i _ => n - (intOf i).toNat)
    case atStart => exact ⟨0, Nat.zero_le _, rfl, fun j hj => by omega, 0, rfl⟩
    case round =>
      obtain ⟨i, hi, rfl, hz, q, rfl⟩ := hrel
      have HZ := Lib.hid hz
      clear hz
      by_cases hlt : i < n
      · obtain ⟨b, off, rfl, _, hc1⟩ := hk.at_ (by omega)
        obtain ⟨x, HX, hx, hcx⟩ := hc1 i hlt
        obtain ⟨b', off', rfl, _, hc2⟩ := hl.at_ (by omega)
        obtain ⟨y, HY, hy, hcy⟩ := hc2 i hlt
        clear hc1 hc2
        by_cases hxy : x = y
        · subst hxy
          go_wp2_with fail
          go_quiet (fail)
          go_wp2
          go_roundw
          case rel => exact ⟨i + 1, by omega, by go_num, fun j hj => by
            by_cases e : j = i
            · subst e; rw [← HX.out, ← HY.out]
            · exact HZ.out j (by omega), _, rfl⟩
          case measure => simp [intOf]; omega
        · have hxy' : ((x : Int) == (y : Int)) = false := by simp; omega
          have hne : decide (k = l) = false := by
            rw [decide_eq_false_iff_not]; rintro rfl; exact hxy (HX.out.trans HY.out.symm)
          clear hxy
          have HN := Lib.hid hne
          clear hne
          go_wp2_with fail
          go_quiet (fail)
          go_wp2
          go_ret
          rw [HN.out]
          exact ⟨rfl, _, World.drewN_drewN _ _ _⟩
      · have hkl : decide (k = l) = true := by
          rw [decide_eq_true_iff]
          have e1 := hk.1
          have e2 := hl.1
          refine List.ext_getElem (by omega) fun j h1 h2 => ?_
          have := HZ.out j (by omega)
          rwa [M.getD_lt h1, M.getD_lt h2] at this
        have HK := Lib.hid hkl
        clear hkl
        go_wp2
        go_ret
        rw [HK.out]
        exact ⟨rfl, _, rfl⟩
  · have e : decide (k = l) = false := by
      rw [decide_eq_false_iff_not]; rintro rfl; exact hnm (hk.1.symm.trans hl.1)
    rw [e]
    have hnm' : ((n : Int) == (m : Int)) = false := by simp; omega
    clear hnm e
    go_enter Try.func38, Try.ntmps38
    go_wp2
    go_ret
    exact ⟨rfl, 0, rfl⟩
end Go.Proofs.Ytiehkciofggonaa

/- nat: Norm, Cmp: what each answers. -/
namespace Go.Proofs.Ytiehkciofggonaa
open Go.RowKit

/-- Norm's answer: nil, or a row of its own -/
def Normed (W : World) (N n : Nat) (e : Ending) (w' : World) : Prop :=
  ∃ l : List Nat, M.Fit l ∧ M.Top l ∧ M.val l = N ∧ l.length ≤ n ∧ Below W.heap.size W w' ∧
    ((l = [] ∧ e = .returned (.slice none 0 0)) ∨ (e = .returned (.slice (some ⟨W.heap.size, 0, none⟩) l.length l.length) ∧ Row w' W.heap.size l))

theorem norm_row (A : Option Addr) (n c : Nat) (l : List Nat) (w : World) (h : Lims w A n l) (hn : n ≤ c) (hc : c ≤ maxLen) (hs : n ≤ 1000000) :
    Calls Try.prog 40 #[.slice A n c] w (Normed w (M.val l) n) := by
  go_enter Try.func40, Try.ntmps40
  go_wp2_with fail
  refine (trim_any _ _ _ _ _ h hn hc).mono ?_
  rintro e w1 ⟨A', n', c', rfl, h1, h2, h3, h4, h5, h6, rfl⟩
  have hl := h.1
  have HL := Lib.hid hl
  clear hl
  have hn' : n' ≤ 1000000 := by have := HL.out; omega
  have hnn : n' ≤ n := by have := HL.out; omega
  have H3 := Lib.hid h3
  have H1 := Lib.hid h1.1
  have H2 := Lib.hid h2
  clear h3 h2
  by_cases h0 : n' = 0
  · subst h0
    go_wp2_with fail
    go_ret
    exact ⟨[], M.Fit.nil, M.Top.nil, by rw [← H3.out]; rfl, by simp, Below.refl _ _, .inl ⟨rfl, rfl⟩⟩
  · have h0' : ((n' : Int) == 0) = false := by simp; omega
    clear h0
    have hmk := make_any n' (by omega)
    go_wp2_with (refine copy_any rfl (.tmp 12) (.tmp 13) rfl rfl rfl (Row.zeros_ _ _) (h1.below ((Below.refl _ _).alloc (Nat.le_refl _) _)) (Nat.le_refl _) ((Below.refl _ _).alloc (Nat.le_refl _) _) ?_; intro w2 hrow hbel)
    go_ret
    simp only [Nat.sub_self, List.replicate_zero, List.append_nil] at hrow
    exact ⟨_, h1.2.1, H2.out, H3.out, by rw [H1.out]; exact hnn, hbel, .inr ⟨by rw [H1.out]; rfl, hrow⟩⟩

theorem Normed.gives {W : World} {N n : Nat} {e : Ending} {w' : World} (h : Normed W N n e w') (hn : n ≤ maxLen) : Gives W N e w' := by
  obtain ⟨l, h1, h2, h3, h4, h5, h6⟩ := h
  rcases h6 with ⟨rfl, rfl⟩ | ⟨rfl, hr⟩
  · exact ⟨_, rfl, ⟨none, 0, 0, [], rfl, Lims.nil_ _ _, h2, h3, by omega, by omega⟩, h5⟩
  · exact ⟨_, rfl, ⟨_, _, _, l, rfl, hr.lims h1 rfl, h2, h3, Nat.le_refl _, by omega⟩, h5⟩
theorem norm_any (A : Option Addr) (n c : Nat) (l : List Nat) (w : World) (h : Lims w A n l) (hn : n ≤ c) (hc : c ≤ maxLen) (hs : n ≤ 1000000) :
    Calls Try.prog 40 #[.slice A n c] w (Gives w (M.val l)) :=
  (norm_row A n c l w h hn hc hs).mono fun _ _ hh => hh.gives (by omega)

theorem sign_q (b : Bool) (w : World) (n : Int) (hn : n = if b then -1 else 1) : Calls Try.prog 71 #[.bool b] w fun e w' => e = .returned (.int .i64 n) ∧ w' = w :=
  (sign_any b w).mono fun _ _ ⟨h1, h2⟩ => ⟨by rw [h1, hn], h2.symm⟩

theorem cmp_any (A B : Option Addr) (n m c d : Nat) (k l : List Nat) (w : World) (hk : Lims w A n k) (hl : Lims w B m l) (hn : n ≤ c) (hm : m ≤ d) (hc : c ≤ maxLen) (hd : d ≤ maxLen) :
    Calls Try.prog 48 #[.slice A n c, .slice B m d] w fun e w' => e = .returned (.int .i64 (M.cmpI (M.val k) (M.val l))) ∧ ∃ j, w' = w.drewN j := by
  go_enter Try.func48, Try.ntmps48
  go_wp2_with fail
  refine (trim_any _ _ _ _ _ hk hn hc).mono ?_
  rintro e w1 ⟨A', n', c', rfl, h1, h2, h3, h4, h5, h6, rfl⟩
  go_wp2_with fail
  refine (trim_any _ _ _ _ _ hl hm hd).mono ?_
  rintro e w1 ⟨B', m', d', rfl, g1, g2, g3, g4, g5, g6, rfl⟩
  generalize k.take n' = k' at *
  generalize l.take m' = l' at *
  have hr : Hid (M.cmpI (M.val k) (M.val l) = M.cmpI (M.val k') (M.val l')) := by rw [h3, g3]; exact rfl
  clear h3 g3
  have H2 := Lib.hid h2
  have G2 := Lib.hid g2
  clear h2 g2
  unfold maxLen at hc hd
  by_cases hlt : n' < m'
  · have hne : ((n' : Int) == (m' : Int)) = false := by simp; omega
    have hb : decide ((n' : Int) < (m' : Int)) = true := by simp; omega
    go_wp2_with fail
    refine (sign_q true _ _ rfl).mono ?_
    rintro e w1 ⟨rfl, rfl⟩
    go_wp2_with fail
    go_ret
    refine ⟨ret_int ?_, 0, rfl⟩
    rw [hr.out, M.cmpI_lt (M.lt_of_shorter h1.2.1 G2.out (by rw [h1.1, g1.1]; exact hlt))]
  by_cases hgt : m' < n'
  · have hne : ((n' : Int) == (m' : Int)) = false := by simp; omega
    have hb : decide ((n' : Int) < (m' : Int)) = false := by simp; omega
    go_wp2_with fail
    refine (sign_q false _ _ rfl).mono ?_
    rintro e w1 ⟨rfl, rfl⟩
    go_wp2_with fail
    go_ret
    refine ⟨ret_int ?_, 0, rfl⟩
    rw [hr.out, M.cmpI_gt (M.lt_of_shorter g1.2.1 H2.out (by rw [h1.1, g1.1]; exact hgt))]
  obtain rfl : n' = m' := by omega
  clear hlt hgt
  have hlen : Hid (k'.length = l'.length) := h1.1.trans g1.1.symm
  go_wp2_with fail
  go_loopw [24] (fun i wr => ∃ j : Nat, j ≤ n' ∧ i = .int .i64 j ∧ Hid (∀ q, n' - j ≤ q → k'.getD q 0 = l'.getD q 0) ∧ ∃ q, wr = w.drewN q) (fun i _ => n' - (intOf i).toNat)
  case atStart => exact ⟨0, Nat.zero_le _, rfl, fun q hq => by rw [M.getD_ge (by rw [h1.1]; exact hq), M.getD_ge (by rw [g1.1]; exact hq)], 0, rfl⟩
  case round =>
    obtain ⟨j, hj, rfl, HZ, q, rfl⟩ := hrel
    by_cases hlt : j < n'
    · obtain ⟨i, hi⟩ : ∃ i : Nat, Hid (n' - 1 - j = i) := ⟨_, rfl⟩
      have hi1 : i < n' := by have := hi.out; omega
      have hi2 : j < n' := hlt
      have he : (n' : Int) - 1 - (j : Int) = (i : Int) := by have := hi.out; omega
      obtain ⟨b, off, rfl, _, hc1⟩ := h1.at_ (by omega)
      obtain ⟨x, HX, hx, hcx⟩ := hc1 (i) (by omega)
      obtain ⟨b', off', rfl, _, hc2⟩ := g1.at_ (by omega)
      obtain ⟨y, HY, hy, hcy⟩ := hc2 (i) (by omega)
      clear hc1 hc2
      have HZ' : Hid (∀ q, i + 1 ≤ q → k'.getD q 0 = l'.getD q 0) := fun q hq => HZ.out q (by have := hi.out; omega)
      by_cases hxy : x = y
      · subst hxy
        go_wp2_with fail
        go_quiet (fail)
        go_wp2_with fail
        go_roundw
        case rel => exact ⟨j + 1, by omega, by go_num, fun q hq => by
          by_cases e : q = i
          · subst e; rw [← HX.out, ← HY.out]
          · exact HZ.out q (by have := hi.out; omega), _, rfl⟩
        case measure => simp [intOf]; omega
      · have hxy' : ((x : Int) == (y : Int)) = false := by simp; omega
        by_cases hlt2 : x < y
        · have hb : decide ((x : Int) < (y : Int)) = true := by simp; omega
          have hv : Hid (M.cmpI (M.val k) (M.val l) = -1) := by
            rw [hr.out]
            exact M.cmpI_lt (M.lt_of_top (i) hlen.out (by rw [h1.1]; omega) h1.2.1 HZ'.out (by rw [← HX.out, ← HY.out]; exact hlt2))
          clear hxy
          go_wp2_with fail
          go_quiet (fail)
          rw [World.drewN_drewN]
          generalize q + nq = q2
          go_wp2_with fail
          go_quiet ((go_at_call 71; exact quiet_add (sign_q true _ _ rfl)))
          go_wp2_with fail
          go_ret
          first | exact ⟨ret_int (by rw [hv.out]), _, rfl⟩ | exact ⟨ret_int (by rw [hv.out]), _, World.drewN_drewN _ _ _⟩
        · have hb : decide ((x : Int) < (y : Int)) = false := by simp; omega
          have hv : Hid (M.cmpI (M.val k) (M.val l) = 1) := by
            rw [hr.out]
            exact M.cmpI_gt (M.lt_of_top (i) hlen.out.symm (by rw [g1.1]; omega) g1.2.1 (fun q hq => (HZ'.out q hq).symm) (by rw [← HX.out, ← HY.out]; omega))
          clear hxy
          go_wp2_with fail
          go_quiet (fail)
          rw [World.drewN_drewN]
          generalize q + nq = q2
          go_wp2_with fail
          go_quiet ((go_at_call 71; exact quiet_add (sign_q false _ _ rfl)))
          go_wp2_with fail
          go_ret
          first | exact ⟨ret_int (by rw [hv.out]), _, rfl⟩ | exact ⟨ret_int (by rw [hv.out]), _, World.drewN_drewN _ _ _⟩
    · have hv : Hid (M.cmpI (M.val k) (M.val l) = 0) := by
        rw [hr.out, M.eq_of_all hlen.out (fun q _ => HZ.out q (by omega))]
        exact M.cmpI_eq _
      go_wp2_with fail
      go_ret
      exact ⟨ret_int (by rw [hv.out]), _, rfl⟩

end Go.Proofs.Ytiehkciofggonaa

/- nat: Add: what it answers. -/
namespace Go.Proofs.Ytiehkciofggonaa
open Go.RowKit

theorem limb_q {A : Option Addr} {n c i x : Nat} {l : List Nat} {w : World} (h : Lims w A n l) (hc : n ≤ maxLen) (hi : i ≤ maxLen) (hx : Hid (x = l.getD i 0)) :
    Calls Try.prog 81 #[.slice A n c, .int .i64 i] w fun e w' => e = .returned (.int .u64 (x : Nat)) ∧ w' = w :=
  (limb_at h hc hi hx).mono fun _ _ ⟨h1, h2⟩ => ⟨h1, h2.symm⟩

theorem fit_of {l : List Nat} (h : M.Fit l) (i : Nat) : l.getD i 0 ≤ 4294967295 := by have := h i; rw [M.BB_eq] at this; omega

set_option maxHeartbeats 1000000 in
theorem add_any (A B : Option Addr) (n m c d : Nat) (k l : List Nat) (w : World) (hk : Lims w A n k) (hl : Lims w B m l) (hn : n ≤ c) (hm : m ≤ d) (hc : c ≤ maxLen) (hd : d ≤ maxLen) (hs : n ≤ 1000000) (ht : m ≤ 1000000) :
    Calls Try.prog 63 #[.slice A n c, .slice B m d] w (Gives w (M.val k + M.val l)) := by
  go_enter Try.func63, Try.ntmps63
  go_wp2_with fail
  refine (trim_any _ _ _ _ _ hk hn hc).mono ?_
  rintro e w1 ⟨A', n', c', rfl, h1, h2, h3, h4, h5, h6, rfl⟩
  go_wp2_with fail
  refine (trim_any _ _ _ _ _ hl hm hd).mono ?_
  rintro e w1 ⟨B', m', d', rfl, g1, g2, g3, g4, g5, g6, rfl⟩
  have hs' : n' ≤ 1000000 := by have := hk.1; omega
  have ht' : m' ≤ 1000000 := by have := hl.1; omega
  generalize k.take n' = k' at *
  generalize l.take m' = l' at *
  have hr : Hid (M.val k + M.val l = M.val k' + M.val l') := by rw [h3, g3]; exact rfl
  clear h3 g3 h2 g2 h4 g4 hk hl hn hm hs ht
  unfold maxLen at hc hd
  go_upto_if 17 with (fail)
  go_cut [0, 1] (fun s0 s1 wc => wc = w ∧ ∃ (A : Option Addr) (n c : Nat) (a : List Nat) (B : Option Addr) (m d : Nat) (b : List Nat), s0 = .slice A n c ∧ s1 = .slice B m d ∧ Lims w A n a ∧ Lims w B m b ∧ n ≤ c ∧ m ≤ d ∧ c ≤ maxLen ∧ d ≤ maxLen ∧ n ≤ 1000000 ∧ m ≤ n ∧ Hid (M.val k' + M.val l' = M.val a + M.val b))
  case first =>
    by_cases hlt : n' < m'
    · go_wp2_with fail
      go_meet
      exact ⟨rfl, _, _, _, _, _, _, _, _, rfl, rfl, g1, h1, g5, h5, by unfold maxLen; omega, by unfold maxLen; omega, ht', by omega, Nat.add_comm _ _⟩
    · go_wp2_with fail
      go_meet
      exact ⟨rfl, _, _, _, _, _, _, _, _, rfl, rfl, h1, g1, h5, g5, by unfold maxLen; omega, by unfold maxLen; omega, hs', by omega, rfl⟩
  case rest =>
    clear h1 g1 h5 g5 h6 g6 hs' ht' hc hd
    obtain ⟨rfl, A, n, c, a, B, m, d, b, rfl, rfl, h1, g1, h5, g5, hc, hd, hs, hmn, hv⟩ := hcut
    have hv : Hid (M.val k + M.val l = M.val a + M.val b) := hr.out.trans hv.out
    clear hr
    unfold maxLen at hc hd
    have hm1 : ((n : Nat) : Int) + 1 = ((n + 1 : Nat) : Int) := by omega
    have hmk : ∀ W : World, (Instr.makeSlice 22 (.int .i64 ((n : Int) + 1)) (.int .i64 ((n : Int) + 1))).run Try.prog W = .ok (.slice (some ⟨W.heap.size, 0, none⟩) (n + 1) (n + 1)) (W.alloc (.cells (zeros (n + 1)) 57)) := by
      intro W; rw [hm1]; exact make_any (n + 1) (by omega) W
    clear hm1
    go_wp2_with (refine copy_any rfl (.tmp 24) (.tmp 25) rfl rfl rfl (Row.zeros_ _ _) (h1.below ((Below.refl _ _).alloc (Nat.le_refl _) _)) (Nat.le_succ _) ((Below.refl _ _).alloc (Nat.le_refl _) _) ?_; intro w2 hrow hbel)
    have ha : Hid (a.length = n) := h1.1
    have hb : Hid (b.length = m) := g1.1
    have hrow : Row w2 wc.heap.size (a ++ [0]) := by rw [show n + 1 - n = 1 from by omega] at hrow; exact hrow
    go_loopw [6, 29] (fun cv iv wr => ∃ (i cy : Nat) (L : List Nat), i ≤ n ∧ cy ≤ 1 ∧ iv = .int .i64 i ∧ cv = .int .u64 cy ∧ Row wr wc.heap.size L ∧ M.AddInv a b L n i cy ∧ Below wc.heap.size wc wr) (fun _ iv _ => n - (intOf iv).toNat)
    case atStart => exact ⟨0, 0, _, by omega, by omega, rfl, rfl, hrow, M.AddInv.start ha.out h1.2.1, hbel⟩
    case round =>
      obtain ⟨i, cy, L, hi, hcy, rfl, rfl, hrow, hinv, hbel⟩ := hrel
      by_cases hlt : i < n
      · have hmx : m ≤ 9223372036854775807 := by omega
        rcases (show (m ≤ i ∧ cy ≤ 0) ∨ i < m ∨ (m ≤ i ∧ 1 ≤ cy) from by omega) with ⟨hbr, hz⟩ | hbr
        · have HE := Lib.hid (hinv.end_ ha.out (by rw [hb.out]; omega) hi (.inr ⟨by rw [hb.out]; exact hbr, by omega⟩))
          have hst : wr.cell? ⟨wc.heap.size, n, none⟩ = some (.int .u32 ((L.getD n 0 : Nat) : Int)) := hrow.cell (by rw [hinv.len]; omega)
          have hfr := hrow.frozen n
          generalize L.getD n 0 = old at hst
          have HT := Lib.hid (trim_any (some ⟨wc.heap.size, 0, none⟩) (n + 1) (n + 1) (L.set n cy) (wr.setCell ⟨wc.heap.size, n, none⟩ (.int .u32 (cy : Int))) ((hrow.set_ n cy).lims (hinv.fit.set _ _ (by rw [M.BB_eq]; omega)) (by simp [hinv.len])) (Nat.le_refl _) (by unfold maxLen; omega))
          have HB := Lib.hid (hbel.setCell (p := ⟨wc.heap.size, n, none⟩) (Nat.le_refl _) (.int .u32 (cy : Int)))
          clear hinv hrow hbel
          go_wp2_with fail
          refine HT.out.mono ?_
          rintro e w3 hT
          obtain ⟨A3, n3, c3, rfl, hT⟩ := hT
          go_wp2_with fail
          go_ret
          have := Trimmed.gives (W := wc) ⟨A3, n3, c3, rfl, hT⟩ (by unfold maxLen; omega) HB.out
          rw [HE.out, ← hv.out] at this
          exact this
        · obtain ⟨ab, ao, rfl, hab, hc1⟩ := h1.at_ (by omega)
          obtain ⟨x, HX, hx, hcx⟩ := hc1 i hlt
          obtain ⟨y, HY⟩ : ∃ y, Hid (y = b.getD i 0) := ⟨_, rfl⟩
          have hy : y ≤ 4294967295 := by rw [HY.out]; exact fit_of g1.2.1 i
          have hcx' : wr.cell? ⟨ab, ao + i, none⟩ = some (.int .u32 (x : Int)) := (hbel.cell hab).trans hcx
          clear hc1 hcx
          have hst : wr.cell? ⟨wc.heap.size, i, none⟩ = some (.int .u32 ((L.getD i 0 : Nat) : Int)) := hrow.cell (by rw [hinv.len]; omega)
          have hfr := hrow.frozen i
          generalize L.getD i 0 = old at hst
          have hr2 : ∀ q, Row ((wr.drewN q).setCell ⟨wc.heap.size, i, none⟩ (.int .u32 (((x : Int) + y + cy) % 4294967296))) wc.heap.size (L.set i ((x + y + cy) % M.BB)) := fun q => (hrow.drewN q).set_' i _ (by rw [M.BB_eq]; omega)
          have hbel2 : ∀ (q : Nat) (v : Value), Below wc.heap.size wc ((wr.drewN q).setCell ⟨wc.heap.size, i, none⟩ v) := fun q v => (below_drewN hbel q).setCell (Nat.le_refl _) v
          have hinv2 := hinv.step (t := x + y + cy) hlt HX.out HY.out (by rw [M.BB_eq]; omega) (by rw [M.BB_eq]; omega) rfl
          have hcy2 := hinv2.carry
          have HR := Lib.hid hr2
          have HB := Lib.hid hbel2
          have hcr : Hid ((((x + y + cy) / M.BB : Nat) : Int) = ((x : Int) + y + cy) / 4294967296) := by rw [M.BB_eq]; exact (show _ = _ from by omega)
          clear hr2 hbel2
          rcases hbr with hbr | ⟨hbr, hb1⟩
          all_goals
            go_wp2_with fail
            go_quiet ((go_at_call 81; exact Calls.quiet_of_same (limb_q ((g1.below hbel).drewN _) (by unfold maxLen; omega) (by unfold maxLen; omega) HY)))
            go_wp2_with fail
            go_roundw
            case rel => exact ⟨i + 1, _, _, by omega, hcy2, by go_num, by rw [hcr.out], HR.out _, hinv2, HB.out _ _⟩
            case measure => simp [intOf]; omega
      · have HE := Lib.hid (hinv.end_ ha.out (by rw [hb.out]; omega) hi (.inl (by omega)))
        have hst : wr.cell? ⟨wc.heap.size, n, none⟩ = some (.int .u32 ((L.getD n 0 : Nat) : Int)) := hrow.cell (by rw [hinv.len]; omega)
        have hfr := hrow.frozen n
        generalize L.getD n 0 = old at hst
        have HT := Lib.hid (trim_any (some ⟨wc.heap.size, 0, none⟩) (n + 1) (n + 1) (L.set n cy) (wr.setCell ⟨wc.heap.size, n, none⟩ (.int .u32 (cy : Int))) ((hrow.set_ n cy).lims (hinv.fit.set _ _ (by rw [M.BB_eq]; omega)) (by simp [hinv.len])) (Nat.le_refl _) (by unfold maxLen; omega))
        have HB := Lib.hid (hbel.setCell (p := ⟨wc.heap.size, n, none⟩) (Nat.le_refl _) (.int .u32 (cy : Int)))
        clear hinv hrow hbel
        go_wp2_with fail
        refine HT.out.mono ?_
        rintro e w3 hT
        obtain ⟨A3, n3, c3, rfl, hT⟩ := hT
        go_wp2_with fail
        go_ret
        have := Trimmed.gives (W := wc) ⟨A3, n3, c3, rfl, hT⟩ (by unfold maxLen; omega) HB.out
        rw [HE.out, ← hv.out] at this
        exact this

end Go.Proofs.Ytiehkciofggonaa
