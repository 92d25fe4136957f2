/- What the proofs of this claim use, text by text. -/
import Derived.Test.YtfjpcjebecgglaaGreatDoorRows
import Derived.Test.YtfjpcjebecgglaaGreatDoorQE02
import Derived.WalkKit
import Derived.WalkSpells
import Derived.WalkLawsBesides
import Derived.Deep.QuietTactic
import Derived.BigQuiet
import Derived.Deep.Draws
import Derived.Lib.Hide
import Derived.Deep.AppendLies
import Derived.Deep.OwnRows
import Derived.Laws.CopyOwn
import Derived.Laws.Rows
import Derived.Deep.DeepCutAuto
import Derived.Deep.RegionWith
set_option linter.unusedSimpArgs false
set_option linter.unusedVariables false
set_option maxRecDepth 100000
set_option maxHeartbeats 25600000
namespace Go.Proofs.YtfjpcjebecgglaaGreatDoor
open Go.RowKit
theorem ret_int {k : IntKind} {a b : Int} (h : a = b) : Ending.returned (.int k a) = .returned (.int k b) := by rw [h]
theorem quiet_add {P : Program} {f : FuncId} {args : Array Value} {w : World} {a n : Nat} {v : Value}
    (h : Calls P f args (w.drewN (a + n)) fun e w' => e = .returned v ∧ w' = w.drewN (a + n)) :
    Calls P f args (w.drewN (a + n)) fun e w'' => e = .returned v ∧ ∃ m, w'' = w.drewN (a + m) :=
  h.mono fun _ _ ⟨he, hm⟩ => ⟨he, n, hm⟩
def Lims (w : World) (a : Option Addr) (n : Nat) (l : List Nat) : Prop :=
  l.length = n ∧ M.Fit l ∧ (0 < n → ∃ b off, a = some ⟨b, off, none⟩ ∧ b < w.heap.size ∧ ∀ j, j < n → w.cell? ⟨b, off + j, none⟩ = some (.int .u32 ((l.getD j 0 : Nat) : Int)))
theorem Lims.nil_ (w : World) (a : Option Addr) : Lims w a 0 [] := ⟨rfl, M.Fit.nil, fun h => absurd h (by omega)⟩
theorem Lims.at_ {w : World} {a : Option Addr} {n : Nat} {l : List Nat} (h : Lims w a n l) (hn : 0 < n) :
    ∃ b off, a = some ⟨b, off, none⟩ ∧ b < w.heap.size ∧ ∀ j, j < n → ∃ x : Nat, Hid (x = l.getD j 0) ∧ x ≤ 4294967295 ∧ w.cell? ⟨b, off + j, none⟩ = some (.int .u32 (x : Int)) := by
  obtain ⟨h1, h2, h3⟩ := h
  obtain ⟨b, off, e, hb, hc⟩ := h3 hn
  refine ⟨b, off, e, hb, fun j hj => ⟨l.getD j 0, rfl, ?_, hc j hj⟩⟩
  have := h2 j
  rw [M.BB_eq] at this
  omega
theorem Lims.below {w w' : World} {a : Option Addr} {n : Nat} {l : List Nat} (h : Lims w a n l) (hb : Below w.heap.size w w') : Lims w' a n l :=
  ⟨h.1, h.2.1, fun hn => by
    obtain ⟨b, off, e, h1, h2⟩ := h.2.2 hn
    exact ⟨b, off, e, Nat.lt_of_lt_of_le h1 hb.size, fun j hj => (hb.cell h1).trans (h2 j hj)⟩⟩
theorem below_drewN {B : Nat} {a w : World} (h : Below B a w) (n : Nat) : Below B a (w.drewN n) := ⟨h.os, h.tape, h.output, h.size, h.block⟩
theorem Lims.take {w : World} {a : Option Addr} {n : Nat} {l : List Nat} (h : Lims w a n l) {k : Nat} (hk : k ≤ n) : Lims w a k (l.take k) :=
  ⟨by rw [List.length_take, h.1]; omega, h.2.1.take k, fun hn => by
    obtain ⟨b, off, e, h1, h2⟩ := h.2.2 (by omega)
    refine ⟨b, off, e, h1, fun j hj => (h2 j (by omega)).trans ?_⟩
    congr 3
    simp [List.getD_eq_getElem?_getD, hj]⟩
def cellsOf (l : List Nat) : List Value := l.map fun (x : Nat) => .int .u32 (x : Int)
theorem cellsOf_length (l : List Nat) : (cellsOf l).length = l.length := by simp [cellsOf]
theorem cellsOf_get {l : List Nat} {j : Nat} (h : j < l.length) : (cellsOf l)[j]? = some (.int .u32 ((l.getD j 0 : Nat) : Int)) := by
  simp [cellsOf, List.getD_eq_getElem?_getD, h]
theorem cellsOf_one {l : List Nat} : ∀ v ∈ cellsOf l, v.oneCell' = true := by
  intro v hv
  obtain ⟨x, _, rfl⟩ := List.mem_map.1 hv
  rfl
def Row (w : World) (g : Nat) (l : List Nat) : Prop := w.heap[g]? = some (.cells (cellsOf l).toArray 156 (0, 0))
theorem Row.lt {w : World} {g : Nat} {l : List Nat} (h : Row w g l) : g < w.heap.size := by
  rcases Nat.lt_or_ge g w.heap.size with hlt | hge
  · exact hlt
  · unfold Row at h; rw [Array.getElem?_eq_none hge] at h; cases h
theorem Row.cell {w : World} {g : Nat} {l : List Nat} (h : Row w g l) {j : Nat} (hj : j < l.length) : w.cell? ⟨g, j, none⟩ = some (.int .u32 ((l.getD j 0 : Nat) : Int)) := by
  rw [cell_of_row w g j _ _ (0, 0) h, List.getElem?_toArray, cellsOf_get hj]
theorem Row.frozen {w : World} {g : Nat} {l : List Nat} (h : Row w g l) (i : Nat) : w.frozen? ⟨g, i, none⟩ = false := by
  unfold Row at h
  simp [World.frozen?, h]
theorem Row.lims {w : World} {g : Nat} {l : List Nat} (h : Row w g l) (hf : M.Fit l) {n : Nat} (hn : l.length = n) : Lims w (some ⟨g, 0, none⟩) n l :=
  ⟨hn, hf, fun _ => ⟨g, 0, rfl, h.lt, fun j hj => by rw [Nat.zero_add]; exact h.cell (by omega)⟩⟩
theorem Row.alloc {w : World} {g : Nat} {l : List Nat} (h : Row w g l) (o : Obj) : Row (w.alloc o) g l := (Below.heap_alloc w o g h.lt).trans h
theorem Row.grown {w w' : World} {g : Nat} {l : List Nat} {row : Option Nat} (h : Row w g l) (hg : w.grownBy w' row) (hne : some g ≠ row) : Row w' g l := (hg.block g h.lt hne).trans h
theorem Row.set_ {w : World} {g : Nat} {l : List Nat} (h : Row w g l) (i x : Nat) : Row (w.setCell ⟨g, i, none⟩ (.int .u32 (x : Int))) g (l.set i x) := by
  unfold Row at h ⊢
  simp [World.setCell, Array.getElem?_modify, h, cellsOf, List.map_set]
theorem only_drewN {a w : World} {row : Option Nat} (h : a.grownBy w row) (n : Nat) : a.grownBy (w.drewN n) row := ⟨h.os, h.tape, h.output, h.size, h.block⟩
theorem only_setCell {a w : World} {g : Nat} (h : a.grownBy w (some g)) {p : Addr} (hp : p.block = g ∨ a.heap.size ≤ p.block) (u : Value) : a.grownBy (w.setCell p u) (some g) :=
  ⟨h.os, h.tape, h.output, by simpa [World.setCell] using h.size, fun i hi hne => (Below.heap_setCell w p u i (by
    rintro rfl
    rcases hp with hp | hp
    · exact hne (by rw [hp])
    · omega)).trans (h.block i hi hne)⟩
def zeros (n : Nat) : Array Value := (cellsOf (List.replicate n 0)).toArray
theorem Row.zeros_ (w : World) (n : Nat) : Row (w.alloc (.cells (zeros n) 156)) w.heap.size (List.replicate n 0) := heap_alloc_new w _
theorem Tryz.info_u32 : (Tryz.prog.info? 156).map (fun i => (i.zero, i.size, i.bytes)) = some (some (.int .u32 0), 1, 4) := by kernel_rfl
theorem Tryz.size_u32 : (Tryz.prog.info? 156).map (·.size) = some 1 := by kernel_rfl
theorem zeros_eq (n : Nat) : madeCells #[Value.int .u32 0] n = zeros n := by
  apply Array.ext
  · simp [madeCells, zeros, cellsOf]
  · intro i h1 h2
    have e : i % 1 = 0 := by omega
    simp [madeCells, zeros, cellsOf, e]
theorem make_any (n : Nat) (hn : n ≤ 1099511627776) (w : World) :
    (Instr.makeSlice 37 (.int .i64 (n : Int)) (.int .i64 (n : Int))).run Tryz.prog w = .ok (.slice (some ⟨w.heap.size, 0, none⟩) n n) (w.alloc (.cells (zeros n) 156)) := by
  rw [← zeros_eq]
  exact run_make_row' 37 156 (.int .u32 0) 4 Tryz.underlying37 Tryz.info_u32 rfl .i64 .i64 n (by omega) (by omega) w
theorem copy_any {w : World} {ops : Array Oper} {rest : List Oper} {o : Oper} {a : Act} {Q : Exit → Act → World → Prop} (hgd : o.guard = none) (d s : Operand)
    (ho : o.op = .call { callee := .builtin .copy, args := #[d, s], argTypes := #[37, 37] })
    {g m k n c : Nat} {A : Option Addr} {l : List Nat} (hd : a.eval d = .slice (some ⟨g, 0, none⟩) m k) (hs : a.eval s = .slice A n c)
    (hrow : Row w g (List.replicate m 0)) (hl : Lims w A n l) (hnm : n ≤ m) {w0 : World} (hb : Below g w0 w)
    (h : ∀ w', Row w' g (l ++ List.replicate (m - n) 0) → Below g w0 w' → wpList Tryz.prog ops Q rest (a.put o.dst (goInt n)) w') :
    wpList Tryz.prog ops Q (o :: rest) a w := by
  have hlen := hl.1
  refine wpList_copy_splice hgd d s 37 37 ho 156 Tryz.underlying37 Tryz.size_u32 _ _ m k n c hd hs g 0 (cellsOf (List.replicate m 0)) 156 hrow (cellsOf l)
    (by rw [cellsOf_length, hlen]; exact (Nat.min_eq_left hnm).symm) ?_ (by simp [cellsOf_length]; omega) cellsOf_one g w0 hb (Nat.le_refl _) ?_
  · intro h0
    rw [cellsOf_length, hlen] at h0
    obtain ⟨b, off, e, _, hc⟩ := hl.2.2 h0
    refine ⟨rfl, _, e, fun j v hv => ?_⟩
    have hj : j < l.length := by
      rcases Nat.lt_or_ge j l.length with h1 | h1
      · exact h1
      · rw [List.getElem?_eq_none (by rw [cellsOf_length]; exact h1)] at hv; cases hv
    rw [cellsOf_get hj] at hv
    injection hv with hv
    subst hv
    have := hc j (by omega)
    unfold Addr.add
    split <;> simp_all
  · intro w' hr hb'
    have hr := hr.out
    have e : splice (cellsOf (List.replicate m 0)) 0 (cellsOf l) = cellsOf (l ++ List.replicate (m - n) 0) := by
      simp [splice, cellsOf, hlen]
    rw [e] at hr
    rw [cellsOf_length, hlen]
    exact h w' hr hb'
theorem lims_two (w : World) (x y : Nat) (hx : x ≤ 4294967295) (hy : y ≤ 4294967295) : Lims (w.alloc (.cells #[.int .u32 (x : Int), .int .u32 (y : Int)] 156)) (some ⟨w.heap.size, 0, none⟩) 2 [x, y] :=
  Row.lims (l := [x, y]) (heap_alloc_new w _) (M.Fit.cons (by rw [M.BB_eq]; omega) (M.Fit.cons (by rw [M.BB_eq]; omega) M.Fit.nil)) rfl
end Go.Proofs.YtfjpcjebecgglaaGreatDoor
namespace Go.Proofs.YtfjpcjebecgglaaGreatDoor
open Go.RowKit
def Trimmed (w : World) (l : List Nat) (cap : Nat) (e : Ending) (w' : World) : Prop :=
  ∃ A n c, e = .returned (.slice A n c) ∧ Lims w A n (l.take n) ∧ M.Top (l.take n) ∧ M.val (l.take n) = M.val l ∧ n ≤ l.length ∧ n ≤ c ∧ c ≤ cap ∧ w = w'
theorem trimmed_zero {w : World} {l : List Nat} {cap : Nat} (hz : ∀ j, 0 ≤ j → l.getD j 0 = 0) : Trimmed w l cap (.returned (.slice none 0 0)) w :=
  ⟨none, 0, 0, rfl, by simpa using Lims.nil_ w none, by simpa using M.Top.nil, M.val_zeros l 0 hz, by omega, by omega, by omega, rfl⟩
theorem trimmed_some {w : World} {A : Option Addr} {n c k : Nat} {l : List Nat} (h : Lims w A n l) (hk : k ≤ n) (hn : n ≤ c) (h0 : 0 < k) (hx : l.getD (k - 1) 0 ≠ 0) (hz : ∀ j, k ≤ j → l.getD j 0 = 0) :
    Trimmed w l c (.returned (.slice A k c)) w := by
  refine ⟨A, k, c, rfl, h.take hk, fun _ => ?_, M.val_zeros l k hz, by rw [h.1]; exact hk, by omega, by omega, rfl⟩
  rw [List.length_take, h.1, Nat.min_eq_left hk]
  simpa [List.getD_eq_getElem?_getD, List.getElem?_take, show k - 1 < k from by omega] using hx
def TrimmedAt (w : World) (A : Option Addr) (l : List Nat) (cap : Nat) (e : Ending) (w' : World) : Prop :=
  Trimmed w l cap e w' ∧ (e = .returned (.slice none 0 0) ∨ ∃ n c, 0 < n ∧ e = .returned (.slice A n c))
theorem trim_at (A : Option Addr) (n c : Nat) (l : List Nat) (w : World) (h : Lims w A n l) (hn : n ≤ c) (hc : c ≤ maxLen) :
    Calls Tryz.prog 96 #[.slice A n c] w (TrimmedAt w A l c) := by
  unfold maxLen at hc
  go_enter Tryz.func96, Tryz.ntmps96
  go_wp2
  go_loop [3] (fun t => ∃ k : Nat, k ≤ n ∧ t = .int .i64 k ∧ ∀ j, k ≤ j → l.getD j 0 = 0) (fun t => (intOf t).toNat)
  case atStart => exact ⟨n, Nat.le_refl _, rfl, fun j hj => M.getD_ge (by rw [h.1]; exact hj)⟩
  case round =>
    obtain ⟨k, hk, rfl, hz⟩ := hrel
    have HZ := Lib.hid hz
    clear hz
    by_cases h0 : 0 < k
    · obtain ⟨b, off, rfl, hb, hcs⟩ := h.at_ (by omega)
      obtain ⟨x, HX, hx, hcell⟩ := hcs (k - 1) (by omega)
      clear hcs
      by_cases hx0 : x = 0
      · subst hx0
        go_wp2
        go_round
        case rel => exact ⟨k - 1, by omega, by go_num, fun j hj => by
          by_cases e : j = k - 1
          · subst e; exact HX.out.symm
          · exact HZ.out j (by omega)⟩
        case measure => simp [intOf]; omega
      · have hx1 : ((x : Int) == 0) = false := by simpa using hx0
        have hk1 : ((k : Int) == 0) = false := by simp; omega
        clear hx0
        go_wp2
        go_ret
        exact ⟨trimmed_some h hk hn h0 (by rw [← HX.out]; simpa using hx1) HZ.out, .inr ⟨k, c, h0, rfl⟩⟩
    · go_wp2
      go_ret
      exact ⟨trimmed_zero fun j _ => HZ.out j (by omega), .inl rfl⟩
theorem trim_any (A : Option Addr) (n c : Nat) (l : List Nat) (w : World) (h : Lims w A n l) (hn : n ≤ c) (hc : c ≤ maxLen) :
    Calls Tryz.prog 96 #[.slice A n c] w (Trimmed w l c) := (trim_at A n c l w h hn hc).mono fun _ _ h => h.1
theorem sign_any (b : Bool) (w : World) : Calls Tryz.prog 117 #[.bool b] w fun e w' => e = .returned (.int .i64 (if b then -1 else 1)) ∧ w = w' := by
  cases b
  · go_enter Tryz.func117, Tryz.ntmps117
    go_wp2
    go_ret
    exact ⟨rfl, rfl⟩
  · go_enter Tryz.func117, Tryz.ntmps117
    go_wp2
    go_ret
    exact ⟨rfl, rfl⟩
theorem or_val (x y : Nat) (hx : x ≤ 4294967295) (hy : y ≤ 4294967295) : bits .or .u64 ((y : Int) * 4294967296) (x : Int) = ((x + 4294967296 * y : Nat) : Int) := by
  rw [show (y : Int) * 4294967296 = ((4294967296 * y : Nat) : Int) from by omega, Go.u64_or_nat _ _ (by omega) (by omega)]
  congr 1
  have := Nat.two_pow_add_eq_or_of_lt (i := 32) (b := x) (by omega) y
  simp only [show (2 : Nat) ^ 32 = 4294967296 from rfl] at this
  rw [← this]
  omega
end Go.Proofs.YtfjpcjebecgglaaGreatDoor
namespace Go.Proofs.YtfjpcjebecgglaaGreatDoor
open Go.RowKit
def Num (w : World) (v : Value) (N : Nat) : Prop :=
  ∃ A n c l, v = .slice A n c ∧ Lims w A n l ∧ M.Top l ∧ M.val l = N ∧ n ≤ c ∧ c ≤ maxLen
def Gives (W : World) (N : Nat) (e : Ending) (w' : World) : Prop := ∃ v, e = .returned v ∧ Num w' v N ∧ Below W.heap.size W w'
theorem Num.below {w w' : World} {v : Value} {N : Nat} (h : Num w v N) (hb : Below w.heap.size w w') : Num w' v N := by
  obtain ⟨A, n, c, l, e, h1, h2⟩ := h
  exact ⟨A, n, c, l, e, h1.below hb, h2⟩
theorem Trimmed.gives {W w : World} {l : List Nat} {cap : Nat} {e : Ending} {w' : World} (h : Trimmed w l cap e w') (hc : cap ≤ maxLen) (hb : Below W.heap.size W w) : Gives W (M.val l) e w' := by
  obtain ⟨A, n, c, rfl, h1, h2, h3, h4, h5, h6, rfl⟩ := h
  exact ⟨_, rfl, ⟨A, n, c, _, rfl, h1, h2, h3, h5, by omega⟩, hb⟩
theorem of_any (x : Nat) (w : World) (hx : x ≤ 18446744073709551615) :
    Calls Tryz.prog 60 #[.int .u64 x] w (Gives w x) := by
  have hv : M.val [x % 4294967296, x / 4294967296] = x := by simp [M.val, M.BB_eq]; omega
  have HT := Lib.hid (trim_any (some ⟨w.heap.size, 0, none⟩) 2 2 [x % 4294967296, x / 4294967296] _ (lims_two w (x % 4294967296) (x / 4294967296) (by omega) (by omega)) (by omega) (by unfold maxLen; omega))
  have HV := Lib.hid hv
  clear hv
  go_enter Tryz.func60, Tryz.ntmps60
  go_wp2_with fail
  refine HT.out.mono ?_
  rintro e w1 ⟨A, n, c, rfl, h⟩
  go_wp2_with fail
  go_ret
  have := Trimmed.gives (W := w) ⟨A, n, c, rfl, h⟩ (by unfold maxLen; omega) ((Below.refl _ _).alloc (Nat.le_refl _) _)
  rw [HV.out] at this
  exact this
end Go.Proofs.YtfjpcjebecgglaaGreatDoor
namespace Go.Proofs.YtfjpcjebecgglaaGreatDoor
open Go.RowKit
def Normed (W : World) (N n : Nat) (e : Ending) (w' : World) : Prop :=
  ∃ l : List Nat, M.Fit l ∧ M.Top l ∧ M.val l = N ∧ l.length ≤ n ∧ Below W.heap.size W w' ∧
    ((l = [] ∧ e = .returned (.slice none 0 0)) ∨ (e = .returned (.slice (some ⟨W.heap.size, 0, none⟩) l.length l.length) ∧ Row w' W.heap.size l))
theorem norm_row (A : Option Addr) (n c : Nat) (l : List Nat) (w : World) (h : Lims w A n l) (hn : n ≤ c) (hc : c ≤ maxLen) (hs : n ≤ 4000000000) :
    Calls Tryz.prog 103 #[.slice A n c] w (Normed w (M.val l) n) := by
  go_enter Tryz.func103, Tryz.ntmps103
  go_wp2_with fail
  refine (trim_any _ _ _ _ _ h hn hc).mono ?_
  rintro e w1 ⟨A', n', c', rfl, h1, h2, h3, h4, h5, h6, rfl⟩
  have hl := h.1
  have HL := Lib.hid hl
  clear hl
  have hn' : n' ≤ 4000000000 := by have := HL.out; omega
  have hnn : n' ≤ n := by have := HL.out; omega
  have H3 := Lib.hid h3
  have H1 := Lib.hid h1.1
  have H2 := Lib.hid h2
  clear h3 h2
  by_cases h0 : n' = 0
  · subst h0
    go_wp2_with fail
    go_ret
    exact ⟨[], M.Fit.nil, M.Top.nil, by rw [← H3.out]; rfl, by simp, Below.refl _ _, .inl ⟨rfl, rfl⟩⟩
  · have h0' : ((n' : Int) == 0) = false := by simp; omega
    clear h0
    have hmk := make_any n' (by omega)
    go_wp2_with (refine copy_any rfl (.tmp 12) (.tmp 13) rfl rfl rfl (Row.zeros_ _ _) (h1.below ((Below.refl _ _).alloc (Nat.le_refl _) _)) (Nat.le_refl _) ((Below.refl _ _).alloc (Nat.le_refl _) _) ?_; intro w2 hrow hbel)
    go_ret
    simp only [Nat.sub_self, List.replicate_zero, List.append_nil] at hrow
    exact ⟨_, h1.2.1, H2.out, H3.out, by rw [H1.out]; exact hnn, hbel, .inr ⟨by rw [H1.out]; rfl, hrow⟩⟩
theorem sign_q (b : Bool) (w : World) (n : Int) (hn : n = if b then -1 else 1) : Calls Tryz.prog 117 #[.bool b] w fun e w' => e = .returned (.int .i64 n) ∧ w' = w :=
  (sign_any b w).mono fun _ _ ⟨h1, h2⟩ => ⟨by rw [h1, hn], h2.symm⟩
theorem cmp_any (A B : Option Addr) (n m c d : Nat) (k l : List Nat) (w : World) (hk : Lims w A n k) (hl : Lims w B m l) (hn : n ≤ c) (hm : m ≤ d) (hc : c ≤ maxLen) (hd : d ≤ maxLen) :
    Calls Tryz.prog 95 #[.slice A n c, .slice B m d] w fun e w' => e = .returned (.int .i64 (M.cmpI (M.val k) (M.val l))) ∧ ∃ j, w' = w.drewN j := by
  go_enter Tryz.func95, Tryz.ntmps95
  go_wp2_with fail
  refine (trim_any _ _ _ _ _ hk hn hc).mono ?_
  rintro e w1 ⟨A', n', c', rfl, h1, h2, h3, h4, h5, h6, rfl⟩
  go_wp2_with fail
  refine (trim_any _ _ _ _ _ hl hm hd).mono ?_
  rintro e w1 ⟨B', m', d', rfl, g1, g2, g3, g4, g5, g6, rfl⟩
  generalize k.take n' = k' at *
  generalize l.take m' = l' at *
  have hr : Hid (M.cmpI (M.val k) (M.val l) = M.cmpI (M.val k') (M.val l')) := by rw [h3, g3]; exact rfl
  clear h3 g3
  have H2 := Lib.hid h2
  have G2 := Lib.hid g2
  clear h2 g2
  unfold maxLen at hc hd
  by_cases hlt : n' < m'
  · have hne : ((n' : Int) == (m' : Int)) = false := by simp; omega
    have hb : decide ((n' : Int) < (m' : Int)) = true := by simp; omega
    go_wp2_with fail
    refine (sign_q true _ _ rfl).mono ?_
    rintro e w1 ⟨rfl, rfl⟩
    go_wp2_with fail
    go_ret
    refine ⟨ret_int ?_, 0, rfl⟩
    rw [hr.out, M.cmpI_lt (M.lt_of_shorter h1.2.1 G2.out (by rw [h1.1, g1.1]; exact hlt))]
  by_cases hgt : m' < n'
  · have hne : ((n' : Int) == (m' : Int)) = false := by simp; omega
    have hb : decide ((n' : Int) < (m' : Int)) = false := by simp; omega
    go_wp2_with fail
    refine (sign_q false _ _ rfl).mono ?_
    rintro e w1 ⟨rfl, rfl⟩
    go_wp2_with fail
    go_ret
    refine ⟨ret_int ?_, 0, rfl⟩
    rw [hr.out, M.cmpI_gt (M.lt_of_shorter g1.2.1 H2.out (by rw [h1.1, g1.1]; exact hgt))]
  obtain rfl : n' = m' := by omega
  clear hlt hgt
  have hlen : Hid (k'.length = l'.length) := h1.1.trans g1.1.symm
  go_wp2_with fail
  go_loopw [24] (fun i wr => ∃ j : Nat, j ≤ n' ∧ i = .int .i64 j ∧ Hid (∀ q, n' - j ≤ q → k'.getD q 0 = l'.getD q 0) ∧ ∃ q, wr = w.drewN q) (fun i _ => n' - (intOf i).toNat)
  case atStart => exact ⟨0, Nat.zero_le _, rfl, fun q hq => by rw [M.getD_ge (by rw [h1.1]; exact hq), M.getD_ge (by rw [g1.1]; exact hq)], 0, rfl⟩
  case round =>
    obtain ⟨j, hj, rfl, HZ, q, rfl⟩ := hrel
    by_cases hlt : j < n'
    · obtain ⟨i, hi⟩ : ∃ i : Nat, Hid (n' - 1 - j = i) := ⟨_, rfl⟩
      have hi1 : i < n' := by have := hi.out; omega
      have hi2 : j < n' := hlt
      have he : (n' : Int) - 1 - (j : Int) = (i : Int) := by have := hi.out; omega
      obtain ⟨b, off, rfl, _, hc1⟩ := h1.at_ (by omega)
      obtain ⟨x, HX, hx, hcx⟩ := hc1 (i) (by omega)
      obtain ⟨b', off', rfl, _, hc2⟩ := g1.at_ (by omega)
      obtain ⟨y, HY, hy, hcy⟩ := hc2 (i) (by omega)
      clear hc1 hc2
      have HZ' : Hid (∀ q, i + 1 ≤ q → k'.getD q 0 = l'.getD q 0) := fun q hq => HZ.out q (by have := hi.out; omega)
      by_cases hxy : x = y
      · subst hxy
        go_wp2_with fail
        go_quiet (fail)
        go_wp2_with fail
        go_roundw
        case rel => exact ⟨j + 1, by omega, by go_num, fun q hq => by
          by_cases e : q = i
          · subst e; rw [← HX.out, ← HY.out]
          · exact HZ.out q (by have := hi.out; omega), _, rfl⟩
        case measure => simp [intOf]; omega
      · have hxy' : ((x : Int) == (y : Int)) = false := by simp; omega
        by_cases hlt2 : x < y
        · have hb : decide ((x : Int) < (y : Int)) = true := by simp; omega
          have hv : Hid (M.cmpI (M.val k) (M.val l) = -1) := by
            rw [hr.out]
            exact M.cmpI_lt (M.lt_of_top (i) hlen.out (by rw [h1.1]; omega) h1.2.1 HZ'.out (by rw [← HX.out, ← HY.out]; exact hlt2))
          clear hxy
          go_wp2_with fail
          go_quiet (fail)
          rw [World.drewN_drewN]
          generalize q + nq = q2
          go_wp2_with fail
          go_quiet ((go_at_call 117; exact quiet_add (sign_q true _ _ rfl)))
          go_wp2_with fail
          go_ret
          first | exact ⟨ret_int (by rw [hv.out]), _, rfl⟩ | exact ⟨ret_int (by rw [hv.out]), _, World.drewN_drewN _ _ _⟩
        · have hb : decide ((x : Int) < (y : Int)) = false := by simp; omega
          have hv : Hid (M.cmpI (M.val k) (M.val l) = 1) := by
            rw [hr.out]
            exact M.cmpI_gt (M.lt_of_top (i) hlen.out.symm (by rw [g1.1]; omega) g1.2.1 (fun q hq => (HZ'.out q hq).symm) (by rw [← HX.out, ← HY.out]; omega))
          clear hxy
          go_wp2_with fail
          go_quiet (fail)
          rw [World.drewN_drewN]
          generalize q + nq = q2
          go_wp2_with fail
          go_quiet ((go_at_call 117; exact quiet_add (sign_q false _ _ rfl)))
          go_wp2_with fail
          go_ret
          first | exact ⟨ret_int (by rw [hv.out]), _, rfl⟩ | exact ⟨ret_int (by rw [hv.out]), _, World.drewN_drewN _ _ _⟩
    · have hv : Hid (M.cmpI (M.val k) (M.val l) = 0) := by
        rw [hr.out, M.eq_of_all hlen.out (fun q _ => HZ.out q (by omega))]
        exact M.cmpI_eq _
      go_wp2_with fail
      go_ret
      exact ⟨ret_int (by rw [hv.out]), _, rfl⟩
end Go.Proofs.YtfjpcjebecgglaaGreatDoor
namespace Go.Proofs.YtfjpcjebecgglaaGreatDoor
open Go.RowKit
theorem fit_of {l : List Nat} (h : M.Fit l) (i : Nat) : l.getD i 0 ≤ 4294967295 := by have := h i; rw [M.BB_eq] at this; omega
def Divided (W : World) (g n d : Nat) (L : List Nat) (e : Ending) (w' : World) : Prop :=
  ∃ L' : List Nat, e = .returned (.int .u32 (M.val (L.take n) % d : Nat)) ∧ Row w' g L' ∧ W.grownBy w' (some g) ∧ L'.length = L.length ∧ M.Fit L' ∧ M.val (L'.take n) = M.val (L.take n) / d ∧ ∀ q, n ≤ q → L'.getD q 0 = L.getD q 0
theorem divideBy_any (g n c d : Nat) (L : List Nat) (w : World) (hrow : Row w g L) (hf : M.Fit L) (hn : n ≤ L.length) (hc : n ≤ 1000000) (hd : 1 ≤ d) (hd' : d ≤ 4294967295) :
    Calls Tryz.prog 111 #[.slice (some ⟨g, 0, none⟩) n c, .int .u32 d] w (Divided w g n d L) := by
  have hg : Hid (g < w.heap.size) := hrow.lt
  go_enter Tryz.func111, Tryz.ntmps111
  go_wp2_with fail
  go_loopw [5, 11] (fun rv jv wr => ∃ (j r : Nat) (L' : List Nat), j ≤ n ∧ r ≤ 4294967295 ∧ jv = .int .i64 j ∧ rv = .int .u64 r ∧ Row wr g L' ∧ M.DivInv L L' n (n - j) d r ∧ w.grownBy wr (some g)) (fun _ jv _ => n - (intOf jv).toNat)
  case atStart => exact ⟨0, 0, L, by omega, by omega, rfl, rfl, hrow, M.DivInv.start hf hn (by omega), World.grownBy.refl _ _⟩
  case round =>
    obtain ⟨j, r, L', hj, hr, rfl, rfl, hrow', hinv, hgr⟩ := hrel
    by_cases hlt : j < n
    · obtain ⟨i, hi⟩ : ∃ i : Nat, Hid (n - 1 - j = i) := ⟨_, rfl⟩
      have hi1 : i < n := by have := hi.out; omega
      have he : (n : Int) - 1 - (j : Int) = (i : Int) := by have := hi.out; omega
      have hinv : M.DivInv L L' n (i + 1) d r := by have e : n - j = i + 1 := by have := hi.out; omega
                                                    rw [← e]; exact hinv
      obtain ⟨x, HX⟩ : ∃ x, Hid (x = L'.getD i 0) := ⟨_, rfl⟩
      have hx : x ≤ 4294967295 := by rw [HX.out]; exact fit_of hinv.fit i
      have hcell : wr.cell? ⟨g, i, none⟩ = some (.int .u32 (x : Int)) := by rw [HX.out]; exact hrow'.cell (by rw [hinv.len]; omega)
      have hfr := hrow'.frozen i
      have ho := or_val x r hx hr
      obtain ⟨t, ht⟩ : ∃ t, Hid (t = x + 4294967296 * r) := ⟨_, rfl⟩
      rw [← ht.out] at ho
      have htb : t ≤ 18446744073709551615 := by rw [ht.out]; omega
      obtain ⟨hq, hinv'⟩ := hinv.step (t := t) hi1 hn HX.out (by rw [ht.out, M.BB_eq])
      obtain ⟨q, Hq⟩ : ∃ q, Hid (q = t / d) := ⟨_, rfl⟩
      obtain ⟨r', Hr⟩ : ∃ r', Hid (r' = t % d) := ⟨_, rfl⟩
      have hrd : r' < d := by rw [Hr.out]; exact Nat.mod_lt _ (by omega)
      rw [← Hq.out] at hq hinv'
      rw [← Hr.out] at hinv'
      rw [M.BB_eq] at hq
      have eq1 : (t : Int) / (d : Int) = (q : Int) := by rw [Hq.out]; rfl
      have eq2 : (t : Int) % (d : Int) = (r' : Int) := by rw [Hr.out]; rfl
      have hd1 : (1 : Int) ≤ (d : Int) := by omega
      have HR := Lib.hid (hrow'.set_ i q)
      have HG := Lib.hid (only_setCell hgr (p := ⟨g, i, none⟩) (.inl rfl) (.int .u32 (q : Int)))
      go_wp2_with fail
      go_roundw
      case rel => exact ⟨j + 1, r', _, by omega, by omega, by go_num, by rw [eq2], HR.out, by have e : n - (j + 1) = i := by have := hi.out; omega
                                                                                              rw [e]; exact hinv', HG.out⟩
      case measure => simp [intOf]; omega
    · obtain rfl : j = n := by omega
      rw [Nat.sub_self] at hinv
      obtain ⟨e1, e2⟩ := hinv.end_
      have E2 := Lib.hid e2
      clear e2
      go_wp2_with fail
      go_ret
      exact ⟨L', by rw [← E2.out]; rfl, hrow', hgr, hinv.len, hinv.fit, e1, hinv.high⟩
end Go.Proofs.YtfjpcjebecgglaaGreatDoor
namespace Go.Proofs.YtfjpcjebecgglaaGreatDoor
open Go.RowKit
end Go.Proofs.YtfjpcjebecgglaaGreatDoor
namespace Go.Proofs.YtfjpcjebecgglaaGreatDoor
open Go.RowKit
end Go.Proofs.YtfjpcjebecgglaaGreatDoor
namespace Go.Proofs.YtfjpcjebecgglaaGreatDoor
open Go.RowKit
end Go.Proofs.YtfjpcjebecgglaaGreatDoor
namespace Go.Proofs.YtfjpcjebecgglaaGreatDoor
open Go.RowKit
end Go.Proofs.YtfjpcjebecgglaaGreatDoor
namespace Go.Proofs.YtfjpcjebecgglaaGreatDoor
open Go.RowKit
end Go.Proofs.YtfjpcjebecgglaaGreatDoor
