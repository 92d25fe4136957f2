/- Runs with their places, ranged over: the code's placed. -/
import Derived.Test.YtkooconjkimgoaaDoorF2
import Derived.Test.YtkooconjkimgoaaDoorJ14
import Derived.RangeFuncNested
import Derived.RangeFuncBound
import Derived.RangeFuncCalls
import Derived.RangeFuncLeaves
import Derived.Shelf.Abstract
import Derived.Shelf.RegionOpen
import Derived.WalkKit
import Derived.OwnWalkIn
import Derived.TacticsInMore
import Derived.LoopNIn
import Derived.LoopIn
namespace Go.Proofs.YtkooconjkimgoaaDoor
open Go.RowKit Go.Shelf

attribute [local go_sem] Oper.semAt_some

/-- block k holds the row that lies in the box -/
def Mine (Bl : Option Nat) (W : World) (k : Nat) : Prop := ∃ b t v, Bl = some b ∧ Lies W b t #[v] ∧ v.ownBlock = some k
theorem Mine.none {W : World} {k : Nat} (h : Mine none W k) : False := by
  obtain ⟨b, t, v, e, _⟩ := h
  cases e
theorem Mine.back {Bl : Option Nat} {W W' : World} {k : Nat} (h : Mine Bl W' k) (hs : ∀ b, Bl = some b → W'.heap[b]? = W.heap[b]?) : Mine Bl W k := by
  obtain ⟨b, t, v, e, hl, hv⟩ := h
  exact ⟨b, t, v, e, (hs b e).symm.trans hl, hv⟩
/-- what a round keeps: what lay below n₀; the blocks of cells from B on but the row in the box -/
structure Kps (Bl : Option Nat) (n₀ B : Nat) (W W' : World) : Prop where
  below : Below n₀ W W'
  kept : ∀ k o, B ≤ k → W.heap[k]? = some o → o.isCells = true → ¬ Mine Bl W k → W'.heap[k]? = some o
  mine : ∀ k, k < W.heap.size → Mine Bl W' k → Mine Bl W k
  in_ : (∀ k, Mine Bl W k → k < W.heap.size) → ∀ k, Mine Bl W' k → k < W'.heap.size
theorem Kps.trans {Bl : Option Nat} {n₀ B : Nat} {X Y Z : World} (h : Kps Bl n₀ B X Y) (k : Kps Bl n₀ B Y Z) : Kps Bl n₀ B X Z :=
  ⟨h.below.trans k.below, fun i o hi ho hc hm => k.kept i o hi (h.kept i o hi ho hc hm) hc (fun hy => hm (h.mine i (Array.getElem?_eq_some_iff.1 ho).1 hy)),
    fun i hi hz => h.mine i hi (k.mine i (Nat.lt_of_lt_of_le hi h.below.size) hz), fun hx => k.in_ (h.in_ hx)⟩
theorem Kps.book {Bl : Option Nat} {n₀ B : Nat} (hn : n₀ ≤ B) (hBl : ∀ b, Bl = some b → b < B) (W : World) (l : Nat) (o o' : Obj) (hl : B ≤ l) (h : W.heap[l]? = some o) (hc : o.isCells = false) (_ : o.isWalk = false) : Kps Bl n₀ B W (W.putObj l o') := by
  have hm : ∀ k, Mine Bl (W.putObj l o') k → Mine Bl W k := fun k hk => hk.back fun b hb => World.putObj_heap_other (by have := hBl b hb; omega)
  have hlt := (Array.getElem?_eq_some_iff.1 h).1
  refine ⟨(Below.refl n₀ W).grown (grownBy_putObj' W l o') (by omega) (fun k e => by cases e; omega), fun k o2 hk h2 hc2 _ => ?_, fun k _ hk => hm k hk, fun hx k hk => ?_⟩
  · by_cases e : k = l
    · subst e
      rw [h] at h2
      cases h2
      rw [hc] at hc2
      cases hc2
    · exact (World.putObj_heap_other (fun h => e h)).trans h2
  · exact Nat.lt_of_lt_of_le (hx k (hm k hk)) (grownBy_putObj' W l o').size
/-- a round that turns boxes alone -/
theorem Kps.of_turn {n₀ B : Nat} {W W' : World} (h : Turn (fun k => n₀ ≤ k ∧ k < B) W W') (hn : n₀ ≤ W.heap.size) : Kps none n₀ B W W' :=
  ⟨h.below hn (fun _ e => e.1), fun k _ hk ho _ _ => (h.block k (Array.getElem?_eq_some_iff.1 ho).1 (fun e => absurd e.2 (Nat.not_lt.2 hk))).trans ho, fun _ _ e => e.none.elim, fun _ _ e => e.none.elim⟩
theorem keeps_of_turn {n₀ B : Nat} {W W' : World} (h : Turn (fun k => n₀ ≤ k ∧ k < B) W W') : KeepsFrom B W W' :=
  ⟨h.size, fun k _ hk ho _ => (h.block k (Array.getElem?_eq_some_iff.1 ho).1 (fun e => absurd e.2 (Nat.not_lt.2 hk))).trans ho⟩
theorem Kps.alloc {Bl : Option Nat} {n₀ B : Nat} {W : World} (hn : n₀ ≤ W.heap.size) (hBl : ∀ b, Bl = some b → b < W.heap.size) (o : Obj) : Kps Bl n₀ B W (W.alloc o) := by
  have hm : ∀ k, Mine Bl (W.alloc o) k → Mine Bl W k := fun k hk => hk.back fun b hb => Below.heap_alloc W o b (hBl b hb)
  exact ⟨(Below.refl n₀ W).alloc hn o, fun k o2 _ h2 _ _ => (Below.heap_alloc W o k (Array.getElem?_eq_some_iff.1 h2).1).trans h2, fun k _ hk => hm k hk, fun hx k hk => Nat.lt_of_lt_of_le (hx k (hm k hk)) (by simp)⟩
theorem lies_own {β : Type} (b : Nat) (t : TypeId) (f : β → Array Value) : Own (fun s W => Lies W b t (f s)) := fun s X Y row hs hg hrow =>
  (hg.block b hs.lt (fun e => by
    obtain ⟨o, ho, hc⟩ := hrow b e.symm
    rw [show X.heap[b]? = _ from hs] at ho
    cases ho
    cases hc)).trans hs

/-- nothing of what lay ahead of the call has turned; the heap is no smaller than where the loop began -/
def Past (w W0 W : World) : Prop := Below w.heap.size w W ∧ W0.heap.size ≤ W.heap.size
theorem Past.own {β : Type} {w W0 : World} (h : w.heap.size ≤ W0.heap.size) : OwnFrom W0.heap.size (fun (_ : β) W => Past w W0 W) := fun s X Y row hs hg hr =>
  ⟨ownFrom_below (Nat.le_refl _) h s X Y row hs.1 hg hr, Nat.le_trans hs.2 hg.size⟩
theorem Past.alloc {w W0 W : World} (h : Past w W0 W) (o : Obj) : Past w W0 (W.alloc o) := ⟨h.1.alloc h.1.size o, Nat.le_trans h.2 (by simp)⟩
theorem Past.turn {F : Nat → Prop} {w W0 W W' : World} (h : Past w W0 W) (hT : Turn F W W') (hF : ∀ i, F i → w.heap.size ≤ i) : Past w W0 W' := ⟨h.1.trans (hT.below h.1.size hF), Nat.le_trans h.2 hT.size⟩
/-- the mark is taken away: nothing of what lay ahead of the call turns -/
theorem Past.end_ {w W0 W : World} (h : Past w W0 W) (hw : w.heap.size ≤ W0.heap.size) {D : Nat} (hD : W0.heap.size ≤ D) (hK : W.heap[D]? = some (.deferred (some []))) (o : Obj) : Below w.heap.size w (W.putObj D o) :=
  h.1.trans (belowK_b (w := w) (Nat.le_refl _) W D _ _ (by omega) hK rfl rfl)

/-- the place at which a run begins -/
def Tx.pl (R : List (Int × Int)) (k : Nat) : Int := IntKind.i64.wrap (Lt.total (R.take k))
def Tx.item (R : List (Int × Int)) (k : Nat) : Int × Int × Int := (Tx.pl R k, (R[k]?.getD (0, 0)).1, (R[k]?.getD (0, 0)).2)
/-- the first runs, with their places -/
def Tx.items (R : List (Int × Int)) (k : Nat) : List (Int × Int × Int) := (List.range k).map (Tx.item R)
theorem Tx.items_succ (R : List (Int × Int)) (k : Nat) : Tx.items R (k + 1) = Tx.items R k ++ [Tx.item R k] := by simp [Tx.items, List.range_succ]
theorem Tx.items_len (R : List (Int × Int)) (k : Nat) : (Tx.items R k).length = k := by simp [Tx.items]
theorem wrap_add8 (a b : Int) : IntKind.i64.wrap (IntKind.i64.wrap a + b) = IntKind.i64.wrap (a + b) := by
  simp only [IntKind.wrap, IntKind.signed, IntKind.bits]
  simp
  omega
theorem Tx.item_at {R : List (Int × Int)} {k : Nat} {x : Int × Int} (h : R[k]? = some x) : Tx.item R k = (Tx.pl R k, x.1, x.2) := by rw [Tx.item, h]; rfl
theorem Tx.pl_succ {R : List (Int × Int)} {k : Nat} {x : Int × Int} (h : R[k]? = some x) : Tx.pl R (k + 1) = IntKind.i64.wrap (Tx.pl R k + x.2) := by
  have e : Lt.total (R.take (k + 1)) = Lt.total (R.take k) + x.2 := by
    rw [take_one h, Lt.total_app, Lt.total, Lt.total]
    omega
  rw [Tx.pl, Tx.pl, e, wrap_add8]
abbrev encR (x : Int × Int × Int) : Array Value := #[.int .i64 x.1, .agg #[.int .i64 x.2.1, .int .i64 x.2.2]]

theorem kplaced (A : Option Addr) (n c : Nat) (w : World) :
    Calls Tryd.prog 58 #[.slice A n c] w fun e w' => e = .returned (.func (.func 67) #[] #[.pointer (some ⟨w.heap.size, 0, none⟩)]) ∧ w' = w.alloc (.cells #[.slice A n c] 40) := by
  go_enter Tryd.func58, Tryd.ntmps58
  go_wp2
  go_ret
  exact ⟨rfl, rfl⟩

set_option maxRecDepth 100000 in
set_option maxHeartbeats 2000000 in
theorem kplaced1 (m : Nat) (hm : 1 ≤ m) (l Bs : Nat) (Bl : Option Nat) (w0 : World) (A : Option Addr) (n c : Nat) (R : List (Int × Int)) (h : RunS w0 A n R) (hn : n ≤ 1000000000) (B : Nat) (hBl : ∀ b, Bl = some b → b < B) (J Jx : List (Int × Int × Int) → World → Prop) (W : World) (hBW : B ≤ W.heap.size) (hJ : AbidesFrom W.heap.size J)
    (hY : ∀ pre x W1, J pre W1 → pre.length < n → YieldAt Fence.wide (m - 1) Tryd.prog l (encR x) W1 fun e W' =>
      (e = .returned (.bool true) ∧ J (pre ++ [x]) W' ∧ Kps Bl w0.heap.size B W1 W') ∨ (e = .returned (.bool false) ∧ Jx (pre ++ [x]) W'))
    (hb : Below w0.heap.size w0 W) (hmine : ∀ k, Mine Bl W k → k < W.heap.size) (hBs : W.cell? ⟨Bs, 0, none⟩ = some (.slice A n c)) (h0 : J [] W) :
    CallsIn Fence.wide m Tryd.prog 67 #[.func (.yield l) #[] #[], .pointer (some ⟨Bs, 0, none⟩)] W fun e W' => (∃ v, e = .returned v) ∧
      ((∃ ys, ys = Tx.items R n ∧ J ys W') ∨ (∃ pre, (∃ k, k ≤ n ∧ pre = Tx.items R k) ∧ Jx pre W')) := by
  refine callsIn_of_wp Tryd.func67 rfl trivial ?_ rfl
  simp only [Tryd.ntmps67, List.size_toArray, List.length_cons, List.length_nil, Nat.reduceAdd, Nat.reduceSub, Array.replicate_succ, Array.replicate_zero, List.push_toArray, List.append_toArray, List.nil_append, List.cons_append]
  gi_wp2
  gi_loopw [3, 8] (fun av iv wr => ∃ k : Nat, k ≤ n ∧ av = .int .i64 (Tx.pl R k) ∧ iv = .int .i64 k ∧ Hid (J (Tx.items R k) wr ∧ Below w0.heap.size w0 wr ∧ W.heap.size ≤ wr.heap.size ∧ ∀ k, Mine Bl wr k → k < wr.heap.size))
    (fun _ iv _ => n - (intOf iv).toNat)
  case atStart => exact ⟨0, Nat.zero_le _, rfl, rfl, h0, hb, Nat.le_refl _, hmine⟩
  case round =>
    obtain ⟨k, hk, rfl, rfl, HI⟩ := hrel
    by_cases hlt : k < n
    · obtain ⟨b, off, ⟨x1, x2⟩, rfl, hx, _, _, hc⟩ := h.get hlt
      obtain ⟨q1, q2, q3⟩ := hc wr HI.out.2.1
      obtain ⟨W1, hW1⟩ : ∃ W1, wr.alloc (.cells #[.int .i64 x1, .int .i64 x2] 96) = W1 := ⟨_, rfl⟩
      have hJ1 : J (Tx.items R k) W1 := by
        rw [← hW1]
        exact hJ _ _ _ none HI.out.1 (World.grownBy_alloc wr _ none) (fun r e => by cases e)
      have hl1 : Lies W1 wr.heap.size 96 #[.int .i64 x1, .int .i64 x2] := by rw [← hW1]; exact Lies.new wr _ _
      have hp := Tx.pl_succ hx
      have hit := Tx.item_at hx
      simp only at hp hit
      obtain ⟨p, hpe⟩ : ∃ p, Tx.pl R k = p := ⟨_, rfl⟩
      rw [hpe] at hp hit ⊢
      obtain ⟨fn, tmps, assign, body, hy, hR⟩ := hY _ (p, x1, x2) W1 hJ1 (by rw [Tx.items_len]; exact hlt)
      have HN : Hid (∀ W', J (Tx.items R k ++ [(p, x1, x2)]) W' → J (Tx.items R (k + 1)) W') := fun W' hj => by rw [Tx.items_succ, hit]; exact hj
      have HX : Hid (∀ W', Jx (Tx.items R k ++ [(p, x1, x2)]) W' → Jx (Tx.items R (k + 1)) W') := fun W' hj => by rw [Tx.items_succ, hit]; exact hj
      have HR := Lib.hid hR
      have HF : Hid (∀ W', Kps Bl w0.heap.size B W1 W' → Below w0.heap.size w0 W' ∧ W.heap.size ≤ W'.heap.size ∧ (∀ k, Mine Bl W' k → k < W'.heap.size) ∧ Lies W' wr.heap.size 96 #[.int .i64 x1, .int .i64 x2]) := fun W' hk => by
        have hs : wr.heap.size ≤ W1.heap.size := by rw [← hW1]; simp
        have hb1 : Below w0.heap.size w0 W1 := by rw [← hW1]; exact HI.out.2.1.alloc HI.out.2.1.size _
        have hm1 : ∀ k, Mine Bl W1 k → Mine Bl wr k := fun k hm => hm.back fun b hb => by
          rw [← hW1]
          exact Below.heap_alloc wr _ b (by have := hBl b hb; have := HI.out.2.2.1; omega)
        refine ⟨hb1.trans hk.below, Nat.le_trans HI.out.2.2.1 (Nat.le_trans hs hk.below.size), hk.in_ fun k hm => Nat.lt_of_lt_of_le (HI.out.2.2.2 k (hm1 k hm)) hs, ?_⟩
        refine hk.kept _ _ (by have := HI.out.2.2.1; omega) hl1 rfl fun hm => ?_
        exact absurd (HI.out.2.2.2 _ (hm1 _ hm)) (Nat.lt_irrefl _)
      have hlt' : (k : Int) < (n : Int) := by omega
      have h0' : (0 : Int) ≤ (k : Int) := by omega
      have c0 : W1.cell? ⟨wr.heap.size, 0, none⟩ = some (.int .i64 x1) := by rw [hl1.cell]; rfl
      have c1 : W1.cell? ⟨wr.heap.size, 1, none⟩ = some (.int .i64 x2) := by rw [hl1.cell]; rfl
      clear hit hpe hJ1 hl1 hR hx hc h0 hJ hY hb hmine hBW hBl h HI
      gi_wp2
      refine HR.out.mono ?_
      rintro e W3 (⟨rfl, hJ3, hk3⟩ | ⟨rfl, hJx3⟩)
      · obtain ⟨f1, f2, f3, f4⟩ := HF.out W3 hk3
        have c2 : W3.cell? ⟨wr.heap.size, 1, none⟩ = some (.int .i64 x2) := by rw [f4.cell]; rfl
        have HJ3 := Lib.hid (HN.out W3 hJ3)
        have HB3 := Lib.hid f1
        have HM3 := Lib.hid f3
        clear hJ3 hk3 f1 f3 f4 HF HN HX HR hy c0 c1 q2 q3
        gi_wp2
        go_roundw
        case rel => exact ⟨k + 1, by omega, by rw [hp, IntWalk.i64_left], by go_num, HJ3.out, HB3.out, f2, HM3.out⟩
        case measure => simp [intOf]; omega
      · have HX3 := Lib.hid (HX.out W3 hJx3)
        clear hJx3 HF HN HX HR hy
        gi_wp2
        refine bodyPost_ret (results_none rfl _ _ _) rfl ?_
        exact ⟨⟨_, rfl⟩, .inr ⟨_, ⟨k + 1, by omega, rfl⟩, HX3.out⟩⟩
    · obtain rfl : k = n := by omega
      gi_wp2
      go_end0
      exact ⟨⟨_, rfl⟩, .inl ⟨_, rfl, HI.out.1⟩⟩
theorem placed_stops (m : Nat) (hm : 1 ≤ m) (Bs : Nat) (Bl : Option Nat) (w0 : World) (A : Option Addr) (n c : Nat) (R : List (Int × Int)) (h : RunS w0 A n R) (hn : n ≤ 1000000000) (w : World) (hBl : ∀ b, Bl = some b → b < w.heap.size) (hBs : Bs < w.heap.size)
    (hb : Below w0.heap.size w0 w) (hmine : ∀ k, Mine Bl w k → k < w.heap.size) (hc : w.cell? ⟨Bs, 0, none⟩ = some (.slice A n c)) :
    SeqStopsK Fence.wide m Tryd.prog 67 #[.pointer (some ⟨Bs, 0, none⟩)] encR (Kps Bl w0.heap.size w.heap.size) (fun ys => ys = Tx.items R n) (fun pre => ∃ k, k ≤ n ∧ pre = Tx.items R k) n w := fun l J Jx W hW hJ _ hY h0 =>
  kplaced1 m hm l Bs Bl w0 A n c R h hn w.heap.size hBl J Jx W hW.size hJ hY (hb.trans (hW.mono hb.size)) (fun k hk => Nat.lt_of_lt_of_le (hmine k (hk.back fun b e => hW.block b (hBl b e))) hW.size) ((hW.cell (p := ⟨Bs, 0, none⟩) hBs).trans hc) h0
/-- a range over placed -/
theorem ranged {m : Nat} (hm : 3 ≤ m) (Bs : Nat) (Bl : Option Nat) (w0 : World) (A : Option Addr) (n c : Nat) (R : List (Int × Int)) (h : RunS w0 A n R) (hn : n ≤ 1000000000) {g : Operand} {p1 p2 : Tmp} {assign body : Code} {Q : Exit → Act → World → Prop} {a : Act} {w : World}
    (hg : a.eval g = .func (.func 67) #[] #[.pointer (some ⟨Bs, 0, none⟩)]) (hBl : ∀ b, Bl = some b → b < w.heap.size) (hBs : Bs < w.heap.size)
    (hb : Below w0.heap.size w0 w) (hmine : ∀ k, Mine Bl w k → k < w.heap.size) (hc : w.cell? ⟨Bs, 0, none⟩ = some (.slice A n c))
    (I : List (Int × Int × Int) → World → Prop) (Ix : Code → List (Int × Int × Int) → World → Prop) (hI : OwnFrom w.heap.size I) (hIx : ∀ c, OwnFrom w.heap.size (Ix c)) (h0 : I [] w) (Ax : Int × Int × Int → Act → World → Prop) (hAx : ∀ x a', OwnFrom w.heap.size (fun (_ : Unit) W => Ax x a' W))
    (hassign : ∀ (l : Nat) (pre : List (Int × Int × Int)) (x : Int × Int × Int) (W : World) (K : Act → World → Prop), I pre W → (∀ a' W', KeepsFrom w.heap.size W W' → Kps Bl w0.heap.size w.heap.size W W' → I pre W' → Ax x a' W' → K a' W') →
      assign.wpIn (Fence.wide.inRound l) (m - 1 - 1) Tryd.prog (Exit.then K (fun _ _ _ => False)) { tmps := (#[p1, p2].zip (encR x)).foldl (fun t (p, v) => t.setIfInBounds p v) a.tmps, defers := [] } W)
    (hbody : ∀ (l : Nat) (pre : List (Int × Int × Int)) (x : Int × Int × Int) (a' : Act) (W : World), w.heap.size ≤ l → (∃ r, W.heap[l]? = some (.loop r)) → I pre W → Ax x a' W → pre.length < n → body.wpIn (Fence.wide.inRound l) (m - 1 - 1) Tryd.prog (ownPostG w.heap.size (Kps Bl w0.heap.size w.heap.size) I Ix (pre ++ [x]) W) a' W)
    (hdone : ∀ (D : Nat) (W : World), w.heap.size ≤ D → I (Tx.items R n) W → W.heap[D]? = some (.deferred (some [])) → Q .normal { a with defers := { target := .collected D, args := #[] } :: a.defers } W)
    (hstop : ∀ (D : Nat) (c : Code) (k : Nat) (W : World), w.heap.size ≤ D → k ≤ n → Ix c (Tx.items R k) W → W.heap[D]? = some (.deferred (some [])) → c.wpIn Fence.wide m Tryd.prog Q { a with defers := { target := .collected D, args := #[] } :: a.defers } W) :
    (Code.rangeFunc g #[p1, p2] assign body).wpIn Fence.wide m Tryd.prog Q a w :=
  wpIn_rangeFunc_ownH (w0 := w) rfl (by omega) hg trivial (enters_of Tryd.func67 (by kernel_rfl) rfl) (placed_stops (m - 1) (by omega) Bs Bl w0 A n c R h hn w hBl hBs hb hmine hc)
    (fun h k => h.trans k) (Kps.book hb.size hBl) (Below.refl _ _) (fun _ => rfl) I Ix hI hIx h0 Ax hAx hassign hbody (fun D xs W hD hS hi hK => by subst hS; exact hdone D W hD hi hK) (fun D c pre W hD hS hi hK => by obtain ⟨k, hk, rfl⟩ := hS; exact hstop D c k W hD hk hi hK)
end Go.Proofs.YtkooconjkimgoaaDoor
