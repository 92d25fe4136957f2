/- What the proofs of this claim use, text by text. -/
import Derived.Test.YtfjpcjebecgglaaGreatDoorQE05
import Derived.RangeFuncNested
import Derived.RangeFuncBound
import Derived.RangeFuncCalls
import Derived.RangeFuncLeaves
import Derived.Shelf.Abstract
import Derived.Shelf.RegionOpen
import Derived.WalkKit
import Derived.OwnWalkIn
import Derived.TacticsInMore
import Derived.LoopNIn
import Derived.LoopIn
set_option linter.unusedSimpArgs false
set_option linter.unusedVariables false
set_option maxRecDepth 100000
set_option maxHeartbeats 25600000
namespace Go.Proofs.YtfjpcjebecgglaaGreatDoor
open Go.RowKit Go.Shelf
attribute [local go_sem] Oper.semAt_some
def Mine (Bl : Option Nat) (W : World) (k : Nat) : Prop := ∃ b t v, Bl = some b ∧ Lies W b t #[v] ∧ v.ownBlock = some k
theorem Mine.none {W : World} {k : Nat} (h : Mine none W k) : False := by
  obtain ⟨b, t, v, e, _⟩ := h
  cases e
theorem Mine.back {Bl : Option Nat} {W W' : World} {k : Nat} (h : Mine Bl W' k) (hs : ∀ b, Bl = some b → W'.heap[b]? = W.heap[b]?) : Mine Bl W k := by
  obtain ⟨b, t, v, e, hl, hv⟩ := h
  exact ⟨b, t, v, e, (hs b e).symm.trans hl, hv⟩
structure Kps (Bl : Option Nat) (n₀ B : Nat) (W W' : World) : Prop where
  below : Below n₀ W W'
  kept : ∀ k o, B ≤ k → W.heap[k]? = some o → o.isCells = true → ¬ Mine Bl W k → W'.heap[k]? = some o
  mine : ∀ k, k < W.heap.size → Mine Bl W' k → Mine Bl W k
  in_ : (∀ k, Mine Bl W k → k < W.heap.size) → ∀ k, Mine Bl W' k → k < W'.heap.size
theorem Kps.trans {Bl : Option Nat} {n₀ B : Nat} {X Y Z : World} (h : Kps Bl n₀ B X Y) (k : Kps Bl n₀ B Y Z) : Kps Bl n₀ B X Z :=
  ⟨h.below.trans k.below, fun i o hi ho hc hm => k.kept i o hi (h.kept i o hi ho hc hm) hc (fun hy => hm (h.mine i (Array.getElem?_eq_some_iff.1 ho).1 hy)),
    fun i hi hz => h.mine i hi (k.mine i (Nat.lt_of_lt_of_le hi h.below.size) hz), fun hx => k.in_ (h.in_ hx)⟩
theorem Kps.book {Bl : Option Nat} {n₀ B : Nat} (hn : n₀ ≤ B) (hBl : ∀ b, Bl = some b → b < B) (W : World) (l : Nat) (o o' : Obj) (hl : B ≤ l) (h : W.heap[l]? = some o) (hc : o.isCells = false) (_ : o.isWalk = false) : Kps Bl n₀ B W (W.putObj l o') := by
  have hm : ∀ k, Mine Bl (W.putObj l o') k → Mine Bl W k := fun k hk => hk.back fun b hb => World.putObj_heap_other (by have := hBl b hb; omega)
  have hlt := (Array.getElem?_eq_some_iff.1 h).1
  refine ⟨(Below.refl n₀ W).grown (grownBy_putObj' W l o') (by omega) (fun k e => by cases e; omega), fun k o2 hk h2 hc2 _ => ?_, fun k _ hk => hm k hk, fun hx k hk => ?_⟩
  · by_cases e : k = l
    · subst e
      rw [h] at h2
      cases h2
      rw [hc] at hc2
      cases hc2
    · exact (World.putObj_heap_other (fun h => e h)).trans h2
  · exact Nat.lt_of_lt_of_le (hx k (hm k hk)) (grownBy_putObj' W l o').size
theorem Kps.of_turn {n₀ B : Nat} {W W' : World} (h : Turn (fun k => n₀ ≤ k ∧ k < B) W W') (hn : n₀ ≤ W.heap.size) : Kps none n₀ B W W' :=
  ⟨h.below hn (fun _ e => e.1), fun k _ hk ho _ _ => (h.block k (Array.getElem?_eq_some_iff.1 ho).1 (fun e => absurd e.2 (Nat.not_lt.2 hk))).trans ho, fun _ _ e => e.none.elim, fun _ _ e => e.none.elim⟩
theorem keeps_of_turn {n₀ B : Nat} {W W' : World} (h : Turn (fun k => n₀ ≤ k ∧ k < B) W W') : KeepsFrom B W W' :=
  ⟨h.size, fun k _ hk ho _ => (h.block k (Array.getElem?_eq_some_iff.1 ho).1 (fun e => absurd e.2 (Nat.not_lt.2 hk))).trans ho⟩
theorem Kps.alloc {Bl : Option Nat} {n₀ B : Nat} {W : World} (hn : n₀ ≤ W.heap.size) (hBl : ∀ b, Bl = some b → b < W.heap.size) (o : Obj) : Kps Bl n₀ B W (W.alloc o) := by
  have hm : ∀ k, Mine Bl (W.alloc o) k → Mine Bl W k := fun k hk => hk.back fun b hb => Below.heap_alloc W o b (hBl b hb)
  exact ⟨(Below.refl n₀ W).alloc hn o, fun k o2 _ h2 _ _ => (Below.heap_alloc W o k (Array.getElem?_eq_some_iff.1 h2).1).trans h2, fun k _ hk => hm k hk, fun hx k hk => Nat.lt_of_lt_of_le (hx k (hm k hk)) (by simp)⟩
theorem lies_own {β : Type} (b : Nat) (t : TypeId) (f : β → Array Value) : Own (fun s W => Lies W b t (f s)) := fun s X Y row hs hg hrow =>
  (hg.block b hs.lt (fun e => by
    obtain ⟨o, ho, hc⟩ := hrow b e.symm
    rw [show X.heap[b]? = _ from hs] at ho
    cases ho
    cases hc)).trans hs
def Past (w W0 W : World) : Prop := Below w.heap.size w W ∧ W0.heap.size ≤ W.heap.size
theorem Past.own {β : Type} {w W0 : World} (h : w.heap.size ≤ W0.heap.size) : OwnFrom W0.heap.size (fun (_ : β) W => Past w W0 W) := fun s X Y row hs hg hr =>
  ⟨ownFrom_below (Nat.le_refl _) h s X Y row hs.1 hg hr, Nat.le_trans hs.2 hg.size⟩
theorem Past.alloc {w W0 W : World} (h : Past w W0 W) (o : Obj) : Past w W0 (W.alloc o) := ⟨h.1.alloc h.1.size o, Nat.le_trans h.2 (by simp)⟩
theorem Past.turn {F : Nat → Prop} {w W0 W W' : World} (h : Past w W0 W) (hT : Turn F W W') (hF : ∀ i, F i → w.heap.size ≤ i) : Past w W0 W' := ⟨h.1.trans (hT.below h.1.size hF), Nat.le_trans h.2 hT.size⟩
theorem Past.end_ {w W0 W : World} (h : Past w W0 W) (hw : w.heap.size ≤ W0.heap.size) {D : Nat} (hD : W0.heap.size ≤ D) (hK : W.heap[D]? = some (.deferred (some []))) (o : Obj) : Below w.heap.size w (W.putObj D o) :=
  h.1.trans (belowK_b (w := w) (Nat.le_refl _) W D _ _ (by omega) hK rfl rfl)
def Tx.pl (R : List (Int × Int)) (k : Nat) : Int := IntKind.i64.wrap (Lt.total (R.take k))
def Tx.item (R : List (Int × Int)) (k : Nat) : Int × Int × Int := (Tx.pl R k, (R[k]?.getD (0, 0)).1, (R[k]?.getD (0, 0)).2)
def Tx.items (R : List (Int × Int)) (k : Nat) : List (Int × Int × Int) := (List.range k).map (Tx.item R)
theorem Tx.items_succ (R : List (Int × Int)) (k : Nat) : Tx.items R (k + 1) = Tx.items R k ++ [Tx.item R k] := by simp [Tx.items, List.range_succ]
theorem Tx.items_len (R : List (Int × Int)) (k : Nat) : (Tx.items R k).length = k := by simp [Tx.items]
theorem wrap_add8 (a b : Int) : IntKind.i64.wrap (IntKind.i64.wrap a + b) = IntKind.i64.wrap (a + b) := by
  simp only [IntKind.wrap, IntKind.signed, IntKind.bits]
  simp
  omega
theorem Tx.item_at {R : List (Int × Int)} {k : Nat} {x : Int × Int} (h : R[k]? = some x) : Tx.item R k = (Tx.pl R k, x.1, x.2) := by rw [Tx.item, h]; rfl
theorem Tx.pl_succ {R : List (Int × Int)} {k : Nat} {x : Int × Int} (h : R[k]? = some x) : Tx.pl R (k + 1) = IntKind.i64.wrap (Tx.pl R k + x.2) := by
  have e : Lt.total (R.take (k + 1)) = Lt.total (R.take k) + x.2 := by
    rw [take_one h, Lt.total_app, Lt.total, Lt.total]
    omega
  rw [Tx.pl, Tx.pl, e, wrap_add8]
abbrev encR (x : Int × Int × Int) : Array Value := #[.int .i64 x.1, .agg #[.int .i64 x.2.1, .int .i64 x.2.2]]
theorem kplaced (A : Option Addr) (n c : Nat) (w : World) :
    Calls Tryz.prog 84 #[.slice A n c] w fun e w' => e = .returned (.func (.func 113) #[] #[.pointer (some ⟨w.heap.size, 0, none⟩)]) ∧ w' = w.alloc (.cells #[.slice A n c] 40) := by
  go_enter Tryz.func84, Tryz.ntmps84
  go_wp2
  go_ret
  exact ⟨rfl, rfl⟩
theorem kplaced1 (m : Nat) (hm : 1 ≤ m) (l Bs : Nat) (Bl : Option Nat) (w0 : World) (A : Option Addr) (n c : Nat) (R : List (Int × Int)) (h : RunS w0 A n R) (hn : n ≤ 1000000000) (B : Nat) (hBl : ∀ b, Bl = some b → b < B) (J Jx : List (Int × Int × Int) → World → Prop) (W : World) (hBW : B ≤ W.heap.size) (hJ : AbidesFrom W.heap.size J)
    (hY : ∀ pre x W1, J pre W1 → pre.length < n → YieldAt Fence.wide (m - 1) Tryz.prog l (encR x) W1 fun e W' =>
      (e = .returned (.bool true) ∧ J (pre ++ [x]) W' ∧ Kps Bl w0.heap.size B W1 W') ∨ (e = .returned (.bool false) ∧ Jx (pre ++ [x]) W'))
    (hb : Below w0.heap.size w0 W) (hmine : ∀ k, Mine Bl W k → k < W.heap.size) (hBs : W.cell? ⟨Bs, 0, none⟩ = some (.slice A n c)) (h0 : J [] W) :
    CallsIn Fence.wide m Tryz.prog 113 #[.func (.yield l) #[] #[], .pointer (some ⟨Bs, 0, none⟩)] W fun e W' => (∃ v, e = .returned v) ∧
      ((∃ ys, ys = Tx.items R n ∧ J ys W') ∨ (∃ pre, (∃ k, k ≤ n ∧ pre = Tx.items R k) ∧ Jx pre W')) := by
  refine callsIn_of_wp Tryz.func113 rfl trivial ?_ rfl
  simp only [Tryz.ntmps113, List.size_toArray, List.length_cons, List.length_nil, Nat.reduceAdd, Nat.reduceSub, Array.replicate_succ, Array.replicate_zero, List.push_toArray, List.append_toArray, List.nil_append, List.cons_append]
  gi_wp2
  gi_loopw [3, 8] (fun av iv wr => ∃ k : Nat, k ≤ n ∧ av = .int .i64 (Tx.pl R k) ∧ iv = .int .i64 k ∧ Hid (J (Tx.items R k) wr ∧ Below w0.heap.size w0 wr ∧ W.heap.size ≤ wr.heap.size ∧ ∀ k, Mine Bl wr k → k < wr.heap.size))
    (fun _ iv _ => n - (intOf iv).toNat)
  case atStart => exact ⟨0, Nat.zero_le _, rfl, rfl, h0, hb, Nat.le_refl _, hmine⟩
  case round =>
    obtain ⟨k, hk, rfl, rfl, HI⟩ := hrel
    by_cases hlt : k < n
    · obtain ⟨b, off, ⟨x1, x2⟩, rfl, hx, _, _, hc⟩ := h.get hlt
      obtain ⟨q1, q2, q3⟩ := hc wr HI.out.2.1
      obtain ⟨W1, hW1⟩ : ∃ W1, wr.alloc (.cells #[.int .i64 x1, .int .i64 x2] 70) = W1 := ⟨_, rfl⟩
      have hJ1 : J (Tx.items R k) W1 := by
        rw [← hW1]
        exact hJ _ _ _ none HI.out.1 (World.grownBy_alloc wr _ none) (fun r e => by cases e)
      have hl1 : Lies W1 wr.heap.size 70 #[.int .i64 x1, .int .i64 x2] := by rw [← hW1]; exact Lies.new wr _ _
      have hp := Tx.pl_succ hx
      have hit := Tx.item_at hx
      simp only at hp hit
      obtain ⟨p, hpe⟩ : ∃ p, Tx.pl R k = p := ⟨_, rfl⟩
      rw [hpe] at hp hit ⊢
      obtain ⟨fn, tmps, assign, body, hy, hR⟩ := hY _ (p, x1, x2) W1 hJ1 (by rw [Tx.items_len]; exact hlt)
      have HN : Hid (∀ W', J (Tx.items R k ++ [(p, x1, x2)]) W' → J (Tx.items R (k + 1)) W') := fun W' hj => by rw [Tx.items_succ, hit]; exact hj
      have HX : Hid (∀ W', Jx (Tx.items R k ++ [(p, x1, x2)]) W' → Jx (Tx.items R (k + 1)) W') := fun W' hj => by rw [Tx.items_succ, hit]; exact hj
      have HR := Lib.hid hR
      have HF : Hid (∀ W', Kps Bl w0.heap.size B W1 W' → Below w0.heap.size w0 W' ∧ W.heap.size ≤ W'.heap.size ∧ (∀ k, Mine Bl W' k → k < W'.heap.size) ∧ Lies W' wr.heap.size 70 #[.int .i64 x1, .int .i64 x2]) := fun W' hk => by
        have hs : wr.heap.size ≤ W1.heap.size := by rw [← hW1]; simp
        have hb1 : Below w0.heap.size w0 W1 := by rw [← hW1]; exact HI.out.2.1.alloc HI.out.2.1.size _
        have hm1 : ∀ k, Mine Bl W1 k → Mine Bl wr k := fun k hm => hm.back fun b hb => by
          rw [← hW1]
          exact Below.heap_alloc wr _ b (by have := hBl b hb; have := HI.out.2.2.1; omega)
        refine ⟨hb1.trans hk.below, Nat.le_trans HI.out.2.2.1 (Nat.le_trans hs hk.below.size), hk.in_ fun k hm => Nat.lt_of_lt_of_le (HI.out.2.2.2 k (hm1 k hm)) hs, ?_⟩
        refine hk.kept _ _ (by have := HI.out.2.2.1; omega) hl1 rfl fun hm => ?_
        exact absurd (HI.out.2.2.2 _ (hm1 _ hm)) (Nat.lt_irrefl _)
      have hlt' : (k : Int) < (n : Int) := by omega
      have h0' : (0 : Int) ≤ (k : Int) := by omega
      have c0 : W1.cell? ⟨wr.heap.size, 0, none⟩ = some (.int .i64 x1) := by rw [hl1.cell]; rfl
      have c1 : W1.cell? ⟨wr.heap.size, 1, none⟩ = some (.int .i64 x2) := by rw [hl1.cell]; rfl
      clear hit hpe hJ1 hl1 hR hx hc h0 hJ hY hb hmine hBW hBl h HI
      gi_wp2
      refine HR.out.mono ?_
      rintro e W3 (⟨rfl, hJ3, hk3⟩ | ⟨rfl, hJx3⟩)
      · obtain ⟨f1, f2, f3, f4⟩ := HF.out W3 hk3
        have c2 : W3.cell? ⟨wr.heap.size, 1, none⟩ = some (.int .i64 x2) := by rw [f4.cell]; rfl
        have HJ3 := Lib.hid (HN.out W3 hJ3)
        have HB3 := Lib.hid f1
        have HM3 := Lib.hid f3
        clear hJ3 hk3 f1 f3 f4 HF HN HX HR hy c0 c1 q2 q3
        gi_wp2
        go_roundw
        case rel => exact ⟨k + 1, by omega, by rw [hp, IntWalk.i64_left], by go_num, HJ3.out, HB3.out, f2, HM3.out⟩
        case measure => simp [intOf]; omega
      · have HX3 := Lib.hid (HX.out W3 hJx3)
        clear hJx3 HF HN HX HR hy
        gi_wp2
        refine bodyPost_ret (results_none rfl _ _ _) rfl ?_
        exact ⟨⟨_, rfl⟩, .inr ⟨_, ⟨k + 1, by omega, rfl⟩, HX3.out⟩⟩
    · obtain rfl : k = n := by omega
      gi_wp2
      go_end0
      exact ⟨⟨_, rfl⟩, .inl ⟨_, rfl, HI.out.1⟩⟩
theorem placed_stops (m : Nat) (hm : 1 ≤ m) (Bs : Nat) (Bl : Option Nat) (w0 : World) (A : Option Addr) (n c : Nat) (R : List (Int × Int)) (h : RunS w0 A n R) (hn : n ≤ 1000000000) (w : World) (hBl : ∀ b, Bl = some b → b < w.heap.size) (hBs : Bs < w.heap.size)
    (hb : Below w0.heap.size w0 w) (hmine : ∀ k, Mine Bl w k → k < w.heap.size) (hc : w.cell? ⟨Bs, 0, none⟩ = some (.slice A n c)) :
    SeqStopsK Fence.wide m Tryz.prog 113 #[.pointer (some ⟨Bs, 0, none⟩)] encR (Kps Bl w0.heap.size w.heap.size) (fun ys => ys = Tx.items R n) (fun pre => ∃ k, k ≤ n ∧ pre = Tx.items R k) n w := fun l J Jx W hW hJ _ hY h0 =>
  kplaced1 m hm l Bs Bl w0 A n c R h hn w.heap.size hBl J Jx W hW.size hJ hY (hb.trans (hW.mono hb.size)) (fun k hk => Nat.lt_of_lt_of_le (hmine k (hk.back fun b e => hW.block b (hBl b e))) hW.size) ((hW.cell (p := ⟨Bs, 0, none⟩) hBs).trans hc) h0
theorem ranged {m : Nat} (hm : 3 ≤ m) (Bs : Nat) (Bl : Option Nat) (w0 : World) (A : Option Addr) (n c : Nat) (R : List (Int × Int)) (h : RunS w0 A n R) (hn : n ≤ 1000000000) {g : Operand} {p1 p2 : Tmp} {assign body : Code} {Q : Exit → Act → World → Prop} {a : Act} {w : World}
    (hg : a.eval g = .func (.func 113) #[] #[.pointer (some ⟨Bs, 0, none⟩)]) (hBl : ∀ b, Bl = some b → b < w.heap.size) (hBs : Bs < w.heap.size)
    (hb : Below w0.heap.size w0 w) (hmine : ∀ k, Mine Bl w k → k < w.heap.size) (hc : w.cell? ⟨Bs, 0, none⟩ = some (.slice A n c))
    (I : List (Int × Int × Int) → World → Prop) (Ix : Code → List (Int × Int × Int) → World → Prop) (hI : OwnFrom w.heap.size I) (hIx : ∀ c, OwnFrom w.heap.size (Ix c)) (h0 : I [] w) (Ax : Int × Int × Int → Act → World → Prop) (hAx : ∀ x a', OwnFrom w.heap.size (fun (_ : Unit) W => Ax x a' W))
    (hassign : ∀ (l : Nat) (pre : List (Int × Int × Int)) (x : Int × Int × Int) (W : World) (K : Act → World → Prop), I pre W → (∀ a' W', KeepsFrom w.heap.size W W' → Kps Bl w0.heap.size w.heap.size W W' → I pre W' → Ax x a' W' → K a' W') →
      assign.wpIn (Fence.wide.inRound l) (m - 1 - 1) Tryz.prog (Exit.then K (fun _ _ _ => False)) { tmps := (#[p1, p2].zip (encR x)).foldl (fun t (p, v) => t.setIfInBounds p v) a.tmps, defers := [] } W)
    (hbody : ∀ (l : Nat) (pre : List (Int × Int × Int)) (x : Int × Int × Int) (a' : Act) (W : World), w.heap.size ≤ l → (∃ r, W.heap[l]? = some (.loop r)) → I pre W → Ax x a' W → pre.length < n → body.wpIn (Fence.wide.inRound l) (m - 1 - 1) Tryz.prog (ownPostG w.heap.size (Kps Bl w0.heap.size w.heap.size) I Ix (pre ++ [x]) W) a' W)
    (hdone : ∀ (D : Nat) (W : World), w.heap.size ≤ D → I (Tx.items R n) W → W.heap[D]? = some (.deferred (some [])) → Q .normal { a with defers := { target := .collected D, args := #[] } :: a.defers } W)
    (hstop : ∀ (D : Nat) (c : Code) (k : Nat) (W : World), w.heap.size ≤ D → k ≤ n → Ix c (Tx.items R k) W → W.heap[D]? = some (.deferred (some [])) → c.wpIn Fence.wide m Tryz.prog Q { a with defers := { target := .collected D, args := #[] } :: a.defers } W) :
    (Code.rangeFunc g #[p1, p2] assign body).wpIn Fence.wide m Tryz.prog Q a w :=
  wpIn_rangeFunc_ownH (w0 := w) rfl (by omega) hg trivial (enters_of Tryz.func113 (by kernel_rfl) rfl) (placed_stops (m - 1) (by omega) Bs Bl w0 A n c R h hn w hBl hBs hb hmine hc)
    (fun h k => h.trans k) (Kps.book hb.size hBl) (Below.refl _ _) (fun _ => rfl) I Ix hI hIx h0 Ax hAx hassign hbody (fun D xs W hD hS hi hK => by subst hS; exact hdone D W hD hi hK) (fun D c pre W hD hS hi hK => by obtain ⟨k, hk, rfl⟩ := hS; exact hstop D c k W hD hk hi hK)
end Go.Proofs.YtfjpcjebecgglaaGreatDoor
namespace Go.Proofs.YtfjpcjebecgglaaGreatDoor
open Go.RowKit Go.Shelf
attribute [local go_sem] Oper.semAt_some
def Tx.endOf (pre : List (Int × Int × Int)) : Int := pre.foldl (fun _ x => wrap64 (x.1 + x.2.2)) 0
theorem Tx.endOf_snoc (pre : List (Int × Int × Int)) (x : Int × Int × Int) : Tx.endOf (pre ++ [x]) = wrap64 (x.1 + x.2.2) := by simp [Tx.endOf]
theorem Tx.endOf_items (R : List (Int × Int)) (k : Nat) (hk : k ≤ R.length) : Tx.endOf (Tx.items R k) = wrap64 (Lt.total (R.take k)) := by
  cases k with
  | zero => simp [Tx.items, Tx.endOf, Lt.total, wrap64]
  | succ k =>
    rw [Tx.items_succ, Tx.endOf_snoc]
    have hx := List.getElem?_eq_getElem (l := R) (i := k) (by omega)
    have hp := Tx.pl_succ hx
    rw [Tx.item_at hx]
    simp only
    rw [← IntWalk.i64_left, ← hp, Tx.pl, IntWalk.i64_left]
theorem klength (w : World) (A : Option Addr) (n c : Nat) (R : List (Int × Int)) (h : RunS w A n R) (hn : n ≤ 1000000000) :
    Calls Tryz.prog 56 #[.slice A n c] w fun e w' => e = .returned (.int .i64 (wrap64 (Lt.total R))) ∧ Below w.heap.size w w' := by
  have hm : 3 ≤ 6 := by omega
  generalize 6 = m at hm
  refine (callsIn_wide (n := m)).1 ?_
  refine callsIn_of_wp_marks Tryz.func56 rfl trivial ?_ rfl
  simp only [Tryz.ntmps56, List.size_toArray, List.length_cons, List.length_nil, Nat.reduceAdd, Nat.reduceSub, Array.replicate_succ, Array.replicate_zero, List.push_toArray, List.append_toArray, List.nil_append, List.cons_append]
  have h1 : 1 ≤ m := by omega
  gi_wp2_with (refine ⟨trivial, ?_⟩; gi_at_call 84; refine (callsIn_wide.2 (kplaced A n c _)).mono ?_; rintro e w' ⟨rfl, rfl⟩)
  have hB0 : Below w.heap.size w ((w.alloc (.cells #[.int .i64 0] 3)).alloc (.cells #[.slice A n c] 40)) := ((Below.refl _ w).alloc (Nat.le_refl _) _).alloc (by simp) _
  have hsz : ((w.alloc (.cells #[.int .i64 0] 3)).alloc (.cells #[.slice A n c] 40)).heap.size = w.heap.size + 2 := by simp
  have l1 : Lies ((w.alloc (.cells #[.int .i64 0] 3)).alloc (.cells #[.slice A n c] 40)) w.heap.size 3 #[.int .i64 0] := (Below.heap_alloc _ _ _ (by simp)).trans (Lies.new w _ _)
  have l2 := Lies.new (w.alloc (.cells #[.int .i64 0] 3)) 40 #[.slice A n c]
  rw [World.size_alloc] at l2
  obtain ⟨W0, hW0⟩ : ∃ W0, (w.alloc (.cells #[.int .i64 0] 3)).alloc (.cells #[.slice A n c] 40) = W0 := ⟨_, rfl⟩
  rw [hW0] at hB0 hsz l1 l2 ⊢
  clear hW0
  refine ranged hm (w.heap.size + 1) none w A n c R h hn rfl (fun _ e => by cases e) (by omega) hB0 (fun _ e => e.none.elim) (by rw [l2.cell]; rfl)
    (fun pre W => Lies W w.heap.size 3 #[.int .i64 (Tx.endOf pre)] ∧ Past w W0 W)
    (fun _ _ _ => False)
    (OwnFrom.and (Own.from (lies_own _ _ _) _) (Past.own (by omega)))
    (fun _ _ _ _ _ hs _ _ => hs)
    ⟨l1, hB0, Nat.le_refl _⟩
    (fun x a' W => ∃ Bx, W0.heap.size ≤ Bx ∧ Lies W Bx 70 #[.int .i64 x.2.1, .int .i64 x.2.2] ∧ a' = { tmps := #[.slice A n c, undef, .int .i64 0, .pointer (some ⟨w.heap.size, 0, none⟩), .int .i64 x.1, .pointer (some ⟨Bx, 0, none⟩), .slice A n c, .func (.func 113) #[] #[.pointer (some ⟨w.heap.size + 1, 0, none⟩)], .int .i64 x.1, .agg #[.int .i64 x.2.1, .int .i64 x.2.2], undef, undef, undef, undef, undef], defers := [] })
    (fun x a' _ X Y row hs hg hr => by obtain ⟨Bx, h1, h2, h3⟩ := hs; exact ⟨Bx, h1, lies_own Bx 70 (fun (_ : Unit) => #[.int .i64 x.2.1, .int .i64 x.2.2]) () X Y row h2 hg (fun r e => (hr r e).2), h3⟩)
    ?assign ?body ?done ?stop
  case assign =>
    rintro l pre x W K ⟨hl, hb⟩ hK
    gi_wp2
    exact hK _ _ ((KeepsOthers.alloc _ _).from _) (Kps.alloc hb.1.size (fun _ e => by cases e) _) ⟨(Below.heap_alloc _ _ _ hl.lt).trans hl, hb.alloc _⟩ ⟨W.heap.size, hb.2, Lies.new W _ _, rfl⟩
  case body =>
    rintro l pre x a' W hl ⟨r, hr⟩ ⟨hL, hB⟩ ⟨Bx, hBx, hX, rfl⟩ hlt
    have cE : W.cell? ⟨w.heap.size, 0, none⟩ = some (.int .i64 (Tx.endOf pre)) := by rw [hL.cell]; rfl
    have fE := hL.free 0
    have cX : W.cell? ⟨Bx, 1, none⟩ = some (.int .i64 x.2.2) := by rw [hX.cell]; rfl
    gi_wp2
    have hT : Turn (fun k => w.heap.size ≤ k ∧ k < W0.heap.size) W (W.setCell ⟨w.heap.size, 0, none⟩ (.int .i64 (wrap64 (x.1 + x.2.2)))) := (Turn.refl _ W).put (.inl ⟨Nat.le_refl _, by show w.heap.size < W0.heap.size; omega⟩) _
    refine ⟨keeps_of_turn hT, Kps.of_turn hT hB.1.size, ?_, hB.turn hT (fun _ e => e.1)⟩
    rw [Tx.endOf_snoc]
    exact hL.put 0 _
  case done =>
    rintro D W hD ⟨hL, hB⟩ hK
    have cE : W.cell? ⟨w.heap.size, 0, none⟩ = some (.int .i64 (Tx.endOf (Tx.items R n))) := by rw [hL.cell]; rfl
    gi_wp2
    refine ⟨by simp, .inl ⟨_, _, rfl, run_takeDeferred hK, ?_⟩⟩
    exact ⟨_, results_tmp rfl _ _ _, by rw [Tx.endOf_items R n (by rw [h.len]; exact Nat.le_refl _), ← h.len, List.take_length]; rfl, hB.end_ (by omega) hD hK _⟩
  case stop =>
    rintro D c k W _ _ h _
    exact h.elim
theorem klength_may (w : World) (A : Option Addr) (n c : Nat) (R : List (Int × Int)) (h : RunS w A n R) (hm : Tx.May R) :
    Calls Tryz.prog 56 #[.slice A n c] w fun e w' => e = .returned (.int .i64 (Lt.total R)) ∧ Below w.heap.size w w' := by
  have hk := klength w A n c R h (by have := hm.few; have := h.len; omega)
  have h0 : 0 ≤ Lt.total R := Lt.total_pos fun x hx => Int.not_lt.2 (hm.own.pos x hx).2
  have h1 := hm.most
  rwa [IntWalk.wrap64_in _ (by omega)] at hk
def Tx.okAll : Int → List (Int × Int × Int) → Prop
  | _, [] => True
  | p, x :: l => (0 ≤ x.2.1 ∧ x.2.1 ≤ 196607 ∧ x.2.1 ≠ p ∧ 1 ≤ x.2.2 ∧ x.2.2 ≤ wrap64 (1099511627776 - x.1)) ∧ Tx.okAll x.2.1 l
def Tx.ahead (l : List (Int × Int × Int)) : Int := l.foldl (fun _ x => x.2.1) (-1)
theorem Tx.ahead_snoc (l : List (Int × Int × Int)) (x : Int × Int × Int) : Tx.ahead (l ++ [x]) = x.2.1 := by simp [Tx.ahead]
theorem Tx.okAll_snoc : ∀ (l : List (Int × Int × Int)) (p : Int) (x : Int × Int × Int), Tx.okAll p (l ++ [x]) ↔ Tx.okAll p l ∧ (0 ≤ x.2.1 ∧ x.2.1 ≤ 196607 ∧ x.2.1 ≠ l.foldl (fun _ x => x.2.1) p ∧ 1 ≤ x.2.2 ∧ x.2.2 ≤ wrap64 (1099511627776 - x.1))
  | [], p, x => by simp [Tx.okAll]
  | y :: l, p, x => by
    rw [List.cons_append, Tx.okAll, Tx.okAll, Tx.okAll_snoc l, List.foldl_cons]
    simp only [and_assoc]
theorem Tx.ok_snoc (l : List (Int × Int × Int)) (x : Int × Int × Int) : Tx.okAll (-1) (l ++ [x]) ↔ Tx.okAll (-1) l ∧ (0 ≤ x.2.1 ∧ x.2.1 ≤ 196607 ∧ x.2.1 ≠ Tx.ahead l ∧ 1 ≤ x.2.2 ∧ x.2.2 ≤ wrap64 (1099511627776 - x.1)) := Tx.okAll_snoc l (-1) x
theorem Tx.ok_items (R : List (Int × Int)) : ∀ k, k ≤ R.length → (Tx.okAll (-1) (Tx.items R k) ↔ Tx.Own (R.take k) ∧ Lt.total (R.take k) ≤ 1099511627776)
  | 0, _ => by simp [Tx.items, Tx.okAll, Tx.Own.nil, Lt.total]
  | k + 1, hk => by
    have ih := Tx.ok_items R k (by omega)
    have hx := List.getElem?_eq_getElem (l := R) (i := k) (by omega)
    generalize R[k] = x at hx
    rw [Tx.items_succ, Tx.item_at hx, Tx.ok_snoc, ih, Tx.take_tot hx]
    simp only
    have hah : ∀ j y, k = j + 1 → R[j]? = some y → Tx.ahead (Tx.items R k) = y.1 := fun j y e hy => by
      subst e
      rw [Tx.items_succ, Tx.ahead_snoc, Tx.item_at hy]
    have h0 : k = 0 → Tx.ahead (Tx.items R k) = -1 := fun e => by subst e; rfl
    constructor
    · rintro ⟨⟨h1, h2⟩, h3, h4, h5, h6, h7⟩
      have hp : 0 ≤ Lt.total (R.take k) := Lt.total_pos fun y hy => Int.not_lt.2 (h1.pos y hy).2
      rw [Tx.pl, IntWalk.i64_left, IntWalk.wrap64_in (Lt.total (R.take k)) (by omega), IntWalk.wrap64_in _ (by omega)] at h7
      refine ⟨Tx.Own.snoc hx h1 (by unfold Lt.pt; simp; omega) h6 fun j y e hy e2 => h5 ?_, by omega⟩
      rw [hah j y e hy, e2]
    · rintro ⟨h1, h2⟩
      have hx' : (R.take (k + 1))[k]? = some x := by rw [List.getElem?_take, if_pos (by omega)]; exact hx
      have hpx := h1.pos x (List.mem_of_getElem? hx')
      have ho : Tx.Own (R.take k) := by
        have := h1.take k
        rwa [List.take_take, Nat.min_eq_left (by omega)] at this
      have hp : 0 ≤ Lt.total (R.take k) := Lt.total_pos fun y hy => Int.not_lt.2 (ho.pos y hy).2
      obtain ⟨f1, f2⟩ := Lt.pt_facts hpx.1
      refine ⟨⟨ho, by omega⟩, f1, by omega, fun e => ?_, hpx.2, ?_⟩
      · rcases Nat.eq_zero_or_pos k with e0 | e0
        · rw [h0 e0] at e
          omega
        · obtain ⟨j, rfl⟩ : ∃ j, k = j + 1 := ⟨k - 1, by omega⟩
          have hy := List.getElem?_eq_getElem (l := R) (i := j) (by omega)
          refine h1.adj j _ x (by rw [List.getElem?_take, if_pos (by omega)]; exact hy) hx' ?_
          rw [← hah j _ rfl hy, e]
      · rw [Tx.pl, IntWalk.i64_left, IntWalk.wrap64_in (Lt.total (R.take k)) (by omega), IntWalk.wrap64_in _ (by omega)]
        omega
theorem kmayr (w : World) (A : Option Addr) (n c : Nat) (R : List (Int × Int)) (h : RunS w A n R) (hn : n ≤ 1000000000) :
    Calls Tryz.prog 45 #[.slice A n c] w fun e w' => e = .returned (.bool (Tx.mayB R)) ∧ Below w.heap.size w w' := by
  have hm : 3 ≤ 6 := by omega
  generalize 6 = m at hm
  have h1 : 1 ≤ m := by omega
  refine (callsIn_wide (n := m)).1 ?_
  refine callsIn_of_wp_marks Tryz.func45 rfl trivial ?_ rfl
  simp only [Tryz.ntmps45, List.size_toArray, List.length_cons, List.length_nil, Nat.reduceAdd, Nat.reduceSub, Array.replicate_succ, Array.replicate_zero, List.push_toArray, List.append_toArray, List.nil_append, List.cons_append]
  by_cases hl : 65536 < n
  · have hl' : (65536 : Int) < (n : Int) := by omega
    rw [Tx.mayB_false fun hm => by have := hm.few; have := h.len; omega]
    gi_wp2
    have hc := (Lies.new w 4 #[.bool false]).cell 0
    exact ⟨_, by simp [results, Tryz.f45, go_sem, hc], rfl, (Below.refl _ w).alloc (Nat.le_refl _) _⟩
  have hl' : ¬ (65536 : Int) < (n : Int) := by omega
  gi_wp2_with (refine ⟨trivial, ?_⟩; gi_at_call 84; refine (callsIn_wide.2 (kplaced A n c _)).mono ?_; rintro e w' ⟨rfl, rfl⟩)
  have hB0 : Below w.heap.size w (((w.alloc (.cells #[.bool false] 4)).alloc (.cells #[.int .i64 (-1)] 3)).alloc (.cells #[.slice A n c] 40)) := (((Below.refl _ w).alloc (Nat.le_refl _) _).alloc (by simp) _).alloc (by simp; omega) _
  have hsz : (((w.alloc (.cells #[.bool false] 4)).alloc (.cells #[.int .i64 (-1)] 3)).alloc (.cells #[.slice A n c] 40)).heap.size = w.heap.size + 3 := by simp
  have l1 : Lies (((w.alloc (.cells #[.bool false] 4)).alloc (.cells #[.int .i64 (-1)] 3)).alloc (.cells #[.slice A n c] 40)) w.heap.size 4 #[.bool false] := (Below.heap_alloc _ _ _ (by simp; omega)).trans ((Below.heap_alloc _ _ _ (by simp)).trans (Lies.new w _ _))
  have l2 : Lies (((w.alloc (.cells #[.bool false] 4)).alloc (.cells #[.int .i64 (-1)] 3)).alloc (.cells #[.slice A n c] 40)) (w.heap.size + 1) 3 #[.int .i64 (-1)] := (Below.heap_alloc _ _ _ (by simp)).trans (by have := Lies.new (w.alloc (.cells #[.bool false] 4)) 3 #[.int .i64 (-1)]; rwa [World.size_alloc] at this)
  have l3 := Lies.new ((w.alloc (.cells #[.bool false] 4)).alloc (.cells #[.int .i64 (-1)] 3)) 40 #[.slice A n c]
  rw [World.size_alloc, World.size_alloc] at l3
  obtain ⟨W0, hW0⟩ : ∃ W0, ((w.alloc (.cells #[.bool false] 4)).alloc (.cells #[.int .i64 (-1)] 3)).alloc (.cells #[.slice A n c] 40) = W0 := ⟨_, rfl⟩
  rw [hW0] at hB0 hsz l1 l2 l3 ⊢
  clear hW0
  refine ranged hm (w.heap.size + 1 + 1) none w A n c R h hn rfl (fun _ e => by cases e) (by omega) hB0 (fun _ e => e.none.elim) (by rw [l3.cell]; rfl)
    (fun pre W => ((Lies W w.heap.size 4 #[.bool false] ∧ Lies W (w.heap.size + 1) 3 #[.int .i64 (Tx.ahead pre)]) ∧ Tx.okAll (-1) pre) ∧ Past w W0 W)
    (fun c pre W => ((c = .ret ∧ ¬ Tx.okAll (-1) pre) ∧ Lies W w.heap.size 4 #[.bool false]) ∧ Past w W0 W)
    (OwnFrom.and (OwnFrom.and (OwnFrom.and (Own.from (lies_own _ _ _) _) (Own.from (lies_own _ _ _) _)) (ownFrom_pure _ _)) (Past.own (by omega)))
    (fun _ => OwnFrom.and (OwnFrom.and (ownFrom_pure _ _) (Own.from (lies_own _ _ _) _)) (Past.own (by omega)))
    ⟨⟨⟨l1, l2⟩, trivial⟩, hB0, Nat.le_refl _⟩
    (fun x a' W => ∃ Bx, W0.heap.size ≤ Bx ∧ Lies W Bx 70 #[.int .i64 x.2.1, .int .i64 x.2.2] ∧ a' = { tmps := #[.slice A n c, undef, .pointer (some ⟨w.heap.size, 0, none⟩), .pointer (some ⟨w.heap.size + 1, 0, none⟩), .int .i64 x.1, .pointer (some ⟨Bx, 0, none⟩), .slice A n c, .int .i64 n, .bool false, .slice A n c, .func (.func 113) #[] #[.pointer (some ⟨w.heap.size + 1 + 1, 0, none⟩)], .int .i64 x.1, .agg #[.int .i64 x.2.1, .int .i64 x.2.2], undef, undef, undef, undef, undef, undef, undef, undef, undef, undef, undef, undef, undef, undef, undef, undef, undef, undef, undef, undef, undef, undef, undef, undef, undef, undef], defers := [] })
    (fun x a' _ X Y row hs hg hr => by obtain ⟨Bx, h1, h2, h3⟩ := hs; exact ⟨Bx, h1, lies_own Bx 70 (fun (_ : Unit) => #[.int .i64 x.2.1, .int .i64 x.2.2]) () X Y row h2 hg (fun r e => (hr r e).2), h3⟩)
    ?assign ?body ?done ?stop
  case assign =>
    rintro l pre x W K ⟨⟨⟨hl1, hl2⟩, ho⟩, hb⟩ hK
    gi_wp2
    exact hK _ _ ((KeepsOthers.alloc _ _).from _) (Kps.alloc hb.1.size (fun _ e => by cases e) _) ⟨⟨⟨(Below.heap_alloc _ _ _ hl1.lt).trans hl1, (Below.heap_alloc _ _ _ hl2.lt).trans hl2⟩, ho⟩, hb.alloc _⟩ ⟨W.heap.size, hb.2, Lies.new W _ _, rfl⟩
  case body =>
    rintro l pre ⟨xa, xc, xn⟩ a' W hl ⟨r, hr⟩ ⟨⟨⟨hL1, hL2⟩, hO⟩, hB⟩ ⟨Bx, hBx, hX, rfl⟩ hlt
    simp only at hX
    have HO : Hid (Tx.okAll (-1) (pre ++ [(xa, xc, xn)]) ↔ (0 ≤ xc ∧ xc ≤ 196607 ∧ xc ≠ Tx.ahead pre ∧ 1 ≤ xn ∧ xn ≤ wrap64 (1099511627776 - xa))) := (Tx.ok_snoc pre (xa, xc, xn)).trans ⟨fun h => h.2, fun h => ⟨hO, h⟩⟩
    have HA : Hid (Tx.ahead (pre ++ [(xa, xc, xn)]) = xc) := Tx.ahead_snoc _ _
    generalize hp' : pre ++ [(xa, xc, xn)] = pre' at HO HA
    clear hO
    have cR : W.cell? ⟨w.heap.size, 0, none⟩ = some (.bool false) := by rw [hL1.cell]; rfl
    have fR := hL1.free 0
    have cE : W.cell? ⟨w.heap.size + 1, 0, none⟩ = some (.int .i64 (Tx.ahead pre)) := by rw [hL2.cell]; rfl
    have fE := hL2.free 0
    have cX : W.cell? ⟨Bx, 0, none⟩ = some (.int .i64 xc) := by rw [hX.cell]; rfl
    have cY : W.cell? ⟨Bx, 1, none⟩ = some (.int .i64 xn) := by rw [hX.cell]; rfl
    generalize Tx.ahead pre = pa at HO cE hL2
    obtain ⟨q, hq⟩ : ∃ q, wrap64 (1099511627776 - xa) = q := ⟨_, rfl⟩
    rw [hq] at HO
    have hbad : (¬ (0 ≤ xc ∧ xc ≤ 196607 ∧ xc ≠ pa ∧ 1 ≤ xn ∧ xn ≤ q)) → Hid (KeepsFrom W0.heap.size W (W.setCell ⟨w.heap.size, 0, none⟩ (.bool false)) ∧ (¬ Tx.okAll (-1) pre' ∧ Lies (W.setCell ⟨w.heap.size, 0, none⟩ (.bool false)) w.heap.size 4 #[.bool false]) ∧ Past w W0 (W.setCell ⟨w.heap.size, 0, none⟩ (.bool false))) := fun hg => by
      have hT : Turn (fun k => w.heap.size ≤ k ∧ k < W0.heap.size) W (W.setCell ⟨w.heap.size, 0, none⟩ (.bool false)) := (Turn.refl _ W).put (.inl ⟨Nat.le_refl _, by show w.heap.size < W0.heap.size; omega⟩) _
      exact ⟨keeps_of_turn hT, ⟨fun h => hg (HO.out.1 h), hL1.put 0 _⟩, hB.turn hT (fun _ e => e.1)⟩
    have hgood : (0 ≤ xc ∧ xc ≤ 196607 ∧ xc ≠ pa ∧ 1 ≤ xn ∧ xn ≤ q) → Hid (KeepsFrom W0.heap.size W (W.setCell ⟨w.heap.size + 1, 0, none⟩ (.int .i64 xc)) ∧ Kps none w.heap.size W0.heap.size W (W.setCell ⟨w.heap.size + 1, 0, none⟩ (.int .i64 xc)) ∧ ((Lies (W.setCell ⟨w.heap.size + 1, 0, none⟩ (.int .i64 xc)) w.heap.size 4 #[.bool false] ∧ Lies (W.setCell ⟨w.heap.size + 1, 0, none⟩ (.int .i64 xc)) (w.heap.size + 1) 3 #[.int .i64 (Tx.ahead pre')]) ∧ Tx.okAll (-1) pre') ∧ Past w W0 (W.setCell ⟨w.heap.size + 1, 0, none⟩ (.int .i64 xc))) := fun hg => by
      have hT : Turn (fun k => w.heap.size ≤ k ∧ k < W0.heap.size) W (W.setCell ⟨w.heap.size + 1, 0, none⟩ (.int .i64 xc)) := (Turn.refl _ W).put (.inl ⟨by show w.heap.size ≤ w.heap.size + 1; omega, by show w.heap.size + 1 < W0.heap.size; omega⟩) _
      refine ⟨keeps_of_turn hT, Kps.of_turn hT hB.1.size, ⟨⟨(Below.heap_setCell W _ _ _ (by show w.heap.size ≠ w.heap.size + 1; omega)).trans hL1, ?_⟩, HO.out.2 hg⟩, hB.turn hT (fun _ e => e.1)⟩
      rw [HA.out]
      exact hL2.put 0 _
    clear HO HA hL1 hL2 hX hB hp' hsz
    by_cases e1 : xc < 0
    · have d1 : decide (xc < 0) = true := decide_eq_true e1
      replace hbad := hbad (by omega)
      clear hgood
      gi_wp2
      exact ⟨hbad.out.1, ⟨⟨rfl, hbad.out.2.1.1⟩, hbad.out.2.1.2⟩, hbad.out.2.2⟩
    have d1 : decide (xc < 0) = false := decide_eq_false e1
    by_cases e2 : 196607 < xc
    · have d2 : decide (196607 < xc) = true := decide_eq_true e2
      replace hbad := hbad (by omega)
      clear hgood
      gi_wp2
      exact ⟨hbad.out.1, ⟨⟨rfl, hbad.out.2.1.1⟩, hbad.out.2.1.2⟩, hbad.out.2.2⟩
    have d2 : decide (196607 < xc) = false := decide_eq_false e2
    by_cases e3 : xc = pa
    · have d3 : (xc == pa) = true := beq_iff_eq.2 e3
      replace hbad := hbad (fun h => h.2.2.1 e3)
      clear hgood e3
      gi_wp2
      exact ⟨hbad.out.1, ⟨⟨rfl, hbad.out.2.1.1⟩, hbad.out.2.1.2⟩, hbad.out.2.2⟩
    have d3 : (xc == pa) = false := beq_eq_false_iff_ne.2 e3
    by_cases e4 : xn < 1
    · have d4 : decide (xn < 1) = true := decide_eq_true e4
      replace hbad := hbad (by omega)
      clear hgood
      gi_wp2
      exact ⟨hbad.out.1, ⟨⟨rfl, hbad.out.2.1.1⟩, hbad.out.2.1.2⟩, hbad.out.2.2⟩
    have d4 : decide (xn < 1) = false := decide_eq_false e4
    by_cases e5 : q < xn
    · have d5 : decide (q < xn) = true := decide_eq_true e5
      replace hbad := hbad (by omega)
      clear hgood
      gi_wp2
      exact ⟨hbad.out.1, ⟨⟨rfl, hbad.out.2.1.1⟩, hbad.out.2.1.2⟩, hbad.out.2.2⟩
    have d5 : decide (q < xn) = false := decide_eq_false e5
    replace hgood := hgood ⟨by omega, by omega, e3, by omega, by omega⟩
    clear hbad
    gi_wp2
    exact hgood.out
  case done =>
    rintro D W hD ⟨⟨⟨hL1, hL2⟩, hO⟩, hB⟩ hK
    have hmay : Tx.May R := by
      have := (Tx.ok_items R n (by rw [h.len]; exact Nat.le_refl _)).1 hO
      rw [← h.len, List.take_length] at this
      exact ⟨this.1, by rw [h.len]; omega, this.2⟩
    have cR : W.cell? ⟨w.heap.size, 0, none⟩ = some (.bool false) := by rw [hL1.cell]; rfl
    have fR := hL1.free 0
    gi_wp2
    have hK' := (KeepsOthers.setCell W ⟨w.heap.size, 0, none⟩ (.bool true)).same D _ hK rfl
    refine ⟨by simp, .inl ⟨_, _, rfl, run_takeDeferred hK', ?_⟩⟩
    have hc5 := cell_kept (World.cell?_setCell_same' W ⟨w.heap.size, 0, none⟩ (.bool true) (by rw [cR]; rfl)) (grownBy_putObj' _ D (.deferred none)) (fun r e => by cases e; exact ⟨_, hK', rfl⟩)
    have hT : Turn (fun k => w.heap.size ≤ k ∧ k < W0.heap.size) W (W.setCell ⟨w.heap.size, 0, none⟩ (.bool true)) := (Turn.refl _ W).put (.inl ⟨Nat.le_refl _, by show w.heap.size < W0.heap.size; omega⟩) _
    exact ⟨.bool true, by simp [results, Tryz.f45, go_sem, hc5], by rw [Tx.mayB_true hmay], (hB.turn hT (fun _ e => e.1)).end_ (by omega) hD hK' _⟩
  case stop =>
    rintro D c k W hD hk ⟨⟨⟨rfl, hO⟩, hL1⟩, hB⟩ hK
    have hmay : ¬ Tx.May R := fun hm => hO ((Tx.ok_items R k (by rw [h.len]; exact hk)).2 ⟨hm.own.take k, hm.part k⟩)
    have cR : W.cell? ⟨w.heap.size, 0, none⟩ = some (.bool false) := by rw [hL1.cell]; rfl
    gi_wp2
    refine ⟨by simp, .inl ⟨_, _, rfl, run_takeDeferred hK, ?_⟩⟩
    have hc5 := cell_kept cR (grownBy_putObj' _ D (.deferred none)) (fun r e => by cases e; exact ⟨_, hK, rfl⟩)
    exact ⟨.bool false, by simp [results, Tryz.f45, go_sem, hc5], by rw [Tx.mayB_false hmay], hB.end_ (by omega) hD hK _⟩
end Go.Proofs.YtfjpcjebecgglaaGreatDoor
namespace Go.Proofs.YtfjpcjebecgglaaGreatDoor
open Go.RowKit
theorem kdigit (c : UInt8) (w : World) : Calls Tryz.prog 160 #[.int .i32 (c.toNat : Nat)] w fun e w' => e = .returned (.bool (Lx.digit c)) ∧ w' = w := by
  go_enter Tryz.func160, Tryz.ntmps160
  go_wp2
  all_goals
    go_ret
    exact ⟨ret_b (by rw [Bool.eq_iff_iff]; simp [Lx.digit] <;> omega), rfl⟩
theorem kblank (c : UInt8) (w : World) : Calls Tryz.prog 162 #[.int .i32 (c.toNat : Nat)] w fun e w' => e = .returned (.bool (Lx.blank c)) ∧ w' = w := by
  by_cases hm : Lx.blank c = true
  · rw [hm]
    have hm' : c.toNat = 9 ∨ c.toNat = 10 ∨ c.toNat = 13 ∨ c.toNat = 32 := by
      simp [Lx.blank] at hm
      omega
    clear hm
    rcases hm' with h | h | h | h
    all_goals
      rw [h]
      clear h
      go_enter Tryz.func162, Tryz.ntmps162
      go_wp2
      go_ret
      exact ⟨rfl, rfl⟩
  · rw [Bool.eq_false_iff.2 hm]
    have hm' : (c.toNat : Int) ≠ 9 ∧ (c.toNat : Int) ≠ 10 ∧ (c.toNat : Int) ≠ 13 ∧ (c.toNat : Int) ≠ 32 := by
      simp [Lx.blank] at hm
      omega
    obtain ⟨m1, m2, m3, m4⟩ := hm'
    clear hm
    go_enter Tryz.func162, Tryz.ntmps162
    go_wp2
    go_ret
    exact ⟨rfl, rfl⟩
theorem kbit (c : UInt8) (w : World) : Calls Tryz.prog 195 #[.int .i32 (c.toNat : Nat)] w fun e w' => e = .returned (.bool (Lx.bit c)) ∧ w' = w := by
  go_enter Tryz.func195, Tryz.ntmps195
  go_wp2
  all_goals
    go_ret
    exact ⟨ret_b (by rw [Bool.eq_iff_iff]; simp [Lx.bit] <;> omega), rfl⟩
theorem khex (c : UInt8) (w : World) : Calls Tryz.prog 194 #[.int .i32 (c.toNat : Nat)] w fun e w' => e = .returned (.bool (Lx.hex c)) ∧ w' = w := by
  have HB := Lib.hid (kdigit c w)
  obtain ⟨bl, hbl⟩ : ∃ b, Hid (Lx.digit c = b) := ⟨_, rfl⟩
  rw [hbl.out] at HB
  cases bl
  all_goals
    go_enter Tryz.func194, Tryz.ntmps194
    go_wp2_with (go_at_call 160; refine HB.out.mono ?_; rintro e w1 ⟨rfl, rfl⟩)
  all_goals
    go_ret
    exact ⟨ret_b (by rw [Lx.hex, hbl.out, Bool.eq_iff_iff]; simp <;> omega), rfl⟩
theorem kscripts (c : UInt8) (w : World) : Calls Tryz.prog 152 #[.int .i32 (c.toNat : Nat)] w fun e w' => e = .returned (.bool (Lx.good c)) ∧ w' = w := by
  have HB := Lib.hid (kblank c w)
  obtain ⟨bl, hbl⟩ : ∃ b, Hid (Lx.blank c = b) := ⟨_, rfl⟩
  rw [hbl.out] at HB
  cases bl
  all_goals
    go_enter Tryz.func152, Tryz.ntmps152
    go_wp2_with (go_at_call 162; refine HB.out.mono ?_; rintro e w1 ⟨rfl, rfl⟩)
  all_goals
    go_ret
    exact ⟨ret_b (by rw [Lx.good, hbl.out, Bool.eq_iff_iff]; simp <;> omega), rfl⟩
theorem kclos1 (c : UInt8) (w : World) : Calls Tryz.prog 163 #[.int .i32 (c.toNat : Nat)] w fun e w' => e = .returned (.bool (!decide (c.toNat = 10) && Lx.good c)) ∧ w' = w := by
  have HB := Lib.hid (kscripts c w)
  obtain ⟨bl, hbl⟩ : ∃ b, Hid (Lx.good c = b) := ⟨_, rfl⟩
  rw [hbl.out] at HB ⊢
  go_enter Tryz.func163, Tryz.ntmps163
  go_wp2_with (go_at_call 152; refine HB.out.mono ?_; rintro e w1 ⟨rfl, rfl⟩)
  all_goals
    go_ret
    exact ⟨ret_b (by rw [Bool.eq_iff_iff]; simp <;> omega), rfl⟩
theorem kclos2 (c : UInt8) (w : World) : Calls Tryz.prog 181 #[.int .i32 (c.toNat : Nat)] w fun e w' => e = .returned (.bool (!decide (c.toNat = 124) && Lx.good c)) ∧ w' = w := by
  have HB := Lib.hid (kscripts c w)
  obtain ⟨bl, hbl⟩ : ∃ b, Hid (Lx.good c = b) := ⟨_, rfl⟩
  rw [hbl.out] at HB ⊢
  go_enter Tryz.func181, Tryz.ntmps181
  go_wp2_with (go_at_call 152; refine HB.out.mono ?_; rintro e w1 ⟨rfl, rfl⟩)
  all_goals
    go_ret
    exact ⟨ret_b (by rw [Bool.eq_iff_iff]; simp <;> omega), rfl⟩
theorem kclos3 (c : UInt8) (w : World) : Calls Tryz.prog 183 #[.int .i32 (c.toNat : Nat)] w fun e w' => e = .returned (.bool (!decide (c.toNat = 34) && Lx.good c)) ∧ w' = w := by
  have HB := Lib.hid (kscripts c w)
  obtain ⟨bl, hbl⟩ : ∃ b, Hid (Lx.good c = b) := ⟨_, rfl⟩
  rw [hbl.out] at HB ⊢
  go_enter Tryz.func183, Tryz.ntmps183
  go_wp2_with (go_at_call 152; refine HB.out.mono ?_; rintro e w1 ⟨rfl, rfl⟩)
  all_goals
    go_ret
    exact ⟨ret_b (by rw [Bool.eq_iff_iff]; simp <;> omega), rfl⟩
theorem knamed (c : UInt8) (w : World) : Calls Tryz.prog 159 #[.int .i32 (c.toNat : Nat)] w fun e w' => e = .returned (.bool (Lx.name c)) ∧ w' = w := by
  have HB := Lib.hid (kdigit c w)
  by_cases hm : Lx.marks.contains c.toNat = true
  · have e : Lx.name c = true := by rw [Lx.name, hm, Bool.or_true]
    rw [e]
    have hm' : c.toNat = 126 ∨ c.toNat = 33 ∨ c.toNat = 64 ∨ c.toNat = 36 ∨ c.toNat = 37 ∨ c.toNat = 94 ∨ c.toNat = 38 ∨ c.toNat = 42 ∨ c.toNat = 95 ∨ c.toNat = 45 ∨ c.toNat = 43 ∨ c.toNat = 61 ∨ c.toNat = 60 ∨ c.toNat = 62 ∨ c.toNat = 46 ∨ c.toNat = 63 ∨ c.toNat = 47 := by
      simpa [Lx.marks] using hm
    clear hm e
    rcases hm' with h | h | h | h | h | h | h | h | h | h | h | h | h | h | h | h | h
    all_goals
      rw [h] at HB ⊢
      clear h
      go_enter Tryz.func159, Tryz.ntmps159
      go_wp2
      go_ret
      exact ⟨rfl, rfl⟩
  · have hm0 := Bool.eq_false_iff.2 hm
    have hm' : (c.toNat : Int) ≠ 126 ∧ (c.toNat : Int) ≠ 33 ∧ (c.toNat : Int) ≠ 64 ∧ (c.toNat : Int) ≠ 36 ∧ (c.toNat : Int) ≠ 37 ∧ (c.toNat : Int) ≠ 94 ∧ (c.toNat : Int) ≠ 38 ∧ (c.toNat : Int) ≠ 42 ∧ (c.toNat : Int) ≠ 95 ∧ (c.toNat : Int) ≠ 45 ∧ (c.toNat : Int) ≠ 43 ∧ (c.toNat : Int) ≠ 61 ∧ (c.toNat : Int) ≠ 60 ∧ (c.toNat : Int) ≠ 62 ∧ (c.toNat : Int) ≠ 46 ∧ (c.toNat : Int) ≠ 63 ∧ (c.toNat : Int) ≠ 47 := by
      simp [Lx.marks] at hm0
      omega
    obtain ⟨m1, m2, m3, m4, m5, m6, m7, m8, m9, m10, m11, m12, m13, m14, m15, m16, m17⟩ := hm'
    obtain ⟨bl, hbl⟩ : ∃ b, Hid (Lx.digit c = b) := ⟨_, rfl⟩
    rw [hbl.out] at HB
    have HM := Lib.hid hm0
    clear hm hm0
    cases bl
    all_goals
      go_enter Tryz.func159, Tryz.ntmps159
      go_wp2_with (go_at_call 160; refine HB.out.mono ?_; rintro e w1 ⟨rfl, rfl⟩)
    all_goals
      go_ret
      exact ⟨ret_b (by rw [Lx.name, hbl.out, HM.out, Bool.eq_iff_iff]; simp <;> omega), rfl⟩
end Go.Proofs.YtfjpcjebecgglaaGreatDoor
