/- The code's length, May, Len. -/
import Derived.Test.YtkooconjkimgoaaDoorU1
namespace Go.Proofs.YtkooconjkimgoaaDoor
open Go.RowKit Go.Shelf

attribute [local go_sem] Oper.semAt_some

def Tx.endOf (pre : List (Int × Int × Int)) : Int := pre.foldl (fun _ x => wrap64 (x.1 + x.2.2)) 0
theorem Tx.endOf_snoc (pre : List (Int × Int × Int)) (x : Int × Int × Int) : Tx.endOf (pre ++ [x]) = wrap64 (x.1 + x.2.2) := by simp [Tx.endOf]
theorem Tx.endOf_items (R : List (Int × Int)) (k : Nat) (hk : k ≤ R.length) : Tx.endOf (Tx.items R k) = wrap64 (Lt.total (R.take k)) := by
  cases k with
  | zero => simp [Tx.items, Tx.endOf, Lt.total, wrap64]
  | succ k =>
    rw [Tx.items_succ, Tx.endOf_snoc]
    have hx := List.getElem?_eq_getElem (l := R) (i := k) (by omega)
    have hp := Tx.pl_succ hx
    rw [Tx.item_at hx]
    simp only
    rw [← IntWalk.i64_left, ← hp, Tx.pl, IntWalk.i64_left]

/-- which runs, with their places, May lets through -/
def Tx.okAll : Int → List (Int × Int × Int) → Prop
  | _, [] => True
  | p, x :: l => (0 ≤ x.2.1 ∧ x.2.1 ≤ 196607 ∧ x.2.1 ≠ p ∧ 1 ≤ x.2.2 ∧ x.2.2 ≤ wrap64 (1099511627776 - x.1)) ∧ Tx.okAll x.2.1 l
def Tx.ahead (l : List (Int × Int × Int)) : Int := l.foldl (fun _ x => x.2.1) (-1)
theorem Tx.ahead_snoc (l : List (Int × Int × Int)) (x : Int × Int × Int) : Tx.ahead (l ++ [x]) = x.2.1 := by simp [Tx.ahead]
theorem Tx.okAll_snoc : ∀ (l : List (Int × Int × Int)) (p : Int) (x : Int × Int × Int), Tx.okAll p (l ++ [x]) ↔ Tx.okAll p l ∧ (0 ≤ x.2.1 ∧ x.2.1 ≤ 196607 ∧ x.2.1 ≠ l.foldl (fun _ x => x.2.1) p ∧ 1 ≤ x.2.2 ∧ x.2.2 ≤ wrap64 (1099511627776 - x.1))
  | [], p, x => by simp [Tx.okAll]
  | y :: l, p, x => by
    rw [List.cons_append, Tx.okAll, Tx.okAll, Tx.okAll_snoc l, List.foldl_cons]
    simp only [and_assoc]
theorem Tx.ok_snoc (l : List (Int × Int × Int)) (x : Int × Int × Int) : Tx.okAll (-1) (l ++ [x]) ↔ Tx.okAll (-1) l ∧ (0 ≤ x.2.1 ∧ x.2.1 ≤ 196607 ∧ x.2.1 ≠ Tx.ahead l ∧ 1 ≤ x.2.2 ∧ x.2.2 ≤ wrap64 (1099511627776 - x.1)) := Tx.okAll_snoc l (-1) x
/-- what is let through is in its own form, and no longer than a text may be -/
theorem Tx.ok_items (R : List (Int × Int)) : ∀ k, k ≤ R.length → (Tx.okAll (-1) (Tx.items R k) ↔ Tx.Own (R.take k) ∧ Lt.total (R.take k) ≤ 1099511627776)
  | 0, _ => by simp [Tx.items, Tx.okAll, Tx.Own.nil, Lt.total]
  | k + 1, hk => by
    have ih := Tx.ok_items R k (by omega)
    have hx := List.getElem?_eq_getElem (l := R) (i := k) (by omega)
    generalize R[k] = x at hx
    rw [Tx.items_succ, Tx.item_at hx, Tx.ok_snoc, ih, Tx.take_tot hx]
    simp only
    have hah : ∀ j y, k = j + 1 → R[j]? = some y → Tx.ahead (Tx.items R k) = y.1 := fun j y e hy => by
      subst e
      rw [Tx.items_succ, Tx.ahead_snoc, Tx.item_at hy]
    have h0 : k = 0 → Tx.ahead (Tx.items R k) = -1 := fun e => by subst e; rfl
    constructor
    · rintro ⟨⟨h1, h2⟩, h3, h4, h5, h6, h7⟩
      have hp : 0 ≤ Lt.total (R.take k) := Lt.total_pos fun y hy => Int.not_lt.2 (h1.pos y hy).2
      rw [Tx.pl, IntWalk.i64_left, IntWalk.wrap64_in (Lt.total (R.take k)) (by omega), IntWalk.wrap64_in _ (by omega)] at h7
      refine ⟨Tx.Own.snoc hx h1 (by unfold Lt.pt; simp; omega) h6 fun j y e hy e2 => h5 ?_, by omega⟩
      rw [hah j y e hy, e2]
    · rintro ⟨h1, h2⟩
      have hx' : (R.take (k + 1))[k]? = some x := by rw [List.getElem?_take, if_pos (by omega)]; exact hx
      have hpx := h1.pos x (List.mem_of_getElem? hx')
      have ho : Tx.Own (R.take k) := by
        have := h1.take k
        rwa [List.take_take, Nat.min_eq_left (by omega)] at this
      have hp : 0 ≤ Lt.total (R.take k) := Lt.total_pos fun y hy => Int.not_lt.2 (ho.pos y hy).2
      obtain ⟨f1, f2⟩ := Lt.pt_facts hpx.1
      refine ⟨⟨ho, by omega⟩, f1, by omega, fun e => ?_, hpx.2, ?_⟩
      · rcases Nat.eq_zero_or_pos k with e0 | e0
        · rw [h0 e0] at e
          omega
        · obtain ⟨j, rfl⟩ : ∃ j, k = j + 1 := ⟨k - 1, by omega⟩
          have hy := List.getElem?_eq_getElem (l := R) (i := j) (by omega)
          refine h1.adj j _ x (by rw [List.getElem?_take, if_pos (by omega)]; exact hy) hx' ?_
          rw [← hah j _ rfl hy, e]
      · rw [Tx.pl, IntWalk.i64_left, IntWalk.wrap64_in (Lt.total (R.take k)) (by omega), IntWalk.wrap64_in _ (by omega)]
        omega

set_option maxRecDepth 100000 in
set_option maxHeartbeats 4000000 in
theorem kmayr (w : World) (A : Option Addr) (n c : Nat) (R : List (Int × Int)) (h : RunS w A n R) (hn : n ≤ 1000000000) :
    Calls Tryd.prog 42 #[.slice A n c] w fun e w' => e = .returned (.bool (Tx.mayB R)) ∧ Below w.heap.size w w' := by
  have hm : 3 ≤ 6 := by omega
  generalize 6 = m at hm
  have h1 : 1 ≤ m := by omega
  refine (callsIn_wide (n := m)).1 ?_
  refine callsIn_of_wp_marks Tryd.func42 rfl trivial ?_ rfl
  simp only [Tryd.ntmps42, List.size_toArray, List.length_cons, List.length_nil, Nat.reduceAdd, Nat.reduceSub, Array.replicate_succ, Array.replicate_zero, List.push_toArray, List.append_toArray, List.nil_append, List.cons_append]
  by_cases hl : 65536 < n
  · have hl' : (65536 : Int) < (n : Int) := by omega
    rw [Tx.mayB_false fun hm => by have := hm.few; have := h.len; omega]
    gi_wp2
    have hc := (Lies.new w 4 #[.bool false]).cell 0
    exact ⟨_, by simp [results, Tryd.f42, go_sem, hc], rfl, (Below.refl _ w).alloc (Nat.le_refl _) _⟩
  have hl' : ¬ (65536 : Int) < (n : Int) := by omega
  gi_wp2_with (refine ⟨trivial, ?_⟩; gi_at_call 58; refine (callsIn_wide.2 (kplaced A n c _)).mono ?_; rintro e w' ⟨rfl, rfl⟩)
  have hB0 : Below w.heap.size w (((w.alloc (.cells #[.bool false] 4)).alloc (.cells #[.int .i64 (-1)] 3)).alloc (.cells #[.slice A n c] 40)) := (((Below.refl _ w).alloc (Nat.le_refl _) _).alloc (by simp) _).alloc (by simp; omega) _
  have hsz : (((w.alloc (.cells #[.bool false] 4)).alloc (.cells #[.int .i64 (-1)] 3)).alloc (.cells #[.slice A n c] 40)).heap.size = w.heap.size + 3 := by simp
  have l1 : Lies (((w.alloc (.cells #[.bool false] 4)).alloc (.cells #[.int .i64 (-1)] 3)).alloc (.cells #[.slice A n c] 40)) w.heap.size 4 #[.bool false] := (Below.heap_alloc _ _ _ (by simp; omega)).trans ((Below.heap_alloc _ _ _ (by simp)).trans (Lies.new w _ _))
  have l2 : Lies (((w.alloc (.cells #[.bool false] 4)).alloc (.cells #[.int .i64 (-1)] 3)).alloc (.cells #[.slice A n c] 40)) (w.heap.size + 1) 3 #[.int .i64 (-1)] := (Below.heap_alloc _ _ _ (by simp)).trans (by have := Lies.new (w.alloc (.cells #[.bool false] 4)) 3 #[.int .i64 (-1)]; rwa [World.size_alloc] at this)
  have l3 := Lies.new ((w.alloc (.cells #[.bool false] 4)).alloc (.cells #[.int .i64 (-1)] 3)) 40 #[.slice A n c]
  rw [World.size_alloc, World.size_alloc] at l3
  obtain ⟨W0, hW0⟩ : ∃ W0, ((w.alloc (.cells #[.bool false] 4)).alloc (.cells #[.int .i64 (-1)] 3)).alloc (.cells #[.slice A n c] 40) = W0 := ⟨_, rfl⟩
  rw [hW0] at hB0 hsz l1 l2 l3 ⊢
  clear hW0
  refine ranged hm (w.heap.size + 1 + 1) none w A n c R h hn rfl (fun _ e => by cases e) (by omega) hB0 (fun _ e => e.none.elim) (by rw [l3.cell]; rfl)
    (fun pre W => ((Lies W w.heap.size 4 #[.bool false] ∧ Lies W (w.heap.size + 1) 3 #[.int .i64 (Tx.ahead pre)]) ∧ Tx.okAll (-1) pre) ∧ Past w W0 W)
    (fun c pre W => ((c = .ret ∧ ¬ Tx.okAll (-1) pre) ∧ Lies W w.heap.size 4 #[.bool false]) ∧ Past w W0 W)
    (OwnFrom.and (OwnFrom.and (OwnFrom.and (Own.from (lies_own _ _ _) _) (Own.from (lies_own _ _ _) _)) (ownFrom_pure _ _)) (Past.own (by omega)))
    (fun _ => OwnFrom.and (OwnFrom.and (ownFrom_pure _ _) (Own.from (lies_own _ _ _) _)) (Past.own (by omega)))
    ⟨⟨⟨l1, l2⟩, trivial⟩, hB0, Nat.le_refl _⟩
    (fun x a' W => ∃ Bx, W0.heap.size ≤ Bx ∧ Lies W Bx 96 #[.int .i64 x.2.1, .int .i64 x.2.2] ∧ a' = { tmps := #[.slice A n c, undef, .pointer (some ⟨w.heap.size, 0, none⟩), .pointer (some ⟨w.heap.size + 1, 0, none⟩), .int .i64 x.1, .pointer (some ⟨Bx, 0, none⟩), .slice A n c, .int .i64 n, .bool false, .slice A n c, .func (.func 67) #[] #[.pointer (some ⟨w.heap.size + 1 + 1, 0, none⟩)], .int .i64 x.1, .agg #[.int .i64 x.2.1, .int .i64 x.2.2], undef, undef, undef, undef, undef, undef, undef, undef, undef, undef, undef, undef, undef, undef, undef, undef, undef, undef, undef, undef, undef, undef, undef, undef, undef, undef], defers := [] })
    (fun x a' _ X Y row hs hg hr => by obtain ⟨Bx, h1, h2, h3⟩ := hs; exact ⟨Bx, h1, lies_own Bx 96 (fun (_ : Unit) => #[.int .i64 x.2.1, .int .i64 x.2.2]) () X Y row h2 hg (fun r e => (hr r e).2), h3⟩)
    ?assign ?body ?done ?stop
  case assign =>
    rintro l pre x W K ⟨⟨⟨hl1, hl2⟩, ho⟩, hb⟩ hK
    gi_wp2
    exact hK _ _ ((KeepsOthers.alloc _ _).from _) (Kps.alloc hb.1.size (fun _ e => by cases e) _) ⟨⟨⟨(Below.heap_alloc _ _ _ hl1.lt).trans hl1, (Below.heap_alloc _ _ _ hl2.lt).trans hl2⟩, ho⟩, hb.alloc _⟩ ⟨W.heap.size, hb.2, Lies.new W _ _, rfl⟩
  case body =>
    rintro l pre ⟨xa, xc, xn⟩ a' W hl ⟨r, hr⟩ ⟨⟨⟨hL1, hL2⟩, hO⟩, hB⟩ ⟨Bx, hBx, hX, rfl⟩ hlt
    simp only at hX
    have HO : Hid (Tx.okAll (-1) (pre ++ [(xa, xc, xn)]) ↔ (0 ≤ xc ∧ xc ≤ 196607 ∧ xc ≠ Tx.ahead pre ∧ 1 ≤ xn ∧ xn ≤ wrap64 (1099511627776 - xa))) := (Tx.ok_snoc pre (xa, xc, xn)).trans ⟨fun h => h.2, fun h => ⟨hO, h⟩⟩
    have HA : Hid (Tx.ahead (pre ++ [(xa, xc, xn)]) = xc) := Tx.ahead_snoc _ _
    generalize hp' : pre ++ [(xa, xc, xn)] = pre' at HO HA
    clear hO
    have cR : W.cell? ⟨w.heap.size, 0, none⟩ = some (.bool false) := by rw [hL1.cell]; rfl
    have fR := hL1.free 0
    have cE : W.cell? ⟨w.heap.size + 1, 0, none⟩ = some (.int .i64 (Tx.ahead pre)) := by rw [hL2.cell]; rfl
    have fE := hL2.free 0
    have cX : W.cell? ⟨Bx, 0, none⟩ = some (.int .i64 xc) := by rw [hX.cell]; rfl
    have cY : W.cell? ⟨Bx, 1, none⟩ = some (.int .i64 xn) := by rw [hX.cell]; rfl
    generalize Tx.ahead pre = pa at HO cE hL2
    obtain ⟨q, hq⟩ : ∃ q, wrap64 (1099511627776 - xa) = q := ⟨_, rfl⟩
    rw [hq] at HO
    have hbad : (¬ (0 ≤ xc ∧ xc ≤ 196607 ∧ xc ≠ pa ∧ 1 ≤ xn ∧ xn ≤ q)) → Hid (KeepsFrom W0.heap.size W (W.setCell ⟨w.heap.size, 0, none⟩ (.bool false)) ∧ (¬ Tx.okAll (-1) pre' ∧ Lies (W.setCell ⟨w.heap.size, 0, none⟩ (.bool false)) w.heap.size 4 #[.bool false]) ∧ Past w W0 (W.setCell ⟨w.heap.size, 0, none⟩ (.bool false))) := fun hg => by
      have hT : Turn (fun k => w.heap.size ≤ k ∧ k < W0.heap.size) W (W.setCell ⟨w.heap.size, 0, none⟩ (.bool false)) := (Turn.refl _ W).put (.inl ⟨Nat.le_refl _, by show w.heap.size < W0.heap.size; omega⟩) _
      exact ⟨keeps_of_turn hT, ⟨fun h => hg (HO.out.1 h), hL1.put 0 _⟩, hB.turn hT (fun _ e => e.1)⟩
    have hgood : (0 ≤ xc ∧ xc ≤ 196607 ∧ xc ≠ pa ∧ 1 ≤ xn ∧ xn ≤ q) → Hid (KeepsFrom W0.heap.size W (W.setCell ⟨w.heap.size + 1, 0, none⟩ (.int .i64 xc)) ∧ Kps none w.heap.size W0.heap.size W (W.setCell ⟨w.heap.size + 1, 0, none⟩ (.int .i64 xc)) ∧ ((Lies (W.setCell ⟨w.heap.size + 1, 0, none⟩ (.int .i64 xc)) w.heap.size 4 #[.bool false] ∧ Lies (W.setCell ⟨w.heap.size + 1, 0, none⟩ (.int .i64 xc)) (w.heap.size + 1) 3 #[.int .i64 (Tx.ahead pre')]) ∧ Tx.okAll (-1) pre') ∧ Past w W0 (W.setCell ⟨w.heap.size + 1, 0, none⟩ (.int .i64 xc))) := fun hg => by
      have hT : Turn (fun k => w.heap.size ≤ k ∧ k < W0.heap.size) W (W.setCell ⟨w.heap.size + 1, 0, none⟩ (.int .i64 xc)) := (Turn.refl _ W).put (.inl ⟨by show w.heap.size ≤ w.heap.size + 1; omega, by show w.heap.size + 1 < W0.heap.size; omega⟩) _
      refine ⟨keeps_of_turn hT, Kps.of_turn hT hB.1.size, ⟨⟨(Below.heap_setCell W _ _ _ (by show w.heap.size ≠ w.heap.size + 1; omega)).trans hL1, ?_⟩, HO.out.2 hg⟩, hB.turn hT (fun _ e => e.1)⟩
      rw [HA.out]
      exact hL2.put 0 _
    clear HO HA hL1 hL2 hX hB hp' hsz
    by_cases e1 : xc < 0
    · have d1 : decide (xc < 0) = true := decide_eq_true e1
      replace hbad := hbad (by omega)
      clear hgood
      gi_wp2
      exact ⟨hbad.out.1, ⟨⟨rfl, hbad.out.2.1.1⟩, hbad.out.2.1.2⟩, hbad.out.2.2⟩
    have d1 : decide (xc < 0) = false := decide_eq_false e1
    by_cases e2 : 196607 < xc
    · have d2 : decide (196607 < xc) = true := decide_eq_true e2
      replace hbad := hbad (by omega)
      clear hgood
      gi_wp2
      exact ⟨hbad.out.1, ⟨⟨rfl, hbad.out.2.1.1⟩, hbad.out.2.1.2⟩, hbad.out.2.2⟩
    have d2 : decide (196607 < xc) = false := decide_eq_false e2
    by_cases e3 : xc = pa
    · have d3 : (xc == pa) = true := beq_iff_eq.2 e3
      replace hbad := hbad (fun h => h.2.2.1 e3)
      clear hgood e3
      gi_wp2
      exact ⟨hbad.out.1, ⟨⟨rfl, hbad.out.2.1.1⟩, hbad.out.2.1.2⟩, hbad.out.2.2⟩
    have d3 : (xc == pa) = false := beq_eq_false_iff_ne.2 e3
    by_cases e4 : xn < 1
    · have d4 : decide (xn < 1) = true := decide_eq_true e4
      replace hbad := hbad (by omega)
      clear hgood
      gi_wp2
      exact ⟨hbad.out.1, ⟨⟨rfl, hbad.out.2.1.1⟩, hbad.out.2.1.2⟩, hbad.out.2.2⟩
    have d4 : decide (xn < 1) = false := decide_eq_false e4
    by_cases e5 : q < xn
    · have d5 : decide (q < xn) = true := decide_eq_true e5
      replace hbad := hbad (by omega)
      clear hgood
      gi_wp2
      exact ⟨hbad.out.1, ⟨⟨rfl, hbad.out.2.1.1⟩, hbad.out.2.1.2⟩, hbad.out.2.2⟩
    have d5 : decide (q < xn) = false := decide_eq_false e5
    replace hgood := hgood ⟨by omega, by omega, e3, by omega, by omega⟩
    clear hbad
    gi_wp2
    exact hgood.out
  case done =>
    rintro D W hD ⟨⟨⟨hL1, hL2⟩, hO⟩, hB⟩ hK
    have hmay : Tx.May R := by
      have := (Tx.ok_items R n (by rw [h.len]; exact Nat.le_refl _)).1 hO
      rw [← h.len, List.take_length] at this
      exact ⟨this.1, by rw [h.len]; omega, this.2⟩
    have cR : W.cell? ⟨w.heap.size, 0, none⟩ = some (.bool false) := by rw [hL1.cell]; rfl
    have fR := hL1.free 0
    gi_wp2
    have hK' := (KeepsOthers.setCell W ⟨w.heap.size, 0, none⟩ (.bool true)).same D _ hK rfl
    refine ⟨by simp, .inl ⟨_, _, rfl, run_takeDeferred hK', ?_⟩⟩
    have hc5 := cell_kept (World.cell?_setCell_same' W ⟨w.heap.size, 0, none⟩ (.bool true) (by rw [cR]; rfl)) (grownBy_putObj' _ D (.deferred none)) (fun r e => by cases e; exact ⟨_, hK', rfl⟩)
    have hT : Turn (fun k => w.heap.size ≤ k ∧ k < W0.heap.size) W (W.setCell ⟨w.heap.size, 0, none⟩ (.bool true)) := (Turn.refl _ W).put (.inl ⟨Nat.le_refl _, by show w.heap.size < W0.heap.size; omega⟩) _
    exact ⟨.bool true, by simp [results, Tryd.f42, go_sem, hc5], by rw [Tx.mayB_true hmay], (hB.turn hT (fun _ e => e.1)).end_ (by omega) hD hK' _⟩
  case stop =>
    rintro D c k W hD hk ⟨⟨⟨rfl, hO⟩, hL1⟩, hB⟩ hK
    have hmay : ¬ Tx.May R := fun hm => hO ((Tx.ok_items R k (by rw [h.len]; exact hk)).2 ⟨hm.own.take k, hm.part k⟩)
    have cR : W.cell? ⟨w.heap.size, 0, none⟩ = some (.bool false) := by rw [hL1.cell]; rfl
    gi_wp2
    refine ⟨by simp, .inl ⟨_, _, rfl, run_takeDeferred hK, ?_⟩⟩
    have hc5 := cell_kept cR (grownBy_putObj' _ D (.deferred none)) (fun r e => by cases e; exact ⟨_, hK, rfl⟩)
    exact ⟨.bool false, by simp [results, Tryd.f42, go_sem, hc5], by rw [Tx.mayB_false hmay], hB.end_ (by omega) hD hK _⟩
end Go.Proofs.YtkooconjkimgoaaDoor
