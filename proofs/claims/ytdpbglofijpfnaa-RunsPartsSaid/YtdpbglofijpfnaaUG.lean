/- The code's first. -/
import Derived.Test.YtdpbglofijpfnaaUF
namespace Go.Proofs.Ytdpbglofijpfnaa
open Go.RowKit Go.Shelf

attribute [local go_sem] Oper.semAt_some

def Tx.No1 (x : Int × Int) (pre : List (Int × Int × Int)) : Prop := ∀ (i : Nat) z, pre[i]? = some z → Tx.wi x z.2 = false
theorem Tx.No1.snoc {x : Int × Int} {pre : List (Int × Int × Int)} {z : Int × Int × Int} (h : Tx.No1 x pre) (hz : Tx.wi x z.2 = false) : Tx.No1 x (pre ++ [z]) := fun i u hi => by
  have hlt := (List.getElem?_eq_some_iff.1 hi).1
  rw [List.length_append] at hlt
  simp only [List.length_cons, List.length_nil] at hlt
  rcases Nat.lt_or_ge i pre.length with e | e
  · rw [List.getElem?_append_left e] at hi
    exact h i u hi
  · obtain rfl : i = pre.length := by omega
    rw [List.getElem?_append_right (Nat.le_refl _)] at hi
    obtain rfl : z = u := by simpa using hi
    exact hz
theorem Tx.No1.runs {x : Int × Int} {R : List (Int × Int)} {k : Nat} (h : Tx.No1 x (Tx.items R k)) : ∀ (i : Nat) z, i < k → R[i]? = some z → Tx.wi x z = false := fun i z hi hz => by
  have := h i _ (Tx.items_get R hi)
  rwa [Tx.item_at hz] at this
theorem Tx.fst1_none {R : List (Int × Int)} {x : Int × Int} (hs : Tx.Own R) (ht : Tx.Own [x]) (h : Tx.No1 x (Tx.items R R.length)) : Tx.Fst R [x] (-1) :=
  .inl ⟨rfl, Tx.none_one hs ht fun i z hz => h.runs i z (List.getElem?_eq_some_iff.1 hz).1 hz⟩
theorem Tx.fst1_hit {R : List (Int × Int)} {x : Int × Int} (hs : Tx.May R) (ht : Tx.Own [x]) {p : Nat} (hp : p < R.length) (h : Tx.No1 x (Tx.items R p)) (hh : Tx.wi x (Tx.item R p).2 = true) : Tx.Fst R [x] (Tx.item R p).1 := by
  have hx := List.getElem?_eq_getElem hp
  rw [Tx.item_at hx] at hh ⊢
  have p1 : 0 ≤ Lt.total (R.take p) := Lt.total_pos fun z hz => Int.not_lt.2 (hs.own.pos z (List.mem_of_mem_take hz)).2
  have p3 := hs.part p
  obtain ⟨k, hk⟩ : ∃ k : Nat, Lt.total (R.take p) = (k : Int) := ⟨(Lt.total (R.take p)).toNat, by omega⟩
  refine .inr ⟨k, ?_, Tx.first_one hs.own ht hx hh (fun i z hi hz => h.runs i z hi hz) hk.symm⟩
  show Tx.pl R p = k
  unfold Tx.pl
  rw [IntWalk.i64_in _ (by omega), hk]

set_option maxRecDepth 100000 in
set_option maxHeartbeats 4000000 in
theorem kfirst8 (w : World) (A : Option Addr) (n c : Nat) (R : List (Int × Int)) (B : Option Addr) (m d : Nat) (S : List (Int × Int)) (h : RunS w A n R) (h' : RunS w B m S) (hd : m ≤ d) (hR : Tx.May R) (hS : Tx.May S) :
    Calls Try.prog 42 #[.slice A n c, .slice B m d] w fun e w' => (∃ z, e = .returned (.int .i64 z) ∧ Tx.Fst R S z) ∧ Below w.heap.size w w' := by
  have hn : n ≤ 65536 := by have := h.len; have := hR.few; omega
  have hmm : m ≤ 65536 := by have := h'.len; have := hS.few; omega
  have hq : 3 ≤ 6 := by omega
  generalize 6 = q at hq
  have h1 : 1 ≤ q := by omega
  refine (callsIn_wide (n := q)).1 ?_
  refine callsIn_of_wp_marks Try.func42 rfl trivial ?_ rfl
  simp only [Try.ntmps42, List.size_toArray, List.length_cons, List.length_nil, Nat.reduceAdd, Nat.reduceSub, Array.replicate_succ, Array.replicate_zero, List.push_toArray, List.append_toArray, List.nil_append, List.cons_append]
  obtain _ | ⟨⟨x1, x2⟩, T⟩ := S
  · obtain rfl : 0 = m := by have := h'.len; simpa using this
    have hF : Tx.Fst R [] 0 := .inr ⟨0, rfl, Nat.le_refl _, ⟨Nat.zero_le _, by simp [Lt.expand]⟩, fun j _ hj => absurd hj (Nat.not_lt_zero _)⟩
    gi_wp2
    have hc : ((w.alloc (.cells #[.slice B 0 d] 22)).alloc (.cells #[.int .i64 0] 3)).cell? ⟨w.heap.size + 1, 0, none⟩ = some (.int .i64 0) := by
      rw [(Lies.fresh8 (by simp)).cell]
      rfl
    exact ⟨.int .i64 0, by simp [results, Try.f42, go_sem, hc], ⟨_, rfl, hF⟩, ((Below.refl _ w).alloc (Nat.le_refl _) _).alloc (by simp) _⟩
  rcases Lt.last_form T with rfl | ⟨M, ⟨y1, y2⟩, rfl⟩
  · obtain rfl : 1 = m := by have := h'.len; simpa using this
    gi_wp2_with (refine ⟨trivial, ?_⟩; gi_at_call 36; refine (callsIn_wide.2 (kplaced A n c _)).mono ?_; rintro e w' ⟨rfl, rfl⟩)
    have l2 : Lies (((w.alloc (.cells #[.slice B 1 d] 22)).alloc (.cells #[.int .i64 0] 3)).alloc (.cells #[.slice A n c] 22)) w.heap.size 22 #[.slice B 1 d] := Lies.al8 (Lies.al8 (Lies.fresh8 rfl) _) _
    have l4 : Lies (((w.alloc (.cells #[.slice B 1 d] 22)).alloc (.cells #[.int .i64 0] 3)).alloc (.cells #[.slice A n c] 22)) (w.heap.size + 1) 3 #[.int .i64 0] := Lies.al8 (Lies.fresh8 (by simp)) _
    have lP : Lies (((w.alloc (.cells #[.slice B 1 d] 22)).alloc (.cells #[.int .i64 0] 3)).alloc (.cells #[.slice A n c] 22)) (w.heap.size + 1 + 1) 22 #[.slice A n c] := Lies.fresh8 (by simp)
    have hB0 : Below w.heap.size w (((w.alloc (.cells #[.slice B 1 d] 22)).alloc (.cells #[.int .i64 0] 3)).alloc (.cells #[.slice A n c] 22)) := (((Below.refl _ w).alloc (Nat.le_refl _) _).alloc (by simp) _).alloc (by simp; omega) _
    have hsz : (((w.alloc (.cells #[.slice B 1 d] 22)).alloc (.cells #[.int .i64 0] 3)).alloc (.cells #[.slice A n c] 22)).heap.size = w.heap.size + 3 := by simp
    obtain ⟨W0, hW0⟩ : ∃ W0, (((w.alloc (.cells #[.slice B 1 d] 22)).alloc (.cells #[.int .i64 0] 3)).alloc (.cells #[.slice A n c] 22)) = W0 := ⟨_, rfl⟩
    rw [hW0] at l2 l4 lP hB0 hsz ⊢
    clear hW0
    obtain ⟨bB, oB, u0, eB, hu0, _, _, hcB⟩ := h'.get (show 0 < 1 by omega)
    obtain rfl : u0 = (x1, x2) := by simpa using hu0.symm
    subst eB
    clear hu0
    have hB1 : Hid (∀ W, Below w.heap.size w W → W.cell? ⟨bB, oB, none⟩ = some (.int .i64 x1) ∧ W.cell? ⟨bB, oB + 1, none⟩ = some (.int .i64 x2)) := fun W hW => by simpa using (hcB W hW).2
    clear hcB
    refine ranged hq (w.heap.size + 1 + 1) none w A n c R h (by omega) rfl (fun _ e => by cases e) (by omega) hB0 (fun _ e => e.none.elim) (by rw [lP.cell]; rfl)
      (fun pre W => ((Lies W w.heap.size 22 #[.slice (some ⟨bB, oB, none⟩) 1 d] ∧ Lies W (w.heap.size + 1) 3 #[.int .i64 0]) ∧ Tx.No1 (x1, x2) pre) ∧ Past w W0 W)
      (fun co pre W => ((co = .ret ∧ ∃ ini last, pre = ini ++ [last] ∧ Tx.No1 (x1, x2) ini ∧ Tx.wi (x1, x2) last.2 = true) ∧ Lies W (w.heap.size + 1) 3 #[.int .i64 (pre.getLast?.getD (0, 0, 0)).1]) ∧ Past w W0 W)
      (OwnFrom.and (OwnFrom.and (OwnFrom.and (Own.from (lies_own _ _ _) _) (Own.from (lies_own _ _ _) _)) (ownFrom_pure _ _)) (Past.own (by omega)))
      (fun _ => OwnFrom.and (OwnFrom.and (ownFrom_pure _ _) (Own.from (lies_own _ _ _) _)) (Past.own (by omega)))
      ⟨⟨⟨l2, l4⟩, fun i z hi => by simp at hi⟩, hB0, Nat.le_refl _⟩
      (fun x a' W => ∃ Bx, W0.heap.size ≤ Bx ∧ Lies W Bx 38 #[.int .i64 x.2.1, .int .i64 x.2.2] ∧ a' = { tmps := #[.slice A n c, .slice (some ⟨bB, oB, none⟩) 1 d, undef, .pointer (some ⟨w.heap.size, 0, none⟩), .pointer (some ⟨w.heap.size + 1, 0, none⟩), .int .i64 x.1, .pointer (some ⟨Bx, 0, none⟩), .slice (some ⟨bB, oB, none⟩) 1 d, .int .i64 1, .bool false, .bool false, .bool true, .bool true, .slice A n c, .func (.func 46) #[] #[.pointer (some ⟨w.heap.size + 1 + 1, 0, none⟩)], .int .i64 x.1, .agg #[.int .i64 x.2.1, .int .i64 x.2.2], undef, undef, undef, undef, undef, undef, undef, undef, undef], defers := [] })
      (fun x a' _ X Y row hs hg hr => by obtain ⟨Bx, h1, h2, h3⟩ := hs; exact ⟨Bx, h1, lies_own Bx 38 (fun (_ : Unit) => #[.int .i64 x.2.1, .int .i64 x.2.2]) () X Y row h2 hg (fun r e => (hr r e).2), h3⟩)
      ?assign ?body ?done ?stop
    case assign =>
      rintro l pre x W K ⟨⟨⟨hl2, hl4⟩, hp⟩, hb⟩ hK
      gi_wp2
      exact hK _ _ ((KeepsOthers.alloc _ _).from _) (Kps.alloc hb.1.size (fun _ e => by cases e) _) ⟨⟨⟨Lies.al8 hl2 _, Lies.al8 hl4 _⟩, hp⟩, hb.alloc _⟩ ⟨W.heap.size, hb.2, Lies.new W _ _, rfl⟩
    case body =>
      rintro l pre ⟨xa, xc, xn⟩ a' W hl ⟨r, hr⟩ ⟨⟨⟨hl2, hl4⟩, hp⟩, hb⟩ ⟨Bx, hBx, hX, rfl⟩ hlt
      simp only at hX
      have HLat : Hid ((∀ s : Lat W, s.at_.cell? ⟨w.heap.size, 0, none⟩ = some (.slice (some ⟨bB, oB, none⟩) 1 d)) ∧ (∀ s : Lat W, s.at_.cell? ⟨bB, oB, none⟩ = some (.int .i64 x1) ∧ s.at_.cell? ⟨bB, oB + 1, none⟩ = some (.int .i64 x2)) ∧ (∀ s : Lat W, s.at_.cell? ⟨Bx, 0, none⟩ = some (.int .i64 xc) ∧ s.at_.cell? ⟨Bx, 1, none⟩ = some (.int .i64 xn)) ∧ True) :=
        ⟨fun s => by rw [s.ok.cell (p := ⟨w.heap.size, _, none⟩) hl2.lt, hl2.cell]; rfl, fun s => hB1.out s.at_ (hb.1.trans (s.ok.mono hb.1.size)),
          fun s => ⟨by rw [s.ok.cell (p := ⟨_, _, none⟩) hX.lt, hX.cell]; rfl, by rw [s.ok.cell (p := ⟨_, _, none⟩) hX.lt, hX.cell]; rfl⟩, trivial⟩
      have HW1 := Lib.hid fun W => kwithin8 W x1 x2 xc xn
      obtain ⟨g, hg⟩ : ∃ g, Tx.wi (x1, x2) (xc, xn) = g := ⟨_, rfl⟩
      rw [hg] at HW1
      have HNo : Hid (g = false → ∀ W8, Below W.heap.size W W8 → KeepsFrom W0.heap.size W W8 ∧ Kps none w.heap.size W0.heap.size W W8 ∧ ((Lies W8 w.heap.size 22 #[.slice (some ⟨bB, oB, none⟩) 1 d] ∧ Lies W8 (w.heap.size + 1) 3 #[.int .i64 0]) ∧ Tx.No1 (x1, x2) (pre ++ [(xa, xc, xn)])) ∧ Past w W0 W8) := fun e W8 h8 => by
        subst e
        have hT : Turn (fun k => w.heap.size ≤ k ∧ k < W0.heap.size) W W8 := Turn.of_below h8
        exact ⟨keeps_of_turn hT, Kps.of_turn hT hb.1.size, ⟨⟨(h8.block _ hl2.lt).trans hl2, (h8.block _ hl4.lt).trans hl4⟩, hp.snoc hg⟩, hb.turn hT (fun _ e => e.1)⟩
      have HYes : Hid (g = true → ∀ W8, Below W.heap.size W W8 → (W8.cell? ⟨w.heap.size + 1, 0, none⟩ = some (.int .i64 0) ∧ W8.frozen? ⟨w.heap.size + 1, 0, none⟩ = false) ∧ KeepsFrom W0.heap.size W (W8.setCell ⟨w.heap.size + 1, 0, none⟩ (.int .i64 xa)) ∧ (((.ret : Code) = .ret ∧ ∃ ini last, pre ++ [(xa, xc, xn)] = ini ++ [last] ∧ Tx.No1 (x1, x2) ini ∧ Tx.wi (x1, x2) last.2 = true) ∧ Lies (W8.setCell ⟨w.heap.size + 1, 0, none⟩ (.int .i64 xa)) (w.heap.size + 1) 3 #[.int .i64 ((pre ++ [(xa, xc, xn)]).getLast?.getD (0, 0, 0)).1]) ∧ Past w W0 (W8.setCell ⟨w.heap.size + 1, 0, none⟩ (.int .i64 xa))) := fun e W8 h8 => by
        subst e
        have lR : Lies W8 (w.heap.size + 1) 3 #[.int .i64 0] := (h8.block _ hl4.lt).trans hl4
        have hT : Turn (fun k => w.heap.size ≤ k ∧ k < W0.heap.size) W (W8.setCell ⟨w.heap.size + 1, 0, none⟩ (.int .i64 xa)) := (Turn.of_below h8).put (p := ⟨w.heap.size + 1, 0, none⟩) (.inl ⟨by show w.heap.size ≤ w.heap.size + 1; omega, by show w.heap.size + 1 < W0.heap.size; omega⟩) _
        refine ⟨⟨by rw [lR.cell]; rfl, lR.free 0⟩, keeps_of_turn hT, ⟨⟨rfl, pre, _, rfl, hp, hg⟩, ?_⟩, hb.turn hT (fun _ e => e.1)⟩
        simpa using lR.put 0 (.int .i64 xa)
      clear hl2 hl4 hp hX h h' hR hS l2 l4 lP hB0 hb hB1 hg
      cases g
      · have HH := Lib.hid (HNo.out rfl)
        clear HNo HYes
        gi_wp2_with (fail)
        refine calm_round (C := Latr W) (by kernel_rfl) (by kernel_rfl) (by kernel_rfl) (latr_drew (Below.refl _ W)) ?_
        obtain ⟨k1_, k2_, k3_, k4_⟩ := HLat.out
        repeat (go_big_quiet_step ((go_at_call 40; with_reducible exact calm_call (HW1.out _))))
        refine wpQuiet_nil ?_
        rintro _ ⟨s, rfl⟩
        have HE := Lib.hid (HH.out s.at_ s.ok)
        clear HH k1_ k2_ k3_ k4_ HLat HW1
        generalize s.at_ = W9 at *
        gi_wp2_with (fail)
        exact HE.out
      · have HH := Lib.hid (HYes.out rfl)
        clear HNo HYes
        gi_wp2_with (fail)
        refine calm_round (C := Latr W) (by kernel_rfl) (by kernel_rfl) (by kernel_rfl) (latr_drew (Below.refl _ W)) ?_
        obtain ⟨k1_, k2_, k3_, k4_⟩ := HLat.out
        repeat (go_big_quiet_step ((go_at_call 40; with_reducible exact calm_call (HW1.out _))))
        refine wpQuiet_nil ?_
        rintro _ ⟨s, rfl⟩
        obtain ⟨⟨y1_, y2_⟩, hfin⟩ := HH.out s.at_ s.ok
        have HE := Lib.hid hfin
        clear hfin HH k1_ k2_ k3_ k4_ HLat HW1
        generalize s.at_ = W9 at *
        gi_wp2_with (fail)
        obtain ⟨hK, ⟨⟨_, hex⟩, hL⟩, hT⟩ := HE.out
        exact ⟨hK, ⟨⟨rfl, hex⟩, hL⟩, hT⟩
    case done =>
      rintro D W hD ⟨⟨⟨hl2, hl4⟩, hp⟩, hb⟩ hK
      have cR : W.cell? ⟨w.heap.size + 1, 0, none⟩ = some (.int .i64 0) := by rw [hl4.cell]; rfl
      have fR := hl4.free 0
      clear hl2 hl4 l2 l4 lP
      gi_wp2
      have hK' := (KeepsOthers.setCell W ⟨w.heap.size + 1, 0, none⟩ (.int .i64 (-1))).same D _ hK rfl
      refine ⟨by simp, .inl ⟨_, _, rfl, run_takeDeferred hK', ?_⟩⟩
      have hc5 := cell_kept (World.cell?_setCell_same' W ⟨w.heap.size + 1, 0, none⟩ (.int .i64 (-1)) (by rw [cR]; rfl)) (grownBy_putObj' _ D (.deferred none)) (fun r e => by cases e; exact ⟨_, hK', rfl⟩)
      have hT : Turn (fun k => k = w.heap.size + 1) W (W.setCell ⟨w.heap.size + 1, 0, none⟩ (.int .i64 (-1))) := (Turn.refl (fun k => k = w.heap.size + 1) W).put (p := ⟨w.heap.size + 1, 0, none⟩) (.inl rfl) _
      exact ⟨.int .i64 (-1), by simp [results, Try.f42, go_sem, hc5], ⟨_, rfl, Tx.fst1_none hR.own hS.own (by rw [h.len]; exact hp)⟩, (hb.turn hT (fun _ e => by omega)).end_ (by omega) hD hK' _⟩
    case stop =>
      rintro D co p W hD hp ⟨⟨⟨rfl, ini, last, e1, hNo, hHit⟩, hR1⟩, hE⟩ hK
      obtain ⟨z, hz, hzF⟩ : ∃ z, ((Tx.items R p).getLast?.getD (0, 0, 0)).1 = z ∧ Tx.Fst R [(x1, x2)] z := by
        cases p with
        | zero => simp [Tx.items] at e1
        | succ p =>
          rw [Tx.items_succ] at e1 ⊢
          obtain ⟨rfl, e5⟩ := List.append_inj' e1 rfl
          obtain rfl : Tx.item R p = last := by simpa using e5
          refine ⟨_, rfl, ?_⟩
          simpa using Tx.fst1_hit hR hS.own (by rw [h.len]; omega) hNo hHit
      rw [hz] at hR1
      have cR : W.cell? ⟨w.heap.size + 1, 0, none⟩ = some (.int .i64 z) := by rw [hR1.cell]; rfl
      clear hR1 e1 hNo hHit hz l2 l4 lP
      gi_wp2
      refine ⟨by simp, .inl ⟨_, _, rfl, run_takeDeferred hK, ?_⟩⟩
      have hc5 := cell_kept cR (grownBy_putObj' _ D (.deferred none)) (fun r e => by cases e; exact ⟨_, hK, rfl⟩)
      exact ⟨.int .i64 z, by simp [results, Try.f42, go_sem, hc5], ⟨_, rfl, hzF⟩, hE.end_ (by omega) hD hK _⟩
  · obtain ⟨k, hk⟩ : ∃ k, m = k + 2 := ⟨M.length, by have := h'.len; simp at this; omega⟩
    subst hk
    have hk0 : ((k : Int) + 2 == 0) = false := beq_eq_false_iff_ne.2 (by omega)
    have hk1 : ((k : Int) + 2 == 1) = false := beq_eq_false_iff_ne.2 (by omega)
    obtain ⟨bB, oB, rfl⟩ : ∃ bB oB, B = some ⟨bB, oB, none⟩ := by
      obtain ⟨bB, oB, u0, eB, _⟩ := h'.get (show 0 < k + 2 by omega)
      exact ⟨bB, oB, eB⟩
    have HC : Hid (∀ W, Below w.heap.size w W → Calls Try.prog 47 #[.slice A n c, .slice (some ⟨bB, oB, none⟩) (k + 2) d] W fun e w' => (∃ z, e = .returned (.int .i64 z) ∧ Tx.Fst R ((x1, x2) :: (M ++ [(y1, y2)])) z) ∧ Below W.heap.size W w') := fun W hW => kmany8 W A n c R bB oB k d x1 x2 y1 y2 M (h.below hW) (h'.below hW) hd (by omega) (by omega) hR hS
    have hB0 := Lib.hid (((Below.refl _ w).alloc (Nat.le_refl _) (.cells #[.slice (some ⟨bB, oB, none⟩) (k + 2) d] 22)).alloc (by simp) (.cells #[.int .i64 0] 3))
    have lR : Lies ((w.alloc (.cells #[.slice (some ⟨bB, oB, none⟩) (k + 2) d] 22)).alloc (.cells #[.int .i64 0] 3)) (w.heap.size + 1) 3 #[.int .i64 0] := Lies.fresh8 (by simp)
    have HR := Lib.hid lR
    clear lR h h' hR hS
    gi_wp2
    refine ⟨trivial, ?_⟩
    refine (callsIn_wide.2 (HC.out _ hB0.out)).mono ?_
    rintro e w2 ⟨⟨z, rfl, hz⟩, b2⟩
    have lR2 : Lies w2 (w.heap.size + 1) 3 #[.int .i64 0] := (b2.block _ HR.out.lt).trans HR.out
    have cR : w2.cell? ⟨w.heap.size + 1, 0, none⟩ = some (.int .i64 0) := by rw [lR2.cell]; rfl
    have fR := lR2.free 0
    have HZ := Lib.hid (And.intro hz b2)
    clear hz b2 lR2
    gi_wp2
    have hc5 := World.cell?_setCell_same' w2 ⟨w.heap.size + 1, 0, none⟩ (.int .i64 z) (by rw [cR]; rfl)
    refine ⟨.int .i64 z, by simp [results, Try.f42, go_sem, hc5], ⟨_, rfl, HZ.out.1⟩, ?_⟩
    have hB2 := hB0.out.trans (HZ.out.2.mono hB0.out.size)
    exact ((Turn.of_below (F := fun k => k = w.heap.size + 1) hB2).put (p := ⟨w.heap.size + 1, 0, none⟩) (.inl rfl) _).below (Nat.le_refl _) (fun i e => by omega)
end Go.Proofs.Ytdpbglofijpfnaa
