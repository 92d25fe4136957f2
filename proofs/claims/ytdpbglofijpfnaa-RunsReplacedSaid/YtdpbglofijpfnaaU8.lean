/- The code's piece. -/
import Derived.Test.YtdpbglofijpfnaaU7
import Derived.Maps.OwnIn
import Derived.Lib.MinMax
namespace Go.Proofs.Ytdpbglofijpfnaa
open Go.RowKit Go.Shelf

attribute [local go_sem] Oper.semAt_some

def Tx.pcStep (f t : Int) (l : List (Int × Int)) (x : Int × Int × Int) : List (Int × Int) :=
  if max x.1 f < min (wrap64 (x.1 + x.2.2)) t then l ++ [(x.2.1, wrap64 (min (wrap64 (x.1 + x.2.2)) t - max x.1 f))] else l
/-- what of these runs stands between two places -/
def Tx.pc (f t : Int) (pre : List (Int × Int × Int)) : List (Int × Int) := pre.foldl (Tx.pcStep f t) []
theorem Tx.pc_snoc (f t : Int) (pre : List (Int × Int × Int)) (x : Int × Int × Int) : Tx.pc f t (pre ++ [x]) = Tx.pcStep f t (Tx.pc f t pre) x := by simp [Tx.pc]
theorem Tx.pcStep_len (f t : Int) (l : List (Int × Int)) (x : Int × Int × Int) : (Tx.pcStep f t l x).length ≤ l.length + 1 := by
  unfold Tx.pcStep
  split
  · simp
  · omega
theorem Tx.pc_out {f t : Int} {l : List (Int × Int)} {x : Int × Int × Int} (h : t ≤ x.1) : Tx.pcStep f t l x = l := by
  unfold Tx.pcStep
  rw [if_neg (by omega)]
theorem Tx.last_own {R : List (Int × Int)} (h : Tx.Own R) : (Lt.expand R).getLast? = R.getLast?.map (·.1) := by
  have := (Lt.runs_of (Lt.expand R)).last
  rw [h.back] at this
  exact this.symm
theorem Tx.pc_items {R : List (Int × Int)} (hm : Tx.May R) {f t : Int} (hf : 0 ≤ f) (ht : 0 ≤ t) : ∀ k, k ≤ R.length → Tx.pc f t (Tx.items R k) = Lt.runs (((Lt.expand (R.take k)).take t.toNat).drop f.toNat)
  | 0, _ => by simp [Tx.pc, Tx.items, Lt.expand, Lt.runs]
  | k + 1, hk => by
    have ih := Tx.pc_items hm hf ht k (by omega)
    have hx := List.getElem?_eq_getElem (l := R) (i := k) (by omega)
    generalize R[k] = x at hx
    obtain ⟨c, n⟩ := x
    have hpx := hm.own.pos (c, n) (List.mem_of_getElem? hx)
    have hn : 1 ≤ n := hpx.2
    have hlen := (hm.own.take k).len
    have h0 : 0 ≤ Lt.total (R.take k) := Lt.total_pos fun y hy => Int.not_lt.2 ((hm.own.take k).pos y hy).2
    have h1 := hm.part (k + 1)
    rw [Tx.take_tot hx] at h1
    simp only at h1
    rw [Tx.items_succ, Tx.item_at hx, Tx.pc_snoc, ih, take_one hx, Lt.expand_app, Lt.expand_one]
    have hlast := Tx.last_own (hm.own.take k)
    have hadj : (R.take k).getLast?.map (·.1) ≠ some c := by
      intro e
      obtain ⟨⟨y, q⟩, hy, e2⟩ := Option.map_eq_some_iff.1 e
      obtain ⟨U, hU⟩ := List.getLast?_eq_some_iff.1 hy
      have hUl : U.length + 1 = k := by
        have := congrArg List.length hU
        rw [List.length_take, List.length_append] at this
        simp at this
        omega
      have hyk : (R.take k)[U.length]? = some (y, q) := by rw [hU]; simp
      rw [List.getElem?_take, if_pos (by omega)] at hyk
      exact hm.own.adj U.length (y, q) (c, n) hyk (by rw [hUl]; exact hx) e2
    generalize hL : Lt.expand (R.take k) = L at hlen hlast ⊢
    have hpl : Tx.pl R k = Lt.total (R.take k) := by rw [Tx.pl, IntWalk.i64_left, IntWalk.wrap64_in _ (by omega)]
    rw [hpl]
    generalize Lt.total (R.take k) = p at hlen h0 h1
    unfold Tx.pcStep
    simp only
    rw [IntWalk.wrap64_in (p + n) (by omega)]
    rw [List.take_append, List.take_replicate]
    rcases Int.lt_or_le p t with hpt | hpt
    · have e1 : L.take t.toNat = L := List.take_of_length_le (by omega)
      rw [e1, List.drop_append, List.drop_replicate]
      split
      · rename_i hlt
        rw [IntWalk.wrap64_in _ (by omega)]
        have e2 : min (t.toNat - L.length) n.toNat - (f.toNat - L.length) = (min (p + n) t - max p f).toNat := by omega
        rw [e2, Tx.runs_block (by omega)]
        · rw [show (((min (p + n) t - max p f).toNat : Nat) : Int) = min (p + n) t - max p f by omega]
        · rw [(Lt.runs_of _).last]
          intro e
          refine hadj ?_
          rw [← hlast]
          rcases Nat.lt_or_ge f.toNat L.length with h2 | h2
          · rwa [List.getLast?_drop, if_neg (by omega)] at e
          · rw [List.drop_of_length_le h2] at e
            cases e
      · rename_i hlt
        have e2 : min (t.toNat - L.length) n.toNat - (f.toNat - L.length) = 0 := by omega
        rw [e2]
        simp
    · rw [if_neg (by omega)]
      have e2 : t.toNat - L.length = 0 := by omega
      rw [e2]
      simp
theorem Tx.pc_stop {R : List (Int × Int)} (hm : Tx.May R) {f t : Int} {k : Nat} (h : t ≤ Tx.pl R k) : Lt.runs (((Lt.expand (R.take k)).take t.toNat).drop f.toNat) = Lt.runs (((Lt.expand R).take t.toNat).drop f.toNat) := by
  have hlen := (hm.own.take k).len
  have h0 : 0 ≤ Lt.total (R.take k) := Lt.total_pos fun y hy => Int.not_lt.2 ((hm.own.take k).pos y hy).2
  have h1 := hm.part k
  rw [Tx.pl, IntWalk.i64_left, IntWalk.wrap64_in _ (by omega)] at h
  have e : Lt.expand R = Lt.expand (R.take k) ++ Lt.expand (R.drop k) := by rw [← Lt.expand_app, List.take_append_drop]
  rw [e, List.take_append, show t.toNat - (Lt.expand (R.take k)).length = 0 by omega]
  simp

theorem appendRIn {F : Fence} {nF : Nat} (w : World) {ops : Array Oper} {rest : List Oper} {o : Oper} {a : Act} {Q : Exit → Act → World → Prop} (hgd : o.guard = none) (s x : Operand)
    (ho : o.op = .call { callee := .builtin .append, args := #[s, x], argTypes := #[22, 22] }) (B : Nat) (A : Option Addr) (c : Nat) (l : List (Int × Int)) (n : Nat) (hn : l.length = n) (d1 d2 : Int) (g : Nat) (hg : w.heap.size = g)
    (hs : a.eval s = .slice A n c) (hown : OwnR w B A c l) (hx : a.eval x = .slice (some ⟨g, 0, none⟩) 1 1) (hl : n ≤ 1000000) (hB : B ≤ w.heap.size)
    (h : ∀ A' c' w', OwnR w' B A' c' (l ++ [(d1, d2)]) → w.grownBy w' (Value.slice A n c).ownBlock → (∀ q, (Value.slice A' (n + 1) c').ownBlock = some q → (Value.slice A n c).ownBlock = some q ∨ w.heap.size ≤ q) → wpListIn F nF Try.prog ops Q rest (a.put o.dst (.slice A' (n + 1) c')) w') :
    wpListIn F nF Try.prog ops Q (o :: rest) a (w.alloc (.cells #[.int .i64 d1, .int .i64 d2] 38)) := by
  subst hn
  subst hg
  obtain ⟨i0, hi, hz0, hz1, hz2⟩ := info_parts infoR7
  refine wpListIn_append_own_at _ hgd s x 22 ho B 38 i0 (.agg #[.int .i64 0, .int .i64 0]) 2 16 Try.underlying22 hi hz0 hz1 hz2 rfl (by decide) (.slice A l.length c) l.length (rcells l) hs
    (World.ownsRow.alloc hown _) ⟨w.heap.size, 0, none⟩ 1 1 [.int .i64 d1, .int .i64 d2] hx rfl (cell_two_new _ _ _ _) (fun u hu => rs_one [(d1, d2)] u (by simpa [rcells] using hu)) (by unfold maxLen; omega) (by omega) (by simp; omega) ?_
  intro v' w' q1 q2 _ q4
  obtain ⟨A', c', rfl⟩ := own_form q1
  refine h A' c' w' ?_ ⟨q2.os, q2.tape, q2.output, Nat.le_trans (by simp) q2.size, fun k hk hne => (q2.block k (by simp; omega) hne).trans (Below.heap_alloc w _ k hk)⟩ fun q hq => ?_
  · have e : rcells l ++ [.int .i64 d1, .int .i64 d2] = rcells (l ++ [(d1, d2)]) := by simp [rcells]
    rw [e] at q1
    unfold OwnR
    rw [List.length_append]
    exact q1
  · rcases q4 with e | e
    · exact .inl (e ▸ hq)
    · rw [e] at hq
      cases hq
      exact .inr (by simp)
/-- a round that turns the row in the box -/
theorem Kps.row {n₀ B lb n n' c c' : Nat} {W W' : World} {A A' : Option Addr} {t : TypeId} (h1 : n₀ ≤ lb) (h2 : lb < B) (hL : Lies W lb t #[.slice A n c]) (hL' : Lies W' lb t #[.slice A' n' c'])
    (hT : Turn (fun k => k = lb ∨ (Value.slice A n c).ownBlock = some k) W W') (hlt : ∀ q, (Value.slice A n c).ownBlock = some q → n₀ ≤ q) (hcells : ∀ q, (Value.slice A n c).ownBlock = some q → ∃ t cs, Lies W q t cs)
    (hat : ∀ q, (Value.slice A' n' c').ownBlock = some q → (Value.slice A n c).ownBlock = some q ∨ W.heap.size ≤ q) (hin : ∀ q, (Value.slice A' n' c').ownBlock = some q → q < W'.heap.size) (hn : n₀ ≤ W.heap.size) : KeepsFrom B W W' ∧ Kps (some lb) n₀ B W W' := by
  have hF : ∀ i, (i = lb ∨ (Value.slice A n c).ownBlock = some i) → n₀ ≤ i := fun i e => e.elim (fun e => e ▸ h1) (hlt i)
  have hmine : ∀ q, (Value.slice A n c).ownBlock = some q → Mine (some lb) W q := fun q hq => ⟨lb, t, _, rfl, hL, hq⟩
  have hback : ∀ k, Mine (some lb) W' k → (Value.slice A' n' c').ownBlock = some k := fun k hk => by
    obtain ⟨b, t', v, e, hl, hv⟩ := hk
    cases e
    have := Option.some.inj (hl.symm.trans hL')
    injection this with e1 _ _
    have e2 := Array.toList_inj.2 e1
    simp at e2
    rwa [e2] at hv
  refine ⟨⟨hT.size, fun k o hk ho hc => (hT.block k (Array.getElem?_eq_some_iff.1 ho).1 fun e => ?_).trans ho⟩, hT.below hn hF, fun k o hk ho hc hm => (hT.block k (Array.getElem?_eq_some_iff.1 ho).1 fun e => ?_).trans ho, fun k hk hm => ?_, fun _ k hm => hin k (hback k hm)⟩
  · rcases e with rfl | e
    · omega
    · obtain ⟨t', cs, hl⟩ := hcells k e
      rw [show W.heap[k]? = _ from hl] at ho
      cases ho
      cases hc
  · rcases e with rfl | e
    · omega
    · exact hm (hmine k e)
  · rcases hat k (hback k hm) with e | e
    · exact hmine k e
    · omega
theorem Kps.of_below {Bl : Option Nat} {n₀ B : Nat} {W V : World} (h : Below W.heap.size W V) (hn : n₀ ≤ W.heap.size) (hBl : ∀ b, Bl = some b → b < W.heap.size) : KeepsFrom B W V ∧ Kps Bl n₀ B W V := by
  have hm : ∀ k, Mine Bl V k → Mine Bl W k := fun k hk => hk.back fun b e => h.block b (hBl b e)
  exact ⟨⟨h.size, fun k o _ ho _ => (h.block k (Array.getElem?_eq_some_iff.1 ho).1).trans ho⟩, h.mono hn, fun k o _ ho _ _ => (h.block k (Array.getElem?_eq_some_iff.1 ho).1).trans ho, fun k _ hk => hm k hk, fun hx k hk => Nat.lt_of_lt_of_le (hx k (hm k hk)) h.size⟩
theorem rowbox_own {β : Type} (B b : Nat) (t : TypeId) (f : β → List (Int × Int)) : Own (fun s W => ∃ A c, Lies W b t #[.slice A (f s).length c] ∧ OwnR W B A c (f s)) := fun s X Y row hs hg hrow => by
  obtain ⟨A, c, h1, h2⟩ := hs
  have hT : Turn (fun k => row = some k) X Y := Turn.of_grown hg fun g e _ => e
  refine ⟨A, c, hT.lies h1 fun e => ?_, hT.own h2 fun g hg e => ?_⟩
  · obtain ⟨o, ho, hc⟩ := hrow b e
    rw [show X.heap[b]? = _ from h1] at ho
    cases ho
    cases hc
  · obtain ⟨o, ho, hc⟩ := hrow g e
    obtain ⟨cs, hl⟩ := own_heap h2 hg
    rw [show X.heap[g]? = _ from hl] at ho
    cases ho
    cases hc
theorem OwnR.cells_at {w : World} {B : Nat} {A : Option Addr} {c n : Nat} {l : List (Int × Int)} (h : OwnR w B A c l) (hn : l.length = n) : ∀ q, (Value.slice A n c).ownBlock = some q → ∃ t cs, Lies w q t cs := fun q hq => by
  subst hn
  obtain ⟨cs, hl⟩ := own_heap h hq
  exact ⟨_, cs, hl⟩

set_option maxRecDepth 100000 in
set_option maxHeartbeats 4000000 in
theorem kpiece8 (w : World) (A : Option Addr) (n c : Nat) (R : List (Int × Int)) (f t : Int) (h : RunS w A n R) (hm : Tx.May R) (hf : 0 ≤ f) (ht : 0 ≤ t) (hn : n ≤ 1000000) :
    Calls Try.prog 33 #[.slice A n c, .int .i64 f, .int .i64 t] w fun e w' => RSaid w (Lt.runs (((Lt.expand R).take t.toNat).drop f.toNat)) e w' := by
  have hmm : 3 ≤ 6 := by omega
  generalize 6 = m at hmm
  have h1 : 1 ≤ m := by omega
  refine (callsIn_wide (n := m)).1 ?_
  refine callsIn_of_wp_marks Try.func33 rfl trivial ?_ rfl
  simp only [Try.ntmps33, List.size_toArray, List.length_cons, List.length_nil, Nat.reduceAdd, Nat.reduceSub, Array.replicate_succ, Array.replicate_zero, List.push_toArray, List.append_toArray, List.nil_append, List.cons_append]
  gi_wp2_with (refine ⟨trivial, ?_⟩; gi_at_call 36; refine (callsIn_wide.2 (kplaced A n c _)).mono ?_; rintro e w' ⟨rfl, rfl⟩)
  obtain ⟨X1, hX1⟩ : ∃ X, w.alloc (.cells #[.int .i64 f] 3) = X := ⟨_, rfl⟩
  obtain ⟨X2, hX2⟩ : ∃ X, X1.alloc (.cells #[.int .i64 t] 3) = X := ⟨_, rfl⟩
  obtain ⟨X3, hX3⟩ : ∃ X, X2.alloc (.cells #[.slice none 0 0] 22) = X := ⟨_, rfl⟩
  obtain ⟨W0, hW0⟩ : ∃ W0, X3.alloc (.cells #[.slice A n c] 22) = W0 := ⟨_, rfl⟩
  have z1 : X1.heap.size = w.heap.size + 1 := by rw [← hX1]; simp
  have z2 : X2.heap.size = w.heap.size + 2 := by rw [← hX2]; simp [z1]
  have z3 : X3.heap.size = w.heap.size + 3 := by rw [← hX3]; simp [z2]
  have hsz : W0.heap.size = w.heap.size + 4 := by rw [← hW0]; simp [z3]
  have hB0 : Below w.heap.size w W0 := by
    rw [← hW0, ← hX3, ← hX2, ← hX1]
    exact ((((Below.refl _ w).alloc (Nat.le_refl _) _).alloc (by simp) _).alloc (by simp; omega) _).alloc (by simp; omega) _
  have l1 : Lies W0 w.heap.size 3 #[.int .i64 f] := by
    have e : Lies X1 w.heap.size 3 #[.int .i64 f] := by rw [← hX1]; exact Lies.new w _ _
    rw [← hW0, ← hX3, ← hX2]
    exact (Below.heap_alloc _ _ _ (by simp; omega)).trans ((Below.heap_alloc _ _ _ (by simp; omega)).trans ((Below.heap_alloc _ _ _ (by omega)).trans e))
  have l2 : Lies W0 (w.heap.size + 1) 3 #[.int .i64 t] := by
    have e : Lies X2 (w.heap.size + 1) 3 #[.int .i64 t] := by rw [← hX2, ← z1]; exact Lies.new X1 _ _
    rw [← hW0, ← hX3]
    exact (Below.heap_alloc _ _ _ (by simp; omega)).trans ((Below.heap_alloc _ _ _ (by omega)).trans e)
  have l3 : Lies W0 (w.heap.size + 2) 22 #[.slice none 0 0] := by
    have e : Lies X3 (w.heap.size + 2) 22 #[.slice none 0 0] := by rw [← hX3, ← z2]; exact Lies.new X2 _ _
    rw [← hW0]
    exact (Below.heap_alloc _ _ _ (by omega)).trans e
  have l4 : Lies W0 (w.heap.size + 3) 22 #[.slice A n c] := by rw [← hW0, ← z3]; exact Lies.new X3 _ _
  rw [hX1, hX2, hX3, hW0]
  clear hX1 hX2 hX3 hW0 z1 z2 z3
  refine ranged hmm (w.heap.size + 1 + 1 + 1) (some (w.heap.size + 2)) w A n c R h (by omega) rfl (fun b e => by cases e; omega) (by omega) hB0
    (fun k hk => by
      obtain ⟨b, t', v, e, hl, hv⟩ := hk
      cases e
      have := Option.some.inj (hl.symm.trans l3)
      injection this with e1 _ _
      have e2 := Array.toList_inj.2 e1
      simp at e2
      rw [e2] at hv
      cases hv) (by rw [l4.cell]; rfl)
    (fun pre W => (((∃ A c, Lies W (w.heap.size + 2) 22 #[.slice A (Tx.pc f t pre).length c] ∧ OwnR W w.heap.size A c (Tx.pc f t pre)) ∧ (Lies W w.heap.size 3 #[.int .i64 f] ∧ Lies W (w.heap.size + 1) 3 #[.int .i64 t])) ∧ (Tx.pc f t pre).length ≤ pre.length) ∧ Past w W0 W)
    (fun co pre W => ((co = .exit 0 ∧ ∃ ini last, pre = ini ++ [last] ∧ t ≤ last.1) ∧ ∃ A c, Lies W (w.heap.size + 2) 22 #[.slice A (Tx.pc f t pre).length c] ∧ OwnR W w.heap.size A c (Tx.pc f t pre)) ∧ Past w W0 W)
    (OwnFrom.and (OwnFrom.and (OwnFrom.and (Own.from (rowbox_own _ _ _ _) _) (OwnFrom.and (Own.from (lies_own _ _ _) _) (Own.from (lies_own _ _ _) _))) (ownFrom_pure _ _)) (Past.own (by omega)))
    (fun _ => OwnFrom.and (OwnFrom.and (ownFrom_pure _ _) (Own.from (rowbox_own _ _ _ _) _)) (Past.own (by omega)))
    ⟨⟨⟨⟨none, 0, l3, OwnR.nil _ _⟩, l1, l2⟩, Nat.le_refl _⟩, hB0, Nat.le_refl _⟩
    (fun x a' W => ∃ Bx, W0.heap.size ≤ Bx ∧ Lies W Bx 38 #[.int .i64 x.2.1, .int .i64 x.2.2] ∧ a' = { tmps := #[.slice A n c, .int .i64 f, .int .i64 t, undef, .pointer (some ⟨w.heap.size, 0, none⟩), .pointer (some ⟨w.heap.size + 1, 0, none⟩), .slice none 0 0, .pointer (some ⟨w.heap.size + 1 + 1, 0, none⟩), .int .i64 x.1, .pointer (some ⟨Bx, 0, none⟩), undef, undef, .slice A n c, .func (.func 46) #[] #[.pointer (some ⟨w.heap.size + 1 + 1 + 1, 0, none⟩)], .int .i64 x.1, .agg #[.int .i64 x.2.1, .int .i64 x.2.2], undef, undef, undef, undef, undef, undef, undef, undef, undef, undef, undef, undef, undef, undef, undef, undef, undef, undef, undef, undef, undef, undef, undef, undef, undef], defers := [] })
    (fun x a' _ X Y row hs hg hr => by obtain ⟨Bx, h1, h2, h3⟩ := hs; exact ⟨Bx, h1, lies_own Bx 38 (fun (_ : Unit) => #[.int .i64 x.2.1, .int .i64 x.2.2]) () X Y row h2 hg (fun r e => (hr r e).2), h3⟩)
    ?assign ?body ?done ?stop
  case assign =>
    rintro l pre x W K ⟨⟨⟨⟨A1, c1, hL, hO⟩, hLf, hLt⟩, hlen⟩, hb⟩ hK
    gi_wp2
    refine hK _ _ ((KeepsOthers.alloc _ _).from _) (Kps.alloc hb.1.size (fun b e => by cases e; exact hL.lt) _) ⟨⟨⟨⟨A1, c1, (Below.heap_alloc _ _ _ hL.lt).trans hL, ?_⟩, (Below.heap_alloc _ _ _ hLf.lt).trans hLf, (Below.heap_alloc _ _ _ hLt.lt).trans hLt⟩, hlen⟩, hb.alloc _⟩ ⟨W.heap.size, hb.2, Lies.new W _ _, rfl⟩
    exact World.ownsRow.alloc hO _
  case body =>
    rintro l pre ⟨xa, xc, xn⟩ a' W hl ⟨r, hr⟩ ⟨⟨⟨⟨A1, c1, hL, hO⟩, hLf, hLt⟩, hlen⟩, hB⟩ ⟨Bx, hBx, hX, rfl⟩ hlt
    simp only at hX
    have cF : W.cell? ⟨w.heap.size, 0, none⟩ = some (.int .i64 f) := by rw [hLf.cell]; rfl
    have cT : W.cell? ⟨w.heap.size + 1, 0, none⟩ = some (.int .i64 t) := by rw [hLt.cell]; rfl
    have cX : W.cell? ⟨Bx, 0, none⟩ = some (.int .i64 xc) := by rw [hX.cell]; rfl
    have cY : W.cell? ⟨Bx, 1, none⟩ = some (.int .i64 xn) := by rw [hX.cell]; rfl
    by_cases hbr : t ≤ xa
    · have hx : Hid (∃ A c, Lies W (w.heap.size + 2) 22 #[.slice A (Tx.pc f t (pre ++ [(xa, xc, xn)])).length c] ∧ OwnR W w.heap.size A c (Tx.pc f t (pre ++ [(xa, xc, xn)]))) := by
        rw [Tx.pc_snoc, Tx.pc_out hbr]
        exact ⟨A1, c1, hL, hO⟩
      have HB := Lib.hid hB
      clear hL hO hLf hLt hlen hB hX hsz
      gi_wp2
      exact ⟨KeepsFrom.refl _ _, ⟨⟨rfl, pre, _, rfl, hbr⟩, hx.out⟩, HB.out⟩
    · have hbr' : decide (t ≤ xa) = false := decide_eq_false hbr
      obtain ⟨b, hb⟩ : ∃ b, max xa f = b := ⟨_, rfl⟩
      obtain ⟨e, he⟩ : ∃ e, min (wrap64 (xa + xn)) t = e := ⟨_, rfl⟩
      obtain ⟨L, hLd⟩ : ∃ L, Tx.pc f t pre = L := ⟨_, rfl⟩
      obtain ⟨nl, hnl⟩ : ∃ nl, L.length = nl := ⟨_, rfl⟩
      rw [hLd] at hL hO hlen
      have hnl' : nl ≤ 1000000 := by rw [← hnl]; omega
      have HL := Lib.hid hL
      have HO := Lib.hid hO
      have HF := Lib.hid hLf
      have HT := Lib.hid hLt
      have HB := Lib.hid hB
      have hp : Tx.pc f t (pre ++ [(xa, xc, xn)]) = if b < e then L ++ [(xc, wrap64 (e - b))] else L := by
        rw [Tx.pc_snoc, hLd, Tx.pcStep]
        simp only
        rw [hb, he]
      have HP := Lib.hid hp
      have Hlen : Hid (L.length ≤ pre.length) := hlen
      have lF := hLf.lt
      have lT := hLt.lt
      have lX := hX.lt
      clear hbr hL hO hLf hLt hB hX hp hlen hLd
      gi_wp2
      refine calm_round (C := Latr W) (by kernel_rfl) (by kernel_rfl) (by kernel_rfl) (latr_drew (Below.refl _ W)) ?_
      have c1_ : ∀ s : Lat W, s.at_.cell? ⟨w.heap.size, 0, none⟩ = some (.int .i64 f) := fun s => (s.ok.cell (p := ⟨w.heap.size, 0, none⟩) lF).trans cF
      have c2_ : ∀ s : Lat W, s.at_.cell? ⟨w.heap.size + 1, 0, none⟩ = some (.int .i64 t) := fun s => (s.ok.cell (p := ⟨w.heap.size + 1, 0, none⟩) lT).trans cT
      have c3_ : ∀ s : Lat W, s.at_.cell? ⟨Bx, 1, none⟩ = some (.int .i64 xn) := fun s => (s.ok.cell (p := ⟨Bx, 1, none⟩) lX).trans cY
      repeat (go_big_quiet_step (fail))
      refine wpQuiet_nil ?_
      rintro _ ⟨s, rfl⟩
      obtain ⟨V, hVd⟩ : ∃ V, s.at_ = V := ⟨_, rfl⟩
      have hV : Below W.heap.size W V := hVd ▸ s.ok
      rw [hVd]
      clear c1_ c2_ c3_ hVd s
      have vL : Lies V (w.heap.size + 2) 22 #[.slice A1 L.length c1] := (hV.block _ HL.out.lt).trans HL.out
      have vF : Lies V w.heap.size 3 #[.int .i64 f] := (hV.block _ HF.out.lt).trans HF.out
      have vT : Lies V (w.heap.size + 1) 3 #[.int .i64 t] := (hV.block _ HT.out.lt).trans HT.out
      have vO : OwnR V w.heap.size A1 c1 L := HO.out.kept hV
      have vP : Past w W0 V := ⟨HB.out.1.trans (hV.mono HB.out.1.size), Nat.le_trans HB.out.2 hV.size⟩
      obtain ⟨vK, vM⟩ := Kps.of_below (Bl := some (w.heap.size + 2)) (n₀ := w.heap.size) (B := W0.heap.size) hV HB.out.1.size (fun b e => by cases e; exact HL.out.lt)
      have cX' : V.cell? ⟨Bx, 0, none⟩ = some (.int .i64 xc) := (hV.cell (p := ⟨Bx, 0, none⟩) lX).trans cX
      by_cases hbe : b < e
      · rw [if_pos hbe] at HP
        have cL' : V.cell? ⟨w.heap.size + 2, 0, none⟩ = some (.slice A1 nl c1) := by rw [vL.cell, hnl]; rfl
        have hbe' : decide (b < e) = true := decide_eq_true hbe
        have HFin : Hid (∀ A2 c2 w2, OwnR w2 w.heap.size A2 c2 (L ++ [(xc, wrap64 (e - b))]) → V.grownBy w2 (Value.slice A1 nl c1).ownBlock → (∀ q, (Value.slice A2 (nl + 1) c2).ownBlock = some q → (Value.slice A1 nl c1).ownBlock = some q ∨ V.heap.size ≤ q) →
            (w2.cell? ⟨w.heap.size + 2, 0, none⟩ = some (.slice A1 nl c1) ∧ w2.frozen? ⟨w.heap.size + 2, 0, none⟩ = false) ∧
            (KeepsFrom W0.heap.size W (w2.setCell ⟨w.heap.size + 2, 0, none⟩ (.slice A2 (nl + 1) c2)) ∧ Kps (some (w.heap.size + 2)) w.heap.size W0.heap.size W (w2.setCell ⟨w.heap.size + 2, 0, none⟩ (.slice A2 (nl + 1) c2)) ∧
            (((∃ A c, Lies (w2.setCell ⟨w.heap.size + 2, 0, none⟩ (.slice A2 (nl + 1) c2)) (w.heap.size + 2) 22 #[.slice A (Tx.pc f t (pre ++ [(xa, xc, xn)])).length c] ∧ OwnR (w2.setCell ⟨w.heap.size + 2, 0, none⟩ (.slice A2 (nl + 1) c2)) w.heap.size A c (Tx.pc f t (pre ++ [(xa, xc, xn)]))) ∧
              (Lies (w2.setCell ⟨w.heap.size + 2, 0, none⟩ (.slice A2 (nl + 1) c2)) w.heap.size 3 #[.int .i64 f] ∧ Lies (w2.setCell ⟨w.heap.size + 2, 0, none⟩ (.slice A2 (nl + 1) c2)) (w.heap.size + 1) 3 #[.int .i64 t])) ∧ (Tx.pc f t (pre ++ [(xa, xc, xn)])).length ≤ (pre ++ [(xa, xc, xn)]).length) ∧ Past w W0 (w2.setCell ⟨w.heap.size + 2, 0, none⟩ (.slice A2 (nl + 1) c2)))) := by
          intro A2 c2 w2 o2 g2 at2
          have hLL : (L ++ [(xc, wrap64 (e - b))]).length = nl + 1 := by rw [List.length_append, hnl]; rfl
          have hne : ∀ g, (Value.slice A1 nl c1).ownBlock = some g → g ≠ w.heap.size + 2 ∧ g ≠ w.heap.size ∧ g ≠ w.heap.size + 1 := fun g hg => by
            rw [← hnl] at hg
            refine ⟨fun e => ?_, fun e => ?_, fun e => ?_⟩ <;> subst e
            · exact own_not_lies vO vL (by decide) hg
            · exact own_not_lies vO vF (by decide) hg
            · exact own_not_lies vO vT (by decide) hg
          have hT2 : Turn (fun k => (Value.slice A1 nl c1).ownBlock = some k) V w2 := Turn.of_grown g2 fun g e _ => e
          have wL : Lies w2 (w.heap.size + 2) 22 #[.slice A1 L.length c1] := hT2.lies vL fun e => (hne _ e).1 rfl
          have wF := hT2.lies vF fun e => (hne _ e).2.1 rfl
          have wT := hT2.lies vT fun e => (hne _ e).2.2 rfl
          have hT3 : Turn (fun k => k = w.heap.size + 2 ∨ (Value.slice A1 nl c1).ownBlock = some k) V (w2.setCell ⟨w.heap.size + 2, 0, none⟩ (.slice A2 (nl + 1) c2)) := (hT2.mono fun i _ e => .inr e).put (.inl (.inl rfl)) _
          have hL3 : Lies (w2.setCell ⟨w.heap.size + 2, 0, none⟩ (.slice A2 (nl + 1) c2)) (w.heap.size + 2) 22 #[.slice A2 (nl + 1) c2] := wL.put 0 _
          have hO3 : OwnR (w2.setCell ⟨w.heap.size + 2, 0, none⟩ (.slice A2 (nl + 1) c2)) w.heap.size A2 c2 (L ++ [(xc, wrap64 (e - b))]) := by
            have hT4 : Turn (fun k => k = w.heap.size + 2) w2 (w2.setCell ⟨w.heap.size + 2, 0, none⟩ (.slice A2 (nl + 1) c2))   := (Turn.refl (fun k => k = w.heap.size + 2) w2).put (p := ⟨w.heap.size + 2, 0, none⟩) (.inl rfl) _
            exact hT4.own o2 fun g hg e => own_not_lies o2 wL (by decide) (e ▸ hg)
          obtain ⟨k1, k2⟩ := Kps.row (n₀ := w.heap.size) (B := W0.heap.size) (by omega) (by omega) (by rw [← hnl]; exact vL) hL3 (by rw [← hnl] at hT3 ⊢; exact hT3) (fun q hq => (vO.lt hnl hq).1) (vO.cells_at hnl) at2 (fun q hq => (hO3.lt hLL hq).2) vP.1.size
          refine ⟨⟨by rw [wL.cell, hnl]; rfl, wL.free 0⟩, vK.trans k1, vM.trans k2, ?_, vP.turn hT3 fun i hi => hi.elim (fun e => by omega) fun e => (vO.lt hnl e).1⟩
          rw [HP.out]
          refine ⟨⟨⟨A2, c2, by rw [hLL]; exact hL3, hO3⟩, (Below.heap_setCell w2 _ _ _ (by show w.heap.size ≠ w.heap.size + 2; omega)).trans wF, (Below.heap_setCell w2 _ _ _ (by show w.heap.size + 1 ≠ w.heap.size + 2; omega)).trans wT⟩, ?_⟩
          rw [hLL, List.length_append, ← hnl]
          have := Hlen.out
          simp only [List.length_cons, List.length_nil]
          omega
        have HvO := Lib.hid vO
        have hwV : w.heap.size ≤ V.heap.size := vP.1.size
        clear vL vF vT vO vP vK vM HP HL HO HF HT HB Hlen cF cT cX cY hbe hb he hsz
        gi_wp2_with (gi_at_builtin; refine appendRIn V rfl (.tmp 31) (.tmp 38) rfl w.heap.size A1 c1 L nl hnl xc (wrap64 (e - b)) V.heap.size rfl rfl HvO.out rfl hnl' hwV ?_; intro A2 c2 w2 o2 g2 at2; obtain ⟨⟨cL2, fL2⟩, hfin⟩ := HFin.out A2 c2 w2 o2 g2 at2; have HH := Lib.hid hfin; clear hfin o2 g2 at2)
        exact HH.out
      · rw [if_neg hbe] at HP
        have hbe' : decide (b < e) = false := decide_eq_false hbe
        have HH : Hid (KeepsFrom W0.heap.size W V ∧ Kps (some (w.heap.size + 2)) w.heap.size W0.heap.size W V ∧ (((∃ A c, Lies V (w.heap.size + 2) 22 #[.slice A (Tx.pc f t (pre ++ [(xa, xc, xn)])).length c] ∧ OwnR V w.heap.size A c (Tx.pc f t (pre ++ [(xa, xc, xn)]))) ∧ (Lies V w.heap.size 3 #[.int .i64 f] ∧ Lies V (w.heap.size + 1) 3 #[.int .i64 t])) ∧ (Tx.pc f t (pre ++ [(xa, xc, xn)])).length ≤ (pre ++ [(xa, xc, xn)]).length) ∧ Past w W0 V) := by
          refine ⟨vK, vM, ?_, vP⟩
          rw [HP.out]
          exact ⟨⟨⟨A1, c1, vL, vO⟩, vF, vT⟩, by have := Hlen.out; rw [List.length_append]; omega⟩
        clear vL vF vT vO vP vK vM HP HL HO HF HT HB Hlen cF cT cX cY hbe hb he hsz
        gi_wp2
        exact HH.out
  case done =>
    rintro D W hD ⟨⟨⟨⟨A1, c1, hL, hO⟩, hLf, hLt⟩, hlen⟩, hB⟩ hK
    have hr := Tx.pc_items hm hf ht n (by rw [h.len]; exact Nat.le_refl _)
    rw [← h.len, List.take_length] at hr
    rw [← h.len, hr] at hL hO
    obtain ⟨T, hT0⟩ : ∃ T, Lt.runs (((Lt.expand R).take t.toNat).drop f.toNat) = T := ⟨_, rfl⟩
    rw [hT0] at hL hO
    have cL : W.cell? ⟨w.heap.size + 2, 0, none⟩ = some (.slice A1 T.length c1) := by rw [hL.cell]; rfl
    have hE := hB.end_ (by omega) hD hK (.deferred none)
    have hO' : OwnR (W.putObj D (.deferred none)) w.heap.size A1 c1 T := by
      have hT : Turn (fun k => k = D) W (W.putObj D (.deferred none)) := Turn.of_grown (grownBy_putObj' W D _) fun g e _ => by cases e; rfl
      refine hT.own hO fun g hg e => ?_
      obtain ⟨t', cs, hl⟩ := hO.cells_at rfl g hg
      subst e
      rw [show W.heap[g]? = _ from hl] at hK
      cases hK
    clear hL hO hLf hLt hr hlen hB
    gi_wp2
    refine ⟨by simp, .inl ⟨_, _, rfl, run_takeDeferred hK, ?_⟩⟩
    exact ⟨_, results_tmp rfl _ _ _, by rw [hT0]; exact ⟨⟨A1, c1, rfl, hO'⟩, hE⟩⟩
  case stop =>
    rintro D co k W hD hk ⟨⟨⟨rfl, ini, last, e1, e2⟩, A1, c1, hL, hO⟩, hB⟩ hK
    have hr : Tx.pc f t (Tx.items R k) = Lt.runs (((Lt.expand R).take t.toNat).drop f.toNat) := by
      cases k with
      | zero => simp [Tx.items] at e1
      | succ k =>
        rw [Tx.items_succ] at e1 ⊢
        obtain ⟨_, e5⟩ := List.append_inj' e1 rfl
        obtain rfl : Tx.item R k = last := by simpa using e5
        rw [Tx.pc_snoc, Tx.pc_out e2, Tx.pc_items hm hf ht k (by rw [h.len]; omega)]
        exact Tx.pc_stop hm e2
    rw [hr] at hL hO
    obtain ⟨T, hT0⟩ : ∃ T, Lt.runs (((Lt.expand R).take t.toNat).drop f.toNat) = T := ⟨_, rfl⟩
    rw [hT0] at hL hO
    have cL : W.cell? ⟨w.heap.size + 2, 0, none⟩ = some (.slice A1 T.length c1) := by rw [hL.cell]; rfl
    have hE := hB.end_ (by omega) hD hK (.deferred none)
    have hO' : OwnR (W.putObj D (.deferred none)) w.heap.size A1 c1 T := by
      have hT : Turn (fun k => k = D) W (W.putObj D (.deferred none)) := Turn.of_grown (grownBy_putObj' W D _) fun g e _ => by cases e; rfl
      refine hT.own hO fun g hg e => ?_
      obtain ⟨t', cs, hl⟩ := hO.cells_at rfl g hg
      subst e
      rw [show W.heap[g]? = _ from hl] at hK
      cases hK
    clear hL hO hr hB
    gi_wp2
    refine ⟨by simp, .inl ⟨_, _, rfl, run_takeDeferred hK, ?_⟩⟩
    exact ⟨_, results_tmp rfl _ _ _, by rw [hT0]; exact ⟨⟨A1, c1, rfl, hO'⟩, hE⟩⟩
end Go.Proofs.Ytdpbglofijpfnaa
