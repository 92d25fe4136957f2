/- A table's calls: note, Add. -/
import Derived.Test.YtgijagdnhajkhaaT3
import Derived.OwnWalk
namespace Go.Proofs.Ytgijagdnhajkhaa
open Go.RowKit

/-- what a call leaves of a table: other keys, in the same blocks or new ones -/
def Lefts (w : World) (F : Nat → Prop) (tb : Nat) (ks : List ByteArray) (w' : World) : Prop :=
  ∃ F' : Nat → Prop, Tabs w' F' tb ks ∧ Turn F w w' ∧ (∀ i, F i → F' i) ∧ ∀ i, F' i → F i ∨ w.heap.size ≤ i

/-- a table whose row has one key more than its map tells -/
structure Halfs (w : World) (F : Nat → Prop) (tb : Nat) (ks : List ByteArray) (x : ByteArray) (m : Value) : Prop where
  lies : ∃ v, Lies w tb 28 #[m, v] ∧ w.ownsRow 0 9 1 v (ks.length + 1) ((ks ++ [x]).map fun x => (.string x)) ∧ (∀ g, v.ownBlock = some g → F g)
  notes : Notess w F m ks
  nd : ks.Nodup
  ok : ∀ x ∈ ks, x.size ≤ maxLen
  inn : F tb
  lt : ∀ i, F i → i < w.heap.size
  few : ks.length < 1000000

/-- a map that tells a new key, too -/
theorem Tellss.put {D : DataW Unit} {ks : List ByteArray} {x : ByteArray} (h : Tellss D ks) (ht : Maps.Tidy D) (hx : x ∉ ks) (hok : x.size ≤ maxLen) : Tellss (D.put (Lit.string x.data.toList) (.lit (.int .i64 (ks.length : Nat)))) (ks ++ [x]) := by
  have hkl : WideAt.IsKeyLit (Lit.string x.data.toList) := by trivial
  have hne : ∀ y : ByteArray, y ≠ x → (Lit.string y.data.toList) ≠ (Lit.string x.data.toList) := fun y hy e => hy (by
    first
    | (simpa using e)
    | (injection e with e1; exact ByteArray.ext (Array.toList_inj.1 e1)))
  refine ⟨fun y hy => ?_, fun y hy => ?_, ?_⟩
  · by_cases e : y = x
    · subst e
      rw [Maps.has_put_same ht.isMap hkl]
      exact (decide_eq_true (by simp)).symm
    · rw [Maps.has_put_other (hne y e), h.has y hy]
      simp [e]
  · by_cases e : y = x
    · subst e
      rw [Maps.atKey_put_same ht.isMap hkl, idx_snoc_new hx]
    · have hm : y ∈ ks := by simpa [e] using hy
      rw [Maps.atKey_put_other (hne y e), h.at_ y hm, idx_snoc_old hm]
  · rw [Maps.size_put ht, h.has x hok, decide_eq_false hx]
    simp [h.size]
theorem Tellss.none_ : Tellss (.map []) [] :=
  ⟨fun x _ => by simp [Maps.has], fun x h => absurd h List.not_mem_nil, rfl⟩

theorem notes (w : World) (F : Nat → Prop) (tb : Nat) (ks : List ByteArray) (x : ByteArray) (m : Value) (hx : x ∉ ks) (hok : x.size ≤ maxLen) (h : Halfs w F tb ks x m) :
    Calls Try.prog 38 #[.pointer (some ⟨tb, 0, none⟩), (.string x), .int .i64 (ks.length : Nat)] w fun e w' => e = .returned (.tuple #[]) ∧ Lefts w F tb (ks ++ [x]) w' := by
  obtain ⟨⟨v, h1, h2, h3⟩, h4, nd, ok, inn, lt, few⟩ := h
  have hkey := WideMaps.keyOf_string_mk (P := Try.prog) Try.underlying9 hok
  have hlt := h1.lt
  have c0 := h1.cell 0
  have f0 := h1.free 0
  simp at c0
  have nd' : (ks ++ [x]).Nodup := by
    rw [List.nodup_append]
    refine ⟨nd, by simp, fun a ha b hb => ?_⟩
    rw [List.mem_singleton] at hb
    subst hb
    rintro rfl
    exact hx ha
  have ok' : ∀ y ∈ ks ++ [x], y.size ≤ maxLen := fun y hy => by
    rw [List.mem_append, List.mem_singleton] at hy
    rcases hy with hy | rfl
    · exact ok y hy
    · exact hok
  -- what is left, whatever block the map lies in
  have hout : ∀ (F' : Nat → Prop) (mb : Nat) (D : DataW Unit) (w' : World), Lies w' tb 28 #[.map (some mb), v] → w'.ownsRow 0 9 1 v (ks.length + 1) ((ks ++ [x]).map fun x => (.string x)) →
      w'.ownsMap Try.prog 9 (plainElem Try.prog 3) mb (ks.length + 1) D → Tellss D (ks ++ [x]) → F' mb → Turn F w w' → (∀ i, F i → F' i) → (∀ i, F' i → (F i ∨ w.heap.size ≤ i) ∧ i < w'.heap.size) → Lefts w F tb (ks ++ [x]) w' :=
    fun F' mb D w' q1 q2 q3 q4 q5 q6 q7 q8 => ⟨F', ⟨⟨_, v, q1, by simpa using q2, fun g hg => q7 g (h3 g hg), .inr ⟨mb, D, rfl, q5, by simpa using q3, q4⟩⟩, nd', ok', q7 tb inn, fun i hi => (q8 i hi).2, by simp; omega⟩, q6, q7, fun i hi => (q8 i hi).1⟩
  have hmm := @run_makeMap Try.prog
  have hem : ∀ (w : World) (r : Option Nat), (binOp .eql 25 (.map r) (.map none)).run Try.prog w = .ok (.bool r.isNone) w := fun w r => run_eql_map_nil w 25 9 3 r Try.underlying25
  rcases h4 with ⟨rfl, rfl⟩ | ⟨mb, D, rfl, hF, ho, ht⟩
  · have h1b := h1
    have h2b := h2
    have hsz : (w.setCell ⟨tb, 0, none⟩ (.map (some w.heap.size))).heap.size = w.heap.size := by simp [World.setCell]
    have q1 : ((w.setCell ⟨tb, 0, none⟩ (.map (some w.heap.size))).alloc (.map #[] 0)).ownsMap Try.prog 9 (plainElem (H := Unit) Try.prog 3) w.heap.size 0 (.map []) := by
      have := World.ownsMap_made (w.setCell ⟨tb, 0, none⟩ (.map (some w.heap.size))) Try.prog 9 (plainElem (H := Unit) Try.prog 3)
      rw [hsz] at this
      exact this
    have HF : Hid (∀ W, W.ownsMap Try.prog 9 (plainElem (H := Unit) Try.prog 3) w.heap.size (0 + 1) ((DataW.map []).put (Lit.string x.data.toList) (.lit (.int .i64 ((([] : List ByteArray).length : Nat) : Int)))) → ((w.setCell ⟨tb, 0, none⟩ (.map (some w.heap.size))).alloc (.map #[] 0)).grownBy W (some w.heap.size) → Lefts w F tb ([] ++ [x]) W) := fun W g1 g2 => by
      have t1 : Turn F w ((w.setCell ⟨tb, 0, none⟩ (.map (some w.heap.size))).alloc (.map #[] 0)) := ((Turn.refl F w).put (p := ⟨tb, 0, none⟩) (.inl inn) _).alloc _
      have t2 : Turn F w W := t1.trans (G := fun i => i = w.heap.size) (Turn.of_grown g2 (fun g e _ => (Option.some.inj e).symm)) (fun i e => .inr (Nat.le_of_eq e.symm))
      have hs : w.heap.size + 1 ≤ W.heap.size := Nat.le_trans (by simp [World.setCell]) g2.size
      have l1 : Lies (w.setCell ⟨tb, 0, none⟩ (.map (some w.heap.size))) tb 28 #[.map (some w.heap.size), v] := h1b.put 0 _
      have l2 := ((Turn.refl (fun _ => False) (w.setCell ⟨tb, 0, none⟩ (.map (some w.heap.size)))).alloc (.map #[] 0)).lies l1 id
      have l3 : Lies W tb 28 #[.map (some w.heap.size), v] := (Turn.of_grown (F := fun i => i = w.heap.size) g2 (fun g e _ => (Option.some.inj e).symm)).lies l2 (by omega)
      have hv : ∀ g, v.ownBlock = some g → g < w.heap.size := fun g hg => lt g (h3 g hg)
      have hv2 : ∀ g, v.ownBlock = some g → g ≠ tb := fun g hg e => own_not_lies h2b h1b (by decide) (e ▸ hg)
      have o2 := (((Turn.refl (fun i => i = tb) w).put (p := ⟨tb, 0, none⟩) (.inl rfl) (.map (some w.heap.size))).alloc (.map #[] 0)).own h2b hv2
      have o3 := (Turn.of_grown (F := fun i => i = w.heap.size) g2 (fun g e _ => (Option.some.inj e).symm)).own o2 (fun g hg e => by have := hv g hg; omega)
      exact hout (fun i => F i ∨ i = w.heap.size) w.heap.size _ W l3 o3 g1 (Tellss.none_.put Maps.tidy_empty List.not_mem_nil hok) (.inr rfl) t2 (fun i hi => .inl hi)
        (fun i hi => by
          rcases hi with hi | hi
          · exact ⟨.inl hi, by have := lt i hi; omega⟩
          · exact ⟨.inr (Nat.le_of_eq hi.symm), by omega⟩)
    have HT := Lib.hid h1
    clear hout h1 h2 h3 nd ok nd' ok' inn lt few hx h1b h2b hsz
    go_enter Try.func38, Try.ntmps38
    go_wp2_with (first
      | (at_mapUpdate; refine wpList_mapUpdate_own _ rfl _ _ _ 25 rfl 9 3 laws Try.underlying25 _ w.heap.size 0 _ rfl q1 (by unfold maxLen; omega) _ _ _ rfl rfl hkey _ [] (plainElem_int Try.underlying3 (wf_nat (by simp))) ?_; intro w1 hown1 hgrow1))
    go_end0
    exact ⟨rfl, HF.out _ hown1 hgrow1⟩
  · have HF : Hid (∀ W, W.ownsMap Try.prog 9 (plainElem (H := Unit) Try.prog 3) mb (ks.length + 1) (D.put (Lit.string x.data.toList) (.lit (.int .i64 (ks.length : Nat)))) → w.grownBy W (some mb) → Lefts w F tb (ks ++ [x]) W) := fun W g1 g2 => by
      have t2 : Turn F w W := Turn.of_grown g2 (fun g e _ => Option.some.inj e ▸ hF)
      have l3 := (Turn.of_grown (F := fun i => i = mb) g2 (fun g e _ => (Option.some.inj e).symm)).lies h1 (fun e => lies_not_map h1 ho e)
      have o3 := (Turn.of_grown (F := fun i => i = mb) g2 (fun g e _ => (Option.some.inj e).symm)).own h2 (fun g hg e => own_not_map h2 ho (e ▸ hg))
      exact hout F mb _ W l3 o3 g1 (ht.put (ho.tidy laws) hx hok) hF t2 (fun i hi => hi) (fun i hi => ⟨.inl hi, Nat.lt_of_lt_of_le (lt i hi) g2.size⟩)
    obtain ⟨n, hn⟩ : ∃ n, n = ks.length := ⟨_, rfl⟩
    rw [← hn] at ho few HF ⊢
    have hnm : n < maxLen := by unfold maxLen; omega
    have hwf : (Lit.int .i64 (n : Int)).wf = true := wf_nat (by omega)
    clear hout h1 h2 h3 nd ok nd' ok' inn lt hx ht hn
    go_enter Try.func38, Try.ntmps38
    go_wp2_with (first
      | (at_mapUpdate; refine wpList_mapUpdate_own _ rfl _ _ _ 25 rfl 9 3 laws Try.underlying25 _ mb n _ rfl ho hnm _ _ _ rfl rfl hkey _ [] (plainElem_int Try.underlying3 hwf) ?_; intro w1 hown1 hgrow1))
    go_end0
    exact ⟨rfl, HF.out _ hown1 hgrow1⟩

theorem Lefts.after {w w1 w2 : World} {F F1 : Nat → Prop} {tb : Nat} {ks : List ByteArray} (h : Lefts w1 F1 tb ks w2) (ht : Turn F w w1) (hF : ∀ i, F i → F1 i) (hF1 : ∀ i, F1 i → F i ∨ w.heap.size ≤ i) : Lefts w F tb ks w2 := by
  obtain ⟨F2, h1, h2, h3, h4⟩ := h
  exact ⟨F2, h1, ht.trans h2 hF1, fun i hi => h3 i (hF i hi), fun i hi => (h4 i hi).elim (hF1 i) (fun e => .inr (Nat.le_trans ht.size e))⟩
theorem Tabs.keys {w : World} {F : Nat → Prop} {tb : Nat} {ks : List ByteArray} (h : Tabs w F tb ks) : ∃ m A c, Lies w tb 28 #[m, .slice A ks.length c] ∧ w.ownsRow 0 9 1 (.slice A ks.length c) ks.length (ks.map fun x => (.string x)) ∧ (∀ g, (Value.slice A ks.length c).ownBlock = some g → F g) ∧ Notess w F m ks := by
  obtain ⟨⟨m, v, h1, h2, h3, h4⟩, _⟩ := h
  rcases h2.2 with ⟨rfl, h0⟩ | ⟨g, cap, cur, rfl, _⟩
  · exact ⟨m, none, 0, by rw [h0]; exact h1, by rw [h0] at h2 ⊢; exact h2, by rw [h0]; exact h3, h4⟩
  · exact ⟨m, _, _, h1, h2, h3, h4⟩

theorem infos : (Try.prog.info? 9).map (fun i => (i.zero, i.size, i.bytes)) = some (some (.string ByteArray.empty), 1, 16) := by kernel_rfl

theorem adds_old (w : World) (F : Nat → Prop) (tb : Nat) (ks : List ByteArray) (x : ByteArray) (hx : x ∈ ks) (h : Tabs w F tb ks) :
    Calls Try.prog 12 #[.pointer (some ⟨tb, 0, none⟩), (.string x)] w fun e w' => e = .returned (.tuple #[.int .i64 (ks.idxOf x : Nat), .bool false]) ∧ Below w.heap.size w w' := by
  have HC := Lib.hid (finds w F tb ks x (ks.idxOf x : Nat) true ⟨decide_eq_true hx, by rw [if_pos hx]⟩ (h.ok x hx) h)
  clear hx h
  go_enter Try.func12, Try.ntmps12
  go_wp2_with (go_at_call 14; refine HC.out.mono ?_; rintro e w1 ⟨rfl, b1⟩)
  go_ret2
  exact ⟨rfl, b1⟩

theorem adds_new (w : World) (F : Nat → Prop) (tb : Nat) (ks : List ByteArray) (x : ByteArray) (hx : x ∉ ks) (hok : x.size ≤ maxLen) (hl : ks.length < 1000000) (h : Tabs w F tb ks) :
    Calls Try.prog 12 #[.pointer (some ⟨tb, 0, none⟩), (.string x)] w fun e w' => e = .returned (.tuple #[.int .i64 (ks.length : Nat), .bool true]) ∧ Lefts w F tb (ks ++ [x]) w' := by
  have HC := Lib.hid (finds w F tb ks x 0 false ⟨decide_eq_false hx, by rw [if_neg hx]⟩ hok h)
  obtain ⟨m, A, c, h1, h2, h3, h4⟩ := h.keys
  obtain ⟨_, nd, ok, inn, lt, few⟩ := h
  obtain ⟨i0, hi, hz0, hz1, hz2⟩ := info_parts infos
  have hlt := h1.lt
  have c1 := h1.cell 1
  simp at c1
  have hne : ∀ g, (Value.slice A ks.length c).ownBlock = some g → g ≠ tb := fun g hg e => own_not_lies h2 h1 (by decide) (e ▸ hg)
  have hnm : ∀ b D, m = .map (some b) → w.ownsMap Try.prog 9 (plainElem (H := Unit) Try.prog 3) b ks.length D → (Value.slice A ks.length c).ownBlock ≠ some b := fun b D _ ho => own_not_map h2 ho
  have HW : Hid (∀ w1, Below w.heap.size w w1 → tb < w1.heap.size ∧ w1.cell? ⟨tb, 1, none⟩ = some (.slice A ks.length c) ∧ w1.ownsRow 0 9 1 (.slice A ks.length c) ks.length (ks.map fun x => (.string x))) := fun w1 b1 =>
    ⟨Nat.lt_of_lt_of_le hlt b1.size, (b1.cell (p := ⟨tb, 1, none⟩) hlt).trans c1, (Turn.of_below (F := fun _ => False) b1).own h2 (fun _ _ => id)⟩
  -- behind the append
  have HA : Hid (∀ w1 w2, Below w.heap.size w w1 → (w1.alloc (.cells #[(.string x)] 9)).grownBy w2 (Value.slice A ks.length c).ownBlock → tb < w2.heap.size ∧ w2.cell? ⟨tb, 1, none⟩ = some (.slice A ks.length c) ∧ w2.frozen? ⟨tb, 1, none⟩ = false) := fun w1 w2 b1 g1 => by
    have l1 := (Turn.of_below (F := fun _ => False) b1).lies h1 id
    have l2 := ((Turn.refl (fun _ => False) w1).alloc (.cells #[(.string x)] 9)).lies l1 id
    have l3 := (Turn.of_grown (F := fun i => i ≠ tb) g1 (fun g e _ => hne g e)).lies l2 (fun e => e rfl)
    exact ⟨l3.lt, by rw [l3.cell 1]; rfl, l3.free 1⟩
  -- behind the store, and the last call ahead of note
  have HB : Hid (∀ w1 v' w2 w4, Below w.heap.size w w1 → (w1.alloc (.cells #[(.string x)] 9)).grownBy w2 (Value.slice A ks.length c).ownBlock → w2.ownsRow 0 9 1 v' (ks.length + 1) ((ks.map fun x => (.string x)) ++ [(.string x)]) →
      (v'.ownBlock = (Value.slice A ks.length c).ownBlock ∨ v'.ownBlock = some (w1.alloc (.cells #[(.string x)] 9)).heap.size) → Below (w2.setCell ⟨tb, 1, none⟩ v').heap.size (w2.setCell ⟨tb, 1, none⟩ v') w4 →
      Halfs w4 (fun i => F i ∨ (w.heap.size ≤ i ∧ i < w4.heap.size)) tb ks x m ∧ Turn F w w4) := fun w1 v' w2 w4 b1 g1 o1 hv b4 => by
    have t1 : Turn F w (w1.alloc (.cells #[(.string x)] 9)) := (Turn.of_below b1).alloc _
    have t2 : Turn F w w2 := t1.trans (G := F) (Turn.of_grown g1 (fun g e _ => h3 g e)) (fun i hi => .inl hi)
    have t3 : Turn F w (w2.setCell ⟨tb, 1, none⟩ v') := t2.put (p := ⟨tb, 1, none⟩) (.inl inn) _
    have t4 : Turn F w w4 := t3.step b4
    have s1 := (World.grownBy_alloc w1 (.cells #[(.string x)] 9) none).size
    have s2 := g1.size
    have s4 := b4.size
    have s3 : (w2.setCell ⟨tb, 1, none⟩ v').heap.size = w2.heap.size := by simp [World.setCell]
    have l1 := (Turn.of_below (F := fun _ => False) b1).lies h1 id
    have l2 := ((Turn.refl (fun _ => False) w1).alloc (.cells #[(.string x)] 9)).lies l1 id
    have l3 := (Turn.of_grown (F := fun i => i ≠ tb) g1 (fun g e _ => hne g e)).lies l2 (fun e => e rfl)
    have l4 : Lies (w2.setCell ⟨tb, 1, none⟩ v') tb 28 #[m, v'] := l3.put 1 v'
    have l5 := (Turn.of_below (F := fun _ => False) b4).lies l4 id
    have hv2 : ∀ g, v'.ownBlock = some g → g ≠ tb := fun g hg => by
      rcases hv with e | e
      · exact hne g (e ▸ hg)
      · rw [e] at hg
        have := Option.some.inj hg
        have := b1.size
        omega
    have o2 := ((Turn.refl (fun i => i = tb) w2).put (p := ⟨tb, 1, none⟩) (.inl rfl) v').own o1 hv2
    have o3 := (Turn.of_below (F := fun _ => False) b4).own o2 (fun _ _ => id)
    refine ⟨⟨⟨v', l5, by simpa using o3, fun g hg => ?_⟩, ?_, nd, ok, .inl inn, fun i hi => ?_, hl⟩, t4⟩
    · rcases hv with e | e
      · exact .inl (h3 g (e ▸ hg))
      · refine .inr ⟨?_, (o3.lt g hg).2⟩
        rw [e] at hg
        have := Option.some.inj hg
        have := b1.size
        omega
    · rcases h4 with h4 | ⟨b, D, rfl, hF, ho, ht⟩
      · exact .inl h4
      · refine .inr ⟨b, D, rfl, .inl hF, ?_, ht⟩
        have u1 := ((Turn.of_below (F := fun _ => False) b1).alloc (.cells #[(.string x)] 9)).map ho id
        have u2 := (Turn.of_grown (F := fun i => i ≠ b) g1 (fun g e _ he => hnm b D rfl ho (he ▸ e))).map u1 (fun e => e rfl)
        have u3 := ((Turn.refl (fun i => i = tb) w2).put (p := ⟨tb, 1, none⟩) (.inl rfl) v').map u2 (fun e => lies_not_map h1 ho e.symm)
        exact (Turn.of_below (F := fun _ => False) b4).map u3 id
    · rcases hi with hi | hi
      · exact Nat.lt_of_lt_of_le (lt i hi) t4.size
      · exact hi.2
  have HN := Lib.hid fun (w4 : World) (q : Halfs w4 (fun i => F i ∨ (w.heap.size ≤ i ∧ i < w4.heap.size)) tb ks x m) => notes w4 _ tb ks x m hx hok q
  have HE : Hid (∀ w4 w5, Turn F w w4 → Lefts w4 (fun i => F i ∨ (w.heap.size ≤ i ∧ i < w4.heap.size)) tb (ks ++ [x]) w5 → Lefts w F tb (ks ++ [x]) w5) := fun w4 w5 t q =>
    q.after t (fun i hi => .inl hi) (fun i hi => hi.imp id (fun e => e.1))
  obtain ⟨L, HL⟩ : ∃ L : List Value, Hid (L = ks.map fun x => (.string x)) := ⟨_, rfl⟩
  obtain ⟨n, HNn⟩ : ∃ n, Hid (n = ks.length) := ⟨_, rfl⟩
  rw [← HL.out, ← HNn.out] at HB HW
  rw [← HNn.out] at HA HN c1 hl few h2 ⊢
  clear h1 h2 h3 h4 hx hok nd ok inn lt hne hnm few
  have hmx : n + 1 ≤ maxLen := by unfold maxLen; omega
  have hbt : (n + 1) * 16 ≤ 140737488355328 := by omega
  go_enter Try.func12, Try.ntmps12
  go_wp2_with (first
    | (go_at_call 14; refine HC.out.mono ?_; rintro e w1 ⟨rfl, b1⟩; obtain ⟨z1, y1, o1⟩ := HW.out w1 b1; have O1 := Lib.hid o1; clear o1)
    | (at_builtin; refine append_row _ rfl _ _ 26 rfl 0 9 i0 (.string ByteArray.empty) 16 Try.underlying26 hi hz0 hz1 hz2 rfl _ n L rfl (O1.out.alloc _) ⟨w1.heap.size, 0, none⟩ 1 1 [(.string x)] rfl rfl (cell_one_new _ _ _) (fun u hu => by simp at hu; subst hu; rfl) hmx hbt (Nat.zero_le _) ?_; intro A2 c2 w2 o2 g2 a2; obtain ⟨z2, y2, f2⟩ := HA.out w1 w2 b1 g2; have O2 := Lib.hid o2; have A2 := Lib.hid a2; clear o2 a2)
    | (go_at_call 36; refine (sames _ _).mono ?_; rintro e w4 ⟨rfl, b4⟩; obtain ⟨q4, t4⟩ := HB.out w1 _ w2 w4 b1 g2 O2.out A2.out b4)
    | (go_at_call 38; refine (HN.out w4 q4).mono ?_; rintro e w5 ⟨rfl, l5⟩))
  go_ret2
  exact ⟨rfl, HE.out w4 w5 t4 l5⟩

/-- what a call leaves of a table: other keys, in the same blocks or new ones -/
def Lefti (w : World) (F : Nat → Prop) (tb : Nat) (ks : List Int) (w' : World) : Prop :=
  ∃ F' : Nat → Prop, Tabi w' F' tb ks ∧ Turn F w w' ∧ (∀ i, F i → F' i) ∧ ∀ i, F' i → F i ∨ w.heap.size ≤ i

/-- a table whose row has one key more than its map tells -/
structure Halfi (w : World) (F : Nat → Prop) (tb : Nat) (ks : List Int) (x : Int) (m : Value) : Prop where
  lies : ∃ v, Lies w tb 67 #[m, v] ∧ w.ownsRow 0 3 1 v (ks.length + 1) ((ks ++ [x]).map fun x => (.int .i64 x)) ∧ (∀ g, v.ownBlock = some g → F g)
  notes : Notesi w F m ks
  nd : ks.Nodup
  ok : ∀ x ∈ ks, (Lit.int .i64 x).wf = true
  inn : F tb
  lt : ∀ i, F i → i < w.heap.size
  few : ks.length < 1000000

/-- a map that tells a new key, too -/
theorem Tellsi.put {D : DataW Unit} {ks : List Int} {x : Int} (h : Tellsi D ks) (ht : Maps.Tidy D) (hx : x ∉ ks) (hok : (Lit.int .i64 x).wf = true) : Tellsi (D.put (Lit.int .i64 x) (.lit (.int .i64 (ks.length : Nat)))) (ks ++ [x]) := by
  have hkl : WideAt.IsKeyLit (Lit.int .i64 x) := by trivial
  have hne : ∀ y : Int, y ≠ x → (Lit.int .i64 y) ≠ (Lit.int .i64 x) := fun y hy e => hy (by
    first
    | (simpa using e)
    | (injection e with e1; exact ByteArray.ext (Array.toList_inj.1 e1)))
  refine ⟨fun y hy => ?_, fun y hy => ?_, ?_⟩
  · by_cases e : y = x
    · subst e
      rw [Maps.has_put_same ht.isMap hkl]
      exact (decide_eq_true (by simp)).symm
    · rw [Maps.has_put_other (hne y e), h.has y hy]
      simp [e]
  · by_cases e : y = x
    · subst e
      rw [Maps.atKey_put_same ht.isMap hkl, idx_snoc_new hx]
    · have hm : y ∈ ks := by simpa [e] using hy
      rw [Maps.atKey_put_other (hne y e), h.at_ y hm, idx_snoc_old hm]
  · rw [Maps.size_put ht, h.has x hok, decide_eq_false hx]
    simp [h.size]
theorem Tellsi.none_ : Tellsi (.map []) [] :=
  ⟨fun x _ => by simp [Maps.has], fun x h => absurd h List.not_mem_nil, rfl⟩

theorem notei (w : World) (F : Nat → Prop) (tb : Nat) (ks : List Int) (x : Int) (m : Value) (hx : x ∉ ks) (hok : (Lit.int .i64 x).wf = true) (h : Halfi w F tb ks x m) :
    Calls Try.prog 43 #[.pointer (some ⟨tb, 0, none⟩), (.int .i64 x), .int .i64 (ks.length : Nat)] w fun e w' => e = .returned (.tuple #[]) ∧ Lefti w F tb (ks ++ [x]) w' := by
  obtain ⟨⟨v, h1, h2, h3⟩, h4, nd, ok, inn, lt, few⟩ := h
  have hkey := Maps.keyOf_int_mk (P := Try.prog) Try.underlying3 hok
  have hlt := h1.lt
  have c0 := h1.cell 0
  have f0 := h1.free 0
  simp at c0
  have nd' : (ks ++ [x]).Nodup := by
    rw [List.nodup_append]
    refine ⟨nd, by simp, fun a ha b hb => ?_⟩
    rw [List.mem_singleton] at hb
    subst hb
    rintro rfl
    exact hx ha
  have ok' : ∀ y ∈ ks ++ [x], (Lit.int .i64 y).wf = true := fun y hy => by
    rw [List.mem_append, List.mem_singleton] at hy
    rcases hy with hy | rfl
    · exact ok y hy
    · exact hok
  -- what is left, whatever block the map lies in
  have hout : ∀ (F' : Nat → Prop) (mb : Nat) (D : DataW Unit) (w' : World), Lies w' tb 67 #[.map (some mb), v] → w'.ownsRow 0 3 1 v (ks.length + 1) ((ks ++ [x]).map fun x => (.int .i64 x)) →
      w'.ownsMap Try.prog 3 (plainElem Try.prog 3) mb (ks.length + 1) D → Tellsi D (ks ++ [x]) → F' mb → Turn F w w' → (∀ i, F i → F' i) → (∀ i, F' i → (F i ∨ w.heap.size ≤ i) ∧ i < w'.heap.size) → Lefti w F tb (ks ++ [x]) w' :=
    fun F' mb D w' q1 q2 q3 q4 q5 q6 q7 q8 => ⟨F', ⟨⟨_, v, q1, by simpa using q2, fun g hg => q7 g (h3 g hg), .inr ⟨mb, D, rfl, q5, by simpa using q3, q4⟩⟩, nd', ok', q7 tb inn, fun i hi => (q8 i hi).2, by simp; omega⟩, q6, q7, fun i hi => (q8 i hi).1⟩
  have hmm := @run_makeMap Try.prog
  have hem : ∀ (w : World) (r : Option Nat), (binOp .eql 65 (.map r) (.map none)).run Try.prog w = .ok (.bool r.isNone) w := fun w r => run_eql_map_nil w 65 3 3 r Try.underlying65
  rcases h4 with ⟨rfl, rfl⟩ | ⟨mb, D, rfl, hF, ho, ht⟩
  · have h1b := h1
    have h2b := h2
    have hsz : (w.setCell ⟨tb, 0, none⟩ (.map (some w.heap.size))).heap.size = w.heap.size := by simp [World.setCell]
    have q1 : ((w.setCell ⟨tb, 0, none⟩ (.map (some w.heap.size))).alloc (.map #[] 0)).ownsMap Try.prog 3 (plainElem (H := Unit) Try.prog 3) w.heap.size 0 (.map []) := by
      have := World.ownsMap_made (w.setCell ⟨tb, 0, none⟩ (.map (some w.heap.size))) Try.prog 3 (plainElem (H := Unit) Try.prog 3)
      rw [hsz] at this
      exact this
    have HF : Hid (∀ W, W.ownsMap Try.prog 3 (plainElem (H := Unit) Try.prog 3) w.heap.size (0 + 1) ((DataW.map []).put (Lit.int .i64 x) (.lit (.int .i64 ((([] : List Int).length : Nat) : Int)))) → ((w.setCell ⟨tb, 0, none⟩ (.map (some w.heap.size))).alloc (.map #[] 0)).grownBy W (some w.heap.size) → Lefti w F tb ([] ++ [x]) W) := fun W g1 g2 => by
      have t1 : Turn F w ((w.setCell ⟨tb, 0, none⟩ (.map (some w.heap.size))).alloc (.map #[] 0)) := ((Turn.refl F w).put (p := ⟨tb, 0, none⟩) (.inl inn) _).alloc _
      have t2 : Turn F w W := t1.trans (G := fun i => i = w.heap.size) (Turn.of_grown g2 (fun g e _ => (Option.some.inj e).symm)) (fun i e => .inr (Nat.le_of_eq e.symm))
      have hs : w.heap.size + 1 ≤ W.heap.size := Nat.le_trans (by simp [World.setCell]) g2.size
      have l1 : Lies (w.setCell ⟨tb, 0, none⟩ (.map (some w.heap.size))) tb 67 #[.map (some w.heap.size), v] := h1b.put 0 _
      have l2 := ((Turn.refl (fun _ => False) (w.setCell ⟨tb, 0, none⟩ (.map (some w.heap.size)))).alloc (.map #[] 0)).lies l1 id
      have l3 : Lies W tb 67 #[.map (some w.heap.size), v] := (Turn.of_grown (F := fun i => i = w.heap.size) g2 (fun g e _ => (Option.some.inj e).symm)).lies l2 (by omega)
      have hv : ∀ g, v.ownBlock = some g → g < w.heap.size := fun g hg => lt g (h3 g hg)
      have hv2 : ∀ g, v.ownBlock = some g → g ≠ tb := fun g hg e => own_not_lies h2b h1b (by decide) (e ▸ hg)
      have o2 := (((Turn.refl (fun i => i = tb) w).put (p := ⟨tb, 0, none⟩) (.inl rfl) (.map (some w.heap.size))).alloc (.map #[] 0)).own h2b hv2
      have o3 := (Turn.of_grown (F := fun i => i = w.heap.size) g2 (fun g e _ => (Option.some.inj e).symm)).own o2 (fun g hg e => by have := hv g hg; omega)
      exact hout (fun i => F i ∨ i = w.heap.size) w.heap.size _ W l3 o3 g1 (Tellsi.none_.put Maps.tidy_empty List.not_mem_nil hok) (.inr rfl) t2 (fun i hi => .inl hi)
        (fun i hi => by
          rcases hi with hi | hi
          · exact ⟨.inl hi, by have := lt i hi; omega⟩
          · exact ⟨.inr (Nat.le_of_eq hi.symm), by omega⟩)
    have HT := Lib.hid h1
    clear hout h1 h2 h3 nd ok nd' ok' inn lt few hx h1b h2b hsz
    go_enter Try.func43, Try.ntmps43
    go_wp2_with (first
      | (at_mapUpdate; refine wpList_mapUpdate_own _ rfl _ _ _ 65 rfl 3 3 lawi Try.underlying65 _ w.heap.size 0 _ rfl q1 (by unfold maxLen; omega) _ _ _ rfl rfl hkey _ [] (plainElem_int Try.underlying3 (wf_nat (by simp))) ?_; intro w1 hown1 hgrow1))
    go_end0
    exact ⟨rfl, HF.out _ hown1 hgrow1⟩
  · have HF : Hid (∀ W, W.ownsMap Try.prog 3 (plainElem (H := Unit) Try.prog 3) mb (ks.length + 1) (D.put (Lit.int .i64 x) (.lit (.int .i64 (ks.length : Nat)))) → w.grownBy W (some mb) → Lefti w F tb (ks ++ [x]) W) := fun W g1 g2 => by
      have t2 : Turn F w W := Turn.of_grown g2 (fun g e _ => Option.some.inj e ▸ hF)
      have l3 := (Turn.of_grown (F := fun i => i = mb) g2 (fun g e _ => (Option.some.inj e).symm)).lies h1 (fun e => lies_not_map h1 ho e)
      have o3 := (Turn.of_grown (F := fun i => i = mb) g2 (fun g e _ => (Option.some.inj e).symm)).own h2 (fun g hg e => own_not_map h2 ho (e ▸ hg))
      exact hout F mb _ W l3 o3 g1 (ht.put (ho.tidy lawi) hx hok) hF t2 (fun i hi => hi) (fun i hi => ⟨.inl hi, Nat.lt_of_lt_of_le (lt i hi) g2.size⟩)
    obtain ⟨n, hn⟩ : ∃ n, n = ks.length := ⟨_, rfl⟩
    rw [← hn] at ho few HF ⊢
    have hnm : n < maxLen := by unfold maxLen; omega
    have hwf : (Lit.int .i64 (n : Int)).wf = true := wf_nat (by omega)
    clear hout h1 h2 h3 nd ok nd' ok' inn lt hx ht hn
    go_enter Try.func43, Try.ntmps43
    go_wp2_with (first
      | (at_mapUpdate; refine wpList_mapUpdate_own _ rfl _ _ _ 65 rfl 3 3 lawi Try.underlying65 _ mb n _ rfl ho hnm _ _ _ rfl rfl hkey _ [] (plainElem_int Try.underlying3 hwf) ?_; intro w1 hown1 hgrow1))
    go_end0
    exact ⟨rfl, HF.out _ hown1 hgrow1⟩

theorem Lefti.after {w w1 w2 : World} {F F1 : Nat → Prop} {tb : Nat} {ks : List Int} (h : Lefti w1 F1 tb ks w2) (ht : Turn F w w1) (hF : ∀ i, F i → F1 i) (hF1 : ∀ i, F1 i → F i ∨ w.heap.size ≤ i) : Lefti w F tb ks w2 := by
  obtain ⟨F2, h1, h2, h3, h4⟩ := h
  exact ⟨F2, h1, ht.trans h2 hF1, fun i hi => h3 i (hF i hi), fun i hi => (h4 i hi).elim (hF1 i) (fun e => .inr (Nat.le_trans ht.size e))⟩
theorem Tabi.keys {w : World} {F : Nat → Prop} {tb : Nat} {ks : List Int} (h : Tabi w F tb ks) : ∃ m A c, Lies w tb 67 #[m, .slice A ks.length c] ∧ w.ownsRow 0 3 1 (.slice A ks.length c) ks.length (ks.map fun x => (.int .i64 x)) ∧ (∀ g, (Value.slice A ks.length c).ownBlock = some g → F g) ∧ Notesi w F m ks := by
  obtain ⟨⟨m, v, h1, h2, h3, h4⟩, _⟩ := h
  rcases h2.2 with ⟨rfl, h0⟩ | ⟨g, cap, cur, rfl, _⟩
  · exact ⟨m, none, 0, by rw [h0]; exact h1, by rw [h0] at h2 ⊢; exact h2, by rw [h0]; exact h3, h4⟩
  · exact ⟨m, _, _, h1, h2, h3, h4⟩

theorem infoi : (Try.prog.info? 3).map (fun i => (i.zero, i.size, i.bytes)) = some (some (.int .i64 0), 1, 8) := by kernel_rfl

theorem addi_old (w : World) (F : Nat → Prop) (tb : Nat) (ks : List Int) (x : Int) (hx : x ∈ ks) (h : Tabi w F tb ks) :
    Calls Try.prog 31 #[.pointer (some ⟨tb, 0, none⟩), (.int .i64 x)] w fun e w' => e = .returned (.tuple #[.int .i64 (ks.idxOf x : Nat), .bool false]) ∧ Below w.heap.size w w' := by
  have HC := Lib.hid (findi w F tb ks x (ks.idxOf x : Nat) true ⟨decide_eq_true hx, by rw [if_pos hx]⟩ (h.ok x hx) h)
  clear hx h
  go_enter Try.func31, Try.ntmps31
  go_wp2_with (go_at_call 33; refine HC.out.mono ?_; rintro e w1 ⟨rfl, b1⟩)
  go_ret2
  exact ⟨rfl, b1⟩

theorem addi_new (w : World) (F : Nat → Prop) (tb : Nat) (ks : List Int) (x : Int) (hx : x ∉ ks) (hok : (Lit.int .i64 x).wf = true) (hl : ks.length < 1000000) (h : Tabi w F tb ks) :
    Calls Try.prog 31 #[.pointer (some ⟨tb, 0, none⟩), (.int .i64 x)] w fun e w' => e = .returned (.tuple #[.int .i64 (ks.length : Nat), .bool true]) ∧ Lefti w F tb (ks ++ [x]) w' := by
  have HC := Lib.hid (findi w F tb ks x 0 false ⟨decide_eq_false hx, by rw [if_neg hx]⟩ hok h)
  obtain ⟨m, A, c, h1, h2, h3, h4⟩ := h.keys
  obtain ⟨_, nd, ok, inn, lt, few⟩ := h
  obtain ⟨i0, hi, hz0, hz1, hz2⟩ := info_parts infoi
  have hlt := h1.lt
  have c1 := h1.cell 1
  simp at c1
  have hne : ∀ g, (Value.slice A ks.length c).ownBlock = some g → g ≠ tb := fun g hg e => own_not_lies h2 h1 (by decide) (e ▸ hg)
  have hnm : ∀ b D, m = .map (some b) → w.ownsMap Try.prog 3 (plainElem (H := Unit) Try.prog 3) b ks.length D → (Value.slice A ks.length c).ownBlock ≠ some b := fun b D _ ho => own_not_map h2 ho
  have HW : Hid (∀ w1, Below w.heap.size w w1 → tb < w1.heap.size ∧ w1.cell? ⟨tb, 1, none⟩ = some (.slice A ks.length c) ∧ w1.ownsRow 0 3 1 (.slice A ks.length c) ks.length (ks.map fun x => (.int .i64 x))) := fun w1 b1 =>
    ⟨Nat.lt_of_lt_of_le hlt b1.size, (b1.cell (p := ⟨tb, 1, none⟩) hlt).trans c1, (Turn.of_below (F := fun _ => False) b1).own h2 (fun _ _ => id)⟩
  -- behind the append
  have HA : Hid (∀ w1 w2, Below w.heap.size w w1 → (w1.alloc (.cells #[(.int .i64 x)] 3)).grownBy w2 (Value.slice A ks.length c).ownBlock → tb < w2.heap.size ∧ w2.cell? ⟨tb, 1, none⟩ = some (.slice A ks.length c) ∧ w2.frozen? ⟨tb, 1, none⟩ = false) := fun w1 w2 b1 g1 => by
    have l1 := (Turn.of_below (F := fun _ => False) b1).lies h1 id
    have l2 := ((Turn.refl (fun _ => False) w1).alloc (.cells #[(.int .i64 x)] 3)).lies l1 id
    have l3 := (Turn.of_grown (F := fun i => i ≠ tb) g1 (fun g e _ => hne g e)).lies l2 (fun e => e rfl)
    exact ⟨l3.lt, by rw [l3.cell 1]; rfl, l3.free 1⟩
  -- behind the store, and the last call ahead of note
  have HB : Hid (∀ w1 v' w2 w4, Below w.heap.size w w1 → (w1.alloc (.cells #[(.int .i64 x)] 3)).grownBy w2 (Value.slice A ks.length c).ownBlock → w2.ownsRow 0 3 1 v' (ks.length + 1) ((ks.map fun x => (.int .i64 x)) ++ [(.int .i64 x)]) →
      (v'.ownBlock = (Value.slice A ks.length c).ownBlock ∨ v'.ownBlock = some (w1.alloc (.cells #[(.int .i64 x)] 3)).heap.size) → Below (w2.setCell ⟨tb, 1, none⟩ v').heap.size (w2.setCell ⟨tb, 1, none⟩ v') w4 →
      Halfi w4 (fun i => F i ∨ (w.heap.size ≤ i ∧ i < w4.heap.size)) tb ks x m ∧ Turn F w w4) := fun w1 v' w2 w4 b1 g1 o1 hv b4 => by
    have t1 : Turn F w (w1.alloc (.cells #[(.int .i64 x)] 3)) := (Turn.of_below b1).alloc _
    have t2 : Turn F w w2 := t1.trans (G := F) (Turn.of_grown g1 (fun g e _ => h3 g e)) (fun i hi => .inl hi)
    have t3 : Turn F w (w2.setCell ⟨tb, 1, none⟩ v') := t2.put (p := ⟨tb, 1, none⟩) (.inl inn) _
    have t4 : Turn F w w4 := t3.step b4
    have s1 := (World.grownBy_alloc w1 (.cells #[(.int .i64 x)] 3) none).size
    have s2 := g1.size
    have s4 := b4.size
    have s3 : (w2.setCell ⟨tb, 1, none⟩ v').heap.size = w2.heap.size := by simp [World.setCell]
    have l1 := (Turn.of_below (F := fun _ => False) b1).lies h1 id
    have l2 := ((Turn.refl (fun _ => False) w1).alloc (.cells #[(.int .i64 x)] 3)).lies l1 id
    have l3 := (Turn.of_grown (F := fun i => i ≠ tb) g1 (fun g e _ => hne g e)).lies l2 (fun e => e rfl)
    have l4 : Lies (w2.setCell ⟨tb, 1, none⟩ v') tb 67 #[m, v'] := l3.put 1 v'
    have l5 := (Turn.of_below (F := fun _ => False) b4).lies l4 id
    have hv2 : ∀ g, v'.ownBlock = some g → g ≠ tb := fun g hg => by
      rcases hv with e | e
      · exact hne g (e ▸ hg)
      · rw [e] at hg
        have := Option.some.inj hg
        have := b1.size
        omega
    have o2 := ((Turn.refl (fun i => i = tb) w2).put (p := ⟨tb, 1, none⟩) (.inl rfl) v').own o1 hv2
    have o3 := (Turn.of_below (F := fun _ => False) b4).own o2 (fun _ _ => id)
    refine ⟨⟨⟨v', l5, by simpa using o3, fun g hg => ?_⟩, ?_, nd, ok, .inl inn, fun i hi => ?_, hl⟩, t4⟩
    · rcases hv with e | e
      · exact .inl (h3 g (e ▸ hg))
      · refine .inr ⟨?_, (o3.lt g hg).2⟩
        rw [e] at hg
        have := Option.some.inj hg
        have := b1.size
        omega
    · rcases h4 with h4 | ⟨b, D, rfl, hF, ho, ht⟩
      · exact .inl h4
      · refine .inr ⟨b, D, rfl, .inl hF, ?_, ht⟩
        have u1 := ((Turn.of_below (F := fun _ => False) b1).alloc (.cells #[(.int .i64 x)] 3)).map ho id
        have u2 := (Turn.of_grown (F := fun i => i ≠ b) g1 (fun g e _ he => hnm b D rfl ho (he ▸ e))).map u1 (fun e => e rfl)
        have u3 := ((Turn.refl (fun i => i = tb) w2).put (p := ⟨tb, 1, none⟩) (.inl rfl) v').map u2 (fun e => lies_not_map h1 ho e.symm)
        exact (Turn.of_below (F := fun _ => False) b4).map u3 id
    · rcases hi with hi | hi
      · exact Nat.lt_of_lt_of_le (lt i hi) t4.size
      · exact hi.2
  have HN := Lib.hid fun (w4 : World) (q : Halfi w4 (fun i => F i ∨ (w.heap.size ≤ i ∧ i < w4.heap.size)) tb ks x m) => notei w4 _ tb ks x m hx hok q
  have HE : Hid (∀ w4 w5, Turn F w w4 → Lefti w4 (fun i => F i ∨ (w.heap.size ≤ i ∧ i < w4.heap.size)) tb (ks ++ [x]) w5 → Lefti w F tb (ks ++ [x]) w5) := fun w4 w5 t q =>
    q.after t (fun i hi => .inl hi) (fun i hi => hi.imp id (fun e => e.1))
  obtain ⟨L, HL⟩ : ∃ L : List Value, Hid (L = ks.map fun x => (.int .i64 x)) := ⟨_, rfl⟩
  obtain ⟨n, HNn⟩ : ∃ n, Hid (n = ks.length) := ⟨_, rfl⟩
  rw [← HL.out, ← HNn.out] at HB HW
  rw [← HNn.out] at HA HN c1 hl few h2 ⊢
  clear h1 h2 h3 h4 hx hok nd ok inn lt hne hnm few
  have hmx : n + 1 ≤ maxLen := by unfold maxLen; omega
  have hbt : (n + 1) * 8 ≤ 140737488355328 := by omega
  go_enter Try.func31, Try.ntmps31
  go_wp2_with (first
    | (go_at_call 33; refine HC.out.mono ?_; rintro e w1 ⟨rfl, b1⟩; obtain ⟨z1, y1, o1⟩ := HW.out w1 b1; have O1 := Lib.hid o1; clear o1)
    | (at_builtin; refine append_row _ rfl _ _ 44 rfl 0 3 i0 (.int .i64 0) 8 Try.underlying44 hi hz0 hz1 hz2 rfl _ n L rfl (O1.out.alloc _) ⟨w1.heap.size, 0, none⟩ 1 1 [(.int .i64 x)] rfl rfl (cell_one_new _ _ _) (fun u hu => by simp at hu; subst hu; rfl) hmx hbt (Nat.zero_le _) ?_; intro A2 c2 w2 o2 g2 a2; obtain ⟨z2, y2, f2⟩ := HA.out w1 w2 b1 g2; have O2 := Lib.hid o2; have A2 := Lib.hid a2; clear o2 a2)
    | (go_at_call 42; refine (samei _ _).mono ?_; rintro e w4 ⟨rfl, b4⟩; obtain ⟨q4, t4⟩ := HB.out w1 _ w2 w4 b1 g2 O2.out A2.out b4)
    | (go_at_call 43; refine (HN.out w4 q4).mono ?_; rintro e w5 ⟨rfl, l5⟩))
  go_ret2
  exact ⟨rfl, HE.out w4 w5 t4 l5⟩
end Go.Proofs.Ytgijagdnhajkhaa
