/- Lists of numbers and of runs in memory, and of one's own; the reference's Ints, Texts, Point. -/
import Derived.Test.YtkooconjkimgoaaDoorI1
import Derived.Test.YtkooconjkimgoaaDoorJ2
import Derived.Laws.OwnMore
import Derived.Deep.QuietTactic
import Derived.WalkSpells
import Derived.WalkLawsBesides
import Derived.KernelRfl
import Derived.BigQuiet
import Derived.Laws.StructEq
namespace Go.Proofs.YtkooconjkimgoaaDoor
open Go.RowKit

/-- the slice of n numbers at A reads as l -/
structure NumS (w : World) (A : Option Addr) (n : Nat) (l : List Int) : Prop where
  len : l.length = n
  at_ : 0 < n → ∃ b off, A = some ⟨b, off, none⟩ ∧ b < w.heap.size ∧ ∀ (i : Nat) x, l[i]? = some x → w.cell? ⟨b, off + i, none⟩ = some (.int .i64 x)
theorem NumS.below {w w' : World} {A : Option Addr} {n : Nat} {l : List Int} (h : NumS w A n l) (hb : Below w.heap.size w w') : NumS w' A n l :=
  ⟨h.len, fun hn => by
    obtain ⟨b, off, e, hlt, hc⟩ := h.at_ hn
    exact ⟨b, off, e, Nat.lt_of_lt_of_le hlt hb.size, fun i x hx => (hb.cell (p := ⟨b, off + i, none⟩) hlt).trans (hc i x hx)⟩⟩
theorem NumS.get {w : World} {A : Option Addr} {n i : Nat} {l : List Int} (h : NumS w A n l) (hi : i < n) :
    ∃ b off x, A = some ⟨b, off, none⟩ ∧ l[i]? = some x ∧ x ∈ l ∧ l.drop i = x :: l.drop (i + 1) ∧ ∀ W, Below w.heap.size w W → b < W.heap.size ∧ W.cell? ⟨b, off + i, none⟩ = some (.int .i64 x) := by
  obtain ⟨b, off, e, hlt, hc⟩ := h.at_ (by omega)
  have hi' : i < l.length := by rw [h.len]; exact hi
  exact ⟨b, off, l[i], e, List.getElem?_eq_getElem hi', List.getElem_mem hi', List.drop_eq_getElem_cons hi', fun W hW => ⟨Nat.lt_of_lt_of_le hlt hW.size, (hW.cell (p := ⟨b, off + i, none⟩) hlt).trans (hc i _ (List.getElem?_eq_getElem hi'))⟩⟩
theorem NumS.of_arg {w : World} {A : Option Addr} {n c : Nat} {zs : List Int} (h : ArgI w A n c zs) : NumS w A n zs :=
  ⟨h.len, fun hn => by
    obtain ⟨b, off, e, _, hlt, hc⟩ := h.1.at_ hn
    exact ⟨b, off, e, hlt, fun i x hx => hc i _ (by rw [List.getElem?_map, hx]; rfl)⟩⟩
theorem NumS.nil (w : World) (A : Option Addr) : NumS w A 0 [] := ⟨rfl, fun h => absurd h (by decide)⟩

theorem infoJ : (Tryd.prog.info? 3).map (fun i => (i.zero, i.size, i.bytes)) = some (some (.int .i64 0), 1, 8) := by kernel_rfl
/-- a row of numbers of one's own, from block B on -/
def OwnN (w : World) (B : Nat) (A : Option Addr) (c : Nat) (l : List Int) : Prop := w.ownsRow B 3 1 (.slice A l.length c) l.length (i64s l)
theorem OwnN.nil (w : World) (B : Nat) : OwnN w B none 0 [] := World.ownsRow_nil _ _ _ _
theorem OwnN.kept {w w' : World} {B : Nat} {A : Option Addr} {c : Nat} {l : List Int} (h : OwnN w B A c l) (hb : Below w.heap.size w w') : OwnN w' B A c l := (Turn.of_below (F := fun _ => False) hb).own h (fun _ _ => id)
theorem OwnN.lt {w : World} {B : Nat} {A : Option Addr} {c n : Nat} {l : List Int} (h : OwnN w B A c l) (hn : l.length = n) {q : Nat} (hq : (Value.slice A n c).ownBlock = some q) : B ≤ q ∧ q < w.heap.size := by
  subst hn
  exact World.ownsRow.lt h q hq
theorem OwnN.base {w : World} {B B' : Nat} {A : Option Addr} {c : Nat} {l : List Int} (h : OwnN w B A c l) (hb : B' ≤ B) : OwnN w B' A c l := by
  refine ⟨h.1, ?_⟩
  rcases h.2 with q | ⟨g, cap, cur, q1, q2, q3⟩
  · exact .inl q
  · exact .inr ⟨g, cap, cur, q1, Nat.le_trans hb q2, q3⟩
theorem OwnN.nums {w : World} {B : Nat} {A : Option Addr} {c n : Nat} {l : List Int} (h : OwnN w B A c l) (hn : l.length = n) : NumS w A n l := by
  subst hn
  refine ⟨rfl, fun h0 => ?_⟩
  rcases h.2 with ⟨e, h1⟩ | ⟨g, cap, cur, e, _, hg, _⟩
  · omega
  · injection e with e1 _ _
    subst e1
    refine ⟨g, 0, rfl, (Array.getElem?_eq_some_iff.1 hg).1, fun i x hx => ?_⟩
    have := World.ownsRow.cells (g := g) h rfl i (.int .i64 x) (by rw [List.getElem?_map, hx]; rfl)
    rwa [addr_add] at this
theorem appendN (w : World) {ops : Array Oper} {rest : List Oper} {o : Oper} {a : Act} {Q : Exit → Act → World → Prop} (hgd : o.guard = none) (s x : Operand)
    (ho : o.op = .call { callee := .builtin .append, args := #[s, x], argTypes := #[36, 36] }) (B : Nat) (A : Option Addr) (c : Nat) (l : List Int) (n : Nat) (hn : l.length = n) (z : Int)
    (hs : a.eval s = .slice A n c) (hown : OwnN w B A c l) (hx : a.eval x = .slice (some ⟨w.heap.size, 0, none⟩) 1 1) (hl : n ≤ 1000000000) (hB : B ≤ w.heap.size)
    (h : ∀ A' c' w', OwnN w' B A' c' (l ++ [z]) → w.grownBy w' (Value.slice A n c).ownBlock → wpList Tryd.prog ops Q rest (a.put o.dst (.slice A' (n + 1) c')) w') :
    wpList Tryd.prog ops Q (o :: rest) a (w.alloc (.cells #[.int .i64 z] 3)) := by
  subst hn
  obtain ⟨i0, hi, hz0, hz1, hz2⟩ := info_parts infoJ
  refine append_row _ hgd s x 36 ho B 3 i0 (.int .i64 0) 8 Tryd.underlying36 hi hz0 hz1 hz2 rfl _ l.length (i64s l) hs (World.ownsRow.alloc hown _) ⟨w.heap.size, 0, none⟩ 1 1 [.int .i64 z] hx rfl (cell_one_new _ _ _) (fun u hu => by simp at hu; subst hu; rfl) (by unfold maxLen; omega) (by omega) (by simp; omega) ?_
  intro A' c' w' o' g' _
  refine h A' c' w' ?_ ?_
  · unfold OwnN
    have e : i64s l ++ [.int .i64 z] = i64s (l ++ [z]) := by simp
    rw [e] at o'
    rw [List.length_append]
    exact o'
  · refine ⟨g'.os, g'.tape, g'.output, Nat.le_trans (by simp) g'.size, fun k hk hne => (g'.block k (by simp; omega) hne).trans (Below.heap_alloc w _ k hk)⟩

/-- are two lists the same? -/
noncomputable def sameN (l m : List Int) : Bool := decide (l = m)
theorem drop_same {α : Type} {l m : List α} {i : Nat} (hp : l.take i = m.take i) (hd : l.drop i = m.drop i) : l = m := by
  rw [← List.take_append_drop i l, ← List.take_append_drop i m, hp, hd]

set_option maxRecDepth 100000 in
set_option maxHeartbeats 1600000 in
theorem rints (w : World) (A : Option Addr) (n c : Nat) (l : List Int) (B : Option Addr) (m d : Nat) (l' : List Int) (h : NumS w A n l) (h' : NumS w B m l') (hn : n ≤ 1000000000) :
    Calls Tryd.prog 17 #[.slice A n c, .slice B m d] w fun e w' => e = .returned (.bool (sameN l l')) ∧ Below w.heap.size w w' := by
  by_cases hnm : n = m
  · subst hnm
    have HH := Lib.hid h
    have HH' := Lib.hid h'
    have hlen : l.length = l'.length := by rw [h.len, h'.len]
    obtain ⟨X, HX⟩ : ∃ X, Hid (sameN l l' = X) := ⟨_, rfl⟩
    rw [HX.out]
    clear h h' hlen
    go_enter Tryd.func17, Tryd.ntmps17
    go_wp2
    go_loopw [5] (fun iv wr => ∃ i : Nat, i ≤ n ∧ iv = .int .i64 (i : Nat) ∧ Hid (Below w.heap.size w wr ∧ l.take i = l'.take i)) (fun iv _ => n - (intOf iv).toNat)
    case atStart => exact ⟨0, Nat.zero_le _, rfl, Below.refl _ _, rfl⟩
    case round =>
      obtain ⟨i, hi, rfl, HI⟩ := hrel
      by_cases hlt : i < n
      · obtain ⟨b, off, x, rfl, hx, _, _, hc⟩ := HH.out.get hlt
        obtain ⟨b', off', y, rfl, hy, _, _, hc'⟩ := HH'.out.get hlt
        obtain ⟨q1, q2⟩ := hc wr HI.out.1
        obtain ⟨q3, q4⟩ := hc' wr HI.out.1
        have HB : Hid (∀ k, Below w.heap.size w (wr.drewN k)) := fun k => HI.out.1.trans ((Turn.none_ ((Turn.refl (fun _ => False) wr).drewN k) (fun _ => id)).mono HI.out.1.size)
        have hlt' : (i : Int) < (n : Int) := by omega
        have h0 : (0 : Int) ≤ (i : Int) := by omega
        by_cases hxy : x = y
        · subst hxy
          have HN : Hid (l.take (i + 1) = l'.take (i + 1)) := by
            show _ = _
            rw [take_one hx, take_one hy, HI.out.2]
          clear hx hy hc hc' HI
          go_wp2
          go_quiet (fail)
          go_wp2
          go_roundw
          case rel => exact ⟨i + 1, by omega, by go_num, HB.out _, HN.out⟩
          case measure => simp [intOf]; omega
        · have hne : (x != y) = true := bne_iff_ne.2 hxy
          obtain rfl : X = false := by
            rw [← HX.out]
            refine decide_eq_false fun e => hxy ?_
            subst e
            exact Option.some.inj (hx.symm.trans hy)
          clear hx hy hc hc' HI HX
          go_wp2
          go_quiet (fail)
          go_wp2
          go_ret
          exact ⟨rfl, HB.out _⟩
      · obtain rfl : i = n := by omega
        obtain rfl : X = true := by
          rw [← HX.out]
          refine decide_eq_true ?_
          have := HI.out.2
          rwa [List.take_of_length_le (by rw [HH.out.len]; exact Nat.le_refl _), List.take_of_length_le (by rw [HH'.out.len]; exact Nat.le_refl _)] at this
        have HB := Lib.hid HI.out.1
        clear HI HX
        go_wp2
        go_ret
        exact ⟨rfl, HB.out⟩
  · have hne : (n : Int) ≠ (m : Int) := by omega
    have hres : sameN l l' = false := by
      refine decide_eq_false fun e => hnm ?_
      rw [← h.len, ← h'.len, e]
    rw [hres]
    clear h h' hnm
    go_enter Tryd.func17, Tryd.ntmps17
    go_wp2
    go_ret
    exact ⟨rfl, Below.refl _ w⟩

/-- the slice of n runs at A reads as l -/
structure RunS (w : World) (A : Option Addr) (n : Nat) (l : List (Int × Int)) : Prop where
  len : l.length = n
  at_ : 0 < n → ∃ b off, A = some ⟨b, off, none⟩ ∧ b < w.heap.size ∧ ∀ (i : Nat) x, l[i]? = some x → w.cell? ⟨b, off + i * 2, none⟩ = some (.int .i64 x.1) ∧ w.cell? ⟨b, off + i * 2 + 1, none⟩ = some (.int .i64 x.2)
theorem RunS.below {w w' : World} {A : Option Addr} {n : Nat} {l : List (Int × Int)} (h : RunS w A n l) (hb : Below w.heap.size w w') : RunS w' A n l :=
  ⟨h.len, fun hn => by
    obtain ⟨b, off, e, hlt, hc⟩ := h.at_ hn
    exact ⟨b, off, e, Nat.lt_of_lt_of_le hlt hb.size, fun i x hx => ⟨(hb.cell (p := ⟨b, off + i * 2, none⟩) hlt).trans (hc i x hx).1, (hb.cell (p := ⟨b, off + i * 2 + 1, none⟩) hlt).trans (hc i x hx).2⟩⟩⟩
theorem RunS.get {w : World} {A : Option Addr} {n i : Nat} {l : List (Int × Int)} (h : RunS w A n l) (hi : i < n) :
    ∃ b off x, A = some ⟨b, off, none⟩ ∧ l[i]? = some x ∧ x ∈ l ∧ l.drop i = x :: l.drop (i + 1) ∧ ∀ W, Below w.heap.size w W → b < W.heap.size ∧ W.cell? ⟨b, off + i * 2, none⟩ = some (.int .i64 x.1) ∧ W.cell? ⟨b, off + i * 2 + 1, none⟩ = some (.int .i64 x.2) := by
  obtain ⟨b, off, e, hlt, hc⟩ := h.at_ (by omega)
  have hi' : i < l.length := by rw [h.len]; exact hi
  have hg := List.getElem?_eq_getElem hi'
  exact ⟨b, off, l[i], e, hg, List.getElem_mem hi', List.drop_eq_getElem_cons hi', fun W hW => ⟨Nat.lt_of_lt_of_le hlt hW.size, (hW.cell (p := ⟨b, off + i * 2, none⟩) hlt).trans (hc i _ hg).1, (hW.cell (p := ⟨b, off + i * 2 + 1, none⟩) hlt).trans (hc i _ hg).2⟩⟩
theorem RunS.nil (w : World) (A : Option Addr) : RunS w A 0 [] := ⟨rfl, fun h => absurd h (by decide)⟩

noncomputable def sameR (l m : List (Int × Int)) : Bool := decide (l = m)
set_option maxRecDepth 100000 in
set_option maxHeartbeats 1600000 in
theorem rtexts (w : World) (A : Option Addr) (n c : Nat) (l : List (Int × Int)) (B : Option Addr) (m d : Nat) (l' : List (Int × Int)) (h : RunS w A n l) (h' : RunS w B m l') (hn : n ≤ 1000000000) :
    Calls Tryd.prog 32 #[.slice A n c, .slice B m d] w fun e w' => e = .returned (.bool (sameR l l')) ∧ Below w.heap.size w w' := by
  by_cases hnm : n = m
  · subst hnm
    have HH := Lib.hid h
    have HH' := Lib.hid h'
    have hlen : l.length = l'.length := by rw [h.len, h'.len]
    obtain ⟨X, HX⟩ : ∃ X, Hid (sameR l l' = X) := ⟨_, rfl⟩
    rw [HX.out]
    clear h h' hlen
    go_enter Tryd.func32, Tryd.ntmps32
    go_wp2
    go_loopw [5] (fun iv wr => ∃ i : Nat, i ≤ n ∧ iv = .int .i64 (i : Nat) ∧ Hid (Below w.heap.size w wr ∧ l.take i = l'.take i)) (fun iv _ => n - (intOf iv).toNat)
    case atStart => exact ⟨0, Nat.zero_le _, rfl, Below.refl _ _, rfl⟩
    case round =>
      obtain ⟨i, hi, rfl, HI⟩ := hrel
      by_cases hlt : i < n
      · obtain ⟨b, off, ⟨x, x'⟩, rfl, hx, _, _, hc⟩ := HH.out.get hlt
        obtain ⟨b', off', ⟨y, y'⟩, rfl, hy, _, _, hc'⟩ := HH'.out.get hlt
        obtain ⟨q1, q2, q2'⟩ := hc wr HI.out.1
        obtain ⟨q3, q4, q4'⟩ := hc' wr HI.out.1
        have HB : Hid (∀ k, Below w.heap.size w (wr.drewN k)) := fun k => HI.out.1.trans ((Turn.none_ ((Turn.refl (fun _ => False) wr).drewN k) (fun _ => id)).mono HI.out.1.size)
        have hlt' : (i : Int) < (n : Int) := by omega
        have h0 : (0 : Int) ≤ (i : Int) := by omega
        by_cases hxy : x = y ∧ x' = y'
        · obtain ⟨rfl, rfl⟩ := hxy
          have HN : Hid (l.take (i + 1) = l'.take (i + 1)) := by
            show _ = _
            rw [take_one hx, take_one hy, HI.out.2]
          clear hx hy hc hc' HI
          go_wp2
          go_quiet (fail)
          go_wp2
          go_roundw
          case rel => exact ⟨i + 1, by omega, by go_num, HB.out _, HN.out⟩
          case measure => simp [intOf]; omega
        · obtain rfl : X = false := by
            rw [← HX.out]
            refine decide_eq_false fun e => hxy ?_
            subst e
            have := Option.some.inj (hx.symm.trans hy)
            injection this with e1 e2
            exact ⟨e1, e2⟩
          clear hx hy hc hc' HI HX
          rcases Classical.em (x = y) with h1 | h1
          · have h2 : ¬ x' = y' := fun e => hxy ⟨h1, e⟩
            subst h1
            clear hxy
            go_wp2
            go_quiet (fail)
            go_wp2
            go_ret
            exact ⟨rfl, HB.out _⟩
          · clear hxy
            go_wp2
            go_quiet (fail)
            go_wp2
            go_ret
            exact ⟨rfl, HB.out _⟩
      · obtain rfl : i = n := by omega
        obtain rfl : X = true := by
          rw [← HX.out]
          refine decide_eq_true ?_
          have := HI.out.2
          rwa [List.take_of_length_le (by rw [HH.out.len]; exact Nat.le_refl _), List.take_of_length_le (by rw [HH'.out.len]; exact Nat.le_refl _)] at this
        have HB := Lib.hid HI.out.1
        clear HI HX
        go_wp2
        go_ret
        exact ⟨rfl, HB.out⟩
  · have hne : (n : Int) ≠ (m : Int) := by omega
    have hres : sameR l l' = false := by
      refine decide_eq_false fun e => hnm ?_
      rw [← h.len, ← h'.len, e]
    rw [hres]
    clear h h' hnm
    go_enter Tryd.func32, Tryd.ntmps32
    go_wp2
    go_ret
    exact ⟨rfl, Below.refl _ w⟩

theorem rpoint (z : Int) (w : World) : Calls Tryd.prog 61 #[.int .i64 z] w fun e w' => e = .returned (.bool (Lt.pt z)) ∧ w' = w := by
  by_cases h0 : 0 ≤ z
  · by_cases h1 : z < 196608
    · have hp : Lt.pt z = true := decide_eq_true ⟨h0, by omega⟩
      rw [hp]
      go_enter Tryd.func61, Tryd.ntmps61
      go_wp2
      go_ret
      exact ⟨rfl, rfl⟩
    · have hp : Lt.pt z = false := decide_eq_false (by omega)
      rw [hp]
      go_enter Tryd.func61, Tryd.ntmps61
      go_wp2
      go_ret
      exact ⟨rfl, rfl⟩
  · have hp : Lt.pt z = false := decide_eq_false (by omega)
    rw [hp]
    go_enter Tryd.func61, Tryd.ntmps61
    go_wp2
    go_ret
    exact ⟨rfl, rfl⟩
end Go.Proofs.YtkooconjkimgoaaDoor
