/- Stage 3's arguments: lists of whole numbers, of calls of a table, of calls of a stack. -/
import Derived.Test.YtgijagdnhajkhaaT15
import Derived.Deep.Slices
import Derived.Deep.Fields
import Derived.ChangeSame
import Derived.ProofKit
import Derived.OpenShut
namespace Go.Proofs.Ytgijagdnhajkhaa
open Go.RowKit Go.ChangeShapes Go.WideShapes Go.Deep

/-- a list of whole numbers that came in -/
def ArgI (w : World) (A : Option Addr) (n c : Nat) (zs : List Int) : Prop := Rd w (fun b => b < w.heap.size) A n c (i64s zs) ∧ ∀ z ∈ zs, (Lit.int .i64 z).wf = true

theorem open_argI {H : Type} {enc : TypeId × Value → H} {W : World} {fuel : Nat} {v : Value} {y : DataW H × List MemPlace} (h : DataW.trod enc Try.prog W 0 (fun _ => true) true fuel 44 [v] = some y) :
    ∃ A n c zs, v = .slice A n c ∧ ArgI W A n c zs := by
  rcases open_ints Try.underlying44 Try.underlying3 (by kernel_rfl) h with ⟨hcs, _⟩ | ⟨x, l, c, zs, hcs, _, hl, hm, hz, _, hcell, hwz⟩
  · injection hcs with hcs
    subst hcs
    exact ⟨none, 0, 0, [], rfl, Rd.nil_ _ _, fun z hz => absurd hz List.not_mem_nil⟩
  · injection hcs with hcs
    subst hcs
    have hz' : zs.length = c := by simpa using hz
    refine ⟨some x, l, c, zs.take l, rfl, ⟨by rw [List.length_map, List.length_take]; omega, fun e => (by cases e), hl, hm, fun hn => ?_⟩, fun z hz => hwz z (List.mem_of_mem_take hz)⟩
    have hc0 := hcell 0 (by omega)
    obtain ⟨b, off, spot⟩ := x
    have hspot : spot = none := by simpa [Addr.add] using World.cell?_spot hc0
    subst hspot
    have hb : b < W.heap.size := by
      have := World.block_lt_of_cell? W _ hc0
      simpa [Addr.add] using this
    refine ⟨b, off, rfl, hb, hb, fun j u hj => ?_⟩
    have hjl : j < l := by
      have := (List.getElem?_eq_some_iff.1 hj).1
      rw [List.length_map, List.length_take] at this
      omega
    have hc := hcell j (by omega)
    rw [show (⟨b, off, none⟩ : Addr).add j = ⟨b, off + j, none⟩ by unfold Addr.add; split <;> simp_all] at hc
    rw [hc, ← hj, List.getElem?_map, List.getElem?_take_of_lt hjl, List.getElem?_eq_getElem (by omega), List.getD_eq_getElem?_getD, List.getElem?_eq_getElem (by omega)]
    rfl

/-- a list of calls of a table that came in: Cut, K, N -/
structure ArgO (w : World) (A : Option Addr) (n c : Nat) (l : List (Bool × ByteArray × Int)) : Prop where
  len : l.length = n
  ok : ∀ o ∈ l, o.2.1.size ≤ maxLen
  at_ : 0 < n → ∃ b off, A = some ⟨b, off, none⟩ ∧ b < w.heap.size ∧ ∀ (i : Nat) (o : Bool × ByteArray × Int), l[i]? = some o → w.cell? ⟨b, off + i * 3, none⟩ = some (.bool o.1) ∧ w.cell? ⟨b, off + i * 3 + 1, none⟩ = some (.string o.2.1) ∧ w.cell? ⟨b, off + i * 3 + 2, none⟩ = some (.int .i64 o.2.2)

/-- a list of calls of a stack that came in: Kind, X -/
structure ArgP (w : World) (A : Option Addr) (n c : Nat) (l : List (Int × Int)) : Prop where
  len : l.length = n
  at_ : 0 < n → ∃ b off, A = some ⟨b, off, none⟩ ∧ b < w.heap.size ∧ ∀ (i : Nat) (o : Int × Int), l[i]? = some o → w.cell? ⟨b, off + i * 2, none⟩ = some (.int .i64 o.1) ∧ w.cell? ⟨b, off + i * 2 + 1, none⟩ = some (.int .i64 o.2)

theorem get_range {α : Type} {f : Nat → α} {n i : Nat} {o : α} (h : ((List.range n).map f)[i]? = some o) : i < n ∧ o = f i := by
  have hl := (List.getElem?_eq_some_iff.1 h).1
  rw [List.length_map, List.length_range] at hl
  rw [List.getElem?_map, List.getElem?_range hl] at h
  exact ⟨hl, (Option.some.inj h).symm⟩

theorem addr_add (b off i : Nat) : (⟨b, off, none⟩ : Addr).add i = ⟨b, off + i, none⟩ := by unfold Addr.add; split <;> simp_all

theorem open_argP {H : Type} {enc : TypeId × Value → H} {W : World} {fuel : Nat} {v : Value} {y : DataW H × List MemPlace} (h : DataW.trod enc Try.prog W 0 (fun _ => true) true fuel 42 [v] = some y) :
    ∃ A n c l, v = .slice A n c ∧ ArgP W A n c l := by
  rcases open_slice Try.underlying42 h with ⟨hcs, _⟩ | ⟨a, len, cap, m, n, D, Pl, hcs, _, hl, hm, hmm, _, hi⟩
  · injection hcs with hcs
    subst hcs
    exact ⟨none, 0, 0, [], rfl, rfl, fun hn => absurd hn (by omega)⟩
  · injection hcs with hcs
    subst hcs
    have hm' : m = cap := by simpa using hmm
    have each : ∀ i, i < len → ∃ q : Int × Int, W.cell? ((a.add (i * 2)).add 0) = some (.int .i64 q.1) ∧ W.cell? ((a.add (i * 2)).add 1) = some (.int .i64 q.2) := fun i hil => by
      obtain ⟨cs', h1, h2⟩ := hi i (by omega)
      rw [show Try.prog.cellsOf 52 = 2 by kernel_rfl] at h1
      obtain ⟨_, hlen, hcell⟩ := World.cells?_some h1
      obtain ⟨xs, k, _, _, _, hxl, hf⟩ := DataW.trod_struct Try.underlying52 h2
      match xs, hxl, cs', hlen with
      | [y0, y1], _, [v0, v1], _ =>
        have g0 := hf 0 _ rfl
        have g1 := hf 1 _ rfl
        have e0 : DataW.trod enc Try.prog W 0 (fun _ => true) true k 3 [v0] = some y0 := g0
        have e1 : DataW.trod enc Try.prog W 0 (fun _ => true) true k 3 [v1] = some y1 := g1
        obtain ⟨z0, hz0, _⟩ := DataW.trod_int Try.underlying3 e0
        obtain ⟨z1, hz1, _⟩ := DataW.trod_int Try.underlying3 e1
        injection hz0 with hz0
        injection hz1 with hz1
        subst hz0
        subst hz1
        exact ⟨(z0, z1), hcell 0 (by omega), hcell 1 (by omega)⟩
    obtain ⟨q, hq⟩ := choose_lt each
    refine ⟨some a, len, cap, (List.range len).map q, rfl, ⟨by simp, fun hn => ?_⟩⟩
    have hc0 := (hq 0 hn).1
    obtain ⟨b, off, spot⟩ := a
    have hspot : spot = none := by simpa [Addr.add] using World.cell?_spot hc0
    subst hspot
    have hb : b < W.heap.size := by
      have := World.block_lt_of_cell? W _ hc0
      simpa [Addr.add] using this
    refine ⟨b, off, rfl, hb, fun i o ho => ?_⟩
    obtain ⟨hil, rfl⟩ := get_range ho
    have := hq i hil
    rw [addr_add, addr_add, addr_add, Nat.add_zero] at this
    exact this

theorem open_argO {H : Type} {enc : TypeId × Value → H} {W : World} {fuel : Nat} {v : Value} {y : DataW H × List MemPlace} (h : DataW.trod enc Try.prog W 0 (fun _ => true) true fuel 22 [v] = some y) :
    ∃ A n c l, v = .slice A n c ∧ ArgO W A n c l := by
  rcases open_slice Try.underlying22 h with ⟨hcs, _⟩ | ⟨a, len, cap, m, n, D, Pl, hcs, _, hl, hm, hmm, _, hi⟩
  · injection hcs with hcs
    subst hcs
    exact ⟨none, 0, 0, [], rfl, rfl, fun o ho => absurd ho List.not_mem_nil, fun hn => absurd hn (by omega)⟩
  · injection hcs with hcs
    subst hcs
    have hm' : m = cap := by simpa using hmm
    have each : ∀ i, i < len → ∃ q : Bool × ByteArray × Int, (W.cell? ((a.add (i * 3)).add 0) = some (.bool q.1) ∧ W.cell? ((a.add (i * 3)).add 1) = some (.string q.2.1) ∧ W.cell? ((a.add (i * 3)).add 2) = some (.int .i64 q.2.2)) ∧ q.2.1.size ≤ maxLen := fun i hil => by
      obtain ⟨cs', h1, h2⟩ := hi i (by omega)
      rw [show Try.prog.cellsOf 30 = 3 by kernel_rfl] at h1
      obtain ⟨_, hlen, hcell⟩ := World.cells?_some h1
      obtain ⟨xs, k, _, _, _, hxl, hf⟩ := DataW.trod_struct Try.underlying30 h2
      match xs, hxl, cs', hlen with
      | [y0, y1, y2], _, [v0, v1, v2], _ =>
        have g0 := hf 0 _ rfl
        have g1 := hf 1 _ rfl
        have g2 := hf 2 _ rfl
        have e0 : DataW.trod enc Try.prog W 0 (fun _ => true) true k 4 [v0] = some y0 := g0
        have e1 : DataW.trod enc Try.prog W 0 (fun _ => true) true k 9 [v1] = some y1 := g1
        have e2 : DataW.trod enc Try.prog W 0 (fun _ => true) true k 3 [v2] = some y2 := g2
        obtain ⟨z0, hz0, _⟩ := DataW.trod_bool Try.underlying4 e0
        obtain ⟨z1, hz1, _, hz⟩ := DataW.trod_string Try.underlying9 e1
        obtain ⟨z2, hz2, _⟩ := DataW.trod_int Try.underlying3 e2
        injection hz0 with hz0
        injection hz1 with hz1
        injection hz2 with hz2
        subst hz0
        subst hz1
        subst hz2
        exact ⟨(z0, z1, z2), ⟨hcell 0 (by omega), hcell 1 (by omega), hcell 2 (by omega)⟩, hz⟩
    obtain ⟨q, hq⟩ := choose_lt each
    refine ⟨some a, len, cap, (List.range len).map q, rfl, ⟨by simp, fun o ho => ?_, fun hn => ?_⟩⟩
    · obtain ⟨i, hi⟩ := List.mem_iff_getElem?.1 ho
      obtain ⟨hil, rfl⟩ := get_range hi
      exact (hq i hil).2
    have hc0 := (hq 0 hn).1.1
    obtain ⟨b, off, spot⟩ := a
    have hspot : spot = none := by simpa [Addr.add] using World.cell?_spot hc0
    subst hspot
    have hb : b < W.heap.size := by
      have := World.block_lt_of_cell? W _ hc0
      simpa [Addr.add] using this
    refine ⟨b, off, rfl, hb, fun i o ho => ?_⟩
    obtain ⟨hil, rfl⟩ := get_range ho
    have := (hq i hil).1
    rw [addr_add, addr_add, addr_add, addr_add, Nat.add_zero] at this
    exact this
end Go.Proofs.Ytgijagdnhajkhaa
