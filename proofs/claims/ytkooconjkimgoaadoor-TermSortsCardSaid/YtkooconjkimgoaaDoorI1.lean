/- Lists of whole numbers that came in. -/
import Derived.Test.YtkooconjkimgoaaDoorRows
import Derived.Test.YtkooconjkimgoaaDoorT0
import Derived.Deep.Slices
import Derived.Deep.Fields
import Derived.ChangeSame
import Derived.ProofKit
import Derived.OpenShut
namespace Go.Proofs.YtkooconjkimgoaaDoor
open Go.RowKit Go.ChangeShapes Go.WideShapes Go.Deep

theorem zeroInt (w : World) : (zeroValue 3).run Tryd.prog w = .ok (.int .i64 0) w := by kernel_rfl
/-- a list of whole numbers that came in -/
def ArgI (w : World) (A : Option Addr) (n c : Nat) (zs : List Int) : Prop := Rd w (fun b => b < w.heap.size) A n c (i64s zs) ∧ ∀ z ∈ zs, (Lit.int .i64 z).wf = true

theorem open_argI {H : Type} {enc : TypeId × Value → H} {W : World} {fuel : Nat} {v : Value} {y : DataW H × List MemPlace} (h : DataW.trod enc Tryd.prog W 0 (fun _ => true) true fuel 36 [v] = some y) :
    ∃ A n c zs, v = .slice A n c ∧ ArgI W A n c zs := by
  rcases open_ints Tryd.underlying36 Tryd.underlying3 (by kernel_rfl) h with ⟨hcs, _⟩ | ⟨x, l, c, zs, hcs, _, hl, hm, hz, _, hcell, hwz⟩
  · injection hcs with hcs
    subst hcs
    exact ⟨none, 0, 0, [], rfl, Rd.nil_ _ _, fun z hz => absurd hz List.not_mem_nil⟩
  · injection hcs with hcs
    subst hcs
    have hz' : zs.length = c := by simpa using hz
    refine ⟨some x, l, c, zs.take l, rfl, ⟨by rw [List.length_map, List.length_take]; omega, fun e => (by cases e), hl, hm, fun hn => ?_⟩, fun z hz => hwz z (List.mem_of_mem_take hz)⟩
    have hc0 := hcell 0 (by omega)
    obtain ⟨b, off, spot⟩ := x
    have hspot : spot = none := by simpa [Addr.add] using World.cell?_spot hc0
    subst hspot
    have hb : b < W.heap.size := by
      have := World.block_lt_of_cell? W _ hc0
      simpa [Addr.add] using this
    refine ⟨b, off, rfl, hb, hb, fun j u hj => ?_⟩
    have hjl : j < l := by
      have := (List.getElem?_eq_some_iff.1 hj).1
      rw [List.length_map, List.length_take] at this
      omega
    have hc := hcell j (by omega)
    rw [show (⟨b, off, none⟩ : Addr).add j = ⟨b, off + j, none⟩ by unfold Addr.add; split <;> simp_all] at hc
    rw [hc, ← hj, List.getElem?_map, List.getElem?_take_of_lt hjl, List.getElem?_eq_getElem (by omega), List.getD_eq_getElem?_getD, List.getElem?_eq_getElem (by omega)]
    rfl

/-- what a list of numbers holds at a place, in a later world -/
theorem ArgI.cell {w W : World} {A : Option Addr} {n c i : Nat} {zs : List Int} (h : ArgI w A n c zs) (hb : Below w.heap.size w W) (hi : i < n) :
    ∃ b off x, A = some ⟨b, off, none⟩ ∧ b < W.heap.size ∧ zs[i]? = some x ∧ (Lit.int .i64 x).wf = true ∧ W.cell? ⟨b, off + i, none⟩ = some (.int .i64 x) := by
  obtain ⟨b, off, e, _, hlt, hc⟩ := h.1.at_ (by omega)
  have hl := h.1.len
  rw [List.length_map] at hl
  have hg : zs[i]? = some (zs[i]'(by omega)) := List.getElem?_eq_getElem (by omega)
  exact ⟨b, off, _, e, Nat.lt_of_lt_of_le hlt hb.size, hg, h.2 _ (List.getElem_mem _), (hb.cell (p := ⟨b, off + i, none⟩) hlt).trans (hc i _ (by rw [List.getElem?_map, hg]; rfl))⟩
theorem ArgI.get {w : World} {A : Option Addr} {n c i : Nat} {zs : List Int} (h : ArgI w A n c zs) (hi : i < n) :
    ∃ b off x, A = some ⟨b, off, none⟩ ∧ zs[i]? = some x ∧ (Lit.int .i64 x).wf = true ∧ ∀ W, Below w.heap.size w W → b < W.heap.size ∧ W.cell? ⟨b, off + i, none⟩ = some (.int .i64 x) := by
  obtain ⟨b, off, x, rfl, _, h1, h2, _⟩ := h.cell (Below.refl _ w) hi
  refine ⟨b, off, x, rfl, h1, h2, fun W hW => ?_⟩
  obtain ⟨b', off', x', e, q1, q2, _, q3⟩ := h.cell hW hi
  injection e with e
  injection e with e1 e2
  subst e1
  subst e2
  rw [h1] at q2
  obtain rfl := Option.some.inj q2
  exact ⟨q1, q3⟩
theorem ArgI.len {w : World} {A : Option Addr} {n c : Nat} {zs : List Int} (h : ArgI w A n c zs) : zs.length = n := by
  have hl := h.1.len
  rwa [List.length_map] at hl
end Go.Proofs.YtkooconjkimgoaaDoor
