/- A list of tokens that came in. -/
import Derived.Test.YtgnonopkefbhoaaDoorK15
import Derived.Deep.Slices
import Derived.Deep.Fields
import Derived.ChangeSame
namespace Go.Proofs.YtgnonopkefbhoaaDoor
open Go.RowKit Go.ChangeShapes Go.WideShapes Go.Deep

theorem open_toks {H : Type} {enc : TypeId × Value → H} {W : World} {fuel : Nat} {v : Value} {y : DataW H × List MemPlace} (h : DataW.trod enc Tryd.prog W 0 (fun _ => true) true fuel 23 [v] = some y) :
    ∃ A n c l, v = .slice A n c ∧ TokS W A n l ∧ ∀ x ∈ l, x.2.1.size ≤ maxLen := by
  rcases open_slice Tryd.underlying23 h with ⟨hcs, _⟩ | ⟨a, len, cap, m, n, D, Pl, hcs, _, hl, hm, hmm, _, hi⟩
  · injection hcs with hcs
    subst hcs
    exact ⟨none, 0, 0, [], rfl, ⟨rfl, fun hn => absurd hn (by omega)⟩, fun o ho => absurd ho List.not_mem_nil⟩
  · injection hcs with hcs
    subst hcs
    have hm' : m = cap := by simpa using hmm
    have each : ∀ i, i < len → ∃ q : ITok, (W.cell? ((a.add (i * 3)).add 0) = some (.int .i64 q.1) ∧ W.cell? ((a.add (i * 3)).add 1) = some (.string q.2.1) ∧ W.cell? ((a.add (i * 3)).add 2) = some (.int .i64 q.2.2)) ∧ q.2.1.size ≤ maxLen := fun i hil => by
      obtain ⟨cs', h1, h2⟩ := hi i (by omega)
      rw [show Tryd.prog.cellsOf 30 = 3 by kernel_rfl] at h1
      obtain ⟨_, hlen, hcell⟩ := World.cells?_some h1
      obtain ⟨xs, k, _, _, _, hxl, hf⟩ := DataW.trod_struct Tryd.underlying30 h2
      match xs, hxl, cs', hlen with
      | [y0, y1, y2], _, [v0, v1, v2], _ =>
        have g0 := hf 0 _ rfl
        have g1 := hf 1 _ rfl
        have g2 := hf 2 _ rfl
        have e0 : DataW.trod enc Tryd.prog W 0 (fun _ => true) true k 3 [v0] = some y0 := g0
        have e1 : DataW.trod enc Tryd.prog W 0 (fun _ => true) true k 9 [v1] = some y1 := g1
        have e2 : DataW.trod enc Tryd.prog W 0 (fun _ => true) true k 3 [v2] = some y2 := g2
        obtain ⟨z0, hz0, _⟩ := DataW.trod_int Tryd.underlying3 e0
        obtain ⟨z1, hz1, _, hz⟩ := DataW.trod_string Tryd.underlying9 e1
        obtain ⟨z2, hz2, _⟩ := DataW.trod_int Tryd.underlying3 e2
        injection hz0 with hz0
        injection hz1 with hz1
        injection hz2 with hz2
        subst hz0
        subst hz1
        subst hz2
        exact ⟨(z0, z1, z2), ⟨hcell 0 (by omega), hcell 1 (by omega), hcell 2 (by omega)⟩, hz⟩
    obtain ⟨q, hq⟩ := choose_lt each
    refine ⟨some a, len, cap, (List.range len).map q, rfl, ⟨by simp, fun hn => ?_⟩, fun o ho => ?_⟩
    case refine_2 =>
      obtain ⟨i, hi⟩ := List.mem_iff_getElem?.1 ho
      obtain ⟨hil, rfl⟩ := get_range hi
      exact (hq i hil).2
    have hc0 := (hq 0 hn).1.1
    obtain ⟨b, off, spot⟩ := a
    have hspot : spot = none := by simpa [Addr.add] using World.cell?_spot hc0
    subst hspot
    have hb : b < W.heap.size := by
      have := World.block_lt_of_cell? W _ hc0
      simpa [Addr.add] using this
    refine ⟨b, off, rfl, hb, fun i o ho => ?_⟩
    obtain ⟨hil, rfl⟩ := get_range ho
    have := (hq i hil).1
    rw [addr_add, addr_add, addr_add, addr_add, Nat.add_zero] at this
    exact this
end Go.Proofs.YtgnonopkefbhoaaDoor
