/- Lists of runs that came in; literal lists. -/
import Derived.Test.YtkooconjkimgoaaDoorJ3
import Derived.Deep.Slices
import Derived.Deep.Fields
import Derived.ChangeSame
namespace Go.Proofs.YtkooconjkimgoaaDoor
open Go.RowKit Go.ChangeShapes Go.WideShapes Go.Deep

theorem NumS.lit (w : World) (zs : List Int) : NumS (w.alloc (.cells (i64s zs).toArray 3)) (some ⟨w.heap.size, 0, none⟩) zs.length zs := by
  have l := Lies.new w 3 (i64s zs).toArray
  refine ⟨rfl, fun _ => ⟨w.heap.size, 0, rfl, l.lt, fun i x hx => ?_⟩⟩
  rw [Nat.zero_add, l.cell i]
  simp [hx]
theorem wf_pt {z : Int} (h : Lt.pt z = true) : (Lit.int .i64 z).wf = true := by
  obtain ⟨h0, h1⟩ := Lt.pt_facts h
  exact WalkArith.wf_i64 (by omega)
theorem sameN_self (l : List Int) : sameN l l = true := decide_eq_true rfl
theorem sameR_self (l : List (Int × Int)) : sameR l l = true := decide_eq_true rfl

/-- a list of runs that came in -/
def ArgR (w : World) (A : Option Addr) (n : Nat) (R : List (Int × Int)) : Prop := RunS w A n R ∧ ∀ x ∈ R, (Lit.int .i64 x.1).wf = true ∧ (Lit.int .i64 x.2).wf = true
set_option maxRecDepth 100000 in
theorem open_argR {H : Type} {enc : TypeId × Value → H} {W : World} {fuel : Nat} {v : Value} {y : DataW H × List MemPlace} (h : DataW.trod enc Tryd.prog W 0 (fun _ => true) true fuel 40 [v] = some y) :
    ∃ A n c R, v = .slice A n c ∧ ArgR W A n R := by
  rcases open_slice Tryd.underlying40 h with ⟨hcs, _⟩ | ⟨a, len, cap, m, n, D, Pl, hcs, _, hl, hm, hmm, _, hi⟩
  · injection hcs with hcs
    subst hcs
    exact ⟨none, 0, 0, [], rfl, RunS.nil _ _, fun x hx => absurd hx List.not_mem_nil⟩
  · injection hcs with hcs
    subst hcs
    have hm' : m = cap := by simpa using hmm
    have each : ∀ i, i < len → ∃ q : Int × Int, (W.cell? ((a.add (i * 2)).add 0) = some (.int .i64 q.1) ∧ W.cell? ((a.add (i * 2)).add 1) = some (.int .i64 q.2)) ∧ (Lit.int .i64 q.1).wf = true ∧ (Lit.int .i64 q.2).wf = true := by
      intro i hlt
      obtain ⟨cs', h1, h2⟩ := hi i (by omega)
      rw [show Tryd.prog.cellsOf 96 = 2 by kernel_rfl] at h1
      obtain ⟨_, hlen, hcell⟩ := World.cells?_some h1
      obtain ⟨xs, k, _, _, _, hxl, hf⟩ := DataW.trod_struct Tryd.underlying96 h2
      match xs, hxl, cs', hlen with
      | [y0, y1], _, [v0, v1], _ =>
        have e0 : DataW.trod enc Tryd.prog W 0 (fun _ => true) true k 3 [v0] = some y0 := hf 0 _ rfl
        have e1 : DataW.trod enc Tryd.prog W 0 (fun _ => true) true k 3 [v1] = some y1 := hf 1 _ rfl
        obtain ⟨z0, hz0, _, w0⟩ := DataW.trod_int Tryd.underlying3 e0
        obtain ⟨z1, hz1, _, w1⟩ := DataW.trod_int Tryd.underlying3 e1
        injection hz0 with hz0
        injection hz1 with hz1
        subst hz0
        subst hz1
        exact ⟨(z0, z1), ⟨hcell 0 (by omega), hcell 1 (by omega)⟩, w0, w1⟩
    obtain ⟨q, hq⟩ := choose_lt each
    refine ⟨some a, len, cap, (List.range len).map q, rfl, ⟨by simp, fun hn => ?_⟩, fun x hx => ?_⟩
    · have hc0 := (hq 0 hn).1.1
      obtain ⟨b, off, spot⟩ := a
      have hspot : spot = none := by simpa [Addr.add] using World.cell?_spot hc0
      subst hspot
      have hb : b < W.heap.size := by
        have := World.block_lt_of_cell? W _ hc0
        simpa [Addr.add] using this
      refine ⟨b, off, rfl, hb, fun i o ho => ?_⟩
      obtain ⟨hil, rfl⟩ := get_range ho
      have := (hq i hil).1
      rw [addr_add, addr_add, addr_add, Nat.add_zero] at this
      exact this
    · obtain ⟨i, hi', rfl⟩ := List.mem_map.1 hx
      exact (hq i (by simpa using hi')).2
end Go.Proofs.YtkooconjkimgoaaDoor
