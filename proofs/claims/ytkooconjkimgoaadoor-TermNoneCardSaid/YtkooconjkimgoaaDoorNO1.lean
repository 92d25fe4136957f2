/- Calls of a bank that came in. -/
import Derived.Test.YtkooconjkimgoaaDoorN8
import Derived.Test.YtkooconjkimgoaaDoorGW
import Derived.Test.YtkooconjkimgoaaDoorI1
import Derived.Test.YtkooconjkimgoaaDoorJ14
import Derived.Deep.Slices
import Derived.Deep.Fields
import Derived.ChangeSame
namespace Go.Proofs.YtkooconjkimgoaaDoor
open Go.RowKit Go.ChangeShapes Go.WideShapes Go.Deep

theorem sg_abs9 (g : Bool) (N : Nat) : (Z.sg g N).natAbs = N := by cases g <;> simp [Z.sg]
theorem win9 {w : World} {g : Bool} {A : Option Addr} {n c : Nat} {l : List Nat} (h : Lims w A n l) (h1 : n ≤ c) (h2 : c ≤ maxLen) (hn : n ≤ 1000000) : WIn w g A n c (Z.sg g (M.val l)) :=
  ⟨⟨l, h, by rw [sg_abs9], h1, h2, hn⟩, by rw [sg_abs9]⟩
set_option maxRecDepth 100000 in
theorem call_cells {H : Type} {enc : TypeId × Value → H} {W : World} {fuel : Nat} {cs : List Value} {y : DataW H × List MemPlace} (h : DataW.trod enc Tryd.prog W 0 (fun _ => true) true fuel 42 cs = some y) :
    ∃ (P : ClP) (x : Cl), cs = (P.cells x).toList ∧ ClAs W P x := by
  obtain ⟨xs, k, _, _, hlen, hxl, hf⟩ := DataW.trod_struct Tryd.underlying42 h
  rw [show Tryd.prog.cellsOf 42 = 9 by kernel_rfl] at hlen
  match xs, hxl, cs, hlen with
  | [y0, y1, y2, y3, y4, y5, y6, y7], _, [v0, v1, v2, v3, v4, v5, v6, v7, v8], _ =>
    have e0 : DataW.trod enc Tryd.prog W 0 (fun _ => true) true k 3 [v0] = some y0 := hf 0 _ rfl
    have e1 : DataW.trod enc Tryd.prog W 0 (fun _ => true) true k 3 [v1] = some y1 := hf 1 _ rfl
    have e2 : DataW.trod enc Tryd.prog W 0 (fun _ => true) true k 3 [v2] = some y2 := hf 2 _ rfl
    have e3 : DataW.trod enc Tryd.prog W 0 (fun _ => true) true k 36 [v3] = some y3 := hf 3 _ rfl
    have e4 : DataW.trod enc Tryd.prog W 0 (fun _ => true) true k 9 [v4] = some y4 := hf 4 _ rfl
    have e5 : DataW.trod enc Tryd.prog W 0 (fun _ => true) true k 4 [v5] = some y5 := hf 5 _ rfl
    have e6 : DataW.trod enc Tryd.prog W 0 (fun _ => true) true k 39 [v6, v7] = some y6 := hf 6 _ rfl
    have e7 : DataW.trod enc Tryd.prog W 0 (fun _ => true) true k 40 [v8] = some y7 := hf 7 _ rfl
    obtain ⟨z0, hz0, _⟩ := DataW.trod_int Tryd.underlying3 e0
    obtain ⟨z1, hz1, _⟩ := DataW.trod_int Tryd.underlying3 e1
    obtain ⟨z2, hz2, _⟩ := DataW.trod_int Tryd.underlying3 e2
    obtain ⟨A, n, c, zs, hA, ha⟩ := open_argI e3
    obtain ⟨s, hs, _⟩ := DataW.trod_string Tryd.underlying9 e4
    obtain ⟨b, hb, _⟩ := DataW.trod_bool Tryd.underlying4 e5
    obtain ⟨us, k2, _, _, _, hul, hg⟩ := DataW.trod_struct Tryd.underlying39 e6
    match us, hul with
    | [u0, u1], _ =>
      have g0 : DataW.trod enc Tryd.prog W 0 (fun _ => true) true k2 4 [v6] = some u0 := hg 0 _ rfl
      have g1 : DataW.trod enc Tryd.prog W 0 (fun _ => true) true k2 37 [v7] = some u1 := hg 1 _ rfl
      obtain ⟨g, hgb, _⟩ := DataW.trod_bool Tryd.underlying4 g0
      obtain ⟨B, m, d, ls, hB, hl1, hl2, hl3, _⟩ := open_limbs g1
      obtain ⟨C, p, f, R, hC, hR⟩ := open_argR e7
      injection hz0 with hz0
      injection hz1 with hz1
      injection hz2 with hz2
      injection hs with hs
      injection hb with hb
      injection hgb with hgb
      subst hz0 hz1 hz2 hA hs hb hgb hB hC
      exact ⟨⟨A, n, c, g, B, m, d, C, p, f⟩, ⟨z0, z1, z2, zs, s, b, Z.sg g (M.val ls), R⟩, rfl, NumS.of_arg ha, ha.1.nil, fun e => win9 hl1 hl2 hl3 (Nat.le_trans e (by decide)), hR.1, ha.2, hR.2⟩
set_option maxRecDepth 100000 in
theorem open_calls {H : Type} {enc : TypeId × Value → H} {W : World} {fuel : Nat} {v : Value} {y : DataW H × List MemPlace} (h : DataW.trod enc Tryd.prog W 0 (fun _ => true) true fuel 22 [v] = some y) :
    ∃ A n c l, v = .slice A n c ∧ ClS W A n l := by
  rcases open_slice Tryd.underlying22 h with ⟨hcs, _⟩ | ⟨a, len, cap, m, n, D, Pl, hcs, _, hl, hm, hmm, _, hi⟩
  · injection hcs with hcs
    subst hcs
    exact ⟨none, 0, 0, [], rfl, ⟨rfl, fun hn => absurd hn (by omega)⟩⟩
  · injection hcs with hcs
    subst hcs
    have hm' : m = cap := by simpa using hmm
    have each : ∀ i, i < len → ∃ q : ClP × Cl, (∀ j u, (q.1.cells q.2)[j]? = some u → W.cell? ((a.add (i * 9)).add j) = some u) ∧ ClAs W q.1 q.2 := fun i hil => by
      obtain ⟨cs', h1, h2⟩ := hi i (by omega)
      rw [show Tryd.prog.cellsOf 42 = 9 by kernel_rfl] at h1
      obtain ⟨_, hlen, hcell⟩ := World.cells?_some h1
      obtain ⟨P, x, rfl, hc⟩ := call_cells h2
      refine ⟨(P, x), fun j u hu => ?_, hc⟩
      have hj := (Array.getElem?_eq_some_iff.1 hu).1
      have := hcell j (by simpa using hj)
      rw [this]
      simpa using hu
    haveI : Inhabited (ClP × Cl) := ⟨(⟨none, 0, 0, false, none, 0, 0, none, 0, 0⟩, ⟨0, 0, 0, [], ByteArray.empty, false, 0, []⟩)⟩
    obtain ⟨q, hq⟩ := choose_lt each
    refine ⟨some a, len, cap, (List.range len).map q, rfl, ⟨by simp, fun hn => ?_⟩⟩
    have hc0 := (hq 0 hn).1 0 _ rfl
    obtain ⟨b, off, spot⟩ := a
    have hspot : spot = none := by simpa [Addr.add] using World.cell?_spot hc0
    subst hspot
    have hb : b < W.heap.size := by
      have := World.block_lt_of_cell? W _ hc0
      simpa [Addr.add] using this
    refine ⟨b, off, rfl, hb, fun i o ho => ?_⟩
    obtain ⟨hil, rfl⟩ := get_range ho
    refine ⟨fun j u hu => ?_, (hq i hil).2⟩
    have := (hq i hil).1 j u hu
    rw [addr_add, addr_add] at this
    exact this
set_option maxRecDepth 100000 in
theorem open_call {H : Type} {enc : TypeId × Value → H} {W : World} {r : Reach} {b0 : Nat} {v : Value} {d : DataW H} {p : List MemPlace} (hv : Value.okWide Tryd.prog W r b0 42 v) (h : DataW.Trod enc Tryd.prog W 0 (fun _ => true) true 42 v d p) :
    ∃ (P : ClP) (x : Cl) (_ : Unit), v = .agg (P.cells x) ∧ ClAs W P x := by
  obtain ⟨cs, rfl, _⟩ := okWide_struct Tryd.underlying42 hv
  obtain ⟨fuel, hf⟩ := h
  obtain ⟨P, x, e, hc⟩ := call_cells hf
  refine ⟨P, x, (), ?_, hc⟩
  congr 1
  exact Array.ext' e
end Go.Proofs.YtkooconjkimgoaaDoor
