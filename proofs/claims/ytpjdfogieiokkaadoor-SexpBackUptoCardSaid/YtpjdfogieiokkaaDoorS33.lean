/- An s-expression that came in. -/
import Derived.Test.YtpjdfogieiokkaaDoorRows
import Derived.Test.YtpjdfogieiokkaaDoorS2
import Derived.Test.YtpjdfogieiokkaaDoorHP
import Derived.Deep.Slices
import Derived.Deep.Fields
import Derived.ChangeSame
import Derived.WideShapes
namespace Go.Proofs.YtpjdfogieiokkaaDoor
open Go.RowKit Go.ChangeShapes Go.WideShapes Go.Deep

theorem bulk_le {H : Type} {d : DataW H} {l : List (DataW H)} (h : d ∈ l) : Rows.uptoBulk d ≤ Rows.uptoBulkAll l := by
  induction l with
  | nil => cases h
  | cons x r ih =>
    simp only [Rows.uptoBulkAll]
    cases List.mem_cons.1 h with
    | inl e => subst e; omega
    | inr e => have := ih e; omega

set_option maxRecDepth 100000 in
theorem open_sx {H : Type} {enc : TypeId × Value → H} {W : World} : ∀ (N fuel : Nat) (cs : List Value) (y : DataW H × List MemPlace), fuel ≤ N → DataW.trod enc Tryd.prog W 0 (fun _ => true) true fuel 34 cs = some y →
    ∃ x A c, cs = scells x A c ∧ STree W AnyP x A c ∧ x.size ≤ Rows.uptoBulk y.1 ∧ x.wide ≤ Rows.uptoBulk y.1 := by
  intro N
  induction N with
  | zero =>
    intro fuel cs y hN h
    obtain ⟨_, _, e, _⟩ := DataW.trod_struct Tryd.underlying34 h
    omega
  | succ N ih =>
    intro fuel cs y hN h
    obtain ⟨xs, n, hfu, hy, hlen, hxl, hf⟩ := DataW.trod_struct Tryd.underlying34 h
    rw [show Tryd.prog.cellsOf 34 = 6 by kernel_rfl] at hlen
    match xs, hxl, cs, hlen with
    | [y0, y1, y2, y3], _, [v0, v1, v2, v3, v4, v5], _ =>
      have e0 : DataW.trod enc Tryd.prog W 0 (fun _ => true) true n 4 [v0] = some y0 := hf 0 _ rfl
      have e1 : DataW.trod enc Tryd.prog W 0 (fun _ => true) true n 31 [v1, v2, v3] = some y1 := hf 1 _ rfl
      have e2 : DataW.trod enc Tryd.prog W 0 (fun _ => true) true n 3 [v4] = some y2 := hf 2 _ rfl
      have e3 : DataW.trod enc Tryd.prog W 0 (fun _ => true) true n 32 [v5] = some y3 := hf 3 _ rfl
      obtain ⟨b0, hb0, hy0⟩ := DataW.trod_bool Tryd.underlying4 e0
      obtain ⟨z4, hz4, hy2, _⟩ := DataW.trod_int Tryd.underlying3 e2
      obtain ⟨ts, k, _, hty, _, htl, htf⟩ := DataW.trod_struct Tryd.underlying31 e1
      match ts, htl with
      | [t0, t1, t2], _ =>
        have f0 : DataW.trod enc Tryd.prog W 0 (fun _ => true) true k 3 [v1] = some t0 := htf 0 _ rfl
        have f1 : DataW.trod enc Tryd.prog W 0 (fun _ => true) true k 9 [v2] = some t1 := htf 1 _ rfl
        have f2 : DataW.trod enc Tryd.prog W 0 (fun _ => true) true k 3 [v3] = some t2 := htf 2 _ rfl
        obtain ⟨z1, hz1, ht0, _⟩ := DataW.trod_int Tryd.underlying3 f0
        obtain ⟨T, hT, ht1, _⟩ := DataW.trod_string Tryd.underlying9 f1
        obtain ⟨z3, hz3, ht2, _⟩ := DataW.trod_int Tryd.underlying3 f2
        injection hb0 with hb0
        injection hz4 with hz4
        injection hz1 with hz1
        injection hT with hT
        injection hz3 with hz3
        subst hb0 hz4 hz1 hT hz3
        clear e0 e1 e2 f0 f1 f2 hf htf
        have hTs : T.size = T.data.toList.length := by rw [Array.length_toList]; rfl
        rcases DataW.trod_slice Tryd.underlying32 e3 with ⟨hcs, h3⟩ | ⟨a, len, cap, elems, rest, n2, hn2, hcs, h3, _, hl, hm, hel, hi, _, _⟩
        · injection hcs with hcs
          subst hcs
          refine ⟨⟨b0, z1, T, z3, z4, []⟩, none, 0, rfl, ⟨⟨Nat.le_refl _, Nat.zero_le _⟩, .nil _⟩, ?_, ?_⟩
          · rw [hy, Sx.size_eq]
            simp only [Sx.sizes, Rows.uptoBulk]
            omega
          · rw [hy, Sx.wide_eq]
            simp only [Sx.wides, Rows.uptoBulk, Rows.uptoBulkAll, List.map_cons, List.map_nil, hty, ht0, ht1, ht2, hy0, hy2, h3]
            omega
        · injection hcs with hcs
          subst hcs
          have each : ∀ i, i < len → ∃ q cs', elems[i]? = some q ∧ W.cells? 0 (a.add (i * 6)) 6 = some cs' ∧ ∃ x A c, cs' = scells x A c ∧ STree W AnyP x A c ∧ x.size ≤ Rows.uptoBulk q.1 ∧ x.wide ≤ Rows.uptoBulk q.1 := by
            intro i hlt
            have hii := hi i hlt
            rw [show Tryd.prog.cellsOf 34 = 6 by kernel_rfl] at hii
            obtain ⟨q, hq⟩ : ∃ q, elems[i]? = some q := ⟨_, List.getElem?_eq_getElem (by omega)⟩
            rw [hq] at hii
            obtain ⟨cs', h1, h2⟩ := Option.bind_eq_some_iff.1 hii
            exact ⟨q, cs', hq, h1, ih n2 cs' q (by omega) h2⟩
          have row : ∃ L : List Sx, L.length = len ∧ TreeL W AnyP (some a) L ∧ Sx.sizes L ≤ Rows.uptoBulkAll (elems.map (·.1)) ∧ Sx.wides L ≤ Rows.uptoBulkAll (elems.map (·.1)) := by
            cases len with
            | zero => exact ⟨[], rfl, .nil _, by simp [Sx.sizes], by simp [Sx.wides]⟩
            | succ len =>
              obtain ⟨_, cs0, _, hc0, x0, A0, c0, rfl, _⟩ := each 0 (by omega)
              obtain ⟨_, _, hcell0⟩ := World.cells?_some hc0
              have hc00 := hcell0 0 (by omega)
              obtain ⟨b, off, spot⟩ := a
              have hspot : spot = none := by simpa [Addr.add] using World.cell?_spot hc00
              subst hspot
              clear hcell0 hc00 hc0
              have go : ∀ m i, i + m = len + 1 → ∃ L : List Sx, L.length = m ∧ TreeL W AnyP (some ⟨b, off + i * 6, none⟩) L ∧ Sx.sizes L ≤ Rows.uptoBulkAll ((elems.drop i).map (·.1)) ∧ Sx.wides L ≤ Rows.uptoBulkAll ((elems.drop i).map (·.1)) := by
                intro m
                induction m with
                | zero => intro i _; exact ⟨[], rfl, .nil _, by simp [Sx.sizes], by simp [Sx.wides]⟩
                | succ m im =>
                  intro i him
                  obtain ⟨L, hL, hTr, hs, hw⟩ := im (i + 1) (by omega)
                  obtain ⟨q, cs', hq, hc, x, A, c, rfl, hST, hxs, hxw⟩ := each i (by omega)
                  obtain ⟨hqi, hqe⟩ := List.getElem?_eq_some_iff.1 hq
                  have hdr : elems.drop i = q :: elems.drop (i + 1) := by rw [← hqe]; exact List.drop_eq_getElem_cons hqi
                  obtain ⟨_, _, hcell⟩ := World.cells?_some hc
                  have g0 := hcell 0 (by omega)
                  have g1 := hcell 1 (by omega)
                  have g2 := hcell 2 (by omega)
                  have g3 := hcell 3 (by omega)
                  have g4 := hcell 4 (by omega)
                  have g5 := hcell 5 (by omega)
                  rw [addr_add, addr_add] at g0 g1 g2 g3 g4 g5
                  simp only [Nat.add_zero] at g0
                  have hb : b < W.heap.size := by
                    have := World.block_lt_of_cell? W _ g0
                    simpa using this
                  refine ⟨x :: L, by rw [List.length_cons, hL], .cons b (off + i * 6) x L A c ⟨hb, g0, g1, g2, g3, g4, g5⟩ trivial hST.le hST.tree ?_, ?_, ?_⟩
                  · rw [show off + i * 6 + 6 = off + (i + 1) * 6 by omega]
                    exact hTr
                  · rw [hdr, Sx.sizes, List.map_cons, Rows.uptoBulkAll]
                    omega
                  · rw [hdr, Sx.wides, List.map_cons, Rows.uptoBulkAll]
                    omega
              obtain ⟨L, h1, h2, h3, h4⟩ := go (len + 1) 0 (by omega)
              refine ⟨L, h1, ?_, by simpa using h3, by simpa using h4⟩
              rw [Nat.zero_mul, Nat.add_zero] at h2
              exact h2
          obtain ⟨L, hLl, hTr, hs, hw⟩ := row
          refine ⟨⟨b0, z1, T, z3, z4, L⟩, some a, cap, by rw [scells, ← hLl], ⟨⟨by rw [hLl]; exact hl, hm⟩, hTr⟩, ?_, ?_⟩
          · rw [hy, Sx.size_eq]
            simp only [Rows.uptoBulk, Rows.uptoBulkAll, List.map_cons, List.map_nil, h3]
            omega
          · rw [hy, Sx.wide_eq]
            simp only [Rows.uptoBulk, Rows.uptoBulkAll, List.map_cons, List.map_nil, hty, ht0, ht1, ht2, hy0, hy2, h3]
            omega

set_option maxRecDepth 100000 in
/-- the parameter -/
theorem open_sexp {H : Type} {enc : TypeId × Value → H} {W : World} {base : Nat} {v : Value} {d : DataW H} {p : List MemPlace} (hv : Value.okWide Tryd.prog W .any base 34 v) (h : DataW.Trod enc Tryd.prog W 0 (fun _ => true) true 34 v d p) :
    ∃ x A c, v = sval x A c ∧ STree W AnyP x A c ∧ x.size ≤ Rows.uptoBulk d ∧ x.wide ≤ Rows.uptoBulk d := by
  obtain ⟨cs, rfl, _⟩ := okWide_struct Tryd.underlying34 hv
  obtain ⟨fuel, hf⟩ := h
  obtain ⟨x, A, c, e, h1, h2, h3⟩ := open_sx fuel fuel _ _ (Nat.le_refl _) hf
  refine ⟨x, A, c, ?_, h1, h2, h3⟩
  have e' : cs.toList = scells x A c := e
  rw [show cs = (scells x A c).toArray from by rw [← e']]
end Go.Proofs.YtpjdfogieiokkaaDoor
