/- How many of some terms are unknown: unknowns. -/
import Derived.Test.YtkooconjkimgoaaDoorNKC
namespace Go.Proofs.YtkooconjkimgoaaDoor
open Go.RowKit

theorem Tm.opAt_nat {l : List Nd} {q : Nat} {x : Nd} (h : l[q]? = some x) : Tm.opAt l (q : Int) = x.op := by
  unfold Tm.opAt
  rw [Int.toNat_natCast, h]
  rfl
theorem Tm.isNum_neg {l : List Nd} {q s : Nat} {x y : Nd} {r : List Int} (h : l[q]? = some x) (ho : x.op = 14) (ha : x.a = (s : Int) :: r) (hy : l[s]? = some y) : Tm.isNum l (q : Int) = decide (y.op = 4) := by
  unfold Tm.isNum
  rw [Tm.opAt_nat h, Int.toNat_natCast, h, ho]
  simp only [Option.map_some, Option.getD_some, ha, List.headD_cons]
  rw [Tm.opAt_nat hy]
  simp
theorem Tm.isNum_not {l : List Nd} {q : Nat} {x : Nd} (h : l[q]? = some x) (ho : x.op ≠ 14) : Tm.isNum l (q : Int) = decide (x.op = 4) := by
  unfold Tm.isNum
  rw [Tm.opAt_nat h]
  simp [ho]
theorem Tm.free_le (l : List Nd) (a : List Int) : Tm.free l a ≤ a.length := by unfold Tm.free; exact List.length_filter_le _ _

set_option maxRecDepth 100000 in
set_option maxHeartbeats 3200000 in
theorem kunknowns9 (w : World) (b : Nat) (F : Nat → Prop) (l : List Nd) (h : Bk w b F l) (hI : Tm.Inv l) (A : Option Addr) (n c : Nat) (a : List Int) (ha : NumS w A n a) (hin : Tm.allIn l a = true) (hn : n ≤ 1000) :
    Calls Tryd.prog 35 #[.pointer (some ⟨b, 0, none⟩), .slice A n c] w fun e w' => e = .returned (.int .i64 ((Tm.free l a : Nat) : Int)) ∧ Below w.heap.size w w' := by
  obtain ⟨A', c', hb, hc, hx⟩ := h.cell
  have HX := Lib.hid hx
  have HC := Lib.hid hc
  have HIn := Lib.hid (Tm.allIn_spec hin)
  have HI := Lib.hid hI
  have HA := Lib.hid ha
  have HLn : Hid (a.length = n) := ha.len
  have HBk := Lib.hid h
  obtain ⟨R, hR⟩ : ∃ R, Tm.free l a = R := ⟨_, rfl⟩
  have HR : Hid (∀ i, i = n → Tm.free l (a.take i) = R) := fun i e => by rw [e, ← HLn.out, List.take_length, hR]
  rw [hR]
  obtain ⟨ln, hlnn⟩ : ∃ ln, l.length = ln := ⟨_, rfl⟩
  rw [hlnn] at HC HIn
  have HLl := Lib.hid hlnn
  clear h hI ha hin hx hc hR hlnn
  go_enter Tryd.func35, Tryd.ntmps35
  go_wp2_with fail
  go_loopw [5, 11] (fun nv iv wr => ∃ i fr : Nat, i ≤ n ∧ fr ≤ i ∧ nv = .int .i64 (fr : Nat) ∧ iv = .int .i64 (i : Nat) ∧ Hid (Below w.heap.size w wr ∧ fr = Tm.free l (a.take i))) (fun _ iv _ => n - (intOf iv).toNat)
  case atStart => exact ⟨0, 0, Nat.zero_le _, Nat.le_refl _, rfl, rfl, Below.refl _ _, rfl⟩
  case round =>
    obtain ⟨i, fr, hi, hfr, rfl, rfl, HQ⟩ := hrel
    by_cases hlt : i < n
    · have hlt' : (i : Int) < (n : Int) := by omega
      have hi0 : (0 : Int) ≤ (i : Int) := by omega
      obtain ⟨bA, oA, z, rfl, hz, hzm, _, hcz⟩ := HA.out.get hlt
      obtain ⟨_, cz⟩ := hcz wr HQ.out.1
      obtain ⟨hz0, hz1⟩ := HIn.out z hzm
      obtain ⟨q, rfl⟩ : ∃ q : Nat, z = (q : Int) := ⟨z.toNat, by omega⟩
      have hq : q < l.length := by have := HLl.out; omega
      obtain ⟨x, hxq⟩ : ∃ x, l[q]? = some x := ⟨_, List.getElem?_eq_getElem hq⟩
      obtain ⟨g, off, P, rfl, hg, hP, hcx⟩ := HX.out q x hxq
      obtain ⟨pA, pn, pc, pg, pB, pm, pd, pC, pp, pf⟩ := P
      have cb : wr.cell? ⟨b, 2, none⟩ = some (.slice (some ⟨g, off, none⟩) ln c') := (HQ.out.1.cell (p := ⟨b, 2, none⟩) hb).trans HC.out
      have cx : ∀ j u, (NdP.cells ⟨pA, pn, pc, pg, pB, pm, pd, pC, pp, pf⟩ x)[j]? = some u → wr.cell? ⟨g, off + q * 7 + j, none⟩ = some u := fun j u hu => (HQ.out.1.cell (p := ⟨g, off + q * 7 + j, none⟩) hg).trans (hcx j u hu)
      have c0 := cx 0 (.int .i64 x.op) rfl
      have c1 := cx 1 (.int .i64 x.sort) rfl
      have c2 := cx 2 (.slice pA pn pc) rfl
      have c3 := cx 3 (.string x.name) rfl
      have c4 := cx 4 (.bool pg) rfl
      have c5 := cx 5 (.slice pB pm pd) rfl
      have c6 := cx 6 (.slice pC pp pf) rfl
      simp only [Nat.add_zero] at c0
      obtain ⟨W1, hW1⟩ : ∃ W1, wr.alloc (.cells (NdP.cells ⟨pA, pn, pc, pg, pB, pm, pd, pC, pp, pf⟩ x) 47) = W1 := ⟨_, rfl⟩
      have B1 : Below wr.heap.size wr W1 := by rw [← hW1]; exact (Below.refl _ wr).alloc (Nat.le_refl _) _
      have L1 : Lies W1 wr.heap.size 47 (NdP.cells ⟨pA, pn, pc, pg, pB, pm, pd, pC, pp, pf⟩ x) := by rw [← hW1]; exact Lies.new wr _ _
      have hBw1 : Below w.heap.size w W1 := HQ.out.1.trans (B1.mono HQ.out.1.size)
      have e0 := L1.cell 0
      simp at e0
      have hiw : IntKind.i64.wrap ((i : Int) + 1) = (i : Int) + 1 := IntWalk.i64_in _ (by omega)
      have hfw : IntKind.i64.wrap ((fr : Int) + 1) = (fr : Int) + 1 := IntWalk.i64_in _ (by omega)
      have hql : (q : Int) < (ln : Int) := hz1
      have HStep : Hid (Tm.free l (a.take (i + 1)) = fr + if Tm.isNum l (q : Int) = true then 0 else 1) := by
        show Tm.free l (a.take (i + 1)) = fr + if Tm.isNum l (q : Int) = true then 0 else 1
        rw [take_one hz, Tm.free_app, ← HQ.out.2]
      by_cases ho : x.op = 14
      · -- the contrary of something
        obtain ⟨y, r, hxa⟩ : ∃ y r, x.a = y :: r := by
          cases e : x.a with
          | nil => exact absurd e (HI.out.neg x (List.mem_of_getElem? hxq) ho)
          | cons y r => exact ⟨y, r, rfl⟩
        obtain ⟨hy0, hy1⟩ := HI.out.part q x hxq y (by rw [hxa]; simp)
        obtain ⟨s, rfl⟩ : ∃ s : Nat, y = (s : Int) := ⟨y.toNat, by omega⟩
        have hs : s < l.length := by omega
        obtain ⟨x2, hx2⟩ : ∃ x2, l[s]? = some x2 := ⟨_, List.getElem?_eq_getElem hs⟩
        obtain ⟨g2, off2, P2, e2, hg2, hP2, hcx2⟩ := HX.out s x2 hx2
        obtain ⟨qA, qn, qc, qg, qB, qm, qd, qC, qp, qf⟩ := P2
        injection e2 with e2
        injection e2 with e3 e4
        subst e3
        subst e4
        have hsl : (s : Int) < (ln : Int) := by have := HLl.out; omega
        have hpn : 0 < pn := by
          have : x.a.length = pn := hP.a.len
          rw [hxa] at this
          simp at this
          omega
        have hpn' : (0 : Int) < (pn : Int) := by omega
        obtain ⟨bP, oP, y2, eP, hy2, _, _, hcP⟩ := hP.a.get hpn
        simp only at eP
        obtain rfl : (s : Int) = y2 := by
          rw [hxa] at hy2
          simpa using hy2
        subst eP
        have cP := (hcP W1 hBw1).2
        have cb1 : W1.cell? ⟨b, 2, none⟩ = some (.slice (some ⟨g, off, none⟩) ln c') := (hBw1.cell (p := ⟨b, 2, none⟩) hb).trans HC.out
        have cx2 : ∀ j u, (NdP.cells ⟨qA, qn, qc, qg, qB, qm, qd, qC, qp, qf⟩ x2)[j]? = some u → W1.cell? ⟨g, off + s * 7 + j, none⟩ = some u := fun j u hu => (hBw1.cell (p := ⟨g, off + s * 7 + j, none⟩) hg).trans (hcx2 j u hu)
        have d0 := cx2 0 (.int .i64 x2.op) rfl
        have d1 := cx2 1 (.int .i64 x2.sort) rfl
        have d2 := cx2 2 (.slice qA qn qc) rfl
        have d3 := cx2 3 (.string x2.name) rfl
        have d4 := cx2 4 (.bool qg) rfl
        have d5 := cx2 5 (.slice qB qm qd) rfl
        have d6 := cx2 6 (.slice qC qp qf) rfl
        simp only [Nat.add_zero] at d0 cP
        have eb2 := L1.cell 2
        simp at eb2
        have d14 : (x.op == 14) = true := by rw [ho]; rfl
        have HNm := Lib.hid (Tm.isNum_neg hxq ho hxa hx2)
        have HL1 := Lib.hid L1
        have HB1 := Lib.hid hBw1
        clear ho cx2 hcx2 hP2 hx2 hcP hy2 hP hxa hy1 hy0 hs cx hcx hxq hq hz hzm hcz hz0 hz1 HA HX HC HIn HI HLn HBk HR HLl B1 L1 hBw1 hg hg2
        go_wp2_with fail
        go_still_tail 10, (by kernel_rfl)
        change wpList _ _ _ _ _ W1.drew
        have hLd : Lies W1.drew wr.heap.size 47 (NdP.cells ⟨some ⟨bP, oP, none⟩, pn, pc, pg, pB, pm, pd, pC, pp, pf⟩ x) := HL1.out
        have hBd : Below w.heap.size w W1.drew := HB1.out.trans ⟨rfl, rfl, rfl, Nat.le_refl _, fun _ _ => rfl⟩
        clear HB1 HL1 c0 c1 c2 c3 c4 c5 c6 d0 d1 d2 d3 d4 d5 d6 e0 eb2 cP cb1 cb cz hW1
        generalize W1.drew = D at *
        obtain ⟨W4, hW4⟩ : ∃ W4, ((((((D.setCell ⟨wr.heap.size, 0, none⟩ (.int .i64 x2.op)).setCell ⟨wr.heap.size, 1, none⟩ (.int .i64 x2.sort)).setCell ⟨wr.heap.size, 2, none⟩ (.slice qA qn qc)).setCell ⟨wr.heap.size, 3, none⟩ (.string x2.name)).setCell ⟨wr.heap.size, 4, none⟩ (.bool qg)).setCell ⟨wr.heap.size, 5, none⟩ (.slice qB qm qd)).setCell ⟨wr.heap.size, 6, none⟩ (.slice qC qp qf) = W4 := ⟨_, rfl⟩
        have hL4 : Lies W4 wr.heap.size 47 #[.int .i64 x2.op, .int .i64 x2.sort, .slice qA qn qc, .string x2.name, .bool qg, .slice qB qm qd, .slice qC qp qf] := by
          rw [← hW4]
          exact ((((((hLd.put 0 (.int .i64 x2.op)).put 1 (.int .i64 x2.sort)).put 2 (.slice qA qn qc)).put 3 (.string x2.name)).put 4 (.bool qg)).put 5 (.slice qB qm qd)).put 6 (.slice qC qp qf)
        have T4 : Turn (fun k => k = wr.heap.size) D W4 := by
          rw [← hW4]
          exact (((((((Turn.refl (fun k => k = wr.heap.size) D).put (p := ⟨wr.heap.size, 0, none⟩) (.inl rfl) _).put (p := ⟨wr.heap.size, 1, none⟩) (.inl rfl) _).put (p := ⟨wr.heap.size, 2, none⟩) (.inl rfl) _).put (p := ⟨wr.heap.size, 3, none⟩) (.inl rfl) _).put (p := ⟨wr.heap.size, 4, none⟩) (.inl rfl) _).put (p := ⟨wr.heap.size, 5, none⟩) (.inl rfl) _).put (p := ⟨wr.heap.size, 6, none⟩) (.inl rfl) _
        have HB4 : Hid (Below w.heap.size w W4) :=
          ((Turn.of_below (F := fun k => w.heap.size ≤ k) hBd).trans T4 (fun k hk => .inl (by have := HQ.out.1.size; omega))).below (Nat.le_refl _) (fun _ h => h)
        have k0 : W4.cell? ⟨wr.heap.size, 0, none⟩ = some (.int .i64 x2.op) := by rw [hL4.cell]; rfl
        have r0 := hLd.cell 0
        have r1 := hLd.cell 1
        have r2 := hLd.cell 2
        have r3 := hLd.cell 3
        have r4 := hLd.cell 4
        have r5 := hLd.cell 5
        have r6 := hLd.cell 6
        have y0 := hLd.free 0
        have y1 := hLd.free 1
        have y2 := hLd.free 2
        have y3 := hLd.free 3
        have y4 := hLd.free 4
        have y5 := hLd.free 5
        have y6 := hLd.free 6
        have ll := hLd.lt
        simp at r0 r1 r2 r3 r4 r5 r6
        clear hLd hL4 T4 hBd
        obtain ⟨isn, hisn⟩ : ∃ t, Tm.isNum l (q : Int) = t := ⟨_, rfl⟩
        rw [hisn] at HStep HNm
        cases isn with
        | true =>
          have h4 : x2.op = 4 := of_decide_eq_true HNm.out.symm
          have d4 : (x2.op != 4) = false := by rw [h4]; rfl
          have HV : Hid (Below w.heap.size w W4 ∧ fr = Tm.free l (a.take (i + 1))) := ⟨HB4.out, by rw [HStep.out]; rfl⟩
          clear HNm hisn HStep HB4 HQ h4
          go_wp2
          go_roundw
          case rel => exact ⟨i + 1, fr, by omega, by omega, by go_num, by go_num, HV.out⟩
          case measure => simp [intOf]; omega
        | false =>
          have h4 : x2.op ≠ 4 := of_decide_eq_false HNm.out.symm
          have d4 : (x2.op != 4) = true := bne_iff_ne.2 h4
          have HV : Hid (Below w.heap.size w W4 ∧ fr + 1 = Tm.free l (a.take (i + 1))) := ⟨HB4.out, by rw [HStep.out]; rfl⟩
          clear HNm hisn HStep HB4 HQ h4
          go_wp2
          go_roundw
          case rel => exact ⟨i + 1, fr + 1, by omega, by omega, by go_num, by go_num, HV.out⟩
          case measure => simp [intOf]; omega
      · -- something else
        have d14 : (x.op == 14) = false := beq_eq_false_iff_ne.2 ho
        have HNm := Lib.hid (Tm.isNum_not hxq ho)
        have HB1 := Lib.hid hBw1
        clear ho hP cx hcx hxq hq hz hzm hcz hz0 hz1 HA HX HC HIn HI HLn HBk HR HLl B1 L1 hBw1 hg
        obtain ⟨isn, hisn⟩ : ∃ t, Tm.isNum l (q : Int) = t := ⟨_, rfl⟩
        rw [hisn] at HStep HNm
        cases isn with
        | true =>
          have h4 : x.op = 4 := of_decide_eq_true HNm.out.symm
          have d4 : (x.op != 4) = false := by rw [h4]; rfl
          have HV : Hid (Below w.heap.size w W1 ∧ fr = Tm.free l (a.take (i + 1))) := ⟨HB1.out, by rw [HStep.out]; rfl⟩
          clear HNm hisn HStep HB1 HQ h4
          go_wp2
          go_roundw
          case rel => exact ⟨i + 1, fr, by omega, by omega, by go_num, by go_num, HV.out⟩
          case measure => simp [intOf]; omega
        | false =>
          have h4 : x.op ≠ 4 := of_decide_eq_false HNm.out.symm
          have d4 : (x.op != 4) = true := bne_iff_ne.2 h4
          have HV : Hid (Below w.heap.size w W1 ∧ fr + 1 = Tm.free l (a.take (i + 1))) := ⟨HB1.out, by rw [HStep.out]; rfl⟩
          clear HNm hisn HStep HB1 HQ h4
          go_wp2
          go_roundw
          case rel => exact ⟨i + 1, fr + 1, by omega, by omega, by go_num, by go_num, HV.out⟩
          case measure => simp [intOf]; omega
    · have him : i = n := by omega
      have hlt2 : ¬ (i : Int) < (n : Int) := by omega
      have hfR : fr = R := by rw [HQ.out.2]; exact HR.out i him
      subst hfR
      have HV := Lib.hid HQ.out.1
      clear HQ HA HX HC HIn HI HLn HBk HR HLl hlt him hi
      go_wp2
      go_ret
      exact ⟨rfl, HV.out⟩
end Go.Proofs.YtkooconjkimgoaaDoor
