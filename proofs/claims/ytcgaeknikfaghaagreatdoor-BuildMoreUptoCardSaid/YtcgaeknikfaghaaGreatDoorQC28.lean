/- What the proofs of this claim use, text by text. -/
import Derived.Test.YtcgaeknikfaghaaGreatDoorQC26
import Derived.Test.YtcgaeknikfaghaaGreatDoorQC27
import Derived.Lib.ConvBytes
import Derived.Lib.AtoiErrMem
import Derived.Lib.MinMax
set_option linter.unusedSimpArgs false
set_option linter.unusedVariables false
set_option maxRecDepth 100000
set_option maxHeartbeats 25600000
namespace Go.Proofs.YtcgaeknikfaghaaGreatDoor
open Go.RowKit
theorem text_eq (a b : ByteArray) : (a.toList == b.toList) = decide (a = b) := by
  rw [ByteArray.toList_eq, ByteArray.toList_eq]
  by_cases e : a = b
  · subst e
    rw [decide_eq_true rfl, beq_iff_eq.2 rfl]
  · rw [decide_eq_false e, beq_eq_false_iff_ne]
    exact fun h => e (bytes_eq h)
theorem kuses10 (s : ByteArray) : ∀ (k : Nat) (x : Sx) (A : Option Addr) (c : Nat) (w : World), x.size ≤ k → k ≤ 1000000000 → STree w AnyP x A c →
    Calls Tryz.prog 28 #[sval x A c, .string s] w fun e w' => e = .returned (.bool (x.uses s)) ∧ Below w.heap.size w w' := by
  intro k
  induction k with
  | zero =>
    intro x A c w hk
    exact absurd hk (by have := x.size_pos; omega)
  | succ k ih =>
    intro x A c w hk hk9 h
    obtain ⟨r, hr⟩ : ∃ r, x.uses s = r := ⟨_, rfl⟩
    rw [hr]
    by_cases hl : x.list = true
    case neg =>
      have hl : x.list = false := by simpa using hl
      rw [Sx.uses_atom hl] at hr
      obtain ⟨xl, xk, xT, xta, xa, L⟩ := x
      simp only at hl hr
      subst hl
      have ht := text_eq xT s
      clear h hk
      by_cases h3 : xk = 3
      · have e3 : (xk == 3) = true := by simp [h3]
        rw [decide_eq_true h3, Bool.true_and] at hr
        rw [hr] at ht
        clear h3 hr
        go_enter Tryz.func28, Tryz.ntmps28
        go_wp2
        go_ret
        exact ⟨rfl, (Below.refl _ w).alloc (Nat.le_refl _) _⟩
      · have e3 : (xk == 3) = false := by simp [h3]
        rw [decide_eq_false h3, Bool.false_and] at hr
        clear ht h3
        subst hr
        go_enter Tryz.func28, Tryz.ntmps28
        go_wp2
        go_ret
        exact ⟨rfl, (Below.refl _ w).alloc (Nat.le_refl _) _⟩
    case pos =>
      rw [Sx.uses_list hl] at hr
      obtain ⟨n, hn⟩ : ∃ n, x.L.length = n := ⟨_, rfl⟩
      have HN := Lib.hid hn
      have HR := Lib.hid hr
      have hlm : n ≤ maxLen := hn ▸ Nat.le_trans h.le.1 h.le.2
      unfold maxLen at hlm
      have HSz : Hid (∀ y ∈ x.L, y.size ≤ k) := fun y hy => by have := Sx.size_lt hy; omega
      unfold sval
      rw [hn, hl]
      clear hn hr hk
      go_enter Tryz.func28, Tryz.ntmps28
      go_wp2
      generalize hW0 : w.alloc (Obj.cells #[Value.bool true, Value.int IntKind.i64 x.k, Value.string x.T, Value.int IntKind.i64 x.ta, Value.int IntKind.i64 x.at_, Value.slice A n c] 27) = W0
      have HB0 := Lib.hid (sbox_in HN.out hl h hW0)
      clear h hW0
      go_loopw [5, 6] (fun iv uv wr => ∃ i : Nat, i ≤ n ∧ iv = .int .i64 (i : Nat) ∧ Below W0.heap.size W0 wr ∧ Hid ((x.L.drop i).any (Sx.uses s) = r)) (fun iv _ _ => n - (intOf iv).toNat)
      case atStart => exact ⟨0, Nat.zero_le _, rfl, Below.refl _ _, HR.out⟩
      case round =>
        obtain ⟨i, hi, rfl, hb, HI⟩ := hrel
        obtain ⟨hb1, ht1, hbx1⟩ := HB0.out
        obtain ⟨_, q0, q1, q2, q3, q4, q5⟩ := hbx1.below hb
        rw [HN.out] at q5
        simp only [Nat.zero_add] at q0 q1 q2 q3 q4 q5
        have HB := Lib.hid (hb1.trans (hb.mono hb1.size))
        by_cases hlt : i < n
        · obtain ⟨b, off, y, A', c', rfl, hy, hdr, hym, hs, hty⟩ := (ht1.kept hb).get (i := i) (by rw [HN.out]; exact hlt)
          obtain ⟨y_, y0, y1, y2, y3, y4, y5⟩ := hs
          have hIH := Lib.hid (ih y A' c' wr (HSz.out y hym) (by omega) hty)
          have hrr := HI.out
          rw [hdr, List.any_cons] at hrr
          obtain ⟨u, hu⟩ : ∃ u, y.uses s = u := ⟨_, rfl⟩
          rw [hu] at hIH hrr
          have HRR := Lib.hid hrr
          have HBr := Lib.hid hb
          have hlt' : (i : Int) < (n : Int) := by omega
          have hi0 : (0 : Int) ≤ (i : Int) := by omega
          have hiw : IntKind.i64.wrap ((i : Int) + 1) = (i : Int) + 1 := IntWalk.i64_in _ (by omega)
          clear hu HI ht1 hbx1 hb1 hb hdr hy hym hty hrr HR HSz
          go_wp2_with fail
          refine hIH.out.mono ?_
          rintro e w2 ⟨rfl, b2⟩
          have HB2 := Lib.hid (HB.out.trans (b2.mono HB.out.size))
          have HBr2 := Lib.hid (HBr.out.trans (b2.mono HBr.out.size))
          clear hIH b2 HB HBr y0 y1 y2 y3 y4 y5
          cases u with
          | true =>
            have hrt : r = true := by have := HRR.out; simpa using this.symm
            subst hrt
            clear HRR
            go_wp2
            go_ret
            exact ⟨rfl, HB2.out⟩
          | false =>
            have HN2 : Hid ((x.L.drop (i + 1)).any (Sx.uses s) = r) := by
              show _ = r
              have := HRR.out
              simpa using this
            clear HRR
            go_wp2
            go_roundw
            case rel => exact ⟨i + 1, by omega, by go_num, HBr2.out, HN2⟩
            case measure => simp [intOf]; omega
        · obtain rfl : i = n := by omega
          have hlt' : ¬ (i : Int) < (i : Int) := by omega
          have hrf : r = false := by
            have := HI.out
            rw [List.drop_of_length_le (by rw [HN.out]; exact Nat.le_refl _)] at this
            simpa using this.symm
          subst hrf
          clear HI ht1 hbx1 hb1 hb HR
          go_wp2
          go_ret
          exact ⟨rfl, HB.out⟩
def Bd.sort (x : Sx) : Int × Int := if x.list = false ∧ x.k = 3 then (if x.T.data.toList = [66, 111, 111, 108] then (1, 0) else if x.T.data.toList = [73, 110, 116] then (2, 0) else if x.T.data.toList = [83, 116, 114, 105, 110, 103] then (3, 0) else (0, 101)) else (0, 101)
theorem ksort10 (w : World) (x : Sx) (A : Option Addr) (c : Nat) :
    Calls Tryz.prog 19 #[sval x A c] w fun e w' => e = .returned (.tuple #[.int .i64 (Bd.sort x).1, .int .i64 (Bd.sort x).2]) ∧ Below w.heap.size w w' := by
  obtain ⟨W0, hW0⟩ : ∃ W0, w.alloc (sbox x A c) = W0 := ⟨_, rfl⟩
  have hB0 : Below w.heap.size w W0 := by rw [← hW0]; exact (Below.refl _ w).alloc (Nat.le_refl _) _
  obtain ⟨_, b0, b1, b2, b3, b4, b5⟩ : SAt W0 w.heap.size 0 x A c := by rw [← hW0]; exact sbox_at w x A c
  simp only [Nat.zero_add] at b0 b1 b2 b3 b4 b5
  obtain ⟨xn, hxn⟩ : ∃ xn, x.L.length = xn := ⟨_, rfl⟩
  have HNm := Lib.hid (knameOf W0 x A c)
  obtain ⟨T, hT⟩ : ∃ T : ByteArray, (if x.list = false ∧ x.k = 3 then x.T else ⟨#[]⟩) = T := ⟨_, rfl⟩
  have hs : Bd.sort x = (if T.data.toList = [66, 111, 111, 108] then ((1 : Int), (0 : Int)) else if T.data.toList = [73, 110, 116] then (2, 0) else if T.data.toList = [83, 116, 114, 105, 110, 103] then (3, 0) else (0, 101)) := by
    unfold Bd.sort
    split
    · rename_i h
      rw [if_pos h] at hT
      rw [hT]
    · rename_i h
      rw [if_neg h] at hT
      rw [← hT]
      rfl
  rw [hs]
  rw [hT] at HNm
  obtain ⟨is, his⟩ : ∃ is, decide (x.list = false ∧ x.k = 3) = is := ⟨_, rfl⟩
  rw [his] at HNm
  unfold sval at HNm ⊢
  rw [hxn] at HNm b5 ⊢
  have hW0' : w.alloc (.cells #[.bool x.list, .int .i64 x.k, .string x.T, .int .i64 x.ta, .int .i64 x.at_, .slice A xn c] 27) = W0 := by rw [← hW0, ← hxn]
  have HB := Lib.hid hB0
  clear hT hs his hB0 hW0 hxn
  by_cases t1 : T.data.toList = [66, 111, 111, 108]
  · rw [if_pos t1]
    have e1 := lit_yes t1
    clear t1
    go_enter Tryz.func19, Tryz.ntmps19
    go_wp2_with fail
    refine HNm.out.mono ?_
    rintro e w1 ⟨rfl, b1⟩
    have HE := Lib.hid (HB.out.trans (b1.mono HB.out.size))
    clear HNm b1 HB b0 b2 b3 b4 b5
    go_wp2
    go_ret2
    exact ⟨rfl, HE.out⟩
  rw [if_neg t1]
  have e1 := lit_no t1
  clear t1
  by_cases t2 : T.data.toList = [73, 110, 116]
  · rw [if_pos t2]
    have e2 := lit_yes t2
    clear t2
    go_enter Tryz.func19, Tryz.ntmps19
    go_wp2_with fail
    refine HNm.out.mono ?_
    rintro e w1 ⟨rfl, b1⟩
    have HE := Lib.hid (HB.out.trans (b1.mono HB.out.size))
    clear HNm b1 HB b0 b2 b3 b4 b5
    go_wp2
    go_ret2
    exact ⟨rfl, HE.out⟩
  rw [if_neg t2]
  have e2 := lit_no t2
  clear t2
  by_cases t3 : T.data.toList = [83, 116, 114, 105, 110, 103]
  · rw [if_pos t3]
    have e3 := lit_yes t3
    clear t3
    go_enter Tryz.func19, Tryz.ntmps19
    go_wp2_with fail
    refine HNm.out.mono ?_
    rintro e w1 ⟨rfl, b1⟩
    have HE := Lib.hid (HB.out.trans (b1.mono HB.out.size))
    clear HNm b1 HB b0 b2 b3 b4 b5
    go_wp2
    go_ret2
    exact ⟨rfl, HE.out⟩
  rw [if_neg t3]
  have e3 := lit_no t3
  clear t3
  go_enter Tryz.func19, Tryz.ntmps19
  go_wp2_with fail
  refine HNm.out.mono ?_
  rintro e w1 ⟨rfl, b1⟩
  have HE := Lib.hid (HB.out.trans (b1.mono HB.out.size))
  clear HNm b1 HB b0 b2 b3 b4 b5
  go_wp2
  go_ret2
  exact ⟨rfl, HE.out⟩
structure OneSaid (w : World) (x : Sx) (e : Ending) (w' : World) : Prop where
  val : ∃ A c, e = .returned (sval x A c) ∧ STree w' (fun b _ => w.heap.size ≤ b) x A c
  bel : Below w.heap.size w w'
theorem kRead10 (w : World) (s : ByteArray) (x : Sx) (hs : s.size ≤ 4000000) (h : ReadOf s [⟨x, 0, 0⟩]) :
    Calls Tryz.prog 29 #[.string s] w fun e w' => OneSaid w x e w' := by
  obtain ⟨W0, hW0⟩ : ∃ W0, w.alloc (.cells #[.bool false, .int .i64 0, .string ⟨#[]⟩, .int .i64 0, .int .i64 0, .slice none 0 0] 27) = W0 := ⟨_, rfl⟩
  have hB0 : Below w.heap.size w W0 := by rw [← hW0]; exact (Below.refl _ w).alloc (Nat.le_refl _) _
  have hL0 : Lies W0 w.heap.size 27 #[.bool false, .int .i64 0, .string ByteArray.empty, .int .i64 0, .int .i64 0, .slice none 0 0] := by rw [← hW0]; exact Lies.new w _ _
  have hW0s : W0.heap.size = w.heap.size + 1 := by rw [← hW0]; simp
  have HR := Lib.hid (rread s W0 hs)
  have HH := Lib.hid h
  have HB := Lib.hid (And.intro hB0 (And.intro hL0 hW0s))
  obtain ⟨Post, hPost⟩ : ∃ Post : Ending → World → Prop, Post = fun e w' => OneSaid w x e w' := ⟨_, rfl⟩
  rw [← hPost]
  have HPo := Lib.hid hPost
  clear hs h hB0 hL0 hW0s hPost
  go_enter Tryz.func29, Tryz.ntmps29
  go_wp2_with fail
  refine HR.out.mono ?_
  rintro e w1 ⟨⟨A1, c1, li, rfl, _, ho, hr⟩, b1⟩
  have hI := hr.uniq HH.out
  have hl : li.length = 1 := by have := congrArg List.length hI; rw [List.length_map] at this; exact this
  obtain ⟨m, rfl⟩ := List.length_eq_one_iff.1 hl
  have hm : m.pure = ⟨x, 0, 0⟩ := by simpa using hI
  obtain ⟨mx, mA, mc, mE, ma⟩ := m
  simp only [MItem.pure, SItem.mk.injEq] at hm
  obtain ⟨rfl, rfl, rfl⟩ := hm
  obtain ⟨hB0, hL0, hs0⟩ := HB.out
  have hT := ho.trees _ (List.mem_singleton.2 rfl)
  simp only at hT
  obtain ⟨b, rfl, hb, hc⟩ : ∃ b, A1 = some ⟨b, 0, none⟩ ∧ b < w1.heap.size ∧ ∀ j u, (icells ⟨mx, mA, mc, 0, 0⟩)[j]? = some u → w1.cell? ⟨b, j, none⟩ = some u := by
    have hrow := ho.row
    rcases hrow.2 with ⟨_, e⟩ | ⟨g, cap, cur, e, _, hg, _⟩
    · cases e
    · injection e with e1 _ _
      refine ⟨g, e1, (Array.getElem?_eq_some_iff.1 hg).1, fun j u hu => ?_⟩
      have := hrow.cells (g := g) (by rw [e1]; rfl) j u (by simpa [icellsOf] using hu)
      simpa [addr_add] using this
  have i0 := hc 0 _ rfl
  have i1 := hc 1 _ rfl
  have i2 := hc 2 _ rfl
  have i3 := hc 3 _ rfl
  have i4 := hc 4 _ rfl
  have i5 := hc 5 _ rfl
  have i6 := hc 6 _ rfl
  have hL1 := (b1.block _ hL0.lt).trans hL0
  have hL1' : Lies w1 w.heap.size 27 #[.bool false, .int .i64 0, .string ⟨#[]⟩, .int .i64 0, .int .i64 0, .slice none 0 0] := hL1
  have fz := fun j => hL1'.free j
  have hlt := hL1'.lt
  have HE : Hid (∀ W, Below w.heap.size w W → TreeL W (fun b _ => w.heap.size ≤ b) mA mx.L → OneSaid w mx (.returned (sval mx mA mc)) W) := fun W hW hWT => ⟨⟨mA, mc, rfl, hT.le, hWT⟩, hW⟩
  have HT : Hid (TreeL w1 (fun b _ => w.heap.size < b) mA mx.L) := hT.tree.mono fun b _ _ h => by have := h.1; omega
  have HB1 : Hid (Below w.heap.size w w1) := hB0.trans (b1.mono hB0.size)
  have HL1 := Lib.hid hL1'
  obtain ⟨xn, hxn⟩ : ∃ xn, mx.L.length = xn := ⟨_, rfl⟩
  obtain ⟨xl, hxl⟩ : ∃ xl, mx.list = xl := ⟨_, rfl⟩
  obtain ⟨xk, hxk⟩ : ∃ xk, mx.k = xk := ⟨_, rfl⟩
  obtain ⟨xT, hxT⟩ : ∃ xT, mx.T = xT := ⟨_, rfl⟩
  obtain ⟨xta, hxta⟩ : ∃ xta, mx.ta = xta := ⟨_, rfl⟩
  obtain ⟨xa, hxa⟩ : ∃ xa, mx.at_ = xa := ⟨_, rfl⟩
  simp only at i0 i1 i2 i3 i4 i5 i6
  unfold sval at HE
  rw [hxl, hxk, hxT, hxta, hxa, hxn] at HE
  rw [hxl] at i0
  rw [hxk] at i1
  rw [hxT] at i2
  rw [hxta] at i3
  rw [hxa] at i4
  rw [hxn] at i5
  have f0 := fz 0
  have f1 := fz 1
  have f2 := fz 2
  have f3 := fz 3
  have f4 := fz 4
  have f5 := fz 5
  have r0 : w1.cell? ⟨w.heap.size, 0, none⟩ = some (.bool false) := by rw [hL1'.cell]; rfl
  have r1 : w1.cell? ⟨w.heap.size, 1, none⟩ = some (.int .i64 0) := by rw [hL1'.cell]; rfl
  have r2 : w1.cell? ⟨w.heap.size, 2, none⟩ = some (.string ⟨#[]⟩) := by rw [hL1'.cell]; rfl
  have r3 : w1.cell? ⟨w.heap.size, 3, none⟩ = some (.int .i64 0) := by rw [hL1'.cell]; rfl
  have r4 : w1.cell? ⟨w.heap.size, 4, none⟩ = some (.int .i64 0) := by rw [hL1'.cell]; rfl
  have r5 : w1.cell? ⟨w.heap.size, 5, none⟩ = some (.slice none 0 0) := by rw [hL1'.cell]; rfl
  have hne : b ≠ w.heap.size := fun e => by
    have h1 := ho.row.lt b rfl
    omega
  clear hL1 hL1' hT hB0 hL0 hs0 b1 hl hI hr ho HH HB HR hc fz hxl hxk hxT hxta hxa hxn
  have hl6 := (((((HL1.out.put 0 (.bool xl)).put 1 (.int .i64 xk)).put 2 (.string xT)).put 3 (.int .i64 xta)).put 4 (.int .i64 xa)).put 5 (.slice mA xn mc)
  have s0 := hl6.cell 0
  have s1 := hl6.cell 1
  have s2 := hl6.cell 2
  have s3 := hl6.cell 3
  have s4 := hl6.cell 4
  have s5 := hl6.cell 5
  simp at s0 s1 s2 s3 s4 s5
  have t6 : ∀ F : Nat → Prop, F w.heap.size → ∀ v, Turn F v w1 → Turn F v ((((((w1.setCell ⟨w.heap.size, 0, none⟩ (.bool xl)).setCell ⟨w.heap.size, 1, none⟩ (.int .i64 xk)).setCell ⟨w.heap.size, 2, none⟩ (.string xT)).setCell ⟨w.heap.size, 3, none⟩ (.int .i64 xta)).setCell ⟨w.heap.size, 4, none⟩ (.int .i64 xa)).setCell ⟨w.heap.size, 5, none⟩ (.slice mA xn mc)) := fun F hF v h =>
    (((((h.put (p := ⟨w.heap.size, 0, none⟩) (.inl hF) _).put (p := ⟨w.heap.size, 1, none⟩) (.inl hF) _).put (p := ⟨w.heap.size, 2, none⟩) (.inl hF) _).put (p := ⟨w.heap.size, 3, none⟩) (.inl hF) _).put (p := ⟨w.heap.size, 4, none⟩) (.inl hF) _).put (p := ⟨w.heap.size, 5, none⟩) (.inl hF) _
  have HFin := Lib.hid (HE.out _ ((t6 (fun k => w.heap.size ≤ k) (Nat.le_refl _) w (Turn.of_below HB1.out)).below (Nat.le_refl _) fun _ h => h) (HT.out.turn9 (G' := fun b => w.heap.size ≤ b) (t6 (fun k => k = w.heap.size) rfl w1 (Turn.refl _ _)) fun k _ hk => ⟨by omega, by omega⟩))
  clear HE HT HB1 HL1 hl6 t6
  go_wp2
  rw [HPo.out]
  exact bodyPost_ret (v := .agg #[.bool xl, .int .i64 xk, .string xT, .int .i64 xta, .int .i64 xa, .slice mA xn mc]) (by simp [results, Tryz.results29, go_sem, s0, s1, s2, s3, s4, s5]) rfl HFin.out
theorem Lt.ways_dig {n : Nat} (h : n < 48 ∨ 57 < n) : decide ((48 : Int) ≤ (n : Int)) = false ∨ decide ((48 : Int) ≤ (n : Int)) = true ∧ decide ((n : Int) ≤ 57) = false := by
  by_cases h1 : n < 48
  · exact .inl (decide_eq_false (by omega))
  · exact .inr ⟨decide_eq_true (by omega), decide_eq_false (by omega)⟩
def Lt.digBy (n : Nat) : Option Nat := if 48 ≤ n ∧ n ≤ 57 then some (n - 48) else if 97 ≤ Lt.low n ∧ Lt.low n ≤ 102 then some (Lt.low n - 87) else none
theorem Lt.digBy_all : ((List.range 256).all fun n => decide (Lt.dig (UInt8.ofNat n) = Lt.digBy n)) = true := by decide +kernel
theorem Lt.digBy_eq (c : UInt8) : Lt.dig c = Lt.digBy c.toNat := by
  have := List.all_eq_true.1 Lt.digBy_all c.toNat (List.mem_range.2 c.toNat_lt)
  simpa using this
theorem Lt.low_95 : Lt.low 95 = 127 := by decide
def Lt.parse (l : List UInt8) : Option Nat := if l = [] then none else Lt.val 0 l
def Lt.parsed : Option Nat → Value
  | some n => .tuple #[.int .u64 (n : Nat), .nilIface]
  | none => .tuple #[.int .u64 0, .iface 291 (.int .i64 2)]
theorem kparse_in (T : ByteArray) (w : World) (hT : T.size ≤ 5) :
    Calls Tryz.prog 235 #[.string T, .int .i64 16, .int .i64 32] w fun e w' => e = .returned (Lt.parsed (Lt.parse T.data.toList)) ∧ Below w.heap.size w w' := by
  by_cases hz : T.size = 0
  · have he : T = ⟨#[]⟩ := Lt.bytes_eq (by rw [List.eq_nil_of_length_eq_zero ((Lt.len_bytes T).trans hz)])
    subst he
    clear hT hz
    go_enter Tryz.func235, Tryz.ntmps235
    go_wp2
    go_ret2
    exact ⟨rfl, Below.refl _ _⟩
  have hne : T.data.toList ≠ [] := fun e => hz (by rw [← Lt.len_bytes, e]; rfl)
  have hneT : (T.toList == []) = false := by rw [ByteArray.toList_eq]; exact beq_eq_false_iff_ne.2 hne
  have hemp : T.toList.isEmpty = false := by rw [ByteArray.toList_eq]; exact List.isEmpty_eq_false_iff.2 hne
  obtain ⟨X, HX⟩ : ∃ X, Hid (Lt.parse T.data.toList = X) := ⟨_, rfl⟩
  have HX0 : Hid (Lt.val 0 T.data.toList = X) := by
    have := HX.out
    unfold Lt.parse at this
    rw [if_neg hne] at this
    exact this
  rw [HX.out]
  have hcv := Lib.run_convert_string_bytes (P := Tryz.prog) w 9 109 5 T (u := .string) Tryz.underlying9 Tryz.underlying109 Tryz.underlying5
  have HC : Hid (∀ (j : Nat) (hj : j < T.size), (Lib.bytesWorld w 5 T).cell? ⟨w.heap.size, j, none⟩ = some (.int .u8 (T[j].toNat : Nat))) := fun j hj => by
    rw [Lib.bytesWorld_cell w 5 T j hj]
    have h' : j < T.data.toList.length := by rw [Lt.len_bytes]; exact hj
    simp [List.getD, List.getElem?_eq_getElem h']
    rfl
  have HB := Lib.hid (Lib.bytesWorld_below w 5 T)
  obtain ⟨W1, hW1⟩ : ∃ W1, W1 = Lib.bytesWorld w 5 T := ⟨_, rfl⟩
  rw [← hW1] at hcv HC HB
  have hmv : IntKind.u64.wrap (IntKind.u64.wrap 4294967296 - 1) = 4294967295 := by
    rw [IntKind.wrap_u64, IntKind.wrap_u64]
    decide
  clear hW1 HX hne
  go_enter Tryz.func235, Tryz.ntmps235
  go_wp2
  go_loop [12, 13, 101] (fun vu vn vi => ∃ (k acc : Nat), vu = .bool false ∧ vn = .int .u64 (acc : Nat) ∧ vi = .int .i64 (k : Nat) ∧ k ≤ T.size ∧ Hid (X = Lt.val acc (T.data.toList.drop k) ∧ acc < 16 ^ k))
    (fun _ _ vi => T.size - (intOf vi).toNat)
  case atStart => exact ⟨0, 0, rfl, rfl, rfl, Nat.zero_le _, HX0.out.symm, by decide⟩
  case round =>
    obtain ⟨k, acc, rfl, rfl, rfl, hk, HI⟩ := hrel
    have hacc : acc < 1048576 := Nat.lt_of_lt_of_le HI.out.2 (Nat.le_trans (Nat.pow_le_pow_right (by decide) (show k ≤ 5 by omega)) (by decide))
    by_cases hlt : k < T.size
    · have hc := HC.out k hlt
      obtain ⟨hv, hp⟩ := HI.out
      rw [Lt.drop_at T hlt] at hv
      have hd := Lt.digBy_eq T[k]
      have hc256 := T[k].toNat_lt
      generalize hg : T[k] = c at hc hv hd hc256
      generalize hn : c.toNat = n at hc hd hc256
      have HLow := Lib.hid fun W => klower7 n hc256 W
      have hlow := (Lt.low_bits hc256).2
      unfold Lt.digBy at hd
      have ha0 : (acc : Int) < 1048576 := by omega
      have hc256' : (n : Int) < 256 := by omega
      have hlt' : (k : Int) < (T.size : Int) := by omega
      have hT' : (T.size : Int) ≤ 5 := by omega
      clear HC HX0 hemp hneT hT
      by_cases hdig : 48 ≤ n ∧ n ≤ 57
      · rw [if_pos hdig] at hd
        rw [Lt.val_some _ hd] at hv
        obtain ⟨hd0, hd1⟩ := hdig
        obtain ⟨r, hr⟩ : ∃ r, r = acc * 16 + (n - 48) := ⟨_, rfl⟩
        rw [← hr] at hv
        have HN : Hid (X = Lt.val r (T.data.toList.drop (k + 1)) ∧ r < 16 ^ (k + 1)) := by
          refine ⟨hv, ?_⟩
          rw [Nat.pow_succ]
          omega
        have hd0' : (48 : Int) ≤ (n : Int) := by omega
        have hd1' : (n : Int) ≤ 57 := by omega
        have h95 : ((n : Int) == 95) = false := beq_eq_false_iff_ne.2 (by omega)
        have hsum : (acc : Int) * 16 + ((n : Int) - 48) = (r : Int) := by omega
        have h16 : decide ((16 : Int) ≤ (n : Int) - 48) = false := decide_eq_false (by omega)
        have h17 : decide ((1152921504606846976 : Int) ≤ (acc : Int)) = false := decide_eq_false (by omega)
        have h18 : decide ((r : Int) < (acc : Int) * 16) = false := decide_eq_false (by omega)
        have h19 : decide ((4294967295 : Int) < (r : Int)) = false := decide_eq_false (by omega)
        clear HI hv hp hd hg hn hc256 hlow hr
        go_wp2
        refine ⟨⟨k + 1, r, rfl, (by first | rfl | (congr 1; omega)), (by first | rfl | (congr 1; omega)), by omega, HN.out⟩, by simp [intOf]; omega⟩
      · rw [if_neg hdig] at hd
        by_cases hlet : 97 ≤ Lt.low n ∧ Lt.low n ≤ 102
        · rw [if_pos hlet] at hd
          rw [Lt.val_some _ hd] at hv
          have hn95 : n ≠ 95 := by
            rintro rfl
            rw [Lt.low_95] at hlet
            omega
          have h95 : ((n : Int) == 95) = false := beq_eq_false_iff_ne.2 (by omega)
          generalize Lt.low n = m at hlet hv HLow hlow
          obtain ⟨hl0, hl1⟩ := hlet
          have hl0' : (97 : Int) ≤ (m : Int) := by omega
          have hl1' : (m : Int) ≤ 102 := by omega
          obtain ⟨r, hr⟩ : ∃ r, r = acc * 16 + (m - 87) := ⟨_, rfl⟩
          rw [← hr] at hv
          have HN : Hid (X = Lt.val r (T.data.toList.drop (k + 1)) ∧ r < 16 ^ (k + 1)) := by
            refine ⟨hv, ?_⟩
            rw [Nat.pow_succ]
            omega
          have hways : decide ((48 : Int) ≤ (n : Int)) = false ∨ decide ((48 : Int) ≤ (n : Int)) = true ∧ decide ((n : Int) ≤ 57) = false := Lt.ways_dig (by omega)
          have h20 : decide ((97 : Int) ≤ (m : Int)) = true := decide_eq_true hl0'
          have h21 : decide ((m : Int) ≤ 122) = true := decide_eq_true (by omega)
          obtain ⟨d, hdm⟩ : ∃ d : Nat, (m : Int) - 97 + 10 = (d : Int) := ⟨m - 87, by omega⟩
          have hsum : (acc : Int) * 16 + (d : Int) = (r : Int) := by omega
          have h16 : decide ((16 : Int) ≤ (d : Int)) = false := decide_eq_false (by omega)
          have h17 : decide ((1152921504606846976 : Int) ≤ (acc : Int)) = false := decide_eq_false (by omega)
          have h18 : decide ((r : Int) < (acc : Int) * 16) = false := decide_eq_false (by omega)
          have h19 : decide ((4294967295 : Int) < (r : Int)) = false := decide_eq_false (by omega)
          have hd16 : (d : Int) < 16 := by omega
          clear HI hv hp hd hg hn hc256 hlow hdig hn95 hr hl0 hl1
          rcases hways with h1 | ⟨h1, h2⟩
          all_goals
            go_wp2_with (go_at_call 246; refine (HLow.out _).mono ?_; rintro e w1 ⟨rfl, rfl⟩)
            refine ⟨⟨k + 1, r, rfl, (by first | rfl | (congr 1; omega)), (by first | rfl | (congr 1; omega)), by omega, HN.out⟩, by simp [intOf]; omega⟩
        · rw [if_neg hlet] at hd
          rw [Lt.val_none _ hd] at hv
          subst hv
          have hways : decide ((48 : Int) ≤ (n : Int)) = false ∨ decide ((48 : Int) ≤ (n : Int)) = true ∧ decide ((n : Int) ≤ 57) = false := Lt.ways_dig (by omega)
          have hways2 : n = 95 ∨ ((n : Int) == 95) = false := by
            by_cases h : n = 95
            · exact .inl h
            · exact .inr (beq_eq_false_iff_ne.2 (by omega))
          have hways3 : (Lt.low n : Int) < 97 ∨ (97 : Int) ≤ (Lt.low n : Int) ∧ (122 : Int) < (Lt.low n : Int) ∨ (103 : Int) ≤ (Lt.low n : Int) ∧ (Lt.low n : Int) ≤ 122 := by omega
          generalize Lt.low n = m at hways3 HLow hlow hlet
          have hm' : (m : Int) < 256 := by omega
          have hways4 : decide ((97 : Int) ≤ (m : Int)) = false ∨ decide ((97 : Int) ≤ (m : Int)) = true ∧ decide ((m : Int) ≤ 122) = false ∨ (decide ((97 : Int) ≤ (m : Int)) = true ∧ decide ((m : Int) ≤ 122) = true ∧ (97 : Int) ≤ (m : Int)) ∧ decide ((16 : Int) ≤ (m : Int) - 97 + 10) = true := by
            rcases hways3 with h | h | h
            · exact .inl (decide_eq_false (by omega))
            · exact .inr (.inl ⟨decide_eq_true h.1, decide_eq_false (by omega)⟩)
            · exact .inr (.inr ⟨⟨decide_eq_true (by omega), decide_eq_true (by omega), by omega⟩, decide_eq_true (by omega)⟩)
          clear hways3
          clear HI hp hd hg hn hc256 hlow hdig hlet
          rcases hways2 with rfl | h95
          · rcases hways4 with h3 | ⟨h3, h4⟩ | ⟨⟨h3, h4, h6⟩, h5⟩
            all_goals
              clear hways
              go_wp2_with (go_at_call 246; refine (HLow.out _).mono ?_; rintro e w1 ⟨rfl, rfl⟩)
              go_ret2
              exact ⟨rfl, HB.out⟩
          · rcases hways with h1 | ⟨h1, h2⟩
            all_goals
              rcases hways4 with h3 | ⟨h3, h4⟩ | ⟨⟨h3, h4, h6⟩, h5⟩
              all_goals
                go_wp2_with (go_at_call 246; refine (HLow.out _).mono ?_; rintro e w1 ⟨rfl, rfl⟩)
                go_ret2
                exact ⟨rfl, HB.out⟩
    · obtain rfl : k = T.size := by omega
      have hv := HI.out.1
      rw [List.drop_of_length_le (by rw [Lt.len_bytes]; exact Nat.le_refl _), Lt.val] at hv
      subst hv
      clear HI hlt HC HX0
      go_wp2
      go_ret2
      exact ⟨rfl, HB.out⟩
theorem kParseUint7 (T : ByteArray) (w : World) (hT : T.size ≤ 5) (hG : Gl w) :
    Calls Tryz.prog 220 #[.string T, .int .i64 16, .int .i64 32] w fun e w' => (∃ (n : Nat) (v : Value), e = .returned (.tuple #[.int .u64 (n : Nat), v]) ∧ (v = .nilIface ∧ Lt.parse T.data.toList = some n ∨ (∃ t x, v = .iface t x) ∧ Lt.parse T.data.toList = none ∧ n = 0)) ∧ Below w.heap.size w w' := by
  have HP := Lib.hid (kparse_in T w hT)
  have HGl := Lib.hid hG
  obtain ⟨X, hX⟩ : ∃ X, Lt.parse T.data.toList = X := ⟨_, rfl⟩
  rw [hX] at HP ⊢
  cases X with
  | some n =>
    clear hX hG
    go_enter Tryz.func220, Tryz.ntmps220
    go_wp2_with (go_at_call 235; refine (HP.out).mono ?_; rintro e w1 ⟨rfl, hb⟩; unfold Lt.parsed)
    go_ret2
    exact ⟨⟨n, _, rfl, .inl ⟨by first | rfl | trivial, by first | rfl | trivial⟩⟩, hb⟩
  | none =>
    clear hX hG
    go_enter Tryz.func220, Tryz.ntmps220
    go_wp2_with (first
      | (go_at_call 235; refine (HP.out).mono ?_; rintro e w1 ⟨rfl, hb⟩; unfold Lt.parsed)
      | (go_at_call 236; obtain ⟨v, g1, g2⟩ := (HGl.out.below hb).syn; refine (Tryz.strconv_toError_syntax _ _ _ _ v _ (by omega) g1 g2).mono ?_; rintro e w2 ⟨N, rfl, _, _, hb2⟩))
    go_ret2
    exact ⟨⟨0, _, rfl, .inr ⟨⟨_, _, rfl⟩, by first | rfl | trivial, rfl⟩⟩, hb.trans (hb2.mono hb.size)⟩
def DigOf (c : UInt8) (r t : List UInt8) (k : Nat) : Prop := k = 0 ∧ Lt.one (c :: r) = (c.toNat, r) ∨ 0 < k ∧ k ≤ r.length + 1 ∧ t.length ≤ 5 ∧ Lt.one (c :: r) = (Lt.num t).elim (c.toNat, r) fun n => (n, (c :: r).drop k)
theorem DigOf.none_ {l : List UInt8} {c : UInt8} {r : List UInt8} (hl : l = c :: r) (h : l.take 2 ≠ [92, 117]) : DigOf c r [] 0 := by
  subst hl
  refine .inl ⟨rfl, Lt.one_plain fun e => h ?_⟩
  obtain ⟨rfl, e⟩ := e
  cases r with
  | nil => cases e
  | cons d r => injection e with e; subst e; rfl
theorem Lt.getD_elim {α : Type} (o : Option Nat) (f : Nat → α) (d : α) : (o.map f).getD d = o.elim d f := by cases o <;> rfl
theorem DigOf.four {l : List UInt8} {c : UInt8} {r : List UInt8} (hl : l = c :: r) (h : l.take 2 = [92, 117]) (h3 : l.take 3 ≠ [92, 117, 123]) (h6 : 6 ≤ l.length) : DigOf c r ((l.drop 2).take 4) 6 := by
  obtain ⟨q, rfl⟩ : ∃ q, l = 92 :: 117 :: q := ⟨l.drop 2, by have e := List.take_append_drop 2 l; rw [h] at e; exact e.symm⟩
  injection hl with e1 e2
  subst e1
  subst e2
  refine .inr ⟨by decide, by simpa using h6, by simp; omega, ?_⟩
  rw [Lt.one_esc, Lt.esc_four fun e => h3 ?_, if_pos (by simpa using h6), Lt.getD_elim]
  · rfl
  · cases q with
    | nil => cases e
    | cons d q => injection e with e; subst e; rfl
theorem DigOf.short {l : List UInt8} {c : UInt8} {r : List UInt8} (hl : l = c :: r) (h : l.take 2 = [92, 117]) (h3 : l.take 3 ≠ [92, 117, 123]) (h6 : ¬ 6 ≤ l.length) : DigOf c r [] 0 := by
  obtain ⟨q, rfl⟩ : ∃ q, l = 92 :: 117 :: q := ⟨l.drop 2, by have e := List.take_append_drop 2 l; rw [h] at e; exact e.symm⟩
  injection hl with e1 e2
  subst e1
  subst e2
  refine .inl ⟨rfl, ?_⟩
  rw [Lt.one_esc, Lt.esc_four fun e => h3 ?_, if_neg (by simp at h6; omega)]
  · rfl
  · cases q with
    | nil => cases e
    | cons d q => injection e with e; subst e; rfl
theorem Lt.app_first {α : Type} [DecidableEq α] {x : α} : ∀ {a b c d : List α}, a ++ x :: b = c ++ x :: d → x ∉ a → x ∉ c → a = c ∧ b = d
  | [], b, [], d, h, _, _ => ⟨rfl, by injection h⟩
  | [], b, y :: c, d, h, _, hc => by injection h with h _; subst h; exact absurd List.mem_cons_self hc
  | y :: a, b, [], d, h, ha, _ => by injection h with h _; subst h; exact absurd List.mem_cons_self ha
  | y :: a, b, z :: c, d, h, ha, hc => by
    injection h with h1 h2
    subst h1
    obtain ⟨e1, e2⟩ := Lt.app_first h2 (fun m => ha (List.mem_cons_of_mem _ m)) (fun m => hc (List.mem_cons_of_mem _ m))
    exact ⟨by rw [e1], e2⟩
theorem Lt.num_no125 {d : List UInt8} {n : Nat} (h : Lt.num d = some n) : (125 : UInt8) ∉ d := fun hm => by
  have := Lt.val_digs d 0 n (Lt.num_some.1 h).2.1 125 hm
  rw [Lt.dig_125] at this
  cases this
theorem Lt.brace_first {q d x : List UInt8} (h : q = d ++ 125 :: x) (hd : (125 : UInt8) ∉ d) (h5 : d.length ≤ 5) : Lt.brace q = (Lt.num d).map fun n => (n, q.drop (d.length + 1)) := by
  have hx : q.drop (d.length + 1) = x := by
    rw [h]
    simp
  rw [hx]
  cases e : Lt.num d with
  | some n => exact Lt.brace_some.2 ⟨d, h, h5, e⟩
  | none =>
    cases e2 : Lt.brace q with
    | none => rfl
    | some y =>
      obtain ⟨n, r⟩ := y
      obtain ⟨d', h1, _, h3⟩ := Lt.brace_some.1 e2
      obtain ⟨rfl, _⟩ := Lt.app_first (h.symm.trans h1) hd (Lt.num_no125 h3)
      rw [e] at h3
      cases h3
theorem Lt.brace_far {q : List UInt8} (h : (125 : UInt8) ∉ q.take 6) : Lt.brace q = none := by
  cases e : Lt.brace q with
  | none => rfl
  | some y =>
    obtain ⟨n, r⟩ := y
    obtain ⟨d, h1, h2, h3⟩ := Lt.brace_some.1 e
    refine absurd ?_ h
    subst h1
    rw [List.take_append]
    refine List.mem_append_right _ ?_
    obtain ⟨k, hk⟩ : ∃ k, 6 - d.length = k + 1 := ⟨5 - d.length, by omega⟩
    rw [hk, List.take_succ_cons]
    exact List.mem_cons_self
theorem DigOf.far {l : List UInt8} {c : UInt8} {r : List UInt8} (hl : l = c :: r) (h3 : l.take 3 = [92, 117, 123]) (h : (125 : UInt8) ∉ (l.drop 3).take 6) : DigOf c r [] 0 := by
  obtain ⟨q, rfl⟩ : ∃ q, l = 92 :: 117 :: 123 :: q := ⟨l.drop 3, by have e := List.take_append_drop 3 l; rw [h3] at e; exact e.symm⟩
  injection hl with e1 e2
  subst e1
  subst e2
  refine .inl ⟨rfl, ?_⟩
  rw [Lt.one_esc, Lt.esc_brace, Lt.brace_far (q := q) h]
  rfl
theorem DigOf.brace {l : List UInt8} {c : UInt8} {r d x : List UInt8} (hl : l = c :: r) (h3 : l.take 3 = [92, 117, 123]) (h : (l.drop 3).take 6 = d ++ 125 :: x) (hd : (125 : UInt8) ∉ d) : DigOf c r d (3 + d.length + 1) := by
  obtain ⟨q, rfl⟩ : ∃ q, l = 92 :: 117 :: 123 :: q := ⟨l.drop 3, by have e := List.take_append_drop 3 l; rw [h3] at e; exact e.symm⟩
  injection hl with e1 e2
  subst e1
  subst e2
  have hq : q.take 6 = d ++ 125 :: x := h
  have h5 : d.length ≤ 5 ∧ d.length + 1 ≤ q.length := by
    have := congrArg List.length hq
    rw [List.length_take, List.length_append, List.length_cons] at this
    omega
  have hq' : q = d ++ 125 :: (x ++ q.drop 6) := by
    conv => lhs; rw [← List.take_append_drop 6 q, hq]
    simp
  refine .inr ⟨by omega, by simp; omega, h5.1, ?_⟩
  rw [Lt.one_esc, Lt.esc_brace, Lt.brace_first hq' hd h5.1, Lt.getD_elim]
  rw [show 3 + d.length + 1 = (d.length + 1) + 3 by omega]
  rfl
theorem Lt.indexByte_ways (c : UInt8) : ∀ q : List UInt8, Lib.indexByte q c = -1 ∧ c ∉ q ∨ ∃ d x, Lib.indexByte q c = (d.length : Nat) ∧ q = d ++ c :: x ∧ c ∉ d
  | [] => .inl ⟨rfl, List.not_mem_nil⟩
  | b :: q => by
    rw [Lib.indexByte]
    by_cases hb : b = c
    · subst hb
      exact .inr ⟨[], q, by simp, rfl, List.not_mem_nil⟩
    · have hb' : (b == c) = false := beq_eq_false_iff_ne.2 hb
      rw [hb', if_neg (by simp)]
      rcases Lt.indexByte_ways c q with ⟨h1, h2⟩ | ⟨d, x, h1, h2, h3⟩
      · refine .inl ⟨by rw [h1]; rfl, fun h => ?_⟩
        rcases List.mem_cons.1 h with h | h
        · exact hb h.symm
        · exact h2 h
      · refine .inr ⟨b :: d, x, ?_, by rw [h2]; rfl, fun h => ?_⟩
        · rw [h1, if_neg (by simp)]
          rfl
        · rcases List.mem_cons.1 h with h | h
          · exact hb h.symm
          · exact h3 h
theorem Lt.cut_ways (q : List UInt8) : ((Lib.cut q [125]).2.2 = false ∧ (125 : UInt8) ∉ q) ∨ ((Lib.cut q [125]).2.2 = true ∧ (∃ x, q = (Lib.cut q [125]).1 ++ 125 :: x) ∧ (125 : UInt8) ∉ (Lib.cut q [125]).1) := by
  have hi := Lib.index_one q 125
  rcases Lt.indexByte_ways 125 q with ⟨h1, h2⟩ | ⟨d, x, h1, h2, h3⟩
  · refine .inl ⟨?_, h2⟩
    unfold Lib.cut
    rw [hi, h1, if_neg (by decide)]
  · have e : Lib.cut q [125] = (d, x, true) := by
      unfold Lib.cut
      rw [hi, h1, if_pos (by omega)]
      rw [h2]
      simp
    rw [e]
    exact .inr ⟨rfl, ⟨x, h2⟩, h3⟩
theorem Lt.slice_from7 (s : ByteArray) (n : Nat) (hn : n ≤ s.size) (w : World) : (Instr.slice 9 (.string s) (some (.int .i64 (n : Int))) none none).run Tryz.prog w = .ok (.string (s.extract n s.size)) w := by
  rw [run_slice_string_from_if _ _ _ _ _ Tryz.underlying9, if_pos (by omega)]
  rfl
theorem Lt.hasPrefix_take (l p : List UInt8) : Lib.hasPrefix l p = decide (l.take p.length = p) := by
  unfold Lib.hasPrefix
  rw [Bool.eq_iff_iff]
  simp only [decide_eq_true_eq, List.isPrefixOf_iff_prefix]
  constructor
  · rintro ⟨t, rfl⟩
    simp
  · intro h
    exact ⟨l.drop p.length, by conv => lhs; lhs; rw [← h]
                               exact List.take_append_drop _ _⟩
theorem kdigits7 (s : ByteArray) (c : UInt8) (r : List UInt8) (hl : s.data.toList = c :: r) (w : World) (hs : s.size ≤ 100000000) (hG : Gl w) :
    Calls Tryz.prog 219 #[.string s] w fun e w' => (∃ (T : ByteArray) (k : Nat), e = .returned (.tuple #[.string T, .int .i64 (k : Nat)]) ∧ DigOf c r T.data.toList k) ∧ Below w.heap.size w w' := by
  have HP3 : Hid (∀ W, Calls Tryz.prog 54 #[.string s, .string ⟨#[92, 117, 123]⟩] W fun e w' => e = .returned (.bool (decide (s.data.toList.take 3 = [92, 117, 123]))) ∧ w' = W) := fun W => by
    have := Tryz.strings_HasPrefix s ⟨#[92, 117, 123]⟩ W
    rwa [Lt.hasPrefix_take] at this
  have HP2 : Hid (∀ W, Calls Tryz.prog 54 #[.string s, .string ⟨#[92, 117]⟩] W fun e w' => e = .returned (.bool (decide (s.data.toList.take 2 = [92, 117]))) ∧ w' = W) := fun W => by
    have := Tryz.strings_HasPrefix s ⟨#[92, 117]⟩ W
    rwa [Lt.hasPrefix_take] at this
  have hsz := Lt.len_bytes s
  by_cases h3 : s.data.toList.take 3 = [92, 117, 123]
  · obtain ⟨m, hm⟩ := hG.max
    have hlen : 3 ≤ s.size := by
      have := congrArg List.length h3
      rw [List.length_take, hsz] at this
      simp at this
      omega
    obtain ⟨e, he⟩ : ∃ e : Nat, min (s.size : Int) 9 = (e : Int) := ⟨min s.size 9, by omega⟩
    have he3 : 3 ≤ e := by omega
    have hes : e ≤ s.size := by omega
    have hsl := Lt.slice_both s 3 e hes he3
    obtain ⟨c1, c2⟩ := Lt.cut_bytes s 3 e hes he3
    have hq : (s.extract 3 e).data.toList = (s.data.toList.drop 3).take 6 := by
      rw [c1]
      by_cases h9 : 9 ≤ s.size
      · rw [show e - 3 = 6 by omega]
      · rw [List.take_of_length_le (by rw [List.length_drop, hsz]; omega), List.take_of_length_le (by rw [List.length_drop, hsz]; omega)]
    have hcut := fun W hW => Tryz.strings_Cut (s.extract 3 e) ⟨#[125]⟩ m W (by omega) hW
    rw [hq] at hcut
    have hways := Lt.cut_ways ((s.data.toList.drop 3).take 6)
    obtain ⟨C, hC⟩ : ∃ C, Lib.cut ((s.data.toList.drop 3).take 6) [125] = C := ⟨_, rfl⟩
    rw [show (⟨#[125]⟩ : ByteArray).data.toList = [125] from rfl, hC] at hcut
    rw [hC] at hways
    obtain ⟨C1, C2, C3⟩ := C
    simp only at hcut hways
    rw [h3] at HP3
    have HPt : Hid (∀ W, Calls Tryz.prog 54 #[.string s, .string ⟨#[92, 117, 123]⟩] W fun e w' => e = .returned (.bool true) ∧ w' = W) := fun W => by simpa using HP3.out W
    have HCut : Hid (∀ W, W.cell? ⟨1, 0, none⟩ = some (.int .i64 m) → Calls Tryz.prog 234 #[.string (s.extract 3 e), .string ⟨#[125]⟩] W fun e w' => e = .returned (.tuple #[.string ⟨C1.toArray⟩, .string ⟨C2.toArray⟩, .bool C3]) ∧ ∃ n, w' = W.drewN n) := hcut
    obtain ⟨D, hD⟩ : ∃ D : ByteArray, (⟨C1.toArray⟩ : ByteArray) = D := ⟨_, rfl⟩
    have hD1 : D.data.toList = C1 := by rw [← hD]
    have hDl : D.size = C1.length := by rw [← Lt.len_bytes, hD1]
    rw [hD] at HCut
    have HB : Hid (∀ k, Below w.heap.size w (w.drewN k)) := fun k => Turn.none_ ((Turn.refl (fun _ => False) w).drewN k) (fun _ => id)
    rcases hways with ⟨rfl, hno⟩ | ⟨rfl, ⟨x, hx⟩, hno⟩
    · have HR := Lib.hid (DigOf.far hl h3 hno)
      clear HP3 HP2 hl hsz hG hcut hC hno hq c1 c2 h3 hD hD1 hDl
      go_enter Tryz.func219, Tryz.ntmps219
      go_wp2_with (first
        | (go_at_call 54; refine (HPt.out _).mono ?_; rintro e w1 ⟨rfl, rfl⟩)
        | (go_at_call 234; refine (HCut.out _ hm).mono ?_; rintro e w1 ⟨rfl, n, rfl⟩))
      go_ret2
      exact ⟨⟨_, _, rfl, HR.out⟩, HB.out _⟩
    · have HR := Lib.hid (DigOf.brace hl h3 hx hno)
      have hc6 : D.size ≤ 6 := by
        have := congrArg List.length hx
        rw [List.length_take, List.length_append, List.length_cons] at this
        omega
      rw [← hD1, Lt.len_bytes] at HR
      clear HP3 HP2 hl hsz hG hcut hC hno hq c1 c2 h3 hD hx hD1 hDl
      go_enter Tryz.func219, Tryz.ntmps219
      go_wp2_with (first
        | (go_at_call 54; refine (HPt.out _).mono ?_; rintro e w1 ⟨rfl, rfl⟩)
        | (go_at_call 234; refine (HCut.out _ hm).mono ?_; rintro e w1 ⟨rfl, n, rfl⟩))
      go_ret2
      exact ⟨⟨_, _, by first | rfl | (congr 3; omega), HR.out⟩, HB.out _⟩
  · have HPf : Hid (∀ W, Calls Tryz.prog 54 #[.string s, .string ⟨#[92, 117, 123]⟩] W fun e w' => e = .returned (.bool false) ∧ w' = W) := fun W => by simpa [h3] using HP3.out W
    by_cases h2 : s.data.toList.take 2 = [92, 117]
    · have HPt : Hid (∀ W, Calls Tryz.prog 54 #[.string s, .string ⟨#[92, 117]⟩] W fun e w' => e = .returned (.bool true) ∧ w' = W) := fun W => by simpa [h2] using HP2.out W
      by_cases h6 : 6 ≤ s.size
      · have HR := Lib.hid (DigOf.four hl h2 h3 (by omega))
        obtain ⟨c1, c2⟩ := Lt.cut_bytes s 2 6 h6 (by decide)
        rw [← c1] at HR
        have hsl := Lt.slice_both s 2 6 h6 (by decide)
        have h6' : (6 : Int) ≤ (s.size : Int) := by omega
        clear HP3 HP2 hl hsz hG h3 h2 c1 c2
        go_enter Tryz.func219, Tryz.ntmps219
        go_wp2_with (first
          | (go_at_call 54; refine (HPf.out _).mono ?_; rintro e w1 ⟨rfl, rfl⟩)
          | (go_at_call 54; refine (HPt.out _).mono ?_; rintro e w1 ⟨rfl, rfl⟩))
        go_ret2
        exact ⟨⟨_, _, rfl, HR.out⟩, Below.refl _ _⟩
      · have HR := Lib.hid (DigOf.short hl h2 h3 (by omega))
        have h6' : ¬ (6 : Int) ≤ (s.size : Int) := by omega
        clear HP3 HP2 hl hsz hG h3 h2 h6
        go_enter Tryz.func219, Tryz.ntmps219
        go_wp2_with (first
          | (go_at_call 54; refine (HPf.out _).mono ?_; rintro e w1 ⟨rfl, rfl⟩)
          | (go_at_call 54; refine (HPt.out _).mono ?_; rintro e w1 ⟨rfl, rfl⟩))
        go_ret2
        exact ⟨⟨⟨#[]⟩, 0, rfl, HR.out⟩, Below.refl _ _⟩
    · have HPf2 : Hid (∀ W, Calls Tryz.prog 54 #[.string s, .string ⟨#[92, 117]⟩] W fun e w' => e = .returned (.bool false) ∧ w' = W) := fun W => by simpa [h2] using HP2.out W
      have HR := Lib.hid (DigOf.none_ hl h2)
      clear HP3 HP2 hl hsz hG h3 h2
      go_enter Tryz.func219, Tryz.ntmps219
      go_wp2_with (first
        | (go_at_call 54; refine (HPf.out _).mono ?_; rintro e w1 ⟨rfl, rfl⟩)
        | (go_at_call 54; refine (HPf2.out _).mono ?_; rintro e w1 ⟨rfl, rfl⟩))
      go_ret2
      exact ⟨⟨⟨#[]⟩, 0, rfl, HR.out⟩, Below.refl _ _⟩
end Go.Proofs.YtcgaeknikfaghaaGreatDoor
