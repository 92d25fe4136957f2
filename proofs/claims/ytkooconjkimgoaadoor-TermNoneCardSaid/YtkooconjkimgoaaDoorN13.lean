/- A nil bank; the law TermNone. -/
import Derived.Test.YtkooconjkimgoaaDoorNKD
import Derived.Test.YtkooconjkimgoaaDoorN8
namespace Go.Proofs.YtkooconjkimgoaaDoor
open Go.RowKit

/-- what a nil bank answers to whatever is added: nought, and an error -/
def NilAns (w : World) (e : Ending) (w' : World) : Prop := (∃ k : Int, k ≠ 0 ∧ e = .returned (.tuple #[.int .i64 0, .int .i64 k])) ∧ Below w.heap.size w w'
theorem NilAns.up {w W w' : World} {e : Ending} (h : NilAns W e w') (hb : Below w.heap.size w W) : NilAns w e w' := ⟨h.1, hb.trans (h.2.mono hb.size)⟩
theorem knlen9 (w : World) : Calls Tryd.prog 11 #[.pointer none] w fun e w' => e = .returned (.int .i64 0) ∧ w' = w := by
  go_enter Tryd.func11, Tryd.ntmps11
  go_wp2
  go_ret
  exact ⟨rfl, rfl⟩
theorem knhas9 (i : Int) (w : World) : Calls Tryd.prog 28 #[.pointer none, .int .i64 i] w fun e w' => e = .returned (.bool false) ∧ Below w.heap.size w w' := by
  have HL := Lib.hid fun W => knlen9 W
  by_cases h0 : 0 ≤ i
  · have d0 : decide (i < 0) = false := decide_eq_false (by omega)
    go_enter Tryd.func28, Tryd.ntmps28
    go_wp2_with (go_at_call 11; refine (HL.out _).mono ?_; rintro e w1 ⟨rfl, rfl⟩)
    go_ret
    exact ⟨rfl, Below.refl _ _⟩
  · clear HL
    go_enter Tryd.func28, Tryd.ntmps28
    go_wp2
    go_ret
    exact ⟨rfl, Below.refl _ _⟩
theorem knhasAll9 (w : World) (A : Option Addr) (n c : Nat) (a : List Int) (ha : NumS w A n a) (hn : 0 < n) (hn2 : n ≤ 1000) : Calls Tryd.prog 33 #[.pointer none, .slice A n c] w fun e w' => e = .returned (.bool false) ∧ Below w.heap.size w w' := by
  have HH := Lib.hid fun i W => knhas9 i W
  obtain ⟨bA, oA, z, rfl, _, _, _, hc⟩ := ha.get hn
  have HC : Hid (w.cell? ⟨bA, oA + 0, none⟩ = some (.int .i64 z)) := (hc w (Below.refl _ _)).2
  clear ha hc
  go_enter Tryd.func33, Tryd.ntmps33
  go_wp2_with fail
  go_loopw [9] (fun iv wr => iv = .int .i64 0 ∧ w = wr) (fun iv _ => n - (intOf iv).toNat)
  case atStart => exact ⟨rfl, rfl⟩
  case round =>
    obtain ⟨rfl, rfl⟩ := hrel
    have hn' : (0 : Int) < (n : Int) := by omega
    have cz := HC.out
    simp only [Nat.add_zero] at cz
    go_wp2_with fail
    refine (HH.out z w).mono ?_
    rintro e w1 ⟨rfl, b1⟩
    have B1 := Lib.hid b1
    clear HH b1 cz HC
    go_wp2
    go_ret
    exact ⟨rfl, B1.out⟩
set_option maxRecDepth 100000 in
theorem knat9 (w : World) (i : Int) : Calls Tryd.prog 12 #[.pointer none, .int .i64 i] w fun e w' => e = .returned (.tuple #[.agg #[.int .i64 0, .int .i64 0, .slice none 0 0, .string ⟨#[]⟩, .bool false, .slice none 0 0, .slice none 0 0], .bool false]) ∧ Below w.heap.size w w' := by
  obtain ⟨W0, hW0⟩ : ∃ W0, w.alloc (.cells #[.int .i64 0, .int .i64 0, .slice none 0 0, .string ⟨#[]⟩, .bool false, .slice none 0 0, .slice none 0 0] 47) = W0 := ⟨_, rfl⟩
  have B0 : Below w.heap.size w W0 := by rw [← hW0]; exact (Below.refl _ w).alloc (Nat.le_refl _) _
  have L0 : Lies W0 w.heap.size 47 #[.int .i64 0, .int .i64 0, .slice none 0 0, .string ⟨#[]⟩, .bool false, .slice none 0 0, .slice none 0 0] := by rw [← hW0]; exact Lies.new w _ _
  have HH := Lib.hid (knhas9 i W0)
  have HB0 := Lib.hid B0
  have HL0 := Lib.hid L0
  clear B0 L0
  go_enter Tryd.func12, Tryd.ntmps12
  go_wp2_with fail
  refine HH.out.mono ?_
  rintro e w2 ⟨rfl, b2⟩
  have hL2 : Lies w2 w.heap.size 47 #[.int .i64 0, .int .i64 0, .slice none 0 0, .string ⟨#[]⟩, .bool false, .slice none 0 0, .slice none 0 0] := (b2.block _ HL0.out.lt).trans HL0.out
  obtain ⟨W4, hW4⟩ : ∃ W4, ((((((w2.setCell ⟨w.heap.size, 0, none⟩ (.int .i64 0)).setCell ⟨w.heap.size, 1, none⟩ (.int .i64 0)).setCell ⟨w.heap.size, 2, none⟩ (.slice none 0 0)).setCell ⟨w.heap.size, 3, none⟩ (.string ⟨#[]⟩)).setCell ⟨w.heap.size, 4, none⟩ (.bool false)).setCell ⟨w.heap.size, 5, none⟩ (.slice none 0 0)).setCell ⟨w.heap.size, 6, none⟩ (.slice none 0 0) = W4 := ⟨_, rfl⟩
  have hL4 : Lies W4 w.heap.size 47 #[.int .i64 0, .int .i64 0, .slice none 0 0, .string ⟨#[]⟩, .bool false, .slice none 0 0, .slice none 0 0] := by
    rw [← hW4]
    exact ((((((hL2.put 0 (.int .i64 0)).put 1 (.int .i64 0)).put 2 (.slice none 0 0)).put 3 (.string ⟨#[]⟩)).put 4 (.bool false)).put 5 (.slice none 0 0)).put 6 (.slice none 0 0)
  have T4 : Turn (fun k => k = w.heap.size) w2 W4 := by
    rw [← hW4]
    exact (((((((Turn.refl (fun k => k = w.heap.size) w2).put (p := ⟨w.heap.size, 0, none⟩) (.inl rfl) _).put (p := ⟨w.heap.size, 1, none⟩) (.inl rfl) _).put (p := ⟨w.heap.size, 2, none⟩) (.inl rfl) _).put (p := ⟨w.heap.size, 3, none⟩) (.inl rfl) _).put (p := ⟨w.heap.size, 4, none⟩) (.inl rfl) _).put (p := ⟨w.heap.size, 5, none⟩) (.inl rfl) _).put (p := ⟨w.heap.size, 6, none⟩) (.inl rfl) _
  have HE : Hid (Below w.heap.size w W4) :=
    ((Turn.of_below (F := fun k => w.heap.size ≤ k) (HB0.out.trans (b2.mono HB0.out.size))).trans T4 (fun k hk => .inl (by omega))).below (Nat.le_refl _) (fun _ h => h)
  have k0 : W4.cell? ⟨w.heap.size, 0, none⟩ = some (.int .i64 0) := by rw [hL4.cell]; rfl
  have k1 : W4.cell? ⟨w.heap.size, 1, none⟩ = some (.int .i64 0) := by rw [hL4.cell]; rfl
  have k2 : W4.cell? ⟨w.heap.size, 2, none⟩ = some (.slice none 0 0) := by rw [hL4.cell]; rfl
  have k3 : W4.cell? ⟨w.heap.size, 3, none⟩ = some (.string ⟨#[]⟩) := by rw [hL4.cell]; rfl
  have k4 : W4.cell? ⟨w.heap.size, 4, none⟩ = some (.bool false) := by rw [hL4.cell]; rfl
  have k5 : W4.cell? ⟨w.heap.size, 5, none⟩ = some (.slice none 0 0) := by rw [hL4.cell]; rfl
  have k6 : W4.cell? ⟨w.heap.size, 6, none⟩ = some (.slice none 0 0) := by rw [hL4.cell]; rfl
  have r0 := hL2.cell 0
  have r1 := hL2.cell 1
  have r2 := hL2.cell 2
  have r3 := hL2.cell 3
  have r4 := hL2.cell 4
  have r5 := hL2.cell 5
  have r6 := hL2.cell 6
  have y0 := hL2.free 0
  have y1 := hL2.free 1
  have y2 := hL2.free 2
  have y3 := hL2.free 3
  have y4 := hL2.free 4
  have y5 := hL2.free 5
  have y6 := hL2.free 6
  have ll := hL2.lt
  simp at r0 r1 r2 r3 r4 r5 r6
  clear HH b2 hL2 hL4 T4 HB0 HL0 hW0
  go_wp2
  exact bodyPost_ret (v := .tuple #[.agg #[.int .i64 0, .int .i64 0, .slice none 0 0, .string ⟨#[]⟩, .bool false, .slice none 0 0, .slice none 0 0], .bool false]) (by simp [results, Tryd.results12, go_sem, k0, k1, k2, k3, k4, k5, k6]) rfl ⟨rfl, HE.out⟩
theorem knadd9 (w : World) (P : NdP) (x : Nd) : Calls Tryd.prog 36 #[.pointer none, .agg (P.cells x)] w fun e w' => NilAns w e w' := by
  obtain ⟨W0, hW0⟩ : ∃ W0, w.alloc (.cells (P.cells x) 47) = W0 := ⟨_, rfl⟩
  have HB0 : Hid (Below w.heap.size w W0) := by rw [← hW0]; exact (Below.refl _ w).alloc (Nat.le_refl _) _
  go_enter Tryd.func36, Tryd.ntmps36
  go_wp2
  go_ret2
  exact ⟨⟨1, by decide, rfl⟩, HB0.out⟩
set_option maxRecDepth 100000 in
theorem knconst9 (w : World) (s : ByteArray) (sort : Int) : Calls Tryd.prog 18 #[.pointer none, .string s, .int .i64 sort] w fun e w' => NilAns w e w' := by
  have HA := Lib.hid (knadd9 w ⟨none, 0, 0, false, none, 0, 0, none, 0, 0⟩ ⟨1, sort, [], s, 0, []⟩)
  by_cases h1 : sort < 1
  · clear HA
    go_enter Tryd.func18, Tryd.ntmps18
    go_wp2
    go_ret2
    exact ⟨⟨1, by decide, rfl⟩, Below.refl _ _⟩
  by_cases h3 : 3 < sort
  · clear HA
    go_enter Tryd.func18, Tryd.ntmps18
    go_wp2
    go_ret2
    exact ⟨⟨1, by decide, rfl⟩, Below.refl _ _⟩
  by_cases hs : 16384 < s.size
  · have hs' : (16384 : Int) < (s.size : Int) := by omega
    have h1' : 1 ≤ sort := by omega
    have h3' : sort ≤ 3 := by omega
    clear HA h1 h3
    go_enter Tryd.func18, Tryd.ntmps18
    go_wp2
    go_ret2
    exact ⟨⟨1, by decide, rfl⟩, Below.refl _ _⟩
  · have hs' : ¬ (16384 : Int) < (s.size : Int) := by omega
    go_enter Tryd.func18, Tryd.ntmps18
    go_wp2_with fail
    refine HA.out.mono ?_
    rintro e w1 ⟨⟨k, hk, rfl⟩, b1⟩
    have B1 := Lib.hid b1
    have HK := Lib.hid hk
    clear HA b1 hk
    go_wp2
    go_ret2
    exact ⟨⟨k, HK.out, rfl⟩, B1.out⟩
set_option maxRecDepth 100000 in
theorem knbool9 (w : World) (v : Bool) : Calls Tryd.prog 21 #[.pointer none, .bool v] w fun e w' => NilAns w e w' := by
  cases v with
  | true =>
    have HA := Lib.hid (knadd9 w ⟨none, 0, 0, false, none, 0, 0, none, 0, 0⟩ ⟨2, 1, [], ByteArray.empty, 0, []⟩)
    go_enter Tryd.func21, Tryd.ntmps21
    go_wp2_with fail
    refine HA.out.mono ?_
    rintro e w1 ⟨⟨k, hk, rfl⟩, b1⟩
    have B1 := Lib.hid b1
    have HK := Lib.hid hk
    clear HA b1 hk
    go_wp2
    go_ret2
    exact ⟨⟨k, HK.out, rfl⟩, B1.out⟩
  | false =>
    have HA := Lib.hid (knadd9 w ⟨none, 0, 0, false, none, 0, 0, none, 0, 0⟩ ⟨3, 1, [], ByteArray.empty, 0, []⟩)
    go_enter Tryd.func21, Tryd.ntmps21
    go_wp2_with fail
    refine HA.out.mono ?_
    rintro e w1 ⟨⟨k, hk, rfl⟩, b1⟩
    have B1 := Lib.hid b1
    have HK := Lib.hid hk
    clear HA b1 hk
    go_wp2
    go_ret2
    exact ⟨⟨k, HK.out, rfl⟩, B1.out⟩
set_option maxRecDepth 100000 in
theorem knnum9 (w : World) (g : Bool) (A : Option Addr) (n c : Nat) (z : Int) (hz : WIn w g A n c z) (hn : n ≤ 900) : Calls Tryd.prog 19 #[.pointer none, .agg #[.bool g, .slice A n c]] w fun e w' => NilAns w e w' := by
  obtain ⟨W0, hW0⟩ : ∃ W0, w.alloc (.cells #[.bool g, .slice A n c] 39) = W0 := ⟨_, rfl⟩
  have B0 : Below w.heap.size w W0 := by rw [← hW0]; exact (Below.refl _ w).alloc (Nat.le_refl _) _
  have L0 : Lies W0 w.heap.size 39 #[.bool g, .slice A n c] := by rw [← hW0]; exact Lies.new w _ _
  have HS := Lib.hid (sign_w g A n c z W0 (hz.below B0))
  have HB0 := Lib.hid B0
  have HL0 := Lib.hid L0
  have c0 : W0.cell? ⟨w.heap.size, 0, none⟩ = some (.bool g) := by rw [L0.cell]; rfl
  have c1 : W0.cell? ⟨w.heap.size, 1, none⟩ = some (.slice A n c) := by rw [L0.cell]; rfl
  obtain ⟨sg, hsg⟩ : ∃ sg, Z.sgn z = sg := ⟨_, rfl⟩
  rw [hsg] at HS
  by_cases hneg : z < 0
  · have d1 : sg < 0 := by rw [← hsg]; exact sgn_neg9.2 hneg
    clear hz B0 L0 hneg hsg
    go_enter Tryd.func19, Tryd.ntmps19
    go_wp2_with fail
    refine HS.out.mono ?_
    rintro e w1 ⟨rfl, b1⟩
    have HV := Lib.hid (HB0.out.trans (b1.mono HB0.out.size))
    clear HS b1
    go_wp2
    go_ret2
    exact ⟨⟨1, by decide, rfl⟩, HV.out⟩
  · have d1 : ¬ sg < 0 := by rw [← hsg]; exact fun e => hneg (sgn_neg9.1 e)
    have HNm : Hid (∀ w1, Below w.heap.size w w1 → Calls Tryd.prog 39 #[.agg #[.bool g, .slice A n c]] w1 fun e w' => (∃ A' n' c', e = .returned (.agg #[.bool false, .slice A' n' c']) ∧ n' ≤ 900 ∧ LimK w' (fun k => w1.heap.size ≤ k) A' n' c' z.natAbs) ∧ Below w1.heap.size w1 w') := fun w1 b1 => norm9 g A n c z w1 (hz.below b1) hneg hn
    have HA := Lib.hid fun w2 A' n' c' => knadd9 w2 ⟨none, 0, 0, false, A', n', c', none, 0, 0⟩ ⟨4, 2, [], ByteArray.empty, 0, []⟩
    clear hz B0 L0 hneg hsg
    go_enter Tryd.func19, Tryd.ntmps19
    go_wp2_with fail
    refine HS.out.mono ?_
    rintro e w1 ⟨rfl, b1⟩
    have hB1 := HB0.out.trans (b1.mono HB0.out.size)
    have hL1 := (b1.block _ HL0.out.lt).trans HL0.out
    have k0 := Lies.cell (t := 39) (cs := #[.bool g, .slice A n c]) hL1 0
    have k1 := Lies.cell (t := 39) (cs := #[.bool g, .slice A n c]) hL1 1
    simp at k0 k1
    have HN1 := Lib.hid (HNm.out w1 hB1)
    have HB1 := Lib.hid hB1
    clear HS HNm b1 hB1 hL1 HB0 HL0 c0 c1
    go_wp2_with fail
    refine HN1.out.mono ?_
    rintro e w2 ⟨⟨A', n', c', rfl, _, _⟩, b2⟩
    have HB2 := Lib.hid (HB1.out.trans (b2.mono HB1.out.size))
    clear HN1 b2 HB1 k0 k1
    go_wp2_with fail
    refine (HA.out w2 A' n' c').mono ?_
    rintro e w3 ha
    obtain ⟨⟨k, hk, rfl⟩, b3⟩ := ha.up HB2.out
    have B3 := Lib.hid b3
    have HK := Lib.hid hk
    clear HA HB2 b3 hk ha
    go_wp2
    go_ret2
    exact ⟨⟨k, HK.out, rfl⟩, B3.out⟩
set_option maxRecDepth 100000 in
theorem knstr9 (w : World) (C : Option Addr) (p f : Nat) (t : List (Int × Int)) (ht : RunS w C p t) (hp : p ≤ 1000) : Calls Tryd.prog 22 #[.pointer none, .slice C p f] w fun e w' => NilAns w e w' := by
  have HM := Lib.hid (kmayr w C p f t ht (by omega))
  have HA := Lib.hid fun w2 => knadd9 w2 ⟨none, 0, 0, false, none, 0, 0, C, p, f⟩ ⟨5, 3, [], ByteArray.empty, 0, []⟩
  obtain ⟨m, hm⟩ : ∃ m, Tx.mayB t = m := ⟨_, rfl⟩
  rw [hm] at HM
  clear ht hm
  cases m with
  | false =>
    clear HA
    go_enter Tryd.func22, Tryd.ntmps22
    go_wp2_with fail
    refine HM.out.mono ?_
    rintro e w1 ⟨rfl, b1⟩
    have HV := Lib.hid b1
    clear HM b1
    go_wp2
    go_ret2
    exact ⟨⟨1, by decide, rfl⟩, HV.out⟩
  | true =>
    go_enter Tryd.func22, Tryd.ntmps22
    go_wp2_with fail
    refine HM.out.mono ?_
    rintro e w1 ⟨rfl, b1⟩
    have HB1 := Lib.hid b1
    clear HM b1
    go_wp2_with fail
    refine (HA.out w1).mono ?_
    rintro e w2 ha
    obtain ⟨⟨k, hk, rfl⟩, b3⟩ := ha.up HB1.out
    have B3 := Lib.hid b3
    have HK := Lib.hid hk
    clear HA HB1 b3 hk ha
    go_wp2
    go_ret2
    exact ⟨⟨k, HK.out, rfl⟩, B3.out⟩
set_option maxRecDepth 100000 in
theorem knapp9 (w : World) (op : Int) (A : Option Addr) (n c : Nat) (a : List Int) (ha : NumS w A n a) (hn : n ≤ 1000) (hK : Ask9 w) : Calls Tryd.prog 15 #[.pointer none, .int .i64 op, .slice A n c] w fun e w' => NilAns w e w' := by
  by_cases h0 : 0 ≤ op
  · by_cases h1 : op < 31
    · obtain ⟨a0, a1, p0, p1, p2, ow, hrow, q0, q1, q2, q3, q4, q5, q6⟩ := Tm.row_is h0 h1
      obtain ⟨o, rfl⟩ : ∃ o : Nat, op = o := ⟨op.toNat, by omega⟩
      rw [Int.toNat_natCast] at hrow
      have ho' : (o : Int) < 31 := by omega
      have ho2 : ¬ (31 : Int) ≤ (o : Int) := by omega
      rcases q6 with ⟨rfl, hasks⟩ | ⟨hpos, ws, more, own, hasks, hr⟩
      · have g1 := hK o _ hrow 1 0 rfl
        clear ha hK hrow hasks h1
        go_enter Tryd.func15, Tryd.ntmps15
        go_wp2
        go_ret2
        exact ⟨⟨101, by decide, rfl⟩, Below.refl _ _⟩
      · obtain ⟨W1, hW1⟩ : ∃ W1, w.alloc (.cells #[.int .u8 (a0 : Int), .int .u8 (a1 : Int), .int .u8 (p0 : Int), .int .u8 (p1 : Int), .int .u8 (p2 : Int), .int .u8 (ow : Int)] 77) = W1 := ⟨_, rfl⟩
        have B1 : Below w.heap.size w W1 := by rw [← hW1]; exact (Below.refl _ w).alloc (Nat.le_refl _) _
        have L1 : Lies W1 w.heap.size 77 #[.int .u8 (a0 : Int), .int .u8 (a1 : Int), .int .u8 (p0 : Int), .int .u8 (p1 : Int), .int .u8 (p2 : Int), .int .u8 (ow : Int)] := by rw [← hW1]; exact Lies.new w _ _
        have g0 := hK o _ hrow 0 a0 rfl
        have g1 := hK o _ hrow 1 a1 rfl
        have g2 := hK o _ hrow 2 p0 rfl
        have g3 := hK o _ hrow 3 p1 rfl
        have g4 := hK o _ hrow 4 p2 rfl
        have g5 := hK o _ hrow 5 ow rfl
        simp only [Nat.add_zero] at g0
        have e0 := L1.cell 0
        have e1 := L1.cell 1
        simp at e0 e1
        have hz1 : ((a1 : Int) == 0) = false := beq_eq_false_iff_ne.2 (by omega)
        have hw0 : IntKind.i64.wrap (a0 : Int) = (a0 : Int) := IntWalk.i64_in _ (by omega)
        have hw1 : IntKind.i64.wrap (a1 : Int) = (a1 : Int) := IntWalk.i64_in _ (by omega)
        have HB1 := Lib.hid B1
        have h1p : 1 ≤ a0 := by have := hr.len; have := hr.pos; omega
        by_cases hn0 : n < a0
        · have hn0' : (n : Int) < (a0 : Int) := by omega
          clear ha hK hrow hasks hr B1 L1 hn0
          go_enter Tryd.func15, Tryd.ntmps15
          go_wp2
          go_ret2
          exact ⟨⟨1, by decide, rfl⟩, HB1.out⟩
        by_cases hn1 : a1 < n
        · have hn0' : ¬ (n : Int) < (a0 : Int) := by omega
          have hn1' : (a1 : Int) < (n : Int) := by omega
          clear ha hK hrow hasks hr B1 L1 hn0 hn1
          go_enter Tryd.func15, Tryd.ntmps15
          go_wp2
          go_ret2
          exact ⟨⟨1, by decide, rfl⟩, HB1.out⟩
        · have hn0' : ¬ (n : Int) < (a0 : Int) := by omega
          have hn1' : ¬ (a1 : Int) < (n : Int) := by omega
          have HH := Lib.hid (knhasAll9 W1 A n c a (ha.below B1) (by omega) hn)
          clear ha hK hrow hasks hr B1 L1 hn0 hn1
          go_enter Tryd.func15, Tryd.ntmps15
          go_wp2_with fail
          refine HH.out.mono ?_
          rintro e w2 ⟨rfl, b2⟩
          have HV := Lib.hid (HB1.out.trans (b2.mono HB1.out.size))
          clear HH HB1 b2
          go_wp2
          go_ret2
          exact ⟨⟨1, by decide, rfl⟩, HV.out⟩
    · have ho' : (31 : Int) ≤ op := by omega
      have d0 : ¬ op < 0 := by omega
      clear ha hK h1
      go_enter Tryd.func15, Tryd.ntmps15
      go_wp2
      go_ret2
      exact ⟨⟨101, by decide, rfl⟩, Below.refl _ _⟩
  · have d0 : op < 0 := by omega
    clear ha hK h0
    go_enter Tryd.func15, Tryd.ntmps15
    go_wp2
    go_ret2
    exact ⟨⟨101, by decide, rfl⟩, Below.refl _ _⟩
set_option maxRecDepth 100000 in
set_option maxHeartbeats 1600000 in
theorem kndoes9 (w : World) (P : ClP) (x : Cl) (hx : ClAs w P x) (hf : P.few x) (hK : Ask9 w) : Calls Tryd.prog 9 #[.pointer none, .agg (P.cells x)] w fun e w' => NilAns w e w' := by
  obtain ⟨W0, hW0⟩ : ∃ W0, w.alloc (.cells (P.cells x) 42) = W0 := ⟨_, rfl⟩
  have B0 : Below w.heap.size w W0 := by rw [← hW0]; exact (Below.refl _ w).alloc (Nat.le_refl _) _
  have L0 : Lies W0 w.heap.size 42 (P.cells x) := by rw [← hW0]; exact Lies.new w _ _
  have HB0 := Lib.hid B0
  have hx0 := hx.below B0
  have hK0 := hK.below B0
  obtain ⟨f1, f2, f3, f4⟩ := hf
  have ck : W0.cell? ⟨w.heap.size, 0, none⟩ = some (.int .i64 x.kind) := by rw [L0.cell]; rfl
  rcases Tm.does_kind [] x with ⟨k0, _⟩ | ⟨k0, _⟩ | ⟨k0, _⟩ | ⟨k0, _⟩ | ⟨k0, _⟩
  · have e0 : (x.kind == 0) = true := beq_iff_eq.2 k0
    have c4 : W0.cell? ⟨w.heap.size, 4, none⟩ = some (.string x.s) := by rw [L0.cell]; rfl
    have c2 : W0.cell? ⟨w.heap.size, 2, none⟩ = some (.int .i64 x.sort) := by rw [L0.cell]; rfl
    have HA := Lib.hid (knconst9 W0 x.s x.sort)
    clear hx hK hx0 hK0 L0 B0 k0 f1 f2 f3 f4
    go_enter Tryd.func9, Tryd.ntmps9
    go_wp2_with fail
    refine HA.out.mono ?_
    rintro e w1 ha
    obtain ⟨⟨k, hk, rfl⟩, b3⟩ := ha.up HB0.out
    have B3 := Lib.hid b3
    have HK := Lib.hid hk
    clear HA HB0 b3 hk ha
    go_wp2
    go_ret2
    exact ⟨⟨k, HK.out, rfl⟩, B3.out⟩
  · have e0 : (x.kind == 0) = false := beq_eq_false_iff_ne.2 (by omega)
    have e1 : (x.kind == 1) = true := beq_iff_eq.2 k0
    have c5 : W0.cell? ⟨w.heap.size, 5, none⟩ = some (.bool x.b) := by rw [L0.cell]; rfl
    have HA := Lib.hid (knbool9 W0 x.b)
    clear hx hK hx0 hK0 L0 B0 k0 f1 f2 f3 f4
    go_enter Tryd.func9, Tryd.ntmps9
    go_wp2_with fail
    refine HA.out.mono ?_
    rintro e w1 ha
    obtain ⟨⟨k, hk, rfl⟩, b3⟩ := ha.up HB0.out
    have B3 := Lib.hid b3
    have HK := Lib.hid hk
    clear HA HB0 b3 hk ha
    go_wp2
    go_ret2
    exact ⟨⟨k, HK.out, rfl⟩, B3.out⟩
  · have e0 : (x.kind == 0) = false := beq_eq_false_iff_ne.2 (by omega)
    have e1 : (x.kind == 1) = false := beq_eq_false_iff_ne.2 (by omega)
    have e2 : (x.kind == 2) = true := beq_iff_eq.2 k0
    have c6 : W0.cell? ⟨w.heap.size, 6, none⟩ = some (.bool P.g) := by rw [L0.cell]; rfl
    have c7 : W0.cell? ⟨w.heap.size, 7, none⟩ = some (.slice P.B P.m P.d) := by rw [L0.cell]; rfl
    have HA := Lib.hid (knnum9 W0 P.g P.B P.m P.d x.z (hx0.num f2) (by omega))
    clear hx hK hx0 hK0 L0 B0 k0 f1 f2 f3 f4
    go_enter Tryd.func9, Tryd.ntmps9
    go_wp2_with fail
    refine HA.out.mono ?_
    rintro e w1 ha
    obtain ⟨⟨k, hk, rfl⟩, b3⟩ := ha.up HB0.out
    have B3 := Lib.hid b3
    have HK := Lib.hid hk
    clear HA HB0 b3 hk ha
    go_wp2
    go_ret2
    exact ⟨⟨k, HK.out, rfl⟩, B3.out⟩
  · have e0 : (x.kind == 0) = false := beq_eq_false_iff_ne.2 (by omega)
    have e1 : (x.kind == 1) = false := beq_eq_false_iff_ne.2 (by omega)
    have e2 : (x.kind == 2) = false := beq_eq_false_iff_ne.2 (by omega)
    have e3 : (x.kind == 3) = true := beq_iff_eq.2 k0
    have c8 : W0.cell? ⟨w.heap.size, 8, none⟩ = some (.slice P.C P.p P.f) := by rw [L0.cell]; rfl
    have HA := Lib.hid (knstr9 W0 P.C P.p P.f x.t hx0.str (by omega))
    clear hx hK hx0 hK0 L0 B0 k0 f1 f2 f3 f4
    go_enter Tryd.func9, Tryd.ntmps9
    go_wp2_with fail
    refine HA.out.mono ?_
    rintro e w1 ha
    obtain ⟨⟨k, hk, rfl⟩, b3⟩ := ha.up HB0.out
    have B3 := Lib.hid b3
    have HK := Lib.hid hk
    clear HA HB0 b3 hk ha
    go_wp2
    go_ret2
    exact ⟨⟨k, HK.out, rfl⟩, B3.out⟩
  · have e0 : (x.kind == 0) = false := beq_eq_false_iff_ne.2 (by omega)
    have e1 : (x.kind == 1) = false := beq_eq_false_iff_ne.2 (by omega)
    have e2 : (x.kind == 2) = false := beq_eq_false_iff_ne.2 (by omega)
    have e3 : (x.kind == 3) = false := beq_eq_false_iff_ne.2 (by omega)
    have c1 : W0.cell? ⟨w.heap.size, 1, none⟩ = some (.int .i64 x.op) := by rw [L0.cell]; rfl
    have c3 : W0.cell? ⟨w.heap.size, 3, none⟩ = some (.slice P.A P.n P.c) := by rw [L0.cell]; rfl
    have HA := Lib.hid (knapp9 W0 x.op P.A P.n P.c x.a hx0.a (by omega) hK0)
    clear hx hK hx0 hK0 L0 B0 k0 f1 f2 f3 f4
    go_enter Tryd.func9, Tryd.ntmps9
    go_wp2_with fail
    refine HA.out.mono ?_
    rintro e w1 ha
    obtain ⟨⟨k, hk, rfl⟩, b3⟩ := ha.up HB0.out
    have B3 := Lib.hid b3
    have HK := Lib.hid hk
    clear HA HB0 b3 hk ha
    go_wp2
    go_ret2
    exact ⟨⟨k, HK.out, rfl⟩, B3.out⟩
set_option maxRecDepth 100000 in
set_option maxHeartbeats 1600000 in
theorem termNone_walk (w : World) (P : ClP) (x : Cl) (hx : ClAs w P x) (hT : Pow9 w) (hK : Ask9 w) :
    Calls Tryd.prog 5 #[.agg (P.cells x)] w fun e w' => e = .returned (.bool true) ∧ Below w.heap.size w w' := by
  obtain ⟨W0, hW0⟩ : ∃ W0, w.alloc (.cells (P.cells x) 42) = W0 := ⟨_, rfl⟩
  have B0 : Below w.heap.size w W0 := by rw [← hW0]; exact (Below.refl _ w).alloc (Nat.le_refl _) _
  have L0 : Lies W0 w.heap.size 42 (P.cells x) := by rw [← hW0]; exact Lies.new w _ _
  have HA := Lib.hid (kawake9 W0 (hT.on B0) (hK.below B0))
  have HB0 := Lib.hid B0
  have HL0 := Lib.hid L0
  have HX := Lib.hid hx
  have HK := Lib.hid hK
  obtain ⟨pA, pn, pc, pg, pB, pm, pd, pC, pp, pf⟩ := P
  clear hx hT hK B0 L0
  go_enter Tryd.func5, Tryd.ntmps5
  go_wp2_with fail
  refine HA.out.mono ?_
  rintro e w1 ⟨rfl, b1⟩
  have hB1 := HB0.out.trans (b1.mono HB0.out.size)
  have hL1 : Lies w1 w.heap.size 42 (ClP.cells ⟨pA, pn, pc, pg, pB, pm, pd, pC, pp, pf⟩ x) := (b1.block _ HL0.out.lt).trans HL0.out
  have c0 : w1.cell? ⟨w.heap.size, 0, none⟩ = some (.int .i64 x.kind) := by rw [hL1.cell]; rfl
  have c1 : w1.cell? ⟨w.heap.size, 1, none⟩ = some (.int .i64 x.op) := by rw [hL1.cell]; rfl
  have c2 : w1.cell? ⟨w.heap.size, 2, none⟩ = some (.int .i64 x.sort) := by rw [hL1.cell]; rfl
  have c3 : w1.cell? ⟨w.heap.size, 3, none⟩ = some (.slice pA pn pc) := by rw [hL1.cell]; rfl
  have c4 : w1.cell? ⟨w.heap.size, 4, none⟩ = some (.string x.s) := by rw [hL1.cell]; rfl
  have c5 : w1.cell? ⟨w.heap.size, 5, none⟩ = some (.bool x.b) := by rw [hL1.cell]; rfl
  have c6 : w1.cell? ⟨w.heap.size, 6, none⟩ = some (.bool pg) := by rw [hL1.cell]; rfl
  have c7 : w1.cell? ⟨w.heap.size, 7, none⟩ = some (.slice pB pm pd) := by rw [hL1.cell]; rfl
  have c8 : w1.cell? ⟨w.heap.size, 8, none⟩ = some (.slice pC pp pf) := by rw [hL1.cell]; rfl
  obtain ⟨W2, hW2⟩ : ∃ W2, w1.alloc (.cells (ClP.cells ⟨pA, pn, pc, pg, pB, pm, pd, pC, pp, pf⟩ x) 42) = W2 := ⟨_, rfl⟩
  have hB2 : Below w.heap.size w W2 := by rw [← hW2]; exact hB1.alloc hB1.size _
  have hL2 : Lies W2 w1.heap.size 42 (ClP.cells ⟨pA, pn, pc, pg, pB, pm, pd, pC, pp, pf⟩ x) := by rw [← hW2]; exact Lies.new w1 _ _
  have hL3 : Lies W2 w.heap.size 42 (ClP.cells ⟨pA, pn, pc, pg, pB, pm, pd, pC, pp, pf⟩ x) := by rw [← hW2]; exact (Below.heap_alloc _ _ _ hL1.lt).trans hL1
  have hcl : ClS W2 (some ⟨w1.heap.size, 0, none⟩) 1 [(⟨pA, pn, pc, pg, pB, pm, pd, pC, pp, pf⟩, x)] := ⟨rfl, fun _ => ⟨w1.heap.size, 0, rfl, hL2.lt, fun i q hq => by
    rcases i with _ | i
    · obtain rfl : ((⟨pA, pn, pc, pg, pB, pm, pd, pC, pp, pf⟩, x) : ClP × Cl) = q := by simpa using hq
      refine ⟨fun j u hu => ?_, HX.out.below hB2⟩
      simp only [Nat.zero_mul, Nat.zero_add]
      rw [hL2.cell]
      exact hu
    · simp at hq⟩⟩
  have HF := Lib.hid (kfew9 W2 _ 1 1 _ 1 hcl (by decide))
  have HB2 := Lib.hid hB2
  have HL3 := Lib.hid hL3
  clear HA b1 hB1 hL1 hB2 hL2 hL3 hcl HB0 HL0 hW0
  go_wp2_with fail
  refine HF.out.mono ?_
  rintro e w2 ⟨⟨b, rfl, hb⟩, rfl⟩
  clear HF
  clear c0 c1 c2 c3 c4 c5 c6 c7 c8
  cases b with
  | false =>
    clear hb
    go_wp2
    go_ret
    exact ⟨rfl, HB2.out⟩
  | true =>
    have hfew := (hb rfl).2 _ (List.mem_singleton.2 rfl)
    have HD := Lib.hid (kndoes9 w2 ⟨pA, pn, pc, pg, pB, pm, pd, pC, pp, pf⟩ x (HX.out.below HB2.out) hfew (HK.out.below HB2.out))
    have HAt := Lib.hid fun W => knat9 W 0
    have HLn := Lib.hid fun W => knlen9 W
    have c0 : w2.cell? ⟨w.heap.size, 0, none⟩ = some (.int .i64 x.kind) := by rw [HL3.out.cell]; rfl
    have c1 : w2.cell? ⟨w.heap.size, 1, none⟩ = some (.int .i64 x.op) := by rw [HL3.out.cell]; rfl
    have c2 : w2.cell? ⟨w.heap.size, 2, none⟩ = some (.int .i64 x.sort) := by rw [HL3.out.cell]; rfl
    have c3 : w2.cell? ⟨w.heap.size, 3, none⟩ = some (.slice pA pn pc) := by rw [HL3.out.cell]; rfl
    have c4 : w2.cell? ⟨w.heap.size, 4, none⟩ = some (.string x.s) := by rw [HL3.out.cell]; rfl
    have c5 : w2.cell? ⟨w.heap.size, 5, none⟩ = some (.bool x.b) := by rw [HL3.out.cell]; rfl
    have c6 : w2.cell? ⟨w.heap.size, 6, none⟩ = some (.bool pg) := by rw [HL3.out.cell]; rfl
    have c7 : w2.cell? ⟨w.heap.size, 7, none⟩ = some (.slice pB pm pd) := by rw [HL3.out.cell]; rfl
    have c8 : w2.cell? ⟨w.heap.size, 8, none⟩ = some (.slice pC pp pf) := by rw [HL3.out.cell]; rfl
    clear hb hfew HX HK HL3
    go_wp2_with fail
    refine HD.out.mono ?_
    rintro e w3 ⟨⟨k, hk, rfl⟩, b3⟩
    have hk' : (k != 0) = true := bne_iff_ne.2 hk
    have HB3 := Lib.hid (HB2.out.trans (b3.mono HB2.out.size))
    clear HD HB2 b3 hk c0 c1 c2 c3 c4 c5 c6 c7 c8 hW2
    go_wp2_with fail
    refine (HAt.out w3).mono ?_
    rintro e w4 ⟨rfl, b4⟩
    have hB4 := HB3.out.trans (b4.mono HB3.out.size)
    have HB5 := Lib.hid (hB4.alloc hB4.size (.cells #[.int .i64 0, .int .i64 0, .slice none 0 0, .string ⟨#[]⟩, .bool false, .slice none 0 0, .slice none 0 0] 47))
    clear HAt b4 hB4 HB3
    go_wp2_with fail
    refine (HLn.out _).mono ?_
    rintro e w6 ⟨rfl, rfl⟩
    clear HLn
    go_wp2
    go_ret
    exact ⟨rfl, HB5.out⟩
end Go.Proofs.YtkooconjkimgoaaDoor
