/- The law TermOnce. -/
import Derived.Test.YtkooconjkimgoaaDoorN11
import Derived.Test.YtkooconjkimgoaaDoorN9
namespace Go.Proofs.YtkooconjkimgoaaDoor
open Go.RowKit

set_option maxRecDepth 100000 in
set_option maxHeartbeats 4000000 in
theorem termOnce_walk (w : World) (A : Option Addr) (n c : Nat) (l : List (ClP × Cl)) (h : ClS w A n l) (hT : Pow9 w) (hK : Ask9 w) :
    Calls Tryd.prog 4 #[.slice A n c] w fun e w' => e = .returned (.bool true) ∧ Below w.heap.size w w' := by
  have HA := Lib.hid (kawake9 w hT hK)
  have HTp := Lib.hid hT
  have HKp := Lib.hid hK
  have HF := Lib.hid fun W (hW : Below w.heap.size w W) => kfew9 W A n c l 150 (h.below hW) (by decide)
  have HH := Lib.hid h
  clear h hT hK
  go_enter Tryd.func4, Tryd.ntmps4
  go_wp2_with fail
  refine HA.out.mono ?_
  rintro e w1 ⟨rfl, b1⟩
  have B1 := Lib.hid b1
  clear b1 HA
  go_wp2_with fail
  refine (HF.out w1 B1.out).mono ?_
  rintro e w2 ⟨⟨b, rfl, hb⟩, rfl⟩
  clear HF
  cases b with
  | false =>
    clear hb
    go_wp2
    go_ret
    exact ⟨rfl, B1.out⟩
  | true =>
    obtain ⟨hn, hfew⟩ := hb rfl
    have HFew := Lib.hid hfew
    clear hb hfew
    go_wp2
    obtain ⟨W0, hW0⟩ : ∃ W0, w2.alloc (.cells Z9 32) = W0 := ⟨_, rfl⟩
    have hB0 : Below w.heap.size w W0 := by rw [← hW0]; exact B1.out.alloc B1.out.size _
    have HK0 : Hid (Bk W0 w2.heap.size (fun k => k = w2.heap.size) []) := by rw [← hW0]; exact knew9 w2
    have HB0 := Lib.hid hB0
    have HW2 : Hid (w.heap.size ≤ w2.heap.size) := B1.out.size
    rw [hW0]
    clear hW0 hB0
    go_loopw [6] (fun iv wr => ∃ i : Nat, i ≤ n ∧ iv = .int .i64 (i : Nat) ∧ Hid (Below w.heap.size w wr ∧ ∃ (F : Nat → Prop) (r : List Nd), Bk wr w2.heap.size F r ∧ Tm.Inv r ∧ r.length ≤ i ∧ ∀ k, F k → w.heap.size ≤ k)) (fun iv _ => n - (intOf iv).toNat)
    case atStart => exact ⟨0, Nat.zero_le _, rfl, HB0.out, _, [], HK0.out, Tm.Inv.nil, Nat.zero_le _, fun k hk => by rw [hk]; exact HW2.out⟩
    case round =>
      obtain ⟨i, hi, rfl, HI⟩ := hrel
      by_cases hlt : i < n
      · have hlt' : (i : Int) < (n : Int) := by omega
        have hi0 : (0 : Int) ≤ (i : Int) := by omega
        obtain ⟨HBw, F, r, hK, hI, hri, hFw⟩ := HI.out
        obtain ⟨bA, oA, P, x, rfl, hx, _, hxw, hc⟩ := HH.out.get hlt
        have hfx := HFew.out _ (List.mem_of_getElem? hx)
        have HD := Lib.hid (kdoes9 w wr w2.heap.size F r P x hK hI hxw HBw hFw hfx (by omega) HTp.out HKp.out)
        have hdi := Tm.does_inv hI x
        have hdl := (Tm.does_len r x).1
        have hag := Tm.does_again hI x
        obtain ⟨q, hq⟩ : ∃ q, Tm.does r x = q := ⟨_, rfl⟩
        rw [hq] at HD hdi hdl hag
        obtain ⟨l2, y, e2⟩ := q
        simp only at HD hdi hdl hag
        have HD2 : Hid (∀ W F', Bk W w2.heap.size F' l2 → Below w.heap.size w W → (∀ k, F' k → w.heap.size ≤ k) → Calls Tryd.prog 9 #[.pointer (some ⟨w2.heap.size, 0, none⟩), .agg (P.cells x)] W fun e w' => e = .returned (.tuple #[.int .i64 y, .int .i64 e2]) ∧ ∃ F'', Bk w' w2.heap.size F'' l2 ∧ Turn F' W w' ∧ ∀ k, F'' k → F' k ∨ W.heap.size ≤ k) := fun W F' hK' hB' hFF => by
          have := kdoes9 w W w2.heap.size F' l2 P x hK' hdi hxw hB' hFF hfx (by omega) HTp.out HKp.out
          rwa [hag.1] at this
        have HC := Lib.hid hc
        obtain ⟨g0, g1, g2, g3, g4, g5, g6, g7, g8⟩ := hc wr HBw
        have HX := Lib.hid (And.intro hFw (And.intro hdi (And.intro (show l2.length ≤ i + 1 by omega) HBw)))
        have HAg := Lib.hid hag.2
        have hiw : IntKind.i64.wrap ((i : Int) + 1) = (i : Int) + 1 := IntWalk.i64_in _ (by omega)
        clear HI HBw hK hI hri hFw hx hxw hc hfx hdi hdl hq hag HFew HH HTp HKp
        go_wp2_with fail
        refine HD.out.mono ?_
        rintro e w3 ⟨rfl, F', hK3, hT3, hF3⟩
        obtain ⟨hFw, hdi, hll, HBw⟩ := HX.out
        have hB3 := HBw.trans (hT3.below HBw.size hFw)
        have hFw' : ∀ k, F' k → w.heap.size ≤ k := fun k hk => (hF3 k hk).elim (hFw k) fun e => Nat.le_trans HBw.size e
        have HLn := Lib.hid (klen9 w3 w2.heap.size F' l2 hK3)
        have HY := Lib.hid (And.intro hK3 (And.intro hB3 (And.intro hFw' (And.intro hdi hll))))
        clear HD HX hFw hdi hll HBw hT3 hF3 hB3 hFw' hK3 g0 g1 g2 g3 g4 g5 g6 g7 g8
        go_wp2_with fail
        refine HLn.out.mono ?_
        rintro e w4 ⟨rfl, b4⟩
        obtain ⟨hK3, hB3, hFw', hdi, hll⟩ := HY.out
        have hB4 := hB3.trans (b4.mono hB3.size)
        have HD4 := Lib.hid (HD2.out w4 F' (hK3.below b4) hB4 hFw')
        obtain ⟨g0, g1, g2, g3, g4, g5, g6, g7, g8⟩ := HC.out w4 hB4
        have HZ := Lib.hid (And.intro hB4 (And.intro hFw' (And.intro hdi hll)))
        clear HLn HY HD2 HC hK3 hB3 hFw' hdi hll b4 hB4
        go_wp2_with fail
        refine HD4.out.mono ?_
        rintro e w5 ⟨rfl, F'', hK5, hT5, hF5⟩
        obtain ⟨hB4, hFw', hdi, hll⟩ := HZ.out
        have hB5 := hB4.trans (hT5.below hB4.size hFw')
        have hFw'' : ∀ k, F'' k → w.heap.size ≤ k := fun k hk => (hF5 k hk).elim (hFw' k) fun e => Nat.le_trans hB4.size e
        have HLn := Lib.hid (klen9 w5 w2.heap.size F'' l2 hK5)
        have HV : Hid (∀ w6, Below w5.heap.size w5 w6 → Below w.heap.size w w6 ∧ ∃ (F : Nat → Prop) (r : List Nd), Bk w6 w2.heap.size F r ∧ Tm.Inv r ∧ r.length ≤ i + 1 ∧ ∀ k, F k → w.heap.size ≤ k) := fun w6 b6 =>
          ⟨hB5.trans (b6.mono hB5.size), F'', l2, hK5.below b6, hdi, hll, hFw''⟩
        clear HD4 HZ g0 g1 g2 g3 g4 g5 g6 g7 g8 hK5 hT5 hF5 hB4 hFw' hdi hll hB5 hFw''
        by_cases he2 : e2 = 0
        · subst he2
          clear HAg
          go_wp2_with fail
          refine HLn.out.mono ?_
          rintro e w6 ⟨rfl, b6⟩
          have HV6 := Lib.hid (HV.out w6 b6)
          clear HLn HV b6
          go_wp2
          go_roundw
          case rel => exact ⟨i + 1, by omega, by go_num, HV6.out⟩
          case measure => simp [intOf]; omega
        · have hy0 := HAg.out he2
          subst hy0
          have d1 : (e2 != 0) = true := by simpa using he2
          clear HAg he2
          go_wp2_with fail
          refine HLn.out.mono ?_
          rintro e w6 ⟨rfl, b6⟩
          have HV6 := Lib.hid (HV.out w6 b6)
          clear HLn HV b6
          go_wp2
          go_roundw
          case rel => exact ⟨i + 1, by omega, by go_num, HV6.out⟩
          case measure => simp [intOf]; omega
      · have him : n = i := by omega
        have hlt2 : ¬ (i : Int) < (n : Int) := by omega
        obtain ⟨HBw, F, r, hK, hI, hri, hFw⟩ := HI.out
        obtain ⟨m, hm⟩ : ∃ m, r.length = m := ⟨_, rfl⟩
        have hmi : m ≤ 1000 := by omega
        have HKR := Lib.hid (And.intro hK (And.intro hI (And.intro HBw hm)))
        clear HI HBw hK hI hri hFw HH HFew HK0 HB0 HTp HKp hlt hi hm
        go_wp2
        obtain ⟨wo, rfl⟩ : ∃ wo, wo = wr := ⟨_, rfl⟩
        go_loopw [12] (fun jv wq => ∃ j : Nat, j ≤ m ∧ jv = .int .i64 (j : Nat) ∧ Hid (Below wo.heap.size wo wq)) (fun jv _ => m - (intOf jv).toNat)
        case atStart => exact ⟨0, Nat.zero_le _, rfl, Below.refl _ _⟩
        case round =>
          obtain ⟨j, hj, rfl, HQ⟩ := hrel
          obtain ⟨hK, hI, hBw, hm⟩ := HKR.out
          have HLn := Lib.hid (klen9 wr w2.heap.size F r (hK.below HQ.out))
          rw [hm] at HLn
          by_cases hlt3 : j < m
          · have hjm : (j : Int) < (m : Int) := by omega
            obtain ⟨x, hx⟩ : ∃ x, r[j]? = some x := ⟨_, List.getElem?_eq_getElem (by omega)⟩
            have HAt : Hid (∀ W, Below wo.heap.size wo W → ∀ (k : Nat) y, r[k]? = some y → Calls Tryd.prog 12 #[.pointer (some ⟨w2.heap.size, 0, none⟩), .int .i64 (k : Int)] W fun e w' => (∃ P, e = .returned (.tuple #[.agg (NdP.cells P y), .bool true]) ∧ NdAs w' (fun _ => True) P y) ∧ Below W.heap.size W w') := fun W hW k y hy => kat9 W w2.heap.size F r k y (hK.below hW) hy
            have HPart := Lib.hid (hI.part j x hx)
            have HTwo : Hid (∀ k, k < j → ∃ y, r[k]? = some y ∧ x ≠ y) := fun k hk => ⟨_, List.getElem?_eq_getElem (by omega), hI.two hx (List.getElem?_eq_getElem (by omega)) hk⟩
            have HX := Lib.hid hx
            have hjw : IntKind.i64.wrap ((j : Int) + 1) = (j : Int) + 1 := IntWalk.i64_in _ (by omega)
            clear hK hI hBw hm hx HKR
            go_wp2_with fail
            refine HLn.out.mono ?_
            rintro e w4 ⟨rfl, b4⟩
            have HB4 := Lib.hid (HQ.out.trans (b4.mono HQ.out.size))
            clear HLn b4 HQ
            go_wp2_with fail
            refine (HAt.out w4 HB4.out j x HX.out).mono ?_
            rintro e w5 ⟨⟨P, rfl, hP⟩, b5⟩
            obtain ⟨W6, hW6⟩ : ∃ W6, w5.alloc (.cells (P.cells x) 47) = W6 := ⟨_, rfl⟩
            have hB6 : Below wo.heap.size wo W6 := by
              have := HB4.out.trans (b5.mono HB4.out.size)
              rw [← hW6]
              exact this.alloc this.size _
            have hL6 : Lies W6 w5.heap.size 47 (P.cells x) := by rw [← hW6]; exact Lies.new w5 _ _
            have hP6 : NdAs W6 (fun _ => True) P x := by rw [← hW6]; exact hP.below ((Below.refl _ w5).alloc (Nat.le_refl _) _)
            have HB6 := Lib.hid hB6
            have c2 : W6.cell? ⟨w5.heap.size, 2, none⟩ = some (.slice P.A P.n P.c) := by rw [hL6.cell]; rfl
            have HL6 := Lib.hid hL6
            have HP6 := Lib.hid hP6
            have hPn : P.n ≤ 1000000 := hP6.few.1
            clear HX HB4 hP b5 hB6 hL6 hP6
            go_wp2
            go_loopw [15] (fun kv wq => ∃ k : Nat, k ≤ P.n ∧ kv = .int .i64 (k : Nat) ∧ W6 = wq) (fun kv _ => P.n - (intOf kv).toNat)
            case atStart => exact ⟨0, Nat.zero_le _, rfl, rfl⟩
            case round =>
              obtain ⟨k, hk, rfl, rfl⟩ := hrel
              by_cases hlt4 : k < P.n
              · have hkn : (k : Int) < (P.n : Int) := by omega
                have hk0 : (0 : Int) ≤ (k : Int) := by omega
                obtain ⟨b, off, z, eA, hz, hzm, _, hc⟩ := HP6.out.a.get hlt4
                have cz := (hc W6 (Below.refl _ _)).2
                have hzr := HPart.out z hzm
                have z0 : decide (z < 0) = false := decide_eq_false (by omega)
                have z1 : decide ((j : Int) ≤ z) = false := decide_eq_false (by omega)
                have hkw : IntKind.i64.wrap ((k : Int) + 1) = (k : Int) + 1 := IntWalk.i64_in _ (by omega)
                clear hz hzm hc hzr HAt HPart HTwo HB6 HL6 HP6 hW6
                rw [eA] at c2
                clear eA
                go_wp2
                go_roundw
                case rel => exact ⟨k + 1, by omega, by go_num, by first | trivial | rfl⟩
                case measure => simp [intOf]; omega
              · have hkn : ¬ (k : Int) < (P.n : Int) := by omega
                clear HPart hW6 hk hlt4
                go_wp2
                go_loopw [16] (fun kv wq => ∃ q : Nat, q ≤ j ∧ kv = .int .i64 (q : Nat) ∧ Hid (Below W6.heap.size W6 wq)) (fun kv _ => j - (intOf kv).toNat)
                case atStart => exact ⟨0, Nat.zero_le _, rfl, Below.refl _ _⟩
                case round =>
                  obtain ⟨q, hq, rfl, HE⟩ := hrel
                  by_cases hlt5 : q < j
                  · have hqj : (q : Int) < (j : Int) := by omega
                    obtain ⟨y, hy, hxy⟩ := HTwo.out q hlt5
                    have HAq := Lib.hid (HAt.out _ (HB6.out.trans (HE.out.mono HB6.out.size)) q y hy)
                    have hqw : IntKind.i64.wrap ((q : Int) + 1) = (q : Int) + 1 := IntWalk.i64_in _ (by omega)
                    clear HTwo HAt hy HB6 hjw c2
                    go_wp2_with fail
                    refine HAq.out.mono ?_
                    rintro e w7 ⟨⟨P2, rfl, hP2⟩, b7⟩
                    obtain ⟨W8, hW8⟩ : ∃ W8, w7.alloc (.cells (P2.cells y) 47) = W8 := ⟨_, rfl⟩
                    have hB8 : Below W6.heap.size W6 W8 := by
                      have := HE.out.trans (b7.mono HE.out.size)
                      rw [← hW8]
                      exact this.alloc this.size _
                    have hL8 : Lies W8 w7.heap.size 47 (P2.cells y) := by rw [← hW8]; exact Lies.new w7 _ _
                    have hP8 : NdAs W8 (fun _ => True) P2 y := by rw [← hW8]; exact hP2.below ((Below.refl _ w7).alloc (Nat.le_refl _) _)
                    have hL9 : Lies W8 w5.heap.size 47 (P.cells x) := (hB8.block _ HL6.out.lt).trans HL6.out
                    have HS := Lib.hid (rsame9 W8 P P2 x y (HP6.out.below hB8) hP8)
                    rw [Nd.same_no hxy] at HS
                    obtain ⟨p0, p1, p2, p3, p4, p5, p6⟩ := Lies.cell7 hL9
                    obtain ⟨q0, q1, q2, q3, q4, q5, q6⟩ := Lies.cell7 hL8
                    have HB8 := Lib.hid hB8
                    clear HAq HE hP2 b7 hB8 hL8 hP8 hL9 HL6 HP6 hxy
                    go_wp2_with fail
                    refine HS.out.mono ?_
                    rintro e w9 ⟨rfl, b9⟩
                    have HB9 := Lib.hid (HB8.out.trans (b9.mono HB8.out.size))
                    clear HS HB8 b9 p0 p1 p2 p3 p4 p5 p6 q0 q1 q2 q3 q4 q5 q6 hW8
                    go_wp2
                    go_roundw
                    case rel => exact ⟨q + 1, by omega, by go_num, HB9.out⟩
                    case measure => simp [intOf]; omega
                  · have hqj : ¬ (q : Int) < (j : Int) := by omega
                    have HB9 := Lib.hid (HB6.out.trans (HE.out.mono HB6.out.size))
                    clear HTwo HAt HE HB6 HL6 HP6 c2
                    go_wp2
                    go_roundw
                    case rel => exact ⟨j + 1, by omega, by go_num, HB9.out⟩
                    case measure => simp [intOf]; omega
          · have hjm : ¬ (j : Int) < (m : Int) := by omega
            have HE := Lib.hid (hBw.trans (HQ.out.mono hBw.size))
            clear hK hI hBw hm HKR HQ hlt3 hj
            go_wp2_with fail
            refine HLn.out.mono ?_
            rintro e w4 ⟨rfl, b4⟩
            have HE4 := Lib.hid (HE.out.trans (b4.mono HE.out.size))
            clear HLn b4 HE
            go_wp2
            go_ret
            exact ⟨rfl, HE4.out⟩
end Go.Proofs.YtkooconjkimgoaaDoor
