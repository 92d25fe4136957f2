/- The law TermMakes. -/
import Derived.Test.YtkooconjkimgoaaDoorNKD
namespace Go.Proofs.YtkooconjkimgoaaDoor
open Go.RowKit

theorem ClAs.gs {w : World} {P : ClP} {x : Cl} (h : ClAs w P x) : Gs (fun k => k < w.heap.size) P.C P.p := fun a e hn => by
  obtain ⟨b, off, e2, hlt, _⟩ := h.str.at_ hn
  rw [e2] at e
  rw [← Option.some.inj e]
  exact hlt
set_option maxRecDepth 100000 in
set_option maxHeartbeats 4000000 in
theorem termMakes_walk (w : World) (A : Option Addr) (n c : Nat) (l : List (ClP × Cl)) (h : ClS w A n l) (hT : Pow9 w) (hK : Ask9 w) :
    Calls Tryd.prog 3 #[.slice A n c] w fun e w' => e = .returned (.bool true) ∧ Below w.heap.size w w' := by
  have HA := Lib.hid (kawake9 w hT hK)
  have HTp := Lib.hid hT
  have HKp := Lib.hid hK
  have HF := Lib.hid fun W (hW : Below w.heap.size w W) => kfew9 W A n c l 200 (h.below hW) (by decide)
  have HH := Lib.hid h
  clear h hT hK
  go_enter Tryd.func3, Tryd.ntmps3
  go_wp2_with fail
  refine HA.out.mono ?_
  rintro e w1 ⟨rfl, b1⟩
  have B1 := Lib.hid b1
  clear b1 HA
  go_wp2_with fail
  refine (HF.out w1 B1.out).mono ?_
  rintro e w2 ⟨⟨b, rfl, hb⟩, rfl⟩
  clear HF
  cases b with
  | false =>
    clear hb
    go_wp2
    go_ret
    exact ⟨rfl, B1.out⟩
  | true =>
    obtain ⟨hn, hfew⟩ := hb rfl
    have HFew := Lib.hid hfew
    clear hb hfew
    go_wp2
    obtain ⟨W0, hW0⟩ : ∃ W0, w2.alloc (.cells Z9 32) = W0 := ⟨_, rfl⟩
    have hB0 : Below w.heap.size w W0 := by rw [← hW0]; exact B1.out.alloc B1.out.size _
    have HK0 : Hid (Bk W0 w2.heap.size (fun k => k = w2.heap.size) []) := by rw [← hW0]; exact knew9 w2
    have HB0 := Lib.hid hB0
    have HW2 : Hid (w.heap.size ≤ w2.heap.size) := B1.out.size
    rw [hW0]
    clear hW0 hB0
    go_loopw [6, 7] (fun rv iv wr => ∃ (i m d : Nat) (C : Option Addr), i ≤ n ∧ rv = .slice C m d ∧ iv = .int .i64 (i : Nat) ∧ Hid (Below w.heap.size w wr ∧ ∃ (F : Nat → Prop) (r : List Nd), Bk wr w2.heap.size F r ∧ NodS wr (fun k => ¬ F k) C m d r ∧ Tm.Inv r ∧ r.length ≤ i ∧ ∀ k, F k → w.heap.size ≤ k)) (fun _ iv _ => n - (intOf iv).toNat)
    case atStart => exact ⟨0, 0, 0, none, Nat.zero_le _, rfl, rfl, HB0.out, _, [], HK0.out, NodS.none_ _ _, Tm.Inv.nil, Nat.zero_le _, fun k hk => by rw [hk]; exact HW2.out⟩
    case round =>
      obtain ⟨i, m, d, C, hi, rfl, rfl, HI⟩ := hrel
      by_cases hlt : i < n
      · have hlt' : (i : Int) < (n : Int) := by omega
        have hi0 : (0 : Int) ≤ (i : Int) := by omega
        obtain ⟨HBw, F, r, hK, hR, hI, hri, hFw⟩ := HI.out
        obtain ⟨bA, oA, P, x, rfl, hx, _, hxw, hc⟩ := HH.out.get hlt
        have hfx := HFew.out _ (List.mem_of_getElem? hx)
        have HD := Lib.hid (kdoes9 w wr w2.heap.size F r P x hK hI hxw HBw hFw hfx (by omega) HTp.out HKp.out)
        have hgs := hxw.gs
        have hdi := Tm.does_inv hI x
        have hdl := (Tm.does_len r x).1
        obtain ⟨q, hq⟩ : ∃ q, Tm.does r x = q := ⟨_, rfl⟩
        have HRd : Hid (∀ w3 (F' : Nat → Prop), NodS w3 (fun k => ¬ F' k) C m d r → Below w.heap.size w w3 → (∀ k, F' k → w.heap.size ≤ k) → Calls Tryd.prog 10 #[.slice C m d, .agg (P.cells x)] w3 fun e w' => NAns w3 (fun k => ¬ F' k) q e w') := fun w3 F' hR3 hB3 hF3 => by
          have := rdoes9 w3 C m d r P x hR3 hI (hxw.below hB3) hfx (hgs.mono fun k hk hf => by have := hF3 k hf; omega) (by have := hR3.len; omega)
          rwa [hq] at this
        rw [hq] at HD hdi hdl
        obtain ⟨l2, y, e2⟩ := q
        simp only at HD hdi hdl
        have HC := Lib.hid hc
        obtain ⟨g0, g1, g2, g3, g4, g5, g6, g7, g8⟩ := hc wr HBw
        have HX := Lib.hid (And.intro hR (And.intro hFw (And.intro hdi (And.intro hdl (And.intro hri HBw)))))
        have hiw : IntKind.i64.wrap ((i : Int) + 1) = (i : Int) + 1 := IntWalk.i64_in _ (by omega)
        clear HI HBw hK hR hI hri hFw hx hxw hc hfx hgs hdi hdl hq HFew HH HTp HKp
        go_wp2_with fail
        refine HD.out.mono ?_
        rintro e w3 ⟨rfl, F', hK3, hT3, hF3⟩
        obtain ⟨hR, hFw, hdi, hdl, hri, HBw⟩ := HX.out
        have hB3 := HBw.trans (hT3.below HBw.size hFw)
        have hFw' : ∀ k, F' k → w.heap.size ≤ k := fun k hk => (hF3 k hk).elim (hFw k) fun e => Nat.le_trans HBw.size e
        have HR3 := Lib.hid (HRd.out w3 F' (hR.beside hT3 hF3) hB3 hFw')
        obtain ⟨g0, g1, g2, g3, g4, g5, g6, g7, g8⟩ := HC.out w3 hB3
        have HY := Lib.hid (And.intro hK3 (And.intro hB3 (And.intro hFw' (And.intro hdi (And.intro hdl hri)))))
        clear HD HX HRd HC hR hFw hdi hdl hri HBw hT3 hF3 hB3 hFw' hK3
        go_wp2_with fail
        refine HR3.out.mono ?_
        rintro e w4 ha
        obtain ⟨hK3, hB3, hFw', hdi, hdl, hri⟩ := HY.out
        obtain ⟨⟨C4, d4, rfl, R4⟩, b4⟩ := ha.beside hK3.lt
        have K4 := hK3.below b4
        have HLn := Lib.hid (klen9 w4 w2.heap.size F' l2 K4)
        have HZ := Lib.hid (And.intro K4 (And.intro R4 (And.intro (hB3.trans (b4.mono hB3.size)) (And.intro hFw' (And.intro hdi (show l2.length ≤ i + 1 by omega))))))
        clear HR3 HY g0 g1 g2 g3 g4 g5 g6 g7 g8 ha hK3 hB3 hFw' hdi hdl hri R4 b4 K4
        go_wp2_with fail
        refine HLn.out.mono ?_
        rintro e w5 ⟨rfl, b5⟩
        obtain ⟨K4, R4, B4, hFw', hdi, hll⟩ := HZ.out
        have HV : Hid (Below w.heap.size w w5 ∧ ∃ (F : Nat → Prop) (r : List Nd), Bk w5 w2.heap.size F r ∧ NodS w5 (fun k => ¬ F k) C4 l2.length d4 r ∧ Tm.Inv r ∧ r.length ≤ i + 1 ∧ ∀ k, F k → w.heap.size ≤ k) :=
          ⟨B4.trans (b5.mono B4.size), F', l2, K4.below b5, R4.below b5, hdi, hll, hFw'⟩
        clear HLn HZ K4 R4 B4 hFw' hdi hll b5
        go_wp2
        go_roundw
        case rel => exact ⟨i + 1, l2.length, d4, C4, by omega, by go_num, by go_num, HV.out⟩
        case measure => simp [intOf]; omega
      · have him : n = i := by omega
        have hlt2 : ¬ (i : Int) < (n : Int) := by omega
        obtain ⟨HBw, F, r, hK, hR, hI, hri, hFw⟩ := HI.out
        have hrl := hR.len
        have HKR := Lib.hid (And.intro hK (And.intro hR HBw))
        have hmi : m ≤ 1000 := by omega
        clear HI HBw hK hR hI hri hFw HH HFew HK0 HB0 HTp HKp hlt hi
        go_wp2
        obtain ⟨wo, rfl⟩ : ∃ wo, wo = wr := ⟨_, rfl⟩
        go_loopw [13] (fun jv wq => ∃ j : Nat, j ≤ m ∧ jv = .int .i64 (j : Nat) ∧ Hid (Below wo.heap.size wo wq)) (fun jv _ => m - (intOf jv).toNat)
        case atStart => exact ⟨0, Nat.zero_le _, rfl, Below.refl _ _⟩
        case round =>
          obtain ⟨j, hj, rfl, HQ⟩ := hrel
          by_cases hlt3 : j < m
          · have hjm : (j : Int) < (m : Int) := by omega
            have hj0 : (0 : Int) ≤ (j : Int) := by omega
            obtain ⟨hK, hR, _⟩ := HKR.out
            obtain ⟨x, hx⟩ : ∃ x, r[j]? = some x := ⟨_, List.getElem?_eq_getElem (by rw [hrl]; exact hlt3)⟩
            have HAt := Lib.hid (kat9 wr w2.heap.size F r j x (hK.below HQ.out) hx)
            have HRr := Lib.hid (hR.below HQ.out)
            have HX := Lib.hid hx
            have hjw : IntKind.i64.wrap ((j : Int) + 1) = (j : Int) + 1 := IntWalk.i64_in _ (by omega)
            clear hK hR hx HKR
            go_wp2_with fail
            refine HAt.out.mono ?_
            rintro e w5 ⟨⟨P, rfl, hP⟩, b5⟩
            obtain ⟨W6, hW6⟩ : ∃ W6, w5.alloc (.cells (P.cells x) 47) = W6 := ⟨_, rfl⟩
            have hB6 : Below wr.heap.size wr W6 := by rw [← hW6]; exact b5.alloc b5.size _
            have hL6 : Lies W6 w5.heap.size 47 (P.cells x) := by rw [← hW6]; exact Lies.new w5 _ _
            have hP6 : NdAs W6 (fun _ => True) P x := by rw [← hW6]; exact hP.below ((Below.refl _ w5).alloc (Nat.le_refl _) _)
            obtain ⟨b, off, y, R, rfl, hy, _, hRn, hc⟩ := (HRr.out.below hB6).get hlt3
            obtain rfl : x = y := by rw [HX.out] at hy; exact Option.some.inj hy
            have HC1 : Hid (∀ s : Lat W6, Cells7 s.at_ b (off + j * 7) R x) := fun s => hc _ s.ok
            have HC2 : Hid (∀ s : Lat W6, Cell7 s.at_ w5.heap.size P x) := fun s => Lies.cell7 ((s.ok.block _ hL6.lt).trans hL6)
            have HS2 : Hid (∀ s : Lat W6, Calls Tryd.prog 13 #[.agg (P.cells x), .agg (R.cells x)] s.at_ fun e w' => e = .returned (.bool true) ∧ Below s.at_.heap.size s.at_ w') := fun s => by
              have := rsame9 s.at_ P R x x (hP6.below s.ok) (hRn.below s.ok)
              rwa [Nd.same_iff.2 rfl] at this
            have HB6 := Lib.hid (HQ.out.trans (hB6.mono HQ.out.size))
            clear HAt HRr HX HQ hP b5 hB6 hL6 hP6 hy hRn hc
            go_wp2_with fail
            refine calm_region (C := Latr W6) (by kernel_rfl) (by kernel_rfl) (latr_drew (Below.refl _ W6)) ?_
            have q0_ : ∀ s : Lat W6, s.at_.cell? ⟨b, off + j * 7, none⟩ = some (.int .i64 x.op) := fun s => (HC1.out s).1
            have q1_ : ∀ s : Lat W6, s.at_.cell? ⟨b, off + j * 7 + 1, none⟩ = some (.int .i64 x.sort) := fun s => (HC1.out s).2.1
            have q2_ : ∀ s : Lat W6, s.at_.cell? ⟨b, off + j * 7 + 2, none⟩ = some (.slice R.A R.n R.c) := fun s => (HC1.out s).2.2.1
            have q3_ : ∀ s : Lat W6, s.at_.cell? ⟨b, off + j * 7 + 3, none⟩ = some (.string x.name) := fun s => (HC1.out s).2.2.2.1
            have q4_ : ∀ s : Lat W6, s.at_.cell? ⟨b, off + j * 7 + 4, none⟩ = some (.bool R.g) := fun s => (HC1.out s).2.2.2.2.1
            have q5_ : ∀ s : Lat W6, s.at_.cell? ⟨b, off + j * 7 + 5, none⟩ = some (.slice R.B R.m R.d) := fun s => (HC1.out s).2.2.2.2.2.1
            have q6_ : ∀ s : Lat W6, s.at_.cell? ⟨b, off + j * 7 + 6, none⟩ = some (.slice R.C R.p R.f) := fun s => (HC1.out s).2.2.2.2.2.2
            have p0_ : ∀ s : Lat W6, s.at_.cell? ⟨w5.heap.size, 0, none⟩ = some (.int .i64 x.op) := fun s => (HC2.out s).1
            have p1_ : ∀ s : Lat W6, s.at_.cell? ⟨w5.heap.size, 1, none⟩ = some (.int .i64 x.sort) := fun s => (HC2.out s).2.1
            have p2_ : ∀ s : Lat W6, s.at_.cell? ⟨w5.heap.size, 2, none⟩ = some (.slice P.A P.n P.c) := fun s => (HC2.out s).2.2.1
            have p3_ : ∀ s : Lat W6, s.at_.cell? ⟨w5.heap.size, 3, none⟩ = some (.string x.name) := fun s => (HC2.out s).2.2.2.1
            have p4_ : ∀ s : Lat W6, s.at_.cell? ⟨w5.heap.size, 4, none⟩ = some (.bool P.g) := fun s => (HC2.out s).2.2.2.2.1
            have p5_ : ∀ s : Lat W6, s.at_.cell? ⟨w5.heap.size, 5, none⟩ = some (.slice P.B P.m P.d) := fun s => (HC2.out s).2.2.2.2.2.1
            have p6_ : ∀ s : Lat W6, s.at_.cell? ⟨w5.heap.size, 6, none⟩ = some (.slice P.C P.p P.f) := fun s => (HC2.out s).2.2.2.2.2.2
            repeat (go_big_quiet_step ((go_at_call 13; with_reducible exact calm_call (HS2.out _))))
            refine wpQuiet_nil ?_
            rintro _ ⟨s, rfl⟩
            have HB8 := Lib.hid (HB6.out.trans (s.ok.mono HB6.out.size))
            clear q0_ q1_ q2_ q3_ q4_ q5_ q6_ p0_ p1_ p2_ p3_ p4_ p5_ p6_ HC1 HC2 HS2 HB6 hW6
            generalize s.at_ = W8 at *
            clear s
            go_wp2
            go_roundw
            case rel => exact ⟨j + 1, by omega, by go_num, HB8.out⟩
            case measure => simp [intOf]; omega
          · have hjm : ¬ (j : Int) < (m : Int) := by omega
            obtain ⟨hK, _, hBw⟩ := HKR.out
            have HN1 := Lib.hid (katno9 wr w2.heap.size F r (m : Int) (hK.below HQ.out) (.inr (by rw [hrl]; exact Int.le_refl _)))
            have HN2 : Hid (∀ W, Below wr.heap.size wr W → Calls Tryd.prog 12 #[.pointer (some ⟨w2.heap.size, 0, none⟩), .int .i64 (-1)] W fun e w' => e = .returned (.tuple #[.agg #[.int .i64 0, .int .i64 0, .slice none 0 0, .string ⟨#[]⟩, .bool false, .slice none 0 0, .slice none 0 0], .bool false]) ∧ Below W.heap.size W w') := fun W hW => katno9 W w2.heap.size F r (-1) ((hK.below HQ.out).below hW) (.inl (by decide))
            have HBx := Lib.hid (hBw.trans (HQ.out.mono hBw.size))
            clear hK hBw HKR HQ hlt3 hj
            go_wp2_with fail
            refine HN1.out.mono ?_
            rintro e w5 ⟨rfl, b5⟩
            have hB6 := b5.alloc b5.size (.cells #[.int .i64 0, .int .i64 0, .slice none 0 0, .string ⟨#[]⟩, .bool false, .slice none 0 0, .slice none 0 0] 47)
            have HN3 := Lib.hid (HN2.out _ hB6)
            have HB6 := Lib.hid (HBx.out.trans (hB6.mono HBx.out.size))
            clear HN1 HN2 HBx b5 hB6
            go_wp2_with fail
            refine HN3.out.mono ?_
            rintro e w7 ⟨rfl, b7⟩
            have HB8 := Lib.hid ((HB6.out.trans (b7.mono HB6.out.size)).alloc (HB6.out.trans (b7.mono HB6.out.size)).size (.cells #[.int .i64 0, .int .i64 0, .slice none 0 0, .string ⟨#[]⟩, .bool false, .slice none 0 0, .slice none 0 0] 47))
            clear HN3 HB6 b7
            go_wp2
            go_ret
            exact ⟨rfl, HB8.out⟩
end Go.Proofs.YtkooconjkimgoaaDoor
