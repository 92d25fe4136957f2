/- The reference's Add of terms. -/
import Derived.Test.YtkooconjkimgoaaDoorN3
import Derived.Test.YtkooconjkimgoaaDoorU0
namespace Go.Proofs.YtkooconjkimgoaaDoor
open Go.RowKit

abbrev Cells7 (W : World) (b o : Nat) (P : NdP) (x : Nd) : Prop := W.cell? ⟨b, o, none⟩ = some (.int .i64 x.op) ∧ W.cell? ⟨b, o + 1, none⟩ = some (.int .i64 x.sort) ∧ W.cell? ⟨b, o + 2, none⟩ = some (.slice P.A P.n P.c) ∧ W.cell? ⟨b, o + 3, none⟩ = some (.string x.name) ∧
      W.cell? ⟨b, o + 4, none⟩ = some (.bool P.g) ∧ W.cell? ⟨b, o + 5, none⟩ = some (.slice P.B P.m P.d) ∧ W.cell? ⟨b, o + 6, none⟩ = some (.slice P.C P.p P.f)
abbrev Cell7 (W : World) (b : Nat) (P : NdP) (x : Nd) : Prop := W.cell? ⟨b, 0, none⟩ = some (.int .i64 x.op) ∧ W.cell? ⟨b, 1, none⟩ = some (.int .i64 x.sort) ∧ W.cell? ⟨b, 2, none⟩ = some (.slice P.A P.n P.c) ∧ W.cell? ⟨b, 3, none⟩ = some (.string x.name) ∧
      W.cell? ⟨b, 4, none⟩ = some (.bool P.g) ∧ W.cell? ⟨b, 5, none⟩ = some (.slice P.B P.m P.d) ∧ W.cell? ⟨b, 6, none⟩ = some (.slice P.C P.p P.f)
theorem Lies.cell7 {W : World} {b : Nat} {P : NdP} {x : Nd} (h : Lies W b 47 (P.cells x)) : Cell7 W b P x :=
  ⟨by rw [h.cell]; rfl, by rw [h.cell]; rfl, by rw [h.cell]; rfl, by rw [h.cell]; rfl, by rw [h.cell]; rfl, by rw [h.cell]; rfl, by rw [h.cell]; rfl⟩

set_option maxRecDepth 100000 in
set_option maxHeartbeats 4000000 in
theorem radd9 (w : World) (A : Option Addr) (n c : Nat) (l : List Nd) (P : NdP) (x : Nd) {G : Nat → Prop} (h : NodS w G A n c l) (hx : NdAs w G P x) (hn : n ≤ 30000) :
    Calls Tryd.prog 43 #[.slice A n c, .agg (P.cells x)] w fun e w' => NAns w G (Tm.add l x) e w' := by
  obtain ⟨W0, hW0⟩ : ∃ W0, w.alloc (.cells (P.cells x) 47) = W0 := ⟨_, rfl⟩
  have B0 : Below w.heap.size w W0 := by rw [← hW0]; exact (Below.refl _ w).alloc (Nat.le_refl _) _
  have L0 : Lies W0 w.heap.size 47 (P.cells x) := by rw [← hW0]; exact Lies.new w _ _
  have HB0 := Lib.hid B0
  have HBox : Hid (∀ W, Below W0.heap.size W0 W → Cell7 W w.heap.size P x ∧ NdAs W G P x) := fun W hW => ⟨Lies.cell7 ((hW.block _ L0.lt).trans L0), (hx.below B0).below hW⟩
  have h0 := h.below B0
  have HGet : Hid (∀ i, i < n → ∃ b off y R, A = some ⟨b, off, none⟩ ∧ l[i]? = some y ∧ ∀ W, Below W0.heap.size W0 W → Cells7 W b (off + i * 7) R y ∧ NdAs W G R y) := fun i hi => by
    obtain ⟨b, off, y, R, e, hy, _, hR, hc⟩ := h0.get hi
    exact ⟨b, off, y, R, e, hy, fun W hW => ⟨hc W hW, hR.below hW⟩⟩
  have HS : Hid (∀ W (R : NdP) y, NdAs W G R y → NdAs W G P x → Calls Tryd.prog 13 #[.agg (R.cells y), .agg (P.cells x)] W fun e w' => e = .returned (.bool (Nd.same y x)) ∧ Below W.heap.size W w') := fun W R y h1 h2 => rsame9 W R P y x h1 h2
  have HFound : Hid (∀ (i : Nat) W, l[i]? = some x → (∀ j, j < i → l[j]? ≠ some x) → Below W0.heap.size W0 W → NAns w G (Tm.add l x) (.returned (.tuple #[.slice A n c, .int .i64 (i : Int), .int .i64 0])) W) := fun i W h1 h2 hW => by
    rw [Tm.add_hit h1 h2]
    exact ⟨⟨A, c, by rw [h.len], by rw [h.len]; exact (h0.below hW).mono fun _ => .inl⟩, B0.trans (hW.mono B0.size)⟩
  have HFull : Hid (∀ W, (∀ j, j < n → l[j]? ≠ some x) → 20000 ≤ n → Below W0.heap.size W0 W → NAns w G (Tm.add l x) (.returned (.tuple #[.slice A n c, .int .i64 0, .int .i64 2])) W) := fun W h1 h2 hW => by
    rw [Tm.add_full (Tm.not_mem fun j hj => h1 j (by rw [← h.len]; exact hj)) (by rw [h.len]; exact h2)]
    exact ⟨⟨A, c, by rw [h.len], by rw [h.len]; exact (h0.below hW).mono fun _ => .inl⟩, B0.trans (hW.mono B0.size)⟩
  have HNew : Hid (∀ A' c' W, (∀ j, j < n → l[j]? ≠ some x) → n < 20000 → NodS W (fun k => G k ∨ w.heap.size ≤ k) A' (n + 1) c' (l ++ [x]) → Below w.heap.size w W → NAns w G (Tm.add l x) (.returned (.tuple #[.slice A' (n + 1) c', .int .i64 (n : Int), .int .i64 0])) W) := fun A' c' W h1 h2 h3 hW => by
    rw [Tm.add_new (Tm.not_mem fun j hj => h1 j (by rw [← h.len]; exact hj)) (by rw [h.len]; exact h2)]
    have e : (l ++ [x]).length = n + 1 := by simp [h.len]
    exact ⟨⟨A', c', by rw [e, h.len], by rw [e]; exact h3⟩, hW⟩
  have HCopy := Lib.hid h0
  have hl := h.len
  have hnil := Lib.hid h.nil
  obtain ⟨Post, hPost⟩ : ∃ Post : Ending → World → Prop, Post = fun e w' => NAns w G (Tm.add l x) e w' := ⟨_, rfl⟩
  have HPo : Hid (∀ e W, NAns w G (Tm.add l x) e W → Post e W) := fun e W h => by rw [hPost]; exact h
  rw [← hPost]
  clear hPost B0 L0 h hx h0
  go_enter Tryd.func43, Tryd.ntmps43
  go_wp2
  go_loopw [7] (fun kv wr => ∃ k : Nat, k ≤ n ∧ kv = .int .i64 (k : Nat) ∧ Hid (Below W0.heap.size W0 wr ∧ ∀ j, j < k → l[j]? ≠ some x)) (fun kv _ => n - (intOf kv).toNat)
  case atStart => exact ⟨0, Nat.zero_le _, rfl, Below.refl _ _, fun j hj => absurd hj (Nat.not_lt_zero _)⟩
  case round =>
    obtain ⟨k, hk, rfl, HI⟩ := hrel
    by_cases hlt : k < n
    · have hlt' : (k : Int) < (n : Int) := by omega
      have h0' : (0 : Int) ≤ (k : Int) := by omega
      obtain ⟨b, off, y, R, rfl, hy, hc⟩ := HGet.out k hlt
      have HL : Hid (∀ s : Lat wr, Below W0.heap.size W0 s.at_) := fun s => HI.out.1.trans (s.ok.mono HI.out.1.size)
      have HC1 : Hid (∀ s : Lat wr, Cells7 s.at_ b (off + k * 7) R y) := fun s => (hc _ (HL.out s)).1
      have HC2 : Hid (∀ s : Lat wr, Cell7 s.at_ w.heap.size P x) := fun s => (HBox.out _ (HL.out s)).1
      have HS2 : Hid (∀ s : Lat wr, Calls Tryd.prog 13 #[.agg (R.cells y), .agg (P.cells x)] s.at_ fun e w' => e = .returned (.bool (Nd.same y x)) ∧ Below s.at_.heap.size s.at_ w') := fun s => HS.out _ R y (hc _ (HL.out s)).2 (HBox.out _ (HL.out s)).2
      obtain ⟨g, hg⟩ : ∃ g, Nd.same y x = g := ⟨_, rfl⟩
      rw [hg] at HS2
      clear hc
      go_wp2_with fail
      refine calm_region (C := Latr wr) (by kernel_rfl) (by kernel_rfl) (latr_drew (Below.refl _ wr)) ?_
      have q0_ : ∀ s : Lat wr, s.at_.cell? ⟨b, off + k * 7, none⟩ = some (.int .i64 y.op) := fun s => (HC1.out s).1
      have q1_ : ∀ s : Lat wr, s.at_.cell? ⟨b, off + k * 7 + 1, none⟩ = some (.int .i64 y.sort) := fun s => (HC1.out s).2.1
      have q2_ : ∀ s : Lat wr, s.at_.cell? ⟨b, off + k * 7 + 2, none⟩ = some (.slice R.A R.n R.c) := fun s => (HC1.out s).2.2.1
      have q3_ : ∀ s : Lat wr, s.at_.cell? ⟨b, off + k * 7 + 3, none⟩ = some (.string y.name) := fun s => (HC1.out s).2.2.2.1
      have q4_ : ∀ s : Lat wr, s.at_.cell? ⟨b, off + k * 7 + 4, none⟩ = some (.bool R.g) := fun s => (HC1.out s).2.2.2.2.1
      have q5_ : ∀ s : Lat wr, s.at_.cell? ⟨b, off + k * 7 + 5, none⟩ = some (.slice R.B R.m R.d) := fun s => (HC1.out s).2.2.2.2.2.1
      have q6_ : ∀ s : Lat wr, s.at_.cell? ⟨b, off + k * 7 + 6, none⟩ = some (.slice R.C R.p R.f) := fun s => (HC1.out s).2.2.2.2.2.2
      have p0_ : ∀ s : Lat wr, s.at_.cell? ⟨w.heap.size, 0, none⟩ = some (.int .i64 x.op) := fun s => (HC2.out s).1
      have p1_ : ∀ s : Lat wr, s.at_.cell? ⟨w.heap.size, 1, none⟩ = some (.int .i64 x.sort) := fun s => (HC2.out s).2.1
      have p2_ : ∀ s : Lat wr, s.at_.cell? ⟨w.heap.size, 2, none⟩ = some (.slice P.A P.n P.c) := fun s => (HC2.out s).2.2.1
      have p3_ : ∀ s : Lat wr, s.at_.cell? ⟨w.heap.size, 3, none⟩ = some (.string x.name) := fun s => (HC2.out s).2.2.2.1
      have p4_ : ∀ s : Lat wr, s.at_.cell? ⟨w.heap.size, 4, none⟩ = some (.bool P.g) := fun s => (HC2.out s).2.2.2.2.1
      have p5_ : ∀ s : Lat wr, s.at_.cell? ⟨w.heap.size, 5, none⟩ = some (.slice P.B P.m P.d) := fun s => (HC2.out s).2.2.2.2.2.1
      have p6_ : ∀ s : Lat wr, s.at_.cell? ⟨w.heap.size, 6, none⟩ = some (.slice P.C P.p P.f) := fun s => (HC2.out s).2.2.2.2.2.2
      repeat (go_big_quiet_step ((go_at_call 13; with_reducible exact calm_call (HS2.out _))))
      refine wpQuiet_nil ?_
      rintro _ ⟨s, rfl⟩
      have HB8 := Lib.hid (HI.out.1.trans (s.ok.mono HI.out.1.size))
      clear q0_ q1_ q2_ q3_ q4_ q5_ q6_ p0_ p1_ p2_ p3_ p4_ p5_ p6_ HC1 HC2 HS2 HL HBox HS HCopy hnil HFull HNew
      generalize s.at_ = W8 at *
      clear s
      cases g with
      | true =>
        obtain rfl := Nd.same_iff.1 hg
        have HE := Lib.hid (HPo.out _ _ (HFound.out k W8 hy HI.out.2 HB8.out))
        clear HFound HPo HI HGet hy hg
        go_wp2
        first | exact HE.out | exact bodyPost_ret (by simp [results, Tryd.results43, go_sem]) rfl HE.out
      | false =>
        have hxy : y ≠ x := fun e => by rw [Nd.same_iff.2 e] at hg; cases hg
        have HN : Hid (∀ j, j < k + 1 → l[j]? ≠ some x) := fun j hj => by
          by_cases hjk : j < k
          · exact HI.out.2 j hjk
          · obtain rfl : j = k := by omega
            rw [hy]
            exact fun e => hxy (Option.some.inj e)
        have hkw : IntKind.i64.wrap ((k : Int) + 1) = (k : Int) + 1 := IntWalk.i64_in _ (by omega)
        clear HFound HPo HI HGet hy hxy hg
        go_wp2
        go_roundw
        case rel => exact ⟨k + 1, by omega, by go_num, HB8.out, HN.out⟩
        case measure => simp [intOf]; omega
    · obtain rfl : k = n := by omega
      by_cases hfull : 20000 ≤ k
      · have d1 : decide ((20000 : Int) ≤ (k : Int)) = true := decide_eq_true (by omega)
        have d2 : decide (20000 ≤ k) = true := decide_eq_true hfull
        have HE := Lib.hid (HPo.out _ _ (HFull.out wr HI.out.2 hfull HI.out.1))
        clear HFound HPo HI HGet HBox HS HCopy hnil HFull HNew hfull
        go_wp2
        first | exact HE.out | exact bodyPost_ret (by simp [results, Tryd.results43, go_sem]) rfl HE.out
      · have d1 : decide ((20000 : Int) ≤ (k : Int)) = false := decide_eq_false (by omega)
        have d2 : decide (20000 ≤ k) = false := decide_eq_false hfull
        have HR := Lib.hid (HCopy.out.below HI.out.1)
        have HE := Lib.hid fun A' c' W => HNew.out A' c' W HI.out.2 (by omega)
        have HBw := Lib.hid (HB0.out.trans (HI.out.1.mono HB0.out.size))
        have HBr := Lib.hid HI.out.1
        clear HFound HGet HS HCopy hnil HFull HNew hfull HB0
        have HL := Lib.hid hl
        have hbx := Lib.hid ((HBox.out wr HI.out.1).2)
        clear hk hlt hl HI
        go_wp2_with (first
          | (at_builtin; refine copyD _ rfl (.tmp 29) rfl A k c l rfl HR.out (by omega) ?_; intro A3 c3 w3 L3 o3 m3 n3 a3 b3; obtain ⟨⟨p0_, p1_, p2_, p3_, p4_, p5_, p6_⟩, _⟩ := HBox.out w3 (HBr.out.trans (b3.mono HBr.out.size)); have HO3 := Lib.hid o3; have HN3 := Lib.hid n3; have HA3 := Lib.hid (And.intro m3 a3); have HZ3 := Lib.hid b3.size; have HB3 := Lib.hid b3; clear o3 m3 n3 a3 b3)
          | (at_builtin; refine appendD _ rfl (.tmp 31) (.tmp 33) rfl wr.heap.size A3 c3 L3 k HN3.out (P, x) rfl HO3.out rfl (by omega) HZ3.out ?_; intro A5 c5 w5 o5 g5; have HO5 := Lib.hid o5; have HG5 := Lib.hid g5; clear o5 g5))
        have hW5 : Below wr.heap.size wr w5 := HB3.out.grown HG5.out HB3.out.size (fun q hq => by have := HO3.out; have e := HN3.out; subst e; exact (World.ownsRow.lt this q hq).1)
        have hN5 : NodS w5 (fun k => G k ∨ w.heap.size ≤ k) A5 (k + 1) c5 (l ++ [x]) := by
          refine HO5.out.nods (by rw [List.map_append, HA3.out.1]; rfl) (by rw [List.length_append, HL.out]; rfl) (fun q hq => ?_) (fun k hk => .inr (Nat.le_trans HBw.out.size hk)) (Below.refl _ _)
          rcases List.mem_append.1 hq with hq | hq
          · exact ((HA3.out.2 q hq).below hW5).mono fun _ => .inl
          · rw [List.mem_singleton.1 hq]
            exact (hbx.out.below hW5).mono fun _ => .inl
        have HF := HPo.out _ _ (HE.out A5 c5 w5 hN5 (HBw.out.trans (hW5.mono HBw.out.size)))
        first | exact HF | exact bodyPost_ret (by simp [results, Tryd.results43, go_sem]) rfl HF
end Go.Proofs.YtkooconjkimgoaaDoor
