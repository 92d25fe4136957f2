/- The code's firstOfMany. -/
import Derived.Test.YtdpbglofijpfnaaUFP
namespace Go.Proofs.Ytdpbglofijpfnaa
open Go.RowKit Go.Shelf

theorem atR_none {b : Frame} (h : b.roundOf = none) (a : Act) (k : List Item) : b.atR a k = b.at a k := by
  unfold Frame.atR Frame.at
  simp [h]
/-- outside of a round a piece of code may be walked as plain code -/
theorem wpIn_of_wp {P : Program} {c : Code} {Q : Exit → Act → World → Prop} {a : Act} {w : World} {n : Nat} (h : c.wp P Q a w) : c.wpIn Fence.wide n P Q a w := fun b k cs hro _ _ => by
  have hro' : b.roundOf = none := hro
  obtain ⟨e, a', w', hq, har⟩ := h b k cs
  refine ⟨e, a', w', hq, ?_⟩
  rw [← atR_none hro'] at har
  cases e with
  | normal => exact stepsIn_wide.2 (by rw [atR_none hro' a']; exact har)
  | exit id => exact ⟨fun k' hk => by rw [stepsIn_wide, atR_none hro' a']; exact har k' hk, fun hs => by rw [hro'] at hs; cases hs⟩
  | goto l => exact ⟨fun k' hk => by rw [stepsIn_wide, atR_none hro' a']; exact har k' hk, fun hs => by rw [hro'] at hs; cases hs⟩
  | ret => exact ⟨fun _ => by obtain ⟨t, ht⟩ := har; exact ⟨t, by rw [stepsIn_wide, atR_none hro' a']; exact ht⟩, fun hs => by rw [hro'] at hs; cases hs⟩
  | panic chain => obtain ⟨t, ht⟩ := har; exact ⟨t, by rw [stepsIn_wide, atR_none hro' a']; exact ht⟩
  | outgrown => exact har
attribute [local go_sem] Oper.semAt_some
abbrev CS8 (bT oT k : Nat) (x1 x2 y1 y2 : Int) (W : World) : Prop := (W.cell? ⟨bT, oT, none⟩ = some (.int .i64 x1) ∧ W.cell? ⟨bT, oT + 1, none⟩ = some (.int .i64 x2)) ∧ W.cell? ⟨bT, oT + (k + 1) * 2, none⟩ = some (.int .i64 y1) ∧ W.cell? ⟨bT, oT + (k + 1) * 2 + 1, none⟩ = some (.int .i64 y2)
theorem CS8.turn {bT oT k : Nat} {x1 x2 y1 y2 : Int} {w w' : World} {F : Nat → Prop} (h : CS8 bT oT k x1 x2 y1 y2 w.drew) (hT : Turn F w w') (hb : bT < w.heap.size) (hF : ¬ F bT) : CS8 bT oT k x1 x2 y1 y2 w'.drew :=
  ⟨⟨(hT.cell (p := ⟨bT, _, none⟩) hb hF).trans h.1.1, (hT.cell (p := ⟨bT, _, none⟩) hb hF).trans h.1.2⟩, (hT.cell (p := ⟨bT, _, none⟩) hb hF).trans h.2.1, (hT.cell (p := ⟨bT, _, none⟩) hb hF).trans h.2.2⟩
theorem CS8.alloc {bT oT k : Nat} {x1 x2 y1 y2 : Int} {w : World} (h : CS8 bT oT k x1 x2 y1 y2 w.drew) (hb : bT < w.heap.size) (o : Obj) : CS8 bT oT k x1 x2 y1 y2 (w.alloc o).drew := CS8.turn h ((Turn.refl (fun _ => False) w).alloc o) hb id
theorem CS8.put {bT oT k b i : Nat} {x1 x2 y1 y2 : Int} {w : World} {v : Value} (h : CS8 bT oT k x1 x2 y1 y2 w.drew) (hne : b ≠ bT) : CS8 bT oT k x1 x2 y1 y2 (w.setCell ⟨b, i, none⟩ v).drew :=
  CS8.turn h ((Turn.refl (fun k => k = b) w).put (p := ⟨b, i, none⟩) (.inl rfl) v) (World.block_lt_of_cell? w.drew _ h.1.1) (fun e => hne e.symm)

theorem Lies.fresh8 {w : World} {b : Nat} {t : TypeId} {cs : Array Value} (hb : b = w.heap.size) : Lies (w.alloc (.cells cs t)) b t cs := by
  subst hb
  exact Lies.new w t cs
theorem Lies.al8 {w : World} {b : Nat} {t : TypeId} {cs : Array Value} (h : Lies w b t cs) (o : Obj) : Lies (w.alloc o) b t cs := ((Turn.refl (fun _ => False) w).alloc o).lies h id
theorem Lies.dr8 {w : World} {b : Nat} {t : TypeId} {cs : Array Value} (h : Lies w b t cs) : Lies w.drew b t cs := h
theorem Lies.oth8 {w : World} {b b' i : Nat} {t : TypeId} {cs : Array Value} (h : Lies w b t cs) (hb : b' ≠ b) (v : Value) : Lies (w.setCell ⟨b', i, none⟩ v) b t cs := ((Turn.refl (fun k => k = b') w).put (p := ⟨b', i, none⟩) (.inl rfl) v).lies h (fun e => hb e.symm)
theorem Lies.of8 {w : World} {b : Nat} {t : TypeId} {cs cs' : Array Value} (h : Lies w b t cs) (e : cs = cs') : Lies w b t cs' := e ▸ h

set_option maxRecDepth 100000 in
set_option maxHeartbeats 8000000 in
theorem kmany8 (w : World) (A : Option Addr) (n c : Nat) (R : List (Int × Int)) (bT oT k d : Nat) (x1 x2 y1 y2 : Int) (M : List (Int × Int)) (h : RunS w A n R) (h' : RunS w (some ⟨bT, oT, none⟩) (k + 2) ((x1, x2) :: (M ++ [(y1, y2)]))) (hd : k + 2 ≤ d) (hn : n ≤ 1000000) (hk : k ≤ 1000000) (hR : Tx.May R) (hTm : Tx.May ((x1, x2) :: (M ++ [(y1, y2)]))) :
    Calls Try.prog 47 #[.slice A n c, .slice (some ⟨bT, oT, none⟩) (k + 2) d] w fun e w' => (∃ z, e = .returned (.int .i64 z) ∧ Tx.Fst R ((x1, x2) :: (M ++ [(y1, y2)])) z) ∧ Below w.heap.size w w' := by
  have hm : 3 ≤ 6 := by omega
  generalize 6 = m at hm
  have h1 : 1 ≤ m := by omega
  have hT : ∀ W, Below w.heap.size w W → (W.cell? ⟨bT, oT, none⟩ = some (.int .i64 x1) ∧ W.cell? ⟨bT, oT + 1, none⟩ = some (.int .i64 x2)) ∧ W.cell? ⟨bT, oT + (k + 1) * 2, none⟩ = some (.int .i64 y1) ∧ W.cell? ⟨bT, oT + (k + 1) * 2 + 1, none⟩ = some (.int .i64 y2) := fun W hW => by
    obtain ⟨b, off, e, hlt, hc⟩ := h'.at_ (by omega)
    cases e
    have q0 := hc 0 (x1, x2) rfl
    have q1 := hc (k + 1) (y1, y2) (by
      have hl := h'.len
      simp only [List.length_cons, List.length_append, List.length_nil] at hl
      obtain rfl : M.length = k := by omega
      rw [List.getElem?_cons_succ, List.getElem?_append_right (Nat.le_refl _)]
      simp)
    have hcell : ∀ i, W.cell? ⟨bT, i, none⟩ = w.cell? ⟨bT, i, none⟩ := fun i => hW.cell hlt
    rw [hcell, hcell, hcell, hcell]
    exact ⟨⟨by simpa using q0.1, by simpa using q0.2⟩, q1.1, q1.2⟩
  have hMl : M.length = k := by
    have hl := h'.len
    simp only [List.length_cons, List.length_append, List.length_nil] at hl
    omega
  have hMid : RunS w (some ⟨bT, oT + 2, none⟩) k M := by
    have e := (h'.drop (k := 1) (c := d) (by omega) (by omega)).take (k := k) (by omega)
    rw [if_neg (by omega)] at e
    simpa [addr_add, List.take_left' hMl] using e
  have HTc := Lib.hid hT
  have hS1 : ∀ W, (Instr.slice 22 (.slice (some ⟨bT, oT, none⟩) (k + 2) d) (some (.int .i64 1)) (some (.int .i64 ((k : Int) + 1))) none).run Try.prog W = .ok (.slice (some ⟨bT, oT + 2, none⟩) k (d - 1)) W := fun W => by
    have := rcut_lh (A := some ⟨bT, oT, none⟩) (n := k + 2) (c := d) (k := 1) (m := k + 1) W (by omega) (by omega)
    rw [if_neg (by omega)] at this
    simpa [addr_add] using this
  have hk1 : (k : Int) + 2 - 1 = (k : Int) + 1 := by omega
  have hkw : IntKind.i64.wrap ((k : Int) + 1) = (k : Int) + 1 := IntWalk.i64_in _ (by omega)
  have hk2 : (0 : Int) ≤ (k : Int) + 1 := by omega
  have hk3 : (k : Int) + 1 < (k : Int) + 2 := by omega
  have hk4 : ((k : Int) + 1).toNat = k + 1 := by omega
  have hk5 : (0 : Int) < (k : Int) + 2 := by omega
  refine (callsIn_wide (n := m)).1 ?_
  refine callsIn_of_wp_marks Try.func47 rfl trivial ?_ rfl
  simp only [Try.ntmps47, List.size_toArray, List.length_cons, List.length_nil, Nat.reduceAdd, Nat.reduceSub, Array.replicate_succ, Array.replicate_zero, List.push_toArray, List.append_toArray, List.nil_append, List.cons_append]
  gi_wp2
  obtain ⟨X1, hX1⟩ : ∃ X, w.alloc (.cells #[.slice A n c] 22) = X := ⟨_, rfl⟩
  obtain ⟨X2, hX2⟩ : ∃ X, X1.alloc (.cells #[.int .i64 0] 3) = X := ⟨_, rfl⟩
  rw [hX1, hX2]
  have z1 : X1.heap.size = w.heap.size + 1 := by rw [← hX1]; simp
  have z2 : X2.heap.size = w.heap.size + 2 := by rw [← hX2]; simp [z1]
  have hB2 : Below w.heap.size w X2 := by rw [← hX2, ← hX1]; exact ((Below.refl _ w).alloc (Nat.le_refl _) _).alloc (by simp) _
  have HB2 := Lib.hid hB2
  have HBd : Hid (Below w.heap.size w X2.drew) := hB2.trans (Below.drew_ X2 _)
  refine wpIn_of_wp (Code.wp_mono (Q := fun e a' w' => e = Exit.normal ∧ ∃ bh bm bt, (w.heap.size + 2 ≤ bh ∧ w.heap.size + 2 ≤ bm ∧ w.heap.size + 2 ≤ bt ∧ bh ≠ bm ∧ bh ≠ bt ∧ bm ≠ bt) ∧ a' = { tmps := #[.slice A n c, .slice (some ⟨bT, oT, none⟩) (k + 2) d, .pointer (some ⟨w.heap.size, 0, none⟩), undef, .pointer (some ⟨w.heap.size + 1, 0, none⟩), .pointer (some ⟨bh, 0, none⟩), .pointer (some ⟨bm, 0, none⟩), .pointer (some ⟨bt, 0, none⟩), undef, undef, undef, undef, undef, .slice (some ⟨bT, oT, none⟩) (k + 2) d, .pointer (some ⟨bT, oT, none⟩), .agg #[.int .i64 x1, .int .i64 x2], .slice (some ⟨bT, oT, none⟩) (k + 2) d, .slice (some ⟨bT, oT, none⟩) (k + 2) d, .int .i64 ((k : Int) + 2), .int .i64 ((k : Int) + 1), .slice (some ⟨bT, oT + 2, none⟩) k (d - 1), .slice (some ⟨bT, oT, none⟩) (k + 2) d, .slice (some ⟨bT, oT, none⟩) (k + 2) d, .int .i64 ((k : Int) + 2), .int .i64 ((k : Int) + 1), .pointer (some ⟨bT, oT + (k + 1) * 2, none⟩), .agg #[.int .i64 y1, .int .i64 y2], undef, undef, undef, undef, undef, undef, undef, undef, undef, undef, undef, undef, undef, undef, undef, undef, undef, undef, undef, undef, undef, undef, undef, undef, undef, undef, undef, undef, undef, undef, undef, undef, undef, undef, undef, undef, undef, undef, undef, undef, undef, undef, undef, undef, undef], defers := [] } ∧ Lies w' bh 38 #[.int .i64 x1, .int .i64 x2] ∧ Lies w' bm 22 #[.slice (some ⟨bT, oT + 2, none⟩) k (d - 1)] ∧ Lies w' bt 38 #[.int .i64 y1, .int .i64 y2] ∧ Below (w.heap.size + 2) X2 w' ∧ w'.heap.size = w.heap.size + 5) ?after ?region)
  case region =>
    have HS := Lib.hid (HTc.out _ HBd.out)
    obtain ⟨⟨q1, q2⟩, q3, q4⟩ := HTc.out _ HB2.out
    have hbT : bT < w.heap.size := by
      obtain ⟨b, off, e, hlt, _⟩ := h'.at_ (by omega)
      cases e
      exact hlt
    have ne1 : w.heap.size + 2 ≠ bT := by omega
    have ne2 : w.heap.size + 2 + 1 ≠ bT := by omega
    have ne3 : w.heap.size + 2 + 1 + 1 ≠ bT := by omega
    have ne4 : ¬ bT = w.heap.size + 2 := by omega
    have ne5 : ¬ bT = w.heap.size + 2 + 1 := by omega
    have ne6 : ¬ bT = w.heap.size + 2 + 1 + 1 := by omega
    clear hX1 hX2 h h' HTc HBd HB2 hB2 hT hn hm h1 z1 ne4 ne5 ne6
    have F1 : ∀ o1, CS8 bT oT k x1 x2 y1 y2 (X2.alloc o1).drew := fun o1 => CS8.alloc (w := X2) ⟨⟨q1, q2⟩, q3, q4⟩ (by omega) o1
    have F2 : ∀ o1 o2, CS8 bT oT k x1 x2 y1 y2 ((X2.alloc o1).alloc o2).drew := fun o1 o2 => CS8.alloc (F1 o1) (by simp; omega) o2
    have F3 : ∀ o1 o2 o3, CS8 bT oT k x1 x2 y1 y2 (((X2.alloc o1).alloc o2).alloc o3).drew := fun o1 o2 o3 => CS8.alloc (F2 o1 o2) (by simp; omega) o3
    clear q1 q2 q3 q4 hbT
    go_region_held3 (fun W' => (W'.cell? ⟨bT, oT, none⟩ = some (.int .i64 x1) ∧ W'.cell? ⟨bT, oT + 1, none⟩ = some (.int .i64 x2)) ∧ W'.cell? ⟨bT, oT + (k + 1) * 2, none⟩ = some (.int .i64 y1) ∧ W'.cell? ⟨bT, oT + (k + 1) * 2 + 1, none⟩ = some (.int .i64 y2))
      (first | (with_reducible exact HS.out) | (with_reducible exact F1 _) | (with_reducible exact F2 _ _) | (with_reducible exact F3 _ _ _) | (with_reducible exact CS8.put (CS8.put (F3 _ _ _) (by first | exact ne1 | exact ne2 | exact ne3)) (by first | exact ne1 | exact ne2 | exact ne3)) | (with_reducible exact CS8.put (CS8.put (CS8.put (F3 _ _ _) (by first | exact ne1 | exact ne2 | exact ne3)) (by first | exact ne1 | exact ne2 | exact ne3)) (by first | exact ne1 | exact ne2 | exact ne3)) | (with_reducible exact CS8.put (CS8.put (CS8.put (CS8.put (CS8.put (F3 _ _ _) (by first | exact ne1 | exact ne2 | exact ne3)) (by first | exact ne1 | exact ne2 | exact ne3)) (by first | exact ne1 | exact ne2 | exact ne3)) (by first | exact ne1 | exact ne2 | exact ne3)) (by first | exact ne1 | exact ne2 | exact ne3)))
      (fail)
    all_goals
      refine ⟨rfl, _, _, _, ?_, rfl, ?_, ?_, ?_, ?_, ?_⟩
      · omega
      · refine Lies.dr8 ?_
        first
          | exact Lies.al8 (Lies.al8 (Lies.fresh8 (by omega)) _) _
          | exact Lies.al8 (Lies.fresh8 (by rw [World.size_alloc]; omega)) _
          | exact Lies.fresh8 (by rw [World.size_alloc, World.size_alloc]; omega)
      · refine Lies.dr8 ?_
        first
          | exact Lies.al8 (Lies.al8 (Lies.fresh8 (by omega)) _) _
          | exact Lies.al8 (Lies.fresh8 (by rw [World.size_alloc]; omega)) _
          | exact Lies.fresh8 (by rw [World.size_alloc, World.size_alloc]; omega)
      · refine Lies.dr8 ?_
        first
          | exact Lies.al8 (Lies.al8 (Lies.fresh8 (by omega)) _) _
          | exact Lies.al8 (Lies.fresh8 (by rw [World.size_alloc]; omega)) _
          | exact Lies.fresh8 (by rw [World.size_alloc, World.size_alloc]; omega)
      · repeat (first | (with_reducible refine Below.trans ?_ (Below.drew_ _ _)) | (with_reducible refine Below.setCell ?_ (by first | omega | (simp; omega) | simp) _) | (with_reducible refine Below.alloc ?_ (by first | omega | (simp; omega) | simp) _))
        exact Below.refl _ X2
      · first | (simp [z2]) | (simp; omega)
  case after =>
    rintro e a' V ⟨rfl, bh, bm, bt, ⟨g1, g2, g3, _, _, _⟩, rfl, lh, lm, lt, hBV, hVs⟩
    have l2 : Lies V w.heap.size 22 #[.slice A n c] := by
      refine (hBV.block _ (by omega)).trans ?_
      rw [← hX2, ← hX1]
      exact (Below.heap_alloc _ _ _ (by simp)).trans (Lies.new w _ _)
    have l4 : Lies V (w.heap.size + 1) 3 #[.int .i64 0] := by
      refine (hBV.block _ (by omega)).trans ?_
      rw [← hX2, ← z1]
      exact Lies.new X1 _ _
    have hwV : Below w.heap.size w V := hB2.trans (hBV.mono (by omega))
    clear hX1 hX2 hB2 HB2 HBd HTc hT hBV hS1 hk1 hkw hk2 hk3 hk4 hk5
    have cV : V.cell? ⟨bm, 0, none⟩ = some (.slice (some ⟨bT, oT + 2, none⟩) k (d - 1)) := by rw [lm.cell]; rfl
    have cV2 : V.cell? ⟨w.heap.size, 0, none⟩ = some (.slice A n c) := by rw [l2.cell]; rfl
    have HFa := Lib.hid (kfalls8 V (some ⟨bT, oT + 2, none⟩) k (d - 1) M (hMid.below hwV) hk)
    have hl2 := l2.lt
    have Hin := Lib.hid (And.intro lh (And.intro lm (And.intro lt (And.intro l2 (And.intro l4 hwV)))))
    clear lh lm lt l2 l4 hwV
    have HVs := Lib.hid hVs
    clear hVs
    gi_wp2_with (first | (refine ⟨trivial, ?_⟩; gi_at_call 50; refine (callsIn_wide.2 HFa.out).mono ?_; rintro e w2 ⟨F, rfl, hF1, hF2, hF3, hF4⟩; have cF2 : ∀ o1 o2 o3, (((w2.alloc o1).alloc o2).alloc o3).cell? ⟨w.heap.size, 0, none⟩ = some (.slice A n c) := fun o1 o2 o3 => (Turn.cell (F := fun _ => False) (p := ⟨w.heap.size, 0, none⟩) ((((Turn.of_below hF4).alloc o1).alloc o2).alloc o3) hl2 id).trans cV2; have Hfal := Lib.hid (And.intro hF1 (And.intro hF2 (And.intro hF3 hF4))); clear hF1 hF2 hF3 hF4) | (refine ⟨trivial, ?_⟩; gi_at_call 36; refine (callsIn_wide.2 (kplaced A n c _)).mono ?_; rintro e w' ⟨rfl, rfl⟩))
    obtain ⟨Y1, hY1⟩ : ∃ X, w2.alloc (.cells #[.slice (some ⟨V.heap.size, 0, none⟩) k k] 41) = X := ⟨_, rfl⟩
    obtain ⟨Y2, hY2⟩ : ∃ X, Y1.alloc (.cells #[.int .i64 0] 3) = X := ⟨_, rfl⟩
    obtain ⟨Y3, hY3⟩ : ∃ X, Y2.alloc (.cells #[.int .i64 0] 3) = X := ⟨_, rfl⟩
    obtain ⟨W0, hW0⟩ : ∃ X, Y3.alloc (.cells #[.slice A n c] 22) = X := ⟨_, rfl⟩
    obtain ⟨hF1, hF2, hF3, hF4⟩ := Hfal.out
    obtain ⟨lh, lm, lt, l2, l4, hwV⟩ := Hin.out
    have s1 : Y1.heap.size = w2.heap.size + 1 := by rw [← hY1]; simp
    have s2 : Y2.heap.size = w2.heap.size + 1 + 1 := by rw [← hY2]; simp [s1]
    have s3 : Y3.heap.size = w2.heap.size + 1 + 1 + 1 := by rw [← hY3]; simp [s2]
    have hsz : W0.heap.size = w2.heap.size + 4 := by rw [← hW0]; simp [s3]
    have hV0 : Below V.heap.size V W0 := by
      have b1 : Below V.heap.size V Y1 := by rw [← hY1]; exact hF4.alloc hF4.size _
      have b2 : Below V.heap.size V Y2 := by rw [← hY2]; exact b1.alloc b1.size _
      have b3 : Below V.heap.size V Y3 := by rw [← hY3]; exact b2.alloc b2.size _
      rw [← hW0]
      exact b3.alloc b3.size _
    have hB0 : Below w.heap.size w W0 := hwV.trans (hV0.mono hwV.size)
    have lF : Lies W0 V.heap.size 3 (i64s F).toArray := by
      rw [← hW0, ← hY3, ← hY2, ← hY1]
      exact Lies.al8 (Lies.al8 (Lies.al8 (Lies.al8 hF2 _) _) _) _
    have lBk : Lies W0 w2.heap.size 41 #[.slice (some ⟨V.heap.size, 0, none⟩) k k] := by
      rw [← hW0, ← hY3, ← hY2, ← hY1]
      exact Lies.al8 (Lies.al8 (Lies.al8 (Lies.fresh8 rfl) _) _) _
    have lK : Lies W0 (w2.heap.size + 1) 3 #[.int .i64 0] := by
      rw [← hW0, ← hY3, ← hY2]
      exact Lies.al8 (Lies.al8 (Lies.fresh8 s1.symm) _) _
    have lI : Lies W0 (w2.heap.size + 1 + 1) 3 #[.int .i64 0] := by
      rw [← hW0, ← hY3]
      exact Lies.al8 (Lies.fresh8 s2.symm) _
    have lP : Lies W0 (w2.heap.size + 1 + 1 + 1) 22 #[.slice A n c] := by
      rw [← hW0]
      exact Lies.fresh8 s3.symm
    have vbh : bh < V.heap.size := lh.lt
    have vbm : bm < V.heap.size := lm.lt
    have vbt : bt < V.heap.size := lt.lt
    have vl4 : w.heap.size + 1 < V.heap.size := l4.lt
    replace lh := (hV0.block _ lh.lt).trans lh
    replace lm := (hV0.block _ lm.lt).trans lm
    replace lt := (hV0.block _ lt.lt).trans lt
    replace l2 := (hV0.block _ l2.lt).trans l2
    replace l4 := (hV0.block _ l4.lt).trans l4
    have hVw2 := hF4.size
    have hwVs := hwV.size
    rw [hY1, hY2, hY3, hW0]
    clear hY1 hY2 hY3 hW0 s1 s2 s3 Hfal Hin cF2 HFa cV cV2 hl2 hF2 HVs
    have Hfix := Lib.hid (And.intro (show Lies W0 bh 38 #[.int .i64 x1, .int .i64 x2] from lh) (And.intro (show Lies W0 bm 22 #[.slice (some ⟨bT, oT + 2, none⟩) k (d - 1)] from lm) (And.intro (show Lies W0 bt 38 #[.int .i64 y1, .int .i64 y2] from lt) (And.intro (show Lies W0 w.heap.size 22 #[.slice A n c] from l2) (And.intro lF lBk)))))
    have hbh := (show Lies W0 bh 38 #[.int .i64 x1, .int .i64 x2] from lh).lt
    refine ranged hm (w2.heap.size + 1 + 1 + 1) none w A n c R h (by omega) rfl (fun _ e => by cases e) (by omega) hB0 (fun _ e => e.none.elim) (by rw [lP.cell]; rfl)
      (fun pre W => ∃ q : Nat, (((Lies W (w2.heap.size + 1) 3 #[.int .i64 q] ∧ Lies W (w2.heap.size + 1 + 1) 3 #[.int .i64 pre.length]) ∧ Lies W (w.heap.size + 1) 3 #[.int .i64 0]) ∧ (Tx.IsK M (pre.map (fun x => x.2)) q ∧ Tx.Free8 R (x1, x2) M (y1, y2) pre)) ∧ Turn (fun k => k = w.heap.size + 1 ∨ k = w2.heap.size + 1 ∨ k = w2.heap.size + 1 + 1) W0 W)
      (fun co pre W => ((co = .ret ∧ ∃ ini last, pre = ini ++ [last] ∧ Tx.Free8 R (x1, x2) M (y1, y2) ini ∧ Tx.Hit R (x1, x2) M (y1, y2) ini last) ∧ Lies W (w.heap.size + 1) 3 #[.int .i64 (IntKind.i64.wrap (IntKind.i64.wrap ((pre.getLast?.getD (0, 0, 0)).1 - IntKind.i64.wrap (Lt.total M)) - x2))]) ∧ Turn (fun k => k = w.heap.size + 1 ∨ k = w2.heap.size + 1 ∨ k = w2.heap.size + 1 + 1) W0 W)
      (fun s X Y row hs hg hr => by obtain ⟨q, hs⟩ := hs; exact ⟨q, OwnFrom.and (OwnFrom.and (OwnFrom.and (OwnFrom.and (Own.from (lies_own (β := List (Int × Int × Int)) (w2.heap.size + 1) 3 (fun _ => #[.int .i64 q])) _) (Own.from (lies_own (β := List (Int × Int × Int)) (w2.heap.size + 1 + 1) 3 (fun pre => #[.int .i64 pre.length])) _)) (Own.from (lies_own (β := List (Int × Int × Int)) (w.heap.size + 1) 3 (fun _ => #[.int .i64 0])) _)) (ownFrom_pure _ (fun pre => Tx.IsK M (pre.map (fun x => x.2)) q ∧ Tx.Free8 R (x1, x2) M (y1, y2) pre))) (Turn.ownFrom (F := fun k => k = w.heap.size + 1 ∨ k = w2.heap.size + 1 ∨ k = w2.heap.size + 1 + 1)) s X Y row hs hg hr⟩)
      (fun _ => OwnFrom.and (OwnFrom.and (ownFrom_pure _ _) (Own.from (lies_own _ _ _) _)) Turn.ownFrom)
      ⟨0, ⟨⟨⟨lK, lI⟩, l4⟩, Tx.IsK.nil M, fun p z hp => by simp at hp⟩, Turn.refl _ W0⟩
      (fun x a' W => ∃ Bx, W0.heap.size ≤ Bx ∧ Lies W Bx 38 #[.int .i64 x.2.1, .int .i64 x.2.2] ∧ a' = { tmps := #[.slice A n c, .slice (some ⟨bT, oT, none⟩) (k + 2) d, .pointer (some ⟨w.heap.size, 0, none⟩), undef, .pointer (some ⟨w.heap.size + 1, 0, none⟩), .pointer (some ⟨bh, 0, none⟩), .pointer (some ⟨bm, 0, none⟩), .pointer (some ⟨bt, 0, none⟩), .pointer (some ⟨w2.heap.size, 0, none⟩), .pointer (some ⟨w2.heap.size + 1, 0, none⟩), .pointer (some ⟨w2.heap.size + 1 + 1, 0, none⟩), .int .i64 x.1, .pointer (some ⟨Bx, 0, none⟩), .slice (some ⟨bT, oT, none⟩) (k + 2) d, .pointer (some ⟨bT, oT, none⟩), .agg #[.int .i64 x1, .int .i64 x2], .slice (some ⟨bT, oT, none⟩) (k + 2) d, .slice (some ⟨bT, oT, none⟩) (k + 2) d, .int .i64 ((k : Int) + 2), .int .i64 ((k : Int) + 1), .slice (some ⟨bT, oT + 2, none⟩) k (d - 1), .slice (some ⟨bT, oT, none⟩) (k + 2) d, .slice (some ⟨bT, oT, none⟩) (k + 2) d, .int .i64 ((k : Int) + 2), .int .i64 ((k : Int) + 1), .pointer (some ⟨bT, oT + (k + 1) * 2, none⟩), .agg #[.int .i64 y1, .int .i64 y2], .slice (some ⟨bT, oT + 2, none⟩) k (d - 1), .slice (some ⟨V.heap.size, 0, none⟩) k k, .slice A n c, .func (.func 46) #[] #[.pointer (some ⟨w2.heap.size + 1 + 1 + 1, 0, none⟩)], .int .i64 x.1, .agg #[.int .i64 x.2.1, .int .i64 x.2.2], undef, undef, undef, undef, undef, undef, undef, undef, undef, undef, undef, undef, undef, undef, undef, undef, undef, undef, undef, undef, undef, undef, undef, undef, undef, undef, undef, undef, undef, undef, undef, undef, undef, undef, undef, undef, undef, undef, undef], defers := [] })
      (fun x a' _ X Y row hs hg hr => by obtain ⟨Bx, h1, h2, h3⟩ := hs; exact ⟨Bx, h1, lies_own Bx 38 (fun (_ : Unit) => #[.int .i64 x.2.1, .int .i64 x.2.2]) () X Y row h2 hg (fun r e => (hr r e).2), h3⟩)
      ?assign ?body ?done ?stop
    case assign =>
      rintro l pre x W K ⟨q, ⟨⟨⟨hK1, hI1⟩, hR1⟩, hp⟩, hT⟩ hK
      gi_wp2
      exact hK _ _ ((KeepsOthers.alloc _ _).from _) (Kps.alloc (hB0.trans (hT.below hB0.size (fun i e => by omega))).size (fun _ e => by cases e) _) ⟨q, ⟨⟨⟨Lies.al8 hK1 _, Lies.al8 hI1 _⟩, Lies.al8 hR1 _⟩, hp⟩, hT.alloc _⟩ ⟨W.heap.size, hT.size, Lies.new W _ _, rfl⟩
    case body =>
      rintro l pre ⟨xa, xc, xn⟩ a' W hl ⟨r, hr⟩ ⟨q, ⟨⟨⟨hK1, hI1⟩, hR1⟩, hIs, hFr⟩, hT⟩ ⟨Bx, hBx, hX, rfl⟩ hlt
      simp only at hX
      obtain ⟨fh, fm, ft, f2, fF, fB⟩ := Hfix.out
      have uh := hT.lies fh (by omega)
      have um := hT.lies fm (by omega)
      have ut := hT.lies ft (by omega)
      have u2 := hT.lies f2 (by omega)
      have uF := hT.lies fF (by omega)
      have uB := hT.lies fB (by omega)
      have hPast : Past w W0 W := ⟨hB0.trans (hT.below hB0.size (fun i e => by omega)), hT.size⟩
      obtain ⟨len, hlen⟩ : ∃ len, pre.length = len := ⟨_, rfl⟩
      rw [hlen] at hI1 hlt
      have hqk : q ≤ k := by have := hIs.le; omega
      have HLat : Hid ((∀ s : Lat W, s.at_.cell? ⟨w2.heap.size + 1, 0, none⟩ = some (.int .i64 q)) ∧ (∀ s : Lat W, s.at_.cell? ⟨w2.heap.size + 1 + 1, 0, none⟩ = some (.int .i64 len)) ∧ (∀ s : Lat W, s.at_.cell? ⟨bm, 0, none⟩ = some (.slice (some ⟨bT, oT + 2, none⟩) k (d - 1))) ∧ (∀ s : Lat W, s.at_.cell? ⟨w.heap.size, 0, none⟩ = some (.slice A n c)) ∧ (∀ s : Lat W, s.at_.cell? ⟨bh, 0, none⟩ = some (.int .i64 x1) ∧ s.at_.cell? ⟨bh, 1, none⟩ = some (.int .i64 x2)) ∧ (∀ s : Lat W, s.at_.cell? ⟨bt, 0, none⟩ = some (.int .i64 y1) ∧ s.at_.cell? ⟨bt, 1, none⟩ = some (.int .i64 y2)) ∧ (∀ s : Lat W, s.at_.cell? ⟨Bx, 0, none⟩ = some (.int .i64 xc) ∧ s.at_.cell? ⟨Bx, 1, none⟩ = some (.int .i64 xn)) ∧ True) :=
        ⟨fun s => by rw [s.ok.cell (p := ⟨_, _, none⟩) hK1.lt, hK1.cell]; rfl, fun s => by rw [s.ok.cell (p := ⟨_, _, none⟩) hI1.lt, hI1.cell]; rfl, fun s => by rw [s.ok.cell (p := ⟨_, _, none⟩) um.lt, um.cell]; rfl, fun s => by rw [s.ok.cell (p := ⟨w.heap.size, _, none⟩) u2.lt, u2.cell]; rfl,
          fun s => ⟨by rw [s.ok.cell (p := ⟨_, _, none⟩) uh.lt, uh.cell]; rfl, by rw [s.ok.cell (p := ⟨_, _, none⟩) uh.lt, uh.cell]; rfl⟩, fun s => ⟨by rw [s.ok.cell (p := ⟨_, _, none⟩) ut.lt, ut.cell]; rfl, by rw [s.ok.cell (p := ⟨_, _, none⟩) ut.lt, ut.cell]; rfl⟩,
          fun s => ⟨by rw [s.ok.cell (p := ⟨_, _, none⟩) hX.lt, hX.cell]; rfl, by rw [s.ok.cell (p := ⟨_, _, none⟩) hX.lt, hX.cell]; rfl⟩, trivial⟩
      have HAt : Hid (∀ W8, Below W.heap.size W W8 → W8.cell? ⟨w2.heap.size + 1, 0, none⟩ = some (.int .i64 q) ∧ W8.cell? ⟨bm, 0, none⟩ = some (.slice (some ⟨bT, oT + 2, none⟩) k (d - 1)) ∧ W8.cell? ⟨w2.heap.size, 0, none⟩ = some (.slice (some ⟨V.heap.size, 0, none⟩) k k) ∧ W8.cell? ⟨Bx, 0, none⟩ = some (.int .i64 xc) ∧ W8.cell? ⟨Bx, 1, none⟩ = some (.int .i64 xn)) := fun W8 h8 =>
        ⟨by rw [h8.cell (p := ⟨_, _, none⟩) hK1.lt, hK1.cell]; rfl, by rw [h8.cell (p := ⟨_, _, none⟩) um.lt, um.cell]; rfl, by rw [h8.cell (p := ⟨w2.heap.size, _, none⟩) uB.lt, uB.cell]; rfl, by rw [h8.cell (p := ⟨_, _, none⟩) hX.lt, hX.cell]; rfl, by rw [h8.cell (p := ⟨_, _, none⟩) hX.lt, hX.cell]; rfl⟩
      have HStep : Hid (∀ W8, Below W.heap.size W W8 → Calls Try.prog 51 #[.slice (some ⟨bT, oT + 2, none⟩) k (d - 1), .slice (some ⟨V.heap.size, 0, none⟩) k k, .int .i64 q, .agg #[.int .i64 xc, .int .i64 xn]] W8 fun e w' => (∃ q : Nat, e = .returned (.int .i64 q) ∧ Tx.IsK M (pre.map (fun x => x.2) ++ [(xc, xn)]) q) ∧ Below W8.heap.size W8 w') := fun W8 h8 =>
        kstep8 W8 _ k (d - 1) M _ k k F q xc xn _ (hMid.below (hPast.1.trans (h8.mono hPast.1.size))) (Lies.nums ((h8.block _ uF.lt).trans uF) hF1) hk (Nat.le_refl _) hIs (fun j hj => hF3 j (by omega))
      have HFin : Hid (¬ Tx.Hit R (x1, x2) M (y1, y2) pre (xa, xc, xn) → ∀ W8 W2 (q2 : Nat), Below W.heap.size W W8 → Below W8.heap.size W8 W2 → Tx.IsK M (pre.map (fun x => x.2) ++ [(xc, xn)]) q2 →
          (W2.cell? ⟨w2.heap.size + 1, 0, none⟩ = some (.int .i64 q) ∧ W2.frozen? ⟨w2.heap.size + 1, 0, none⟩ = false) ∧
          (∀ v, (W2.setCell ⟨w2.heap.size + 1, 0, none⟩ v).cell? ⟨w2.heap.size + 1 + 1, 0, none⟩ = some (.int .i64 len) ∧ (W2.setCell ⟨w2.heap.size + 1, 0, none⟩ v).frozen? ⟨w2.heap.size + 1 + 1, 0, none⟩ = false) ∧
          (KeepsFrom W0.heap.size W ((W2.setCell ⟨w2.heap.size + 1, 0, none⟩ (.int .i64 q2)).setCell ⟨w2.heap.size + 1 + 1, 0, none⟩ (.int .i64 ((len : Int) + 1))) ∧ Kps none w.heap.size W0.heap.size W ((W2.setCell ⟨w2.heap.size + 1, 0, none⟩ (.int .i64 q2)).setCell ⟨w2.heap.size + 1 + 1, 0, none⟩ (.int .i64 ((len : Int) + 1))) ∧
            ∃ q : Nat, (((Lies ((W2.setCell ⟨w2.heap.size + 1, 0, none⟩ (.int .i64 q2)).setCell ⟨w2.heap.size + 1 + 1, 0, none⟩ (.int .i64 ((len : Int) + 1))) (w2.heap.size + 1) 3 #[.int .i64 q] ∧ Lies ((W2.setCell ⟨w2.heap.size + 1, 0, none⟩ (.int .i64 q2)).setCell ⟨w2.heap.size + 1 + 1, 0, none⟩ (.int .i64 ((len : Int) + 1))) (w2.heap.size + 1 + 1) 3 #[.int .i64 (pre ++ [(xa, xc, xn)]).length]) ∧ Lies ((W2.setCell ⟨w2.heap.size + 1, 0, none⟩ (.int .i64 q2)).setCell ⟨w2.heap.size + 1 + 1, 0, none⟩ (.int .i64 ((len : Int) + 1))) (w.heap.size + 1) 3 #[.int .i64 0]) ∧ (Tx.IsK M ((pre ++ [(xa, xc, xn)]).map (fun x => x.2)) q ∧ Tx.Free8 R (x1, x2) M (y1, y2) (pre ++ [(xa, xc, xn)]))) ∧ Turn (fun k => k = w.heap.size + 1 ∨ k = w2.heap.size + 1 ∨ k = w2.heap.size + 1 + 1) W0 ((W2.setCell ⟨w2.heap.size + 1, 0, none⟩ (.int .i64 q2)).setCell ⟨w2.heap.size + 1 + 1, 0, none⟩ (.int .i64 ((len : Int) + 1))))) := by
        intro hno W8 W2 q2 h8 h2 hq2
        have hW2 : Below W.heap.size W W2 := h8.trans (h2.mono h8.size)
        have lK2 : Lies W2 (w2.heap.size + 1) 3 #[.int .i64 q] := (hW2.block _ hK1.lt).trans hK1
        have lI2 : Lies W2 (w2.heap.size + 1 + 1) 3 #[.int .i64 len] := (hW2.block _ hI1.lt).trans hI1
        have lR2 : Lies W2 (w.heap.size + 1) 3 #[.int .i64 0] := (hW2.block _ hR1.lt).trans hR1
        refine ⟨⟨by rw [lK2.cell]; rfl, lK2.free 0⟩, fun v => ⟨by rw [(lI2.oth8 (by omega) v).cell]; rfl, (lI2.oth8 (by omega) v).free 0⟩, ?_⟩
        have hTu : Turn (fun k => k = w2.heap.size + 1 ∨ k = w2.heap.size + 1 + 1) W ((W2.setCell ⟨w2.heap.size + 1, 0, none⟩ (.int .i64 q2)).setCell ⟨w2.heap.size + 1 + 1, 0, none⟩ (.int .i64 ((len : Int) + 1))) := ((Turn.of_below hW2).put (.inl (.inl rfl)) _).put (.inl (.inr rfl)) _
        have hTv : Turn (fun k => w.heap.size ≤ k ∧ k < W0.heap.size) W ((W2.setCell ⟨w2.heap.size + 1, 0, none⟩ (.int .i64 q2)).setCell ⟨w2.heap.size + 1 + 1, 0, none⟩ (.int .i64 ((len : Int) + 1))) := hTu.mono fun i _ e => by omega
        refine ⟨keeps_of_turn hTv, Kps.of_turn hTv hPast.1.size, q2, ⟨⟨⟨(lK2.put 0 _).oth8 (by omega) _, ?_⟩, (lR2.oth8 (by omega) _).oth8 (by omega) _⟩, ?_, hFr.snoc hno⟩, hT.trans hTu (fun i e => .inl (by omega))⟩
        · rw [List.length_append, hlen]
          exact (lI2.oth8 (by omega) _).put 0 _
        · rw [List.map_append]
          exact hq2
      have HHit : Hid (Tx.Hit R (x1, x2) M (y1, y2) pre (xa, xc, xn) → ∀ W2, Below W.heap.size W W2 →
          (W2.cell? ⟨w.heap.size + 1, 0, none⟩ = some (.int .i64 0) ∧ W2.frozen? ⟨w.heap.size + 1, 0, none⟩ = false) ∧
          (KeepsFrom W0.heap.size W (W2.setCell ⟨w.heap.size + 1, 0, none⟩ (.int .i64 (IntKind.i64.wrap (IntKind.i64.wrap (xa - IntKind.i64.wrap (Lt.total M)) - x2)))) ∧
            (((.ret : Code) = .ret ∧ ∃ ini last, pre ++ [(xa, xc, xn)] = ini ++ [last] ∧ Tx.Free8 R (x1, x2) M (y1, y2) ini ∧ Tx.Hit R (x1, x2) M (y1, y2) ini last) ∧ Lies (W2.setCell ⟨w.heap.size + 1, 0, none⟩ (.int .i64 (IntKind.i64.wrap (IntKind.i64.wrap (xa - IntKind.i64.wrap (Lt.total M)) - x2)))) (w.heap.size + 1) 3 #[.int .i64 (IntKind.i64.wrap (IntKind.i64.wrap (((pre ++ [(xa, xc, xn)]).getLast?.getD (0, 0, 0)).1 - IntKind.i64.wrap (Lt.total M)) - x2))]) ∧ Turn (fun k => k = w.heap.size + 1 ∨ k = w2.heap.size + 1 ∨ k = w2.heap.size + 1 + 1) W0 (W2.setCell ⟨w.heap.size + 1, 0, none⟩ (.int .i64 (IntKind.i64.wrap (IntKind.i64.wrap (xa - IntKind.i64.wrap (Lt.total M)) - x2)))))) := by
        intro hh W2 hW2
        have lR2 : Lies W2 (w.heap.size + 1) 3 #[.int .i64 0] := (hW2.block _ hR1.lt).trans hR1
        have hTu : Turn (fun k => k = w.heap.size + 1) W (W2.setCell ⟨w.heap.size + 1, 0, none⟩ (.int .i64 (IntKind.i64.wrap (IntKind.i64.wrap (xa - IntKind.i64.wrap (Lt.total M)) - x2)))) := (Turn.of_below (F := fun k => k = w.heap.size + 1) hW2).put (p := ⟨w.heap.size + 1, 0, none⟩) (.inl rfl) _
        have hTv : Turn (fun k => w.heap.size ≤ k ∧ k < W0.heap.size) W (W2.setCell ⟨w.heap.size + 1, 0, none⟩ (.int .i64 (IntKind.i64.wrap (IntKind.i64.wrap (xa - IntKind.i64.wrap (Lt.total M)) - x2)))) := hTu.mono fun i _ e => by omega
        refine ⟨⟨by rw [lR2.cell]; rfl, lR2.free 0⟩, keeps_of_turn hTv, ⟨⟨rfl, pre, _, rfl, hFr, hh⟩, ?_⟩, hT.trans hTu (fun i e => .inl (by omega))⟩
        simpa using lR2.put 0 _
      have HHit9 : Hid (∀ W8, Below W.heap.size W W8 → (W8.cell? ⟨bm, 0, none⟩ = some (.slice (some ⟨bT, oT + 2, none⟩) k (d - 1)) ∧ W8.cell? ⟨bh, 1, none⟩ = some (.int .i64 x2)) ∧ Calls Try.prog 38 #[.slice (some ⟨bT, oT + 2, none⟩) k (d - 1)] W8 fun e w' => e = .returned (.int .i64 (IntKind.i64.wrap (Lt.total M))) ∧ Below W8.heap.size W8 w') := fun W8 h8 =>
        ⟨⟨by rw [h8.cell (p := ⟨_, _, none⟩) um.lt, um.cell]; rfl, by rw [h8.cell (p := ⟨_, _, none⟩) uh.lt, uh.cell]; rfl⟩, by rw [IntWalk.i64_left]; exact klength W8 _ k (d - 1) M (hMid.below (hPast.1.trans (h8.mono hPast.1.size))) (by omega)⟩
      have hq0 : IntKind.i64.wrap ((len : Int) + 1) = (len : Int) + 1 := IntWalk.i64_in _ (by omega)
      have HIs := Lib.hid hIs.all
      have Hget : Hid (∀ j, j < n → ∃ bA oA u, A = some ⟨bA, oA, none⟩ ∧ R[j]? = some u ∧ ∀ s : Lat W, s.at_.cell? ⟨bA, oA + j * 2, none⟩ = some (.int .i64 u.1) ∧ s.at_.cell? ⟨bA, oA + j * 2 + 1, none⟩ = some (.int .i64 u.2)) := fun j hj => by
        obtain ⟨bA, oA, u, e, hu, _, _, hcu⟩ := h.get hj
        exact ⟨bA, oA, u, e, hu, fun s => (hcu s.at_ (hPast.1.trans (s.ok.mono hPast.1.size))).2⟩
      have HW := Lib.hid fun W => kwithin8 W
      clear hK1 hI1 hR1 hIs hFr hT hX uh um ut u2 uF uB fh fm ft f2 fF fB hPast h h' hMid hR hTm hwV hF1 hF3 hF4 hV0 hB0 lF lBk lK lI lP lh lm lt l2 l4 Hfix vbh vbm vbt vl4 hVw2 hwVs hsz hbh
      by_cases eK : q = k
      · obtain rfl : k = q := eK.symm
        by_cases eI : k < len
        · obtain ⟨j, hj⟩ : ∃ j, len = k + 1 + j := ⟨len - k - 1, by omega⟩
          have dI : decide ((k : Int) < (len : Int)) = true := decide_eq_true (by omega)
          have dI2 : decide (k < len) = true := decide_eq_true (by omega)
          have hw1 : IntKind.i64.wrap ((len : Int) - (k : Int)) = (j : Int) + 1 := by rw [IntWalk.i64_in _ (by omega)]; omega
          have hw2 : IntKind.i64.wrap (j : Int) = (j : Int) := IntWalk.i64_in _ (by omega)
          obtain ⟨bA, oA, ⟨u1, u2⟩, rfl, hu, hcu⟩ := Hget.out j (by omega)
          have HCu := Lib.hid hcu
          have hjn : (j : Int) < (n : Int) := by omega
          have HW1 := Lib.hid fun W => HW.out W x1 x2 u1 u2
          have HW2 := Lib.hid fun W => HW.out W y1 y2 xc xn
          have Hiff : Hid (Tx.Hit R (x1, x2) M (y1, y2) pre (xa, xc, xn) ↔ Tx.wi (x1, x2) (u1, u2) = true ∧ Tx.wi (y1, y2) (xc, xn) = true) := by
            unfold Hid Tx.Hit
            rw [← HIs.out, hlen, hMl, show len - k - 1 = j by omega, hu]
            constructor
            · rintro ⟨_, _, ⟨u, e, h1⟩, h2⟩
              cases e
              exact ⟨h1, h2⟩
            · rintro ⟨h1, h2⟩
              exact ⟨rfl, by omega, ⟨_, rfl, h1⟩, h2⟩
          generalize IntKind.i64.wrap (Lt.total M) = tm at HHit HHit9
          generalize Tx.wi (x1, x2) (u1, u2) = g1 at HW1 Hiff
          generalize Tx.wi (y1, y2) (xc, xn) = g2 at HW2 Hiff
          clear hu hcu Hget HW HIs eI hlen hMl hlt hqk hj
          cases g1 <;> cases g2
          · have HNo : Hid (¬ Tx.Hit R (x1, x2) M (y1, y2) pre (xa, xc, xn)) := fun hh => by have := Hiff.out.1 hh; simp at this
            clear HHit HHit9 Hiff
            gi_wp2_with (fail)
            refine calm_round (C := Latr W) (by kernel_rfl) (by kernel_rfl) (by kernel_rfl) (latr_drew (Below.refl _ W)) ?_
            obtain ⟨k1_, k2_, k3_, k4_, k5_, k6_, k7_, k8_⟩ := HLat.out
            have c1_ := HCu.out
            repeat (go_big_quiet_step ((go_at_call 40; first | (with_reducible exact calm_call (HW1.out _)) | (with_reducible exact calm_call (HW2.out _)))))
            refine wpQuiet_nil ?_
            rintro _ ⟨s, rfl⟩
            obtain ⟨W8, hW8⟩ : ∃ V, s.at_ = V := ⟨_, rfl⟩
            have HV8 : Hid (Below W.heap.size W W8) := hW8 ▸ s.ok
            rw [hW8]
            clear k1_ k2_ k3_ k4_ k5_ k6_ k7_ k8_ c1_ hW8 s HLat
            obtain ⟨t1_, t2_, t3_, t4_, t5_⟩ := HAt.out W8 HV8.out
            gi_wp2_with (fail)
            refine ⟨trivial, fun _ => by omega, ?_⟩
            refine (CallsIn.inRound l (callsIn_wide.2 (HStep.out W8 HV8.out))).mono ?_
            rintro e W2 ⟨⟨q2, rfl, hq2⟩, b2⟩
            obtain ⟨⟨y1_, y2_⟩, y3_, hfin⟩ := HFin.out HNo.out W8 W2 q2 HV8.out b2 hq2
            have HH := Lib.hid hfin
            clear hfin hq2 b2
            gi_wp2_with (fail)
            exact HH.out
          · have HNo : Hid (¬ Tx.Hit R (x1, x2) M (y1, y2) pre (xa, xc, xn)) := fun hh => by have := Hiff.out.1 hh; simp at this
            clear HHit HHit9 Hiff
            gi_wp2_with (fail)
            refine calm_round (C := Latr W) (by kernel_rfl) (by kernel_rfl) (by kernel_rfl) (latr_drew (Below.refl _ W)) ?_
            obtain ⟨k1_, k2_, k3_, k4_, k5_, k6_, k7_, k8_⟩ := HLat.out
            have c1_ := HCu.out
            repeat (go_big_quiet_step ((go_at_call 40; first | (with_reducible exact calm_call (HW1.out _)) | (with_reducible exact calm_call (HW2.out _)))))
            refine wpQuiet_nil ?_
            rintro _ ⟨s, rfl⟩
            obtain ⟨W8, hW8⟩ : ∃ V, s.at_ = V := ⟨_, rfl⟩
            have HV8 : Hid (Below W.heap.size W W8) := hW8 ▸ s.ok
            rw [hW8]
            clear k1_ k2_ k3_ k4_ k5_ k6_ k7_ k8_ c1_ hW8 s HLat
            obtain ⟨t1_, t2_, t3_, t4_, t5_⟩ := HAt.out W8 HV8.out
            gi_wp2_with (fail)
            refine ⟨trivial, fun _ => by omega, ?_⟩
            refine (CallsIn.inRound l (callsIn_wide.2 (HStep.out W8 HV8.out))).mono ?_
            rintro e W2 ⟨⟨q2, rfl, hq2⟩, b2⟩
            obtain ⟨⟨y1_, y2_⟩, y3_, hfin⟩ := HFin.out HNo.out W8 W2 q2 HV8.out b2 hq2
            have HH := Lib.hid hfin
            clear hfin hq2 b2
            gi_wp2_with (fail)
            exact HH.out
          · have HNo : Hid (¬ Tx.Hit R (x1, x2) M (y1, y2) pre (xa, xc, xn)) := fun hh => by have := Hiff.out.1 hh; simp at this
            clear HHit HHit9 Hiff
            gi_wp2_with (fail)
            refine calm_round (C := Latr W) (by kernel_rfl) (by kernel_rfl) (by kernel_rfl) (latr_drew (Below.refl _ W)) ?_
            obtain ⟨k1_, k2_, k3_, k4_, k5_, k6_, k7_, k8_⟩ := HLat.out
            have c1_ := HCu.out
            repeat (go_big_quiet_step ((go_at_call 40; first | (with_reducible exact calm_call (HW1.out _)) | (with_reducible exact calm_call (HW2.out _)))))
            refine wpQuiet_nil ?_
            rintro _ ⟨s, rfl⟩
            obtain ⟨W8, hW8⟩ : ∃ V, s.at_ = V := ⟨_, rfl⟩
            have HV8 : Hid (Below W.heap.size W W8) := hW8 ▸ s.ok
            rw [hW8]
            clear k1_ k2_ k3_ k4_ k5_ k6_ k7_ k8_ c1_ hW8 s HLat
            obtain ⟨t1_, t2_, t3_, t4_, t5_⟩ := HAt.out W8 HV8.out
            gi_wp2_with (fail)
            refine ⟨trivial, fun _ => by omega, ?_⟩
            refine (CallsIn.inRound l (callsIn_wide.2 (HStep.out W8 HV8.out))).mono ?_
            rintro e W2 ⟨⟨q2, rfl, hq2⟩, b2⟩
            obtain ⟨⟨y1_, y2_⟩, y3_, hfin⟩ := HFin.out HNo.out W8 W2 q2 HV8.out b2 hq2
            have HH := Lib.hid hfin
            clear hfin hq2 b2
            gi_wp2_with (fail)
            exact HH.out
          · have HYes : Hid (Tx.Hit R (x1, x2) M (y1, y2) pre (xa, xc, xn)) := Hiff.out.2 ⟨rfl, rfl⟩
            clear HStep HAt HFin Hiff
            gi_wp2_with (fail)
            refine calm_round (C := Latr W) (by kernel_rfl) (by kernel_rfl) (by kernel_rfl) (latr_drew (Below.refl _ W)) ?_
            obtain ⟨k1_, k2_, k3_, k4_, k5_, k6_, k7_, k8_⟩ := HLat.out
            have c1_ := HCu.out
            repeat (go_big_quiet_step ((go_at_call 40; first | (with_reducible exact calm_call (HW1.out _)) | (with_reducible exact calm_call (HW2.out _)))))
            refine wpQuiet_nil ?_
            rintro _ ⟨s, rfl⟩
            obtain ⟨W8, hW8⟩ : ∃ V, s.at_ = V := ⟨_, rfl⟩
            have HV8 : Hid (Below W.heap.size W W8) := hW8 ▸ s.ok
            rw [hW8]
            clear k1_ k2_ k3_ k4_ k5_ k6_ k7_ k8_ c1_ hW8 s HLat HW1 HW2
            have HL9 : Hid ((∀ s : Lat W, s.at_.cell? ⟨bm, 0, none⟩ = some (.slice (some ⟨bT, oT + 2, none⟩) k (d - 1))) ∧ (∀ s : Lat W, s.at_.cell? ⟨bh, 1, none⟩ = some (.int .i64 x2)) ∧ ∀ s : Lat W, Calls Try.prog 38 #[.slice (some ⟨bT, oT + 2, none⟩) k (d - 1)] s.at_ fun e w' => e = .returned (.int .i64 tm) ∧ Below s.at_.heap.size s.at_ w') :=
              ⟨fun s => (HHit9.out _ s.ok).1.1, fun s => (HHit9.out _ s.ok).1.2, fun s => (HHit9.out _ s.ok).2⟩
            have HH9 := Lib.hid (HHit.out HYes.out)
            clear HHit HHit9 HYes
            gi_wp2_with (fail)
            refine calm_round_last (C := Latr W) 7 (by kernel_rfl) (by kernel_rfl) (by kernel_rfl) (latr_drew HV8.out) ?_
            simp only [List.take_succ_cons, List.take_zero, List.drop_succ_cons, List.drop_zero]
            obtain ⟨m1_, m2_, hcall⟩ := HL9.out
            have HC9 := Lib.hid hcall
            clear hcall HL9
            repeat (go_big_quiet_step ((go_at_call 38; with_reducible exact calm_call (HC9.out _))))
            refine wpQuiet_nil ?_
            rintro _ ⟨s, rfl⟩
            obtain ⟨⟨y1_, y2_⟩, hfin⟩ := HH9.out s.at_ s.ok
            have HE := Lib.hid hfin
            clear hfin HH9 m1_ m2_ HC9
            generalize s.at_ = W9 at *
            gi_wp2_with (fail)
            obtain ⟨hK, ⟨⟨_, hex⟩, hL⟩, hT⟩ := HE.out
            rw [← IntWalk.i64_left, ← IntWalk.i64_left]
            exact ⟨hK, ⟨⟨rfl, hex⟩, hL⟩, hT⟩
        · have dI : decide ((k : Int) < (len : Int)) = false := decide_eq_false (by omega)
          have dI2 : decide (k < len) = false := decide_eq_false (by omega)
          have HNo : Hid (¬ Tx.Hit R (x1, x2) M (y1, y2) pre (xa, xc, xn)) := fun hh => by have := hh.2.1; omega
          clear HHit HHit9 HIs Hget HW hlen hMl hlt hqk eI
          gi_wp2_with (fail)
          refine calm_round (C := Latr W) (by kernel_rfl) (by kernel_rfl) (by kernel_rfl) (latr_drew (Below.refl _ W)) ?_
          obtain ⟨k1_, k2_, k3_, k4_, k5_, k6_, k7_, k8_⟩ := HLat.out
          repeat (go_big_quiet_step (fail))
          refine wpQuiet_nil ?_
          rintro _ ⟨s, rfl⟩
          obtain ⟨W8, hW8⟩ : ∃ V, s.at_ = V := ⟨_, rfl⟩
          have HV8 : Hid (Below W.heap.size W W8) := hW8 ▸ s.ok
          rw [hW8]
          clear k1_ k2_ k3_ k4_ k5_ k6_ k7_ k8_ hW8 s HLat
          obtain ⟨t1_, t2_, t3_, t4_, t5_⟩ := HAt.out W8 HV8.out
          gi_wp2_with (fail)
          refine ⟨trivial, fun _ => by omega, ?_⟩
          refine (CallsIn.inRound l (callsIn_wide.2 (HStep.out W8 HV8.out))).mono ?_
          rintro e W2 ⟨⟨q2, rfl, hq2⟩, b2⟩
          obtain ⟨⟨y1_, y2_⟩, y3_, hfin⟩ := HFin.out HNo.out W8 W2 q2 HV8.out b2 hq2
          have HH := Lib.hid hfin
          clear hfin hq2 b2
          gi_wp2_with (fail)
          exact HH.out
      · have dK : ((q : Int) == (k : Int)) = false := beq_eq_false_iff_ne.2 (by omega)
        have dK2 : decide ((q : Int) = (k : Int)) = false := decide_eq_false (by omega)
        have dK3 : decide (q = k) = false := decide_eq_false eK
        have HNo : Hid (¬ Tx.Hit R (x1, x2) M (y1, y2) pre (xa, xc, xn)) := fun hh => eK ((HIs.out.2 hh.1).trans hMl)
        clear HHit HHit9 HIs Hget HW hlen hMl hlt hqk eK
        gi_wp2_with (fail)
        refine calm_round (C := Latr W) (by kernel_rfl) (by kernel_rfl) (by kernel_rfl) (latr_drew (Below.refl _ W)) ?_
        obtain ⟨k1_, k2_, k3_, k4_, k5_, k6_, k7_, k8_⟩ := HLat.out
        repeat (go_big_quiet_step (fail))
        refine wpQuiet_nil ?_
        rintro _ ⟨s, rfl⟩
        obtain ⟨W8, hW8⟩ : ∃ V, s.at_ = V := ⟨_, rfl⟩
        have HV8 : Hid (Below W.heap.size W W8) := hW8 ▸ s.ok
        rw [hW8]
        clear k1_ k2_ k3_ k4_ k5_ k6_ k7_ k8_ hW8 s HLat
        obtain ⟨t1_, t2_, t3_, t4_, t5_⟩ := HAt.out W8 HV8.out
        gi_wp2_with (fail)
        refine ⟨trivial, fun _ => by omega, ?_⟩
        refine (CallsIn.inRound l (callsIn_wide.2 (HStep.out W8 HV8.out))).mono ?_
        rintro e W2 ⟨⟨q2, rfl, hq2⟩, b2⟩
        obtain ⟨⟨y1_, y2_⟩, y3_, hfin⟩ := HFin.out HNo.out W8 W2 q2 HV8.out b2 hq2
        have HH := Lib.hid hfin
        clear hfin hq2 b2
        gi_wp2_with (fail)
        exact HH.out
    case done =>
      rintro D W hD ⟨q, ⟨⟨⟨hK1, hI1⟩, hR1⟩, hIs, hFr⟩, hT⟩ hK
      have cR : W.cell? ⟨w.heap.size + 1, 0, none⟩ = some (.int .i64 0) := by rw [hR1.cell]; rfl
      have fR := hR1.free 0
      have hE : Past w W0 W := ⟨hB0.trans (hT.below hB0.size (fun i e => by omega)), hT.size⟩
      clear hK1 hI1 hR1 hIs hT
      gi_wp2
      have hK' := (KeepsOthers.setCell W ⟨w.heap.size + 1, 0, none⟩ (.int .i64 (-1))).same D _ hK rfl
      refine ⟨by simp, .inl ⟨_, _, rfl, run_takeDeferred hK', ?_⟩⟩
      have hc5 := cell_kept (World.cell?_setCell_same' W ⟨w.heap.size + 1, 0, none⟩ (.int .i64 (-1)) (by rw [cR]; rfl)) (grownBy_putObj' _ D (.deferred none)) (fun r e => by cases e; exact ⟨_, hK', rfl⟩)
      have hT : Turn (fun k => k = w.heap.size + 1) W (W.setCell ⟨w.heap.size + 1, 0, none⟩ (.int .i64 (-1))) := (Turn.refl (fun k => k = w.heap.size + 1) W).put (p := ⟨w.heap.size + 1, 0, none⟩) (.inl rfl) _
      exact ⟨.int .i64 (-1), by simp [results, Try.f47, go_sem, hc5], ⟨_, rfl, Tx.fst_none hR.own hTm.own (by rw [h.len]; exact hFr)⟩, (hE.turn hT (fun _ e => by omega)).end_ (by omega) hD hK' _⟩
    case stop =>
      rintro D co p W hD hp ⟨⟨⟨rfl, ini, last, e1, hFr, hHit⟩, hR1⟩, hT⟩ hK
      have hE : Past w W0 W := ⟨hB0.trans (hT.below hB0.size (fun i e => by omega)), hT.size⟩
      obtain ⟨z, hz, hzF⟩ : ∃ z, IntKind.i64.wrap (IntKind.i64.wrap (((Tx.items R p).getLast?.getD (0, 0, 0)).1 - IntKind.i64.wrap (Lt.total M)) - x2) = z ∧ Tx.Fst R ((x1, x2) :: (M ++ [(y1, y2)])) z := by
        cases p with
        | zero => simp [Tx.items] at e1
        | succ p =>
          rw [Tx.items_succ] at e1 ⊢
          obtain ⟨rfl, e5⟩ := List.append_inj' e1 rfl
          obtain rfl : Tx.item R p = last := by simpa using e5
          refine ⟨_, rfl, ?_⟩
          simpa [Tx.item] using Tx.fst_hit hR hTm (by rw [h.len]; omega) hFr hHit
      rw [hz] at hR1
      have cR : W.cell? ⟨w.heap.size + 1, 0, none⟩ = some (.int .i64 z) := by rw [hR1.cell]; rfl
      clear hR1 hT e1 hFr hHit hz
      gi_wp2
      refine ⟨by simp, .inl ⟨_, _, rfl, run_takeDeferred hK, ?_⟩⟩
      have hc5 := cell_kept cR (grownBy_putObj' _ D (.deferred none)) (fun r e => by cases e; exact ⟨_, hK, rfl⟩)
      exact ⟨.int .i64 z, by simp [results, Try.f47, go_sem, hc5], ⟨_, rfl, hzF⟩, hE.end_ (by omega) hD hK _⟩
end Go.Proofs.Ytdpbglofijpfnaa
