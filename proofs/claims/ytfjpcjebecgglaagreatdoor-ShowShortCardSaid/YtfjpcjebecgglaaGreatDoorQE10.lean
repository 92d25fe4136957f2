/- What the proofs of this claim use, text by text. -/
import Derived.Test.YtfjpcjebecgglaaGreatDoorQE05
import Derived.Test.YtfjpcjebecgglaaGreatDoorQE07
import Derived.Test.YtfjpcjebecgglaaGreatDoorQE09
set_option linter.unusedSimpArgs false
set_option linter.unusedVariables false
set_option maxRecDepth 100000
set_option maxHeartbeats 25600000
namespace Go.Proofs.YtfjpcjebecgglaaGreatDoor
open Go.RowKit Go.Shelf
theorem ktruth12 (b : Bool) (w : World) : Calls Tryz.prog 43 #[.bool b] w fun e w' => e = .returned (.agg #[.bool false, .int .i64 3, .string (Sh.truth b).T, .int .i64 0, .int .i64 0, .slice none 0 0]) ∧ Below w.heap.size w w' := by
  have HE := Lib.hid fun w1 (b1 : Below (w.alloc roomO).heap.size (w.alloc roomO) w1) => room_lies b1
  cases b
  · have HS := Lib.hid fun W => ksymbol12 Sh.tFalse W
    have HT : Hid ((Sh.truth false).T = Sh.tFalse) := rfl
    rw [HT.out]
    go_enter Tryz.func43, Tryz.ntmps43
    go_wp2_with (go_at_call 81; refine (HS.out _).mono ?_; rintro e w1 ⟨rfl, b1⟩; obtain ⟨hr, hb⟩ := HE.out w1 b1; obtain ⟨k0, k1, k2, k3, k4, k5, y0, y1, y2, y3, y4, y5⟩ := ready hr; obtain ⟨r0, r1, r2, r3, r4, r5⟩ := fill_cells hr (.bool false) (.int .i64 3) (.string Sh.tFalse) (.int .i64 0) (.int .i64 0) (.slice none 0 0); have HB := Lib.hid (fill_below (Nat.le_refl _) hb (.bool false) (.int .i64 3) (.string Sh.tFalse) (.int .i64 0) (.int .i64 0) (.slice none 0 0)); have hlt := hr.lt; clear b1 hb hr)
    exact bodyPost_ret (v := .agg #[.bool false, .int .i64 3, .string Sh.tFalse, .int .i64 0, .int .i64 0, .slice none 0 0]) (by simp [results, Tryz.results43, go_sem, r0, r1, r2, r3, r4, r5]) rfl ⟨rfl, HB.out⟩
  · have HS := Lib.hid fun W => ksymbol12 Sh.tTrue W
    have HT : Hid ((Sh.truth true).T = Sh.tTrue) := rfl
    rw [HT.out]
    go_enter Tryz.func43, Tryz.ntmps43
    go_wp2_with (go_at_call 81; refine (HS.out _).mono ?_; rintro e w1 ⟨rfl, b1⟩; obtain ⟨hr, hb⟩ := HE.out w1 b1; obtain ⟨k0, k1, k2, k3, k4, k5, y0, y1, y2, y3, y4, y5⟩ := ready hr; obtain ⟨r0, r1, r2, r3, r4, r5⟩ := fill_cells hr (.bool false) (.int .i64 3) (.string Sh.tTrue) (.int .i64 0) (.int .i64 0) (.slice none 0 0); have HB := Lib.hid (fill_below (Nat.le_refl _) hb (.bool false) (.int .i64 3) (.string Sh.tTrue) (.int .i64 0) (.int .i64 0) (.slice none 0 0)); have hlt := hr.lt; clear b1 hb hr)
    exact bodyPost_ret (v := .agg #[.bool false, .int .i64 3, .string Sh.tTrue, .int .i64 0, .int .i64 0, .slice none 0 0]) (by simp [results, Tryz.results43, go_sem, r0, r1, r2, r3, r4, r5]) rfl ⟨rfl, HB.out⟩
theorem kliteral12 (w : World) (A : Option Addr) (n c : Nat) (R : List (Int × Int)) (h : RunS w A n R) (hn : n ≤ 100000) (hb : Lt.bad R = false) (ht : ¬ 1000 < Lt.total R) (hG : Gl w) :
    Calls Tryz.prog 107 #[.slice A n c] w fun e w' => e = .returned (.agg #[.bool false, .int .i64 6, .string (Sh.lit R).T, .int .i64 0, .int .i64 0, .slice none 0 0]) ∧ Below w.heap.size w w' := by
  have hbx : Below w.heap.size w (w.alloc roomO) := (Below.refl _ w).alloc (Nat.le_refl _) _
  have HL := Lib.hid (klist7 (w.alloc roomO) A n c R 1000 (h.below hbx) hn (by decide))
  have hlen := Lt.expand_len (R := R) fun x hx => (Lt.bad_false.1 hb x hx).2
  obtain ⟨l, hl⟩ : ∃ l, Lt.expand R = l := ⟨_, rfl⟩
  have hpt : l.all Lt.pt = true := by
    rw [← hl, List.all_eq_true]
    intro z hz
    obtain ⟨x, hx, hz⟩ := List.mem_flatMap.1 hz
    rw [(List.mem_replicate.1 hz).2]
    exact (Lt.bad_false.1 hb x hx).1
  rw [Lt.list_ok hb ht, hl] at HL
  rw [hl] at hlen
  obtain ⟨m, hm⟩ : ∃ m, l.length = m := ⟨_, rfl⟩
  have hm1 : m ≤ 1000 := by omega
  have hesc : Lt.escOf l = (0, Lt.escape l) := by rw [Lt.escOf, if_pos hpt]
  have hT : (Sh.lit R).T = ⟨(Lt.escape l).toArray⟩ := by rw [← hl]; rfl
  obtain ⟨t, hte⟩ : ∃ t : ByteArray, (⟨(Lt.escape l).toArray⟩ : ByteArray) = t := ⟨_, rfl⟩
  have HEs := Lib.hid fun w1 (b1 : Below (w.alloc roomO).heap.size (w.alloc roomO) w1) A' c' (ho : OwnN w1 (w.alloc roomO).heap.size A' c' l) => by
    have := kescape7 w1 A' m c' l (ho.nums hm) (by omega) ((hG.below hbx).below b1)
    rw [hesc] at this
    unfold EscSaid at this
    simp only [hte] at this
    exact this
  rw [hte] at hT
  rw [hT]
  have HA := Lib.hid fun W => katom12 6 t W
  have HE := Lib.hid fun w1 (b1 : Below (w.alloc roomO).heap.size (w.alloc roomO) w1) => room_lies b1
  have HM := Lib.hid hm
  clear h hn hb ht hG hbx hlen hpt hl hm hesc hT hte
  go_enter Tryz.func107, Tryz.ntmps107
  go_wp2_with (first
    | (go_at_call 126; refine HL.out.mono ?_; rintro e w1 ⟨⟨A1, c1, rfl, o1⟩, b1⟩; have O1 := Lib.hid o1; have B1 := Lib.hid b1; rw [HM.out]; clear o1 b1)
    | (go_at_call 127; refine (HEs.out w1 B1.out A1 c1 O1.out).mono ?_; rintro e w2 ⟨rfl, b2⟩; have B2 := Lib.hid (B1.out.trans (b2.mono B1.out.size)); clear b2)
    | (go_at_call 82; refine (HA.out _).mono ?_; rintro e w3 ⟨rfl, b3⟩; obtain ⟨hr, hb⟩ := HE.out w3 (B2.out.trans (b3.mono B2.out.size)); obtain ⟨k0, k1, k2, k3, k4, k5, y0, y1, y2, y3, y4, y5⟩ := ready hr; obtain ⟨r0, r1, r2, r3, r4, r5⟩ := fill_cells hr (.bool false) (.int .i64 6) (.string t) (.int .i64 0) (.int .i64 0) (.slice none 0 0); have HB := Lib.hid (fill_below (Nat.le_refl _) hb (.bool false) (.int .i64 6) (.string t) (.int .i64 0) (.int .i64 0) (.slice none 0 0)); have hlt := hr.lt; clear b3 hb hr))
  exact bodyPost_ret (v := .agg #[.bool false, .int .i64 6, .string t, .int .i64 0, .int .i64 0, .slice none 0 0]) (by simp [results, Tryz.results107, go_sem, r0, r1, r2, r3, r4, r5]) rfl ⟨rfl, HB.out⟩
end Go.Proofs.YtfjpcjebecgglaaGreatDoor
namespace Go.Proofs.YtfjpcjebecgglaaGreatDoor
open Go.RowKit Go.Shelf
abbrev numW (w : World) (g : Bool) (A : Option Addr) (n c : Nat) : World := (w.alloc (.cells #[.bool g, .slice A n c] 39)).alloc roomO
theorem num_later {w W : World} {g : Bool} {A : Option Addr} {n c : Nat} (hb : Below (numW w g A n c).heap.size (numW w g A n c) W) :
    (W.cell? ⟨w.heap.size, 0, none⟩ = some (.bool g) ∧ W.cell? ⟨w.heap.size, 1, none⟩ = some (.slice A n c)) ∧ LiesX W (w.heap.size + 1) zX ∧ Below w.heap.size w W := by
  have l0 : Lies (numW w g A n c) w.heap.size 39 #[.bool g, .slice A n c] := ((Below.refl _ (w.alloc (.cells #[.bool g, .slice A n c] 39))).alloc (Nat.le_refl _) roomO).block _ (Lies.new w _ _).lt |>.trans (Lies.new w _ _)
  have l1 : Lies (numW w g A n c) (w.heap.size + 1) 49 zX := by
    have := Lies.new (w.alloc (.cells #[.bool g, .slice A n c] 39)) 49 zX
    simpa using this
  have m0 : Lies W w.heap.size 39 #[.bool g, .slice A n c] := (hb.block _ l0.lt).trans l0
  exact ⟨⟨m0.cell 0, m0.cell 1⟩, (hb.block _ l1.lt).trans l1, (((Below.refl _ w).alloc (Nat.le_refl _) _).alloc (by simp) _).trans (hb.mono (by simp; omega))⟩
theorem atom_later {w W : World} {k : Int} {t : ByteArray} (hb : Below (w.alloc (.cells #[.bool false, .int .i64 k, .string t, .int .i64 0, .int .i64 0, .slice none 0 0] 49)).heap.size (w.alloc (.cells #[.bool false, .int .i64 k, .string t, .int .i64 0, .int .i64 0, .slice none 0 0] 49)) W) :
    W.cell? ⟨w.heap.size, 0, none⟩ = some (.bool false) ∧ W.cell? ⟨w.heap.size, 1, none⟩ = some (.int .i64 k) ∧ W.cell? ⟨w.heap.size, 2, none⟩ = some (.string t) ∧ W.cell? ⟨w.heap.size, 3, none⟩ = some (.int .i64 0) ∧ W.cell? ⟨w.heap.size, 4, none⟩ = some (.int .i64 0) ∧ W.cell? ⟨w.heap.size, 5, none⟩ = some (.slice none 0 0) := by
  have l := (hb.block _ (Lies.new w 49 #[.bool false, .int .i64 k, .string t, .int .i64 0, .int .i64 0, .slice none 0 0]).lt).trans (Lies.new w _ _)
  have m : Lies W w.heap.size 49 #[.bool false, .int .i64 k, .string t, .int .i64 0, .int .i64 0, .slice none 0 0] := l
  exact ⟨m.cell 0, m.cell 1, m.cell 2, m.cell 3, m.cell 4, m.cell 5⟩
theorem num_neg {w W5 W7 : World} {g : Bool} {A : Option Addr} {n c : Nat} {k : Int} {t op : ByteArray} {e : Ending} (b5 : Below (numW w g A n c).heap.size (numW w g A n c) W5)
    (h : SxSaid (fun b => w.heap.size + 2 ≤ b) (W5.alloc (.cells #[.bool false, .int .i64 k, .string t, .int .i64 0, .int .i64 0, .slice none 0 0] 49)) (Sh.app op [Sh.atom k t]) e W7) :
    ∃ A' c', e = .returned (.agg #[.bool true, .int .i64 0, .string ⟨#[]⟩, .int .i64 0, .int .i64 0, .slice A' 2 c']) ∧ LiesX W7 (w.heap.size + 1) zX ∧
      SxSaid (fun _ => False) w (Sh.app op [Sh.atom k t]) (.returned (.agg #[.bool true, .int .i64 0, .string ⟨#[]⟩, .int .i64 0, .int .i64 0, .slice A' 2 c'])) (fillX W7 (w.heap.size + 1) (.bool true) (.int .i64 0) (.string ⟨#[]⟩) (.int .i64 0) (.int .i64 0) (.slice A' 2 c')) := by
  obtain ⟨⟨A', c', rfl, ht⟩, hb⟩ := h
  have hs5 := b5.size
  have hsz : (numW w g A n c).heap.size = w.heap.size + 2 := by simp
  have b7 : Below (numW w g A n c).heap.size (numW w g A n c) W7 := (b5.alloc b5.size _).trans (hb.mono (by have := b5.size; simp at this ⊢; omega))
  obtain ⟨_, hr, hbw⟩ := num_later b7
  refine ⟨A', c', rfl, hr, ?_⟩
  exact fill_said (by omega) hbw (ht.to fun b _ _ h => by
    rcases h with h | h
    · exact ⟨.inr (by omega), by omega⟩
    · simp at h
      exact ⟨.inr (by omega), by omega⟩)
theorem fresh_row {W : World} {G : Nat → Prop} {k : Int} {t : ByteArray} (h : ∀ b, W.heap.size ≤ b → G b) : TreeL (W.alloc (.cells #[.bool false, .int .i64 k, .string t, .int .i64 0, .int .i64 0, .slice none 0 0] 49)) (fun b _ => G b) (some ⟨W.heap.size, 0, none⟩) [Sh.atom k t] :=
  ((OwnG.fresh W G [(Sh.atom k t, none, 0)] (by simp) fun x hx => by
    rw [List.mem_singleton.1 hx]
    exact ⟨⟨Nat.le_refl _, Nat.zero_le _⟩, .nil _⟩).tree).mono fun b _ _ q => q.elim id (h b)
theorem knumber12 (g : Bool) (A : Option Addr) (n c : Nat) (z : Int) (w : World) (h : WIn w g A n c z) (hN : NmT w) :
    Calls Tryz.prog 44 #[.agg #[.bool g, .slice A n c]] w (SxSaid (fun _ => False) w (Sh.num z)) := by
  have hbx : Below w.heap.size w (numW w g A n c) := ((Below.refl _ w).alloc (Nat.le_refl _) _).alloc (by simp) _
  have HF := Lib.hid fun W (hb : Below (numW w g A n c).heap.size (numW w g A n c) W) => num_later hb
  have HS := Lib.hid fun W (hb : Below w.heap.size w W) => sign_w g A n c z W (h.wide.below hb)
  have hT : Calls Tryz.prog 83 #[.slice A n c] (numW w g A n c) (GivesText (numW w g A n c) z.natAbs) := by
    obtain ⟨l, h1, h2, h3, h4, h5⟩ := (h.below hbx).1
    rw [← h2]
    exact text_any A n c l _ h1 h3 h4 h5
  have HT := Lib.hid hT
  have HA := Lib.hid fun t W => katom12 4 t W
  have HP := Lib.hid fun t W5 (hb : Below w.heap.size w W5) (hs : w.heap.size + 2 ≤ W5.heap.size) => kapply12 14 (some ⟨W5.heap.size, 0, none⟩) 1 1 [Sh.atom 4 t] (W5.alloc (.cells #[.bool false, .int .i64 4, .string t, .int .i64 0, .int .i64 0, .slice none 0 0] 49)) (fun b => w.heap.size + 2 ≤ b) rfl (by decide) (by decide) (fresh_row fun b hb => by omega) ((hN.below hb).alloc _)
  have hsg := Z.sgn_lt z
  obtain ⟨x, hx⟩ : ∃ x, Sh.num z = x := ⟨_, rfl⟩
  have hxe : x = if z < 0 then Sh.app Sh.minus [Sh.atom 4 ⟨(Sh.dig z.natAbs).toArray⟩] else Sh.atom 4 ⟨(Sh.dig z.natAbs).toArray⟩ := by rw [← hx]; rfl
  rw [hx]
  have HX := Lib.hid hxe
  obtain ⟨Post, hPost⟩ : ∃ Post : Ending → World → Prop, Post = SxSaid (fun _ => False) w x := ⟨_, rfl⟩
  rw [← hPost]
  have HPo := Lib.hid hPost
  clear hx hxe hPost hbx hT h hN
  obtain ⟨s, hs⟩ : ∃ s, Z.sgn z = s := ⟨_, rfl⟩
  rw [hs] at HS hsg
  clear hs
  go_enter Tryz.func44, Tryz.ntmps44
  go_wp2_with fail
  refine HT.out.mono ?_
  rintro e w1 ⟨sb, rfl, ht1, b1⟩
  obtain rfl := Sh.dig_of ht1
  obtain ⟨t, hte⟩ : ∃ t : ByteArray, (⟨(Sh.dig z.natAbs).toArray⟩ : ByteArray) = t := ⟨_, rfl⟩
  rw [hte] at HX ⊢
  have B1 := Lib.hid b1
  clear b1 ht1 HT hte
  go_wp2_with fail
  refine (HA.out _ _).mono ?_
  rintro e w2 ⟨rfl, b2⟩
  have B2 := Lib.hid (B1.out.trans (b2.mono B1.out.size))
  obtain ⟨⟨c0, c1⟩, _, hbw⟩ := HF.out _ (B2.out.alloc B2.out.size (.cells #[.bool false, .int .i64 4, .string t, .int .i64 0, .int .i64 0, .slice none 0 0] 49))
  have HS2 := Lib.hid (HS.out _ hbw)
  have hltb := World.block_lt_of_cell? _ _ c0
  clear b2 hbw HS HA
  by_cases hz : z < 0
  · have hs0 : s < 0 := hsg.2 hz
    have HX2 : Hid (x = Sh.app Sh.minus [Sh.atom 4 t]) := by show _ = _; rw [HX.out, if_pos hz]
    clear HX hsg hz
    go_wp2_with fail
    refine HS2.out.mono ?_
    rintro e w3 ⟨rfl, b3⟩
    have b5 := (B2.out.alloc B2.out.size (.cells #[.bool false, .int .i64 4, .string t, .int .i64 0, .int .i64 0, .slice none 0 0] 49)).trans (b3.mono (by have := B2.out.size; simp at this ⊢; omega))
    obtain ⟨d0, d1, d2, d3, d4, d5⟩ := atom_later b3
    obtain ⟨_, _, hbw⟩ := HF.out _ b5
    have HP2 := Lib.hid (HP.out t w3 hbw (by have := b5.size; simp at this; omega))
    have B5 := Lib.hid b5
    clear b3 b5 hbw HP c0 c1 hltb HS2
    go_wp2_with fail
    refine HP2.out.mono ?_
    intro e w4 hsd
    obtain ⟨A', c', rfl, hr, hsaid⟩ := num_neg B5.out hsd
    obtain ⟨k0, k1, k2, k3, k4, k5, y0, y1, y2, y3, y4, y5⟩ := ready hr
    obtain ⟨r0, r1, r2, r3, r4, r5⟩ := fill_cells hr (.bool true) (.int .i64 0) (.string ⟨#[]⟩) (.int .i64 0) (.int .i64 0) (.slice A' 2 c')
    have HB := Lib.hid hsaid
    have hlt := hr.lt
    clear hr hsaid hsd d0 d1 d2 d3 d4 d5
    go_wp2
    exact bodyPost_ret (v := .agg #[.bool true, .int .i64 0, .string ⟨#[]⟩, .int .i64 0, .int .i64 0, .slice A' 2 c']) (by simp [results, Tryz.results44, go_sem, r0, r1, r2, r3, r4, r5]) rfl (by rw [HPo.out, HX2.out]; exact HB.out)
  · have hs0 : decide (s < 0) = false := decide_eq_false fun e => hz (hsg.1 e)
    have HX2 : Hid (x = Sh.atom 4 t) := by show _ = _; rw [HX.out, if_neg hz]
    clear HX hsg hz
    go_wp2_with fail
    refine HS2.out.mono ?_
    rintro e w3 ⟨rfl, b3⟩
    have b5 := (B2.out.alloc B2.out.size (.cells #[.bool false, .int .i64 4, .string t, .int .i64 0, .int .i64 0, .slice none 0 0] 49)).trans (b3.mono (by have := B2.out.size; simp at this ⊢; omega))
    obtain ⟨d0, d1, d2, d3, d4, d5⟩ := atom_later b3
    obtain ⟨_, hr, hbw⟩ := HF.out _ b5
    have HB := Lib.hid (fill_below (R := w.heap.size + 1) (by omega) hbw (.bool false) (.int .i64 4) (.string t) (.int .i64 0) (.int .i64 0) (.slice none 0 0))
    obtain ⟨k0, k1, k2, k3, k4, k5, y0, y1, y2, y3, y4, y5⟩ := ready hr
    obtain ⟨r0, r1, r2, r3, r4, r5⟩ := fill_cells hr (.bool false) (.int .i64 4) (.string t) (.int .i64 0) (.int .i64 0) (.slice none 0 0)
    have hlt := hr.lt
    clear b3 b5 hbw HP c0 c1 hltb HS2 hr
    go_wp2_with fail
    exact bodyPost_ret (v := .agg #[.bool false, .int .i64 4, .string t, .int .i64 0, .int .i64 0, .slice none 0 0]) (by simp [results, Tryz.results44, go_sem, r0, r1, r2, r3, r4, r5]) rfl (by rw [HPo.out, HX2.out]; exact ⟨⟨none, 0, rfl, ⟨Nat.le_refl _, Nat.zero_le _⟩, .nil _⟩, HB.out⟩)
end Go.Proofs.YtfjpcjebecgglaaGreatDoor
namespace Go.Proofs.YtfjpcjebecgglaaGreatDoor
open Go.RowKit Go.Shelf
theorem runs_lit12 (w : World) (R : List (Int × Int)) : RunS (w.alloc (.cells (rcells R).toArray 70)) (some ⟨w.heap.size, 0, none⟩) R.length R := by
  have l := Lies.new w 70 (rcells R).toArray
  refine ⟨rfl, fun _ => ⟨w.heap.size, 0, rfl, l.lt, fun i x hx => ?_⟩⟩
  obtain ⟨h1, h2⟩ := rs_get R i x hx
  rw [Nat.zero_add, l.cell, l.cell]
  exact ⟨by simpa using h1, by simpa using h2⟩
structure LetAt (w W : World) (q : Nat) (G : Nat → Prop) (x : Sx) (A : Option Addr) (c : Nat) (bd : Sx) (bA : Option Addr) (bc : Nat) : Prop where
  below : Below w.heap.size w W
  room : LiesX W (w.heap.size + 1) zX
  xs : LiesX W w.heap.size (scells x A c).toArray
  bs : LiesX W q (scells bd bA bc).toArray
  qlt : w.heap.size + 2 ≤ q
  tx : STree W (fun b _ => G b ∧ b < w.heap.size) x A c
  tb : STree W (fun b _ => w.heap.size + 2 ≤ b) bd bA bc
theorem LetAt.keep {w W W' : World} {q : Nat} {G : Nat → Prop} {x : Sx} {A : Option Addr} {c : Nat} {bd : Sx} {bA : Option Addr} {bc : Nat} (h : LetAt w W q G x A c bd bA bc) (hb : Below W.heap.size W W') : LetAt w W' q G x A c bd bA bc := by
  have t := Turn.of_below (F := fun _ => False) hb
  exact ⟨h.below.trans (hb.mono h.below.size), t.lies h.room id, t.lies h.xs id, t.lies h.bs id, h.qlt, h.tx.kept hb, h.tb.kept hb⟩
abbrev LetS (p q : Nat) (xl : Bool) (xk : Int) (xT : ByteArray) (xta xat : Int) (A : Option Addr) (n c : Nat) (bl : Bool) (bk : Int) (bT : ByteArray) (bta bat : Int) (bA : Option Addr) (m bc : Nat) (W : World) : Prop := W.cell? ⟨p, 0, none⟩ = some (.bool xl) ∧ W.cell? ⟨p, 1, none⟩ = some (.int .i64 xk) ∧ W.cell? ⟨p, 2, none⟩ = some (.string xT) ∧ W.cell? ⟨p, 3, none⟩ = some (.int .i64 xta) ∧ W.cell? ⟨p, 4, none⟩ = some (.int .i64 xat) ∧ W.cell? ⟨p, 5, none⟩ = some (.slice A n c) ∧
  W.cell? ⟨q, 0, none⟩ = some (.bool bl) ∧ W.cell? ⟨q, 1, none⟩ = some (.int .i64 bk) ∧ W.cell? ⟨q, 2, none⟩ = some (.string bT) ∧ W.cell? ⟨q, 3, none⟩ = some (.int .i64 bta) ∧ W.cell? ⟨q, 4, none⟩ = some (.int .i64 bat) ∧ W.cell? ⟨q, 5, none⟩ = some (.slice bA m bc)
theorem LetS.of {w W : World} {p q : Nat} {G : Nat → Prop} {x : Sx} {A : Option Addr} {n c : Nat} {bd : Sx} {bA : Option Addr} {m bc : Nat} (h : LetAt w W q G x A c bd bA bc) (hp : w.heap.size = p) (hn : x.L.length = n) (hm : bd.L.length = m) : LetS p q x.list x.k x.T x.ta x.at_ A n c bd.list bd.k bd.T bd.ta bd.at_ bA m bc W := by
  subst hp
  subst hn
  subst hm
  exact ⟨h.xs.cell 0, h.xs.cell 1, h.xs.cell 2, h.xs.cell 3, h.xs.cell 4, h.xs.cell 5, h.bs.cell 0, h.bs.cell 1, h.bs.cell 2, h.bs.cell 3, h.bs.cell 4, h.bs.cell 5⟩
theorem LetS.fill {w W : World} {p q : Nat} {G : Nat → Prop} {x : Sx} {A : Option Addr} {n c : Nat} {bd : Sx} {bA : Option Addr} {m bc : Nat} (h : LetAt w W q G x A c bd bA bc) (hp : w.heap.size = p) (hn : x.L.length = n) (hm : bd.L.length = m) (b k t ta a s : Value) : LetS p q x.list x.k x.T x.ta x.at_ A n c bd.list bd.k bd.T bd.ta bd.at_ bA m bc (fillX W (p + 1) b k t ta a s) := by
  subst hp
  subst hn
  subst hm
  have t := fill_turn (W := W) (R := w.heap.size + 1) b k t ta a s
  have := h.qlt
  have h1 := t.lies h.xs (by omega)
  have h2 := t.lies h.bs (by omega)
  exact ⟨h1.cell 0, h1.cell 1, h1.cell 2, h1.cell 3, h1.cell 4, h1.cell 5, h2.cell 0, h2.cell 1, h2.cell 2, h2.cell 3, h2.cell 4, h2.cell 5⟩
abbrev oB (tn : ByteArray) (y : Sx) (bA : Option Addr) (m bc : Nat) : Array Value := #[.bool false, .int .i64 3, .string tn, .int .i64 0, .int .i64 0, .slice none 0 0, .bool y.list, .int .i64 y.k, .string y.T, .int .i64 y.ta, .int .i64 y.at_, .slice bA m bc]
abbrev oL (g n c : Nat) : Array Value := #[.bool true, .int .i64 0, .string ⟨#[]⟩, .int .i64 0, .int .i64 0, .slice (some ⟨g, 0, none⟩) n c]
abbrev oX (g : Nat) (x : Sx) (A : Option Addr) (n c : Nat) : Array Value := #[.bool false, .int .i64 3, .string Sh.tLet, .int .i64 0, .int .i64 0, .slice none 0 0, .bool true, .int .i64 0, .string ⟨#[]⟩, .int .i64 0, .int .i64 0, .slice (some ⟨g, 0, none⟩) 1 1, .bool x.list, .int .i64 x.k, .string x.T, .int .i64 x.ta, .int .i64 x.at_, .slice A n c]
theorem let_end {w W w2 w3 w4 w5 : World} {q : Nat} {G : Nat → Prop} {x : Sx} {A : Option Addr} {n c k : Nat} {C : Int} {bA : Option Addr} {m bc : Nat} {tn : ByteArray} (h : LetAt w W q G x A c (Sh.bound k C) bA bc) (hn : x.L.length = n) (hm : (Sh.bound k C).L.length = m) (htn : (Sh.nm k).T = tn)
    (b2 : Below W.heap.size W w2) (b3 : Below (w2.alloc (.cells (oB tn (Sh.bound k C) bA m bc) 49)).heap.size (w2.alloc (.cells (oB tn (Sh.bound k C) bA m bc) 49)) w3)
    (b4 : Below (w3.alloc (.cells (oL w2.heap.size 2 2) 49)).heap.size (w3.alloc (.cells (oL w2.heap.size 2 2) 49)) w4)
    (b5 : Below (w4.alloc (.cells (oX w3.heap.size x A n c) 49)).heap.size (w4.alloc (.cells (oX w3.heap.size x A n c) 49)) w5) :
    LetAt w w5 q G x A c (Sh.bound k C) bA bc ∧ SxSaid G w (Sh.letx k C x) (.returned (.agg (oL w4.heap.size 3 3))) (fillX w5 (w.heap.size + 1) (.bool true) (.int .i64 0) (.string ⟨#[]⟩) (.int .i64 0) (.int .i64 0) (.slice (some ⟨w4.heap.size, 0, none⟩) 3 3)) := by
  subst hn
  subst hm
  subst htn
  have hR : w.heap.size + 1 < w2.heap.size := Nat.lt_of_lt_of_le h.room.lt b2.size
  have s3 := b3.size
  have s4 := b4.size
  have s5 := b5.size
  simp at s3 s4 s5
  have h2 := h.keep b2
  let H : Nat → Prop := fun b => (G b ∨ w.heap.size ≤ b) ∧ b ≠ w.heap.size + 1
  have hH : ∀ b, w2.heap.size ≤ b → H b := fun b hb => ⟨.inr (by have := h2.below.size; omega), by omega⟩
  have t2 : STree (w2.alloc (.cells (xcellsOf [(Sh.nm k, none, 0), (Sh.bound k C, bA, bc)]).toArray 49)) (fun b _ => H b) (Sh.list [Sh.nm k, Sh.bound k C]) (some ⟨w2.heap.size, 0, none⟩) 2 :=
    (STree.fresh w2 H [(Sh.nm k, none, 0), (Sh.bound k C, bA, bc)] (by simp) fun y hy => by
      rcases List.mem_cons.1 hy with rfl | hy
      · exact ⟨⟨Nat.le_refl _, Nat.zero_le _⟩, .nil _⟩
      · rw [List.mem_singleton.1 hy]; exact h2.tb.to fun b _ _ e => (⟨.inr (by omega), by omega⟩ : H b)).to fun b _ _ q => q.elim id (hH b)
  have h3 := (h2.keep ((Below.refl _ w2).alloc (Nat.le_refl _) _)).keep b3
  have t2' := t2.kept b3
  have t3 : STree (w3.alloc (.cells (xcellsOf [(Sh.list [Sh.nm k, Sh.bound k C], some ⟨w2.heap.size, 0, none⟩, 2)]).toArray 49)) (fun b _ => H b) (Sh.list [Sh.list [Sh.nm k, Sh.bound k C]]) (some ⟨w3.heap.size, 0, none⟩) 1 :=
    (STree.fresh w3 H [(Sh.list [Sh.nm k, Sh.bound k C], some ⟨w2.heap.size, 0, none⟩, 2)] (by simp) fun y hy => by
      rw [List.mem_singleton.1 hy]; exact t2').to fun b _ _ q => q.elim id (fun e => hH b (by omega))
  have h4 := (h3.keep ((Below.refl _ w3).alloc (Nat.le_refl _) _)).keep b4
  have t3' := t3.kept b4
  have t4 : STree (w4.alloc (.cells (xcellsOf [(Sh.atom 3 Sh.tLet, none, 0), (Sh.list [Sh.list [Sh.nm k, Sh.bound k C]], some ⟨w3.heap.size, 0, none⟩, 1), (x, A, c)]).toArray 49)) (fun b _ => H b) (Sh.letx k C x) (some ⟨w4.heap.size, 0, none⟩) 3 :=
    (STree.fresh w4 H [(Sh.atom 3 Sh.tLet, none, 0), (Sh.list [Sh.list [Sh.nm k, Sh.bound k C]], some ⟨w3.heap.size, 0, none⟩, 1), (x, A, c)] (by simp) fun y hy => by
      rcases List.mem_cons.1 hy with rfl | hy
      · exact ⟨⟨Nat.le_refl _, Nat.zero_le _⟩, .nil _⟩
      rcases List.mem_cons.1 hy with rfl | hy
      · exact t3'
      · rw [List.mem_singleton.1 hy]; exact h4.tx.to fun b _ _ e => (⟨.inl e.1, by have := e.2; omega⟩ : H b)).to fun b _ _ q => q.elim id (fun e => hH b (by omega))
  have h5 := (h4.keep ((Below.refl _ w4).alloc (Nat.le_refl _) _)).keep b5
  exact ⟨h5, fill_said (by omega) h5.below (t4.kept b5)⟩
end Go.Proofs.YtfjpcjebecgglaaGreatDoor
namespace Go.Proofs.YtfjpcjebecgglaaGreatDoor
open Go.RowKit Go.Shelf
abbrev letW (w : World) (x : Sx) (A : Option Addr) (c : Nat) : World := (w.alloc (sbox x A c)).alloc roomO
theorem let_zero {w w1 : World} {G : Nat → Prop} {x : Sx} {A : Option Addr} {c : Nat} {C : Int} {o : Obj} (hx : STree w (fun b _ => G b) x A c) (b1 : Below ((letW w x A c).alloc o).heap.size ((letW w x A c).alloc o) w1) (t : ByteArray) (ht : (Sh.lit [(C, 1)]).T = t) :
    LetAt w (w1.alloc (.cells #[.bool false, .int .i64 6, .string t, .int .i64 0, .int .i64 0, .slice none 0 0] 49)) w1.heap.size G x A c (Sh.lit [(C, 1)]) none 0 := by
  subst ht
  have hb0 : Below w.heap.size w (letW w x A c) := ((Below.refl _ w).alloc (Nat.le_refl _) _).alloc (by simp) _
  have hb : Below w.heap.size w w1 := (hb0.alloc hb0.size o).trans (b1.mono (by simp; omega))
  have hs := b1.size
  simp at hs
  have lx : LiesX (letW w x A c) w.heap.size (scells x A c).toArray := ((Below.refl _ (w.alloc (sbox x A c))).alloc (Nat.le_refl _) roomO).block _ (Lies.new w _ _).lt |>.trans (Lies.new w _ _)
  have lr : LiesX (letW w x A c) (w.heap.size + 1) zX := by
    have := Lies.new (w.alloc (sbox x A c)) 49 zX
    simpa using this
  have hb1 : Below (letW w x A c).heap.size (letW w x A c) (w1.alloc (.cells #[.bool false, .int .i64 6, .string (Sh.lit [(C, 1)]).T, .int .i64 0, .int .i64 0, .slice none 0 0] 49)) := by
    have h1 : Below (letW w x A c).heap.size (letW w x A c) w1 := ((Below.refl _ (letW w x A c)).alloc (Nat.le_refl _) o).trans (b1.mono (by simp))
    exact h1.alloc h1.size _
  have T := Turn.of_below (F := fun _ => False) hb1
  have hbb := hb.alloc hb.size (.cells #[.bool false, .int .i64 6, .string (Sh.lit [(C, 1)]).T, .int .i64 0, .int .i64 0, .slice none 0 0] 49)
  exact ⟨hbb, T.lies lr id, T.lies lx id, Lies.new w1 _ _, by omega, (hx.to (G' := fun b _ => G b ∧ b < w.heap.size) fun b _ hlt h => ⟨h, hlt⟩).kept hbb, ⟨Nat.le_refl _, Nat.zero_le _⟩, .nil _⟩
theorem let_more {w w1 w3 w5 : World} {G : Nat → Prop} {x : Sx} {A : Option Addr} {c : Nat} {C : Int} {k : Nat} {t : ByteArray} {o2 : Obj} {e : Ending} (h : LetAt w (w1.alloc (.cells #[.bool false, .int .i64 6, .string t, .int .i64 0, .int .i64 0, .slice none 0 0] 49)) w1.heap.size G x A c (Sh.lit [(C, 1)]) none 0) (hk : k ≠ 0)
    (b3 : Below (w1.alloc (.cells #[.bool false, .int .i64 6, .string t, .int .i64 0, .int .i64 0, .slice none 0 0] 49)).heap.size (w1.alloc (.cells #[.bool false, .int .i64 6, .string t, .int .i64 0, .int .i64 0, .slice none 0 0] 49)) w3)
    (hs : SxSaid (fun b => w3.heap.size ≤ b) (w3.alloc o2) (Sh.app Sh.cat [Sh.nm (k - 1), Sh.nm (k - 1)]) e w5) :
    ∃ A' c', e = .returned (.agg #[.bool true, .int .i64 0, .string ⟨#[]⟩, .int .i64 0, .int .i64 0, .slice A' 3 c']) ∧ LiesX w5 w1.heap.size #[.bool false, .int .i64 6, .string t, .int .i64 0, .int .i64 0, .slice none 0 0] ∧
      LetAt w (fillX w5 w1.heap.size (.bool true) (.int .i64 0) (.string ⟨#[]⟩) (.int .i64 0) (.int .i64 0) (.slice A' 3 c')) w1.heap.size G x A c (Sh.bound k C) A' c' := by
  obtain ⟨⟨A', c', rfl, ht⟩, hb⟩ := hs
  have h3 := h.keep b3
  have h5 := (h3.keep ((Below.refl _ w3).alloc (Nat.le_refl _) o2)).keep hb
  have l5 : LiesX w5 w1.heap.size #[.bool false, .int .i64 6, .string t, .int .i64 0, .int .i64 0, .slice none 0 0] := (Turn.of_below (F := fun _ => False) (b3.trans ((((Below.refl _ w3).alloc (Nat.le_refl _) o2).trans (hb.mono (by simp))).mono b3.size))).lies (Lies.new w1 _ _) id
  have hq : w1.heap.size < w3.heap.size := Nat.lt_of_lt_of_le (Lies.new w1 49 #[.bool false, .int .i64 6, .string t, .int .i64 0, .int .i64 0, .slice none 0 0]).lt b3.size
  have hbd : Sh.bound k C = Sh.app Sh.cat [Sh.nm (k - 1), Sh.nm (k - 1)] := by unfold Sh.bound; rw [if_neg hk]
  have hx0 := h5.qlt
  have hw3 : w.heap.size ≤ w3.heap.size := h3.below.size
  refine ⟨A', c', rfl, l5, ?_⟩
  rw [hbd]
  have T := fill_turn (W := w5) (R := w1.heap.size) (.bool true) (.int .i64 0) (.string ⟨#[]⟩) (.int .i64 0) (.int .i64 0) (.slice A' 3 c')
  have hx2 := h5.tx
  exact ⟨((Turn.of_below (F := fun b => w.heap.size ≤ b) h5.below).trans T fun b e => .inl (by omega)).below (Nat.le_refl _) fun _ e => e, T.lies h5.room (by omega), T.lies h5.xs (by have := h5.xs.lt; omega), fill_lies l5 _ _ _ _ _ _, h5.qlt,
    ⟨hx2.le, hx2.tree.imp T.size (fun b off hlt e j _ => T.cell (p := ⟨b, off + j, none⟩) hlt (by show ¬ b = _; omega)) fun _ _ _ e => e⟩,
    ⟨ht.le, ht.tree.imp T.size (fun b off hlt e j _ => T.cell (p := ⟨b, off + j, none⟩) hlt (by show ¬ b = _; simp at e; omega)) fun b _ _ e => by simp at e; omega⟩⟩
end Go.Proofs.YtfjpcjebecgglaaGreatDoor
namespace Go.Proofs.YtfjpcjebecgglaaGreatDoor
open Go.RowKit Go.Shelf
theorem two_row {W : World} {t1 t2 : ByteArray} : TreeL (W.alloc (.cells #[.bool false, .int .i64 3, .string t1, .int .i64 0, .int .i64 0, .slice none 0 0, .bool false, .int .i64 3, .string t2, .int .i64 0, .int .i64 0, .slice none 0 0] 49)) (fun b _ => W.heap.size ≤ b) (some ⟨W.heap.size, 0, none⟩) [Sh.atom 3 t1, Sh.atom 3 t2] :=
  ((OwnG.fresh W (fun b => W.heap.size ≤ b) [(Sh.atom 3 t1, none, 0), (Sh.atom 3 t2, none, 0)] (by simp) fun x hx => by
    rcases List.mem_cons.1 hx with rfl | hx
    · exact ⟨⟨Nat.le_refl _, Nat.zero_le _⟩, .nil _⟩
    · rw [List.mem_singleton.1 hx]
      exact ⟨⟨Nat.le_refl _, Nat.zero_le _⟩, .nil _⟩).tree).mono fun b _ _ q => q.elim id id
theorem klet12 (k : Nat) (hk : k < 100) (C : Int) (hC : Lt.pt C = true) (x : Sx) (A : Option Addr) (c : Nat) (w : World) (G : Nat → Prop) (hx : STree w (fun b _ => G b) x A c) (hN : NmT w) (hG : Gl w) :
    Calls Tryz.prog 132 #[.int .i64 (k : Nat), .int .i64 C, sval x A c] w (SxSaid G w (Sh.letx k C x)) := by
  have hb0 : Below w.heap.size w (letW w x A c) := ((Below.refl _ w).alloc (Nat.le_refl _) _).alloc (by simp) _
  obtain ⟨n, hn⟩ : ∃ n, x.L.length = n := ⟨_, rfl⟩
  obtain ⟨t, ht⟩ : ∃ t, (Sh.lit [(C, 1)]).T = t := ⟨_, rfl⟩
  have hLit : Calls Tryz.prog 107 #[.slice (some ⟨(letW w x A c).heap.size, 0, none⟩) 1 1] ((letW w x A c).alloc (.cells #[.int .i64 C, .int .i64 1] 70)) fun e w' => e = .returned (.agg #[.bool false, .int .i64 6, .string t, .int .i64 0, .int .i64 0, .slice none 0 0]) ∧ Below ((letW w x A c).alloc (.cells #[.int .i64 C, .int .i64 1] 70)).heap.size ((letW w x A c).alloc (.cells #[.int .i64 C, .int .i64 1] 70)) w' := by
    have := kliteral12 ((letW w x A c).alloc (.cells #[.int .i64 C, .int .i64 1] 70)) (some ⟨(letW w x A c).heap.size, 0, none⟩) 1 1 [(C, 1)] (runs_lit12 (letW w x A c) [(C, 1)]) (by decide) (Lt.bad_false.2 fun y hy => by rw [List.mem_singleton.1 hy]; exact ⟨hC, by simp⟩) (by rw [Lt.total_one]; decide) (hG.below (hb0.alloc hb0.size _))
    rw [ht] at this
    exact this
  rw [show (letW w x A c).heap.size = w.heap.size + 2 by simp] at hLit
  have HL := Lib.hid hLit
  have HZ := Lib.hid fun w1 b1 => let_zero (o := .cells #[.int .i64 C, .int .i64 1] 70) (w1 := w1) hx b1 t ht
  have HS := Lib.hid fun W => ksymbol12 Sh.tLet W
  have HLi := Lib.hid fun A n c W => klist12 A n c W
  obtain ⟨tn, htn⟩ : ∃ t, (Sh.nm k).T = t := ⟨_, rfl⟩
  have HK := Lib.hid fun W => knm12 k hk W
  rw [htn] at HK
  obtain ⟨bd, hbd⟩ : ∃ bd, Sh.bound k C = bd := ⟨_, rfl⟩
  have HE := Lib.hid fun W q bA m bc w2 w3 w4 w5 (h : LetAt w W q G x A c (Sh.bound k C) bA bc) (hm : (Sh.bound k C).L.length = m) b2 b3 b4 b5 => let_end (w2 := w2) (w3 := w3) (w4 := w4) (w5 := w5) h hn hm htn b2 b3 b4 b5
  have HLS := Lib.hid fun W q bA m bc (h : LetAt w W q G x A c bd bA bc) (hm : bd.L.length = m) => LetS.of h rfl hn hm
  have HLF := Lib.hid fun W q bA m bc (h : LetAt w W q G x A c bd bA bc) (hm : bd.L.length = m) b k t ta a s => LetS.fill h rfl hn hm b k t ta a s
  obtain ⟨y, hy⟩ : ∃ y, Sh.letx k C x = y := ⟨_, rfl⟩
  rw [hy] at HE ⊢
  have HB0 : Hid (k = 0 → Sh.lit [(C, 1)] = bd) := fun e => by rw [← hbd]; unfold Sh.bound; rw [if_pos e]
  have HB1 : Hid (k ≠ 0 → Sh.app Sh.cat [Sh.nm (k - 1), Sh.nm (k - 1)] = bd) := fun e => by rw [← hbd]; unfold Sh.bound; rw [if_neg e]
  have HBd := Lib.hid hbd
  rw [hbd] at HE
  obtain ⟨m, hm⟩ : ∃ m, bd.L.length = m := ⟨_, rfl⟩
  have HM := Lib.hid hm
  have HNm := Lib.hid hN
  unfold sval
  unfold letW at HL HZ
  unfold sbox at HL HZ
  rw [hn] at HL HZ ⊢
  obtain ⟨bl, bk, bT, bta, bat, bL⟩ := bd
  obtain ⟨xl, xk, xT, xta, xat, xL⟩ := x
  clear hb0 hLit hx hG hN hC ht hn hy htn hm hbd
  simp only at HL HZ
  by_cases hk0 : k = 0
  case' pos =>
    have d0 : decide (0 < k) = false := decide_eq_false (by omega)
    have hbd := HB0.out hk0
    clear HB0 HB1 HNm HBd hk0
    go_enter Tryz.func132, Tryz.ntmps132
    go_wp2_with fail
    refine HL.out.mono ?_
    rintro e w1 ⟨rfl, b1⟩
    have h0 := HZ.out w1 b1
    rw [hbd] at h0
    clear b1 HL HZ hbd
    go_upto_region 4 with fail
    clear d0
    generalize w1.alloc (Obj.cells #[Value.bool false, Value.int IntKind.i64 6, Value.string t, Value.int IntKind.i64 0, Value.int IntKind.i64 0, Value.slice none 0 0] 49) = W0 at h0 ⊢
    generalize w1.heap.size = q at h0 ⊢
    obtain ⟨bA, bc, h0⟩ : ∃ bA bc, LetAt w W0 q G ⟨xl, xk, xT, xta, xat, xL⟩ A c ⟨bl, bk, bT, bta, bat, bL⟩ bA bc := ⟨_, _, h0⟩
  case' neg =>
    obtain ⟨j, hj⟩ : ∃ j, k - 1 = j := ⟨_, rfl⟩
    have hj1 : j < 100 := by omega
    have hkj : (k : Int) - 1 = (j : Int) := by omega
    have d0 : decide (0 < k) = true := decide_eq_true (by omega)
    have hk1 : 1 ≤ k := by omega
    have hbd := HB1.out hk0
    rw [hj] at hbd
    obtain ⟨tj, htj⟩ : ∃ t, (Sh.nm j).T = t := ⟨_, rfl⟩
    have HNj := Lib.hid fun W => knm12 j hj1 W
    have hnj : Sh.nm j = Sh.atom 3 tj := by rw [← htj]; rfl
    rw [htj] at HNj
    have HAp := Lib.hid fun w3 (hb : Below w.heap.size w w3) => kapply12 22 (some ⟨w3.heap.size, 0, none⟩) 2 2 [Sh.atom 3 tj, Sh.atom 3 tj] (w3.alloc (.cells #[.bool false, .int .i64 3, .string tj, .int .i64 0, .int .i64 0, .slice none 0 0, .bool false, .int .i64 3, .string tj, .int .i64 0, .int .i64 0, .slice none 0 0] 49)) (fun b => w3.heap.size ≤ b) rfl (by decide) (by decide) two_row ((HNm.out.below hb).alloc _)
    have HMo := Lib.hid fun w1 w3 w5 o2 e h b3 hs => let_more (w := w) (w1 := w1) (w3 := w3) (w5 := w5) (G := G) (x := ⟨xl, xk, xT, xta, xat, xL⟩) (A := A) (c := c) (C := C) (k := k) (t := t) (o2 := o2) (e := e) h hk0 b3 hs
    rw [hj, hnj, HBd.out] at HMo
    clear HB0 HB1 HNm HBd hk0 hj htj hnj hbd hj1
    go_enter Tryz.func132, Tryz.ntmps132
    go_wp2_with fail
    refine HL.out.mono ?_
    rintro e w1 ⟨rfl, b1⟩
    have h0 := HZ.out w1 b1
    have H0 := Lib.hid h0
    clear b1 HL HZ h0
    go_wp2_with fail
    refine (HNj.out _).mono ?_
    rintro e w2 ⟨rfl, b2⟩
    have B2 := Lib.hid b2
    clear b2
    go_wp2_with fail
    refine (HNj.out _).mono ?_
    rintro e w3 ⟨rfl, b3⟩
    have B3 := Lib.hid (B2.out.trans (b3.mono B2.out.size))
    have HAp3 := Lib.hid (HAp.out w3 (H0.out.keep B3.out).below)
    clear b3 B2 HAp HNj
    go_wp2_with fail
    refine HAp3.out.mono ?_
    intro e w5 hs
    obtain ⟨bA, bc, rfl, l5, h5⟩ := HMo.out w1 w3 w5 _ e H0.out B3.out hs
    have k0 := l5.cell 0
    have k1 := l5.cell 1
    have k2 := l5.cell 2
    have k3 := l5.cell 3
    have k4 := l5.cell 4
    have k5 := l5.cell 5
    have y0 := l5.free 0
    have y1 := l5.free 1
    have y2 := l5.free 2
    have y3 := l5.free 3
    have y4 := l5.free 4
    have y5 := l5.free 5
    have hql := l5.lt
    simp at k0 k1 k2 k3 k4 k5
    have H5 := Lib.hid h5
    clear hs l5 HAp3 HMo H0 B3 h5
    go_upto_region 4 with fail
    have h0 := H5.out
    clear d0 hk1 hkj k0 k1 k2 k3 k4 k5 y0 y1 y2 y3 y4 y5 hql H5
    change Code.wp _ _ _ _ (fillX w5 w1.heap.size (.bool true) (.int .i64 0) (.string ⟨#[]⟩) (.int .i64 0) (.int .i64 0) (.slice bA 3 bc))
    generalize fillX w5 w1.heap.size (.bool true) (.int .i64 0) (.string ⟨#[]⟩) (.int .i64 0) (.int .i64 0) (.slice bA 3 bc) = W0 at h0 ⊢
    generalize w1.heap.size = q at h0 ⊢
  all_goals
    have HA := Lib.hid h0
    have HS0 := Lib.hid (HLS.out W0.drew _ _ _ _ (h0.keep ⟨rfl, rfl, rfl, Nat.le_refl _, fun _ _ => rfl⟩) HM.out)
    have HD : Hid (Below W0.heap.size W0 W0.drew) := ⟨rfl, rfl, rfl, Nat.le_refl _, fun _ _ => rfl⟩
    clear h0
    go_region_held3 (LetS w.heap.size q xl xk xT xta xat A n c bl bk bT bta bat bA m bc)
      (first | (with_reducible exact HS0.out) | (with_reducible exact HLF.out _ _ _ _ _ A5.out HM.out _ _ _ _ _ _) | (with_reducible exact HLS.out _ _ _ _ _ (HA.out.keep B1.out) HM.out) | (with_reducible exact HLS.out _ _ _ _ _ (HA.out.keep B2.out) HM.out) | (with_reducible exact HLS.out _ _ _ _ _ ((HA.out.keep B2.out).keep ((Below.refl _ _).alloc (Nat.le_refl _) _)) HM.out) | (with_reducible exact HLS.out _ _ _ _ _ (HA.out.keep C3.out) HM.out) | (with_reducible exact HLS.out _ _ _ _ _ ((HA.out.keep C3.out).keep ((Below.refl _ _).alloc (Nat.le_refl _) _)) HM.out) | (with_reducible exact HLS.out _ _ _ _ _ (HA.out.keep C4.out) HM.out) | (with_reducible exact HLS.out _ _ _ _ _ ((HA.out.keep C4.out).keep ((Below.refl _ _).alloc (Nat.le_refl _) _)) HM.out) | (with_reducible exact HLS.out _ _ _ _ _ A5.out HM.out))
      (first | (go_at_call 81; refine (HS.out _).mono ?_; rintro e v1 ⟨rfl, b1⟩; have B1 := Lib.hid (HD.out.trans (b1.mono HD.out.size)); clear b1) | (go_at_call 148; refine (HK.out _).mono ?_; rintro e v2 ⟨rfl, b2⟩; have B2 := Lib.hid (B1.out.trans (b2.mono B1.out.size)); clear b2) | (go_at_call 108; refine (HLi.out _ _ _ _).mono ?_; rintro e v5 ⟨rfl, b5⟩; have hE5 := HE.out W0 q bA m bc v2 v3 v4 v5 HA.out HM.out B2.out B3.out B4.out b5; obtain ⟨a5, hs⟩ := hE5; obtain ⟨k0, k1, k2, k3, k4, k5, y0, y1, y2, y3, y4, y5⟩ := ready a5.room; obtain ⟨r0, r1, r2, r3, r4, r5⟩ := fill_cells a5.room (.bool true) (.int .i64 0) (.string ⟨#[]⟩) (.int .i64 0) (.int .i64 0) (.slice (some ⟨v4.heap.size, 0, none⟩) 3 3); have A5 := Lib.hid a5; have HSaid := Lib.hid hs; have hlt := a5.room.lt; clear b5 hs a5) | (go_at_call 108; refine (HLi.out _ _ _ _).mono ?_; rintro e v4 ⟨rfl, b4⟩; have B4 := Lib.hid b4; have C4 := Lib.hid ((C3.out.alloc C3.out.size (.cells (oL v2.heap.size 2 2) 49)).trans (b4.mono (by have := C3.out.size; simp; omega))); clear b4) | (go_at_call 108; refine (HLi.out _ _ _ _).mono ?_; rintro e v3 ⟨rfl, b3⟩; have B3 := Lib.hid b3; have C3 := Lib.hid ((B2.out.alloc B2.out.size (.cells (oB tn ⟨bl, bk, bT, bta, bat, bL⟩ bA m bc) 49)).trans (b3.mono (by have := B2.out.size; simp; omega))); clear b3))
    clear HS HK HLi HE HLS HLF HA HS0 HD
    go_wp2
    exact bodyPost_ret (v := .agg #[.bool true, .int .i64 0, .string ⟨#[]⟩, .int .i64 0, .int .i64 0, .slice (some ⟨v4.heap.size, 0, none⟩) 3 3]) (by simp [results, Tryz.results132, go_sem, r0, r1, r2, r3, r4, r5]) rfl HSaid.out
end Go.Proofs.YtfjpcjebecgglaaGreatDoor
