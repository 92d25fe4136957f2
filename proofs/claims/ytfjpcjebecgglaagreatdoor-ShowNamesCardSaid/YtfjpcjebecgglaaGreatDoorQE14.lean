/- What the proofs of this claim use, text by text. -/
import Derived.Test.YtfjpcjebecgglaaGreatDoorQE13
import Derived.Deep.RegionWith
import Derived.Lib.SmallJoins
import Derived.ProofKit
import Derived.OpenShut
import Derived.ShutString
import Derived.ChangeOld
import Derived.Below
set_option linter.unusedSimpArgs false
set_option linter.unusedVariables false
set_option maxRecDepth 100000
set_option maxHeartbeats 25600000
namespace Go.Proofs.YtfjpcjebecgglaaGreatDoor
open Go.RowKit Go.Shelf
abbrev valC (t : Int) (b g : Bool) (A : Option Addr) (n c : Nat) (B : Option Addr) (m d : Nat) : Array Value := #[.int .i64 t, .bool b, .bool g, .slice A n c, .slice B m d]
abbrev valW (w : World) (t : Int) (b g : Bool) (A : Option Addr) (n c : Nat) (B : Option Addr) (m d : Nat) : World := (w.alloc (.cells (valC t b g A n c B m d) 57)).alloc roomO
theorem val_later {w W : World} {t : Int} {b g : Bool} {A : Option Addr} {n c : Nat} {B : Option Addr} {m d : Nat} (hb : Below (valW w t b g A n c B m d).heap.size (valW w t b g A n c B m d) W) :
    (W.cell? ⟨w.heap.size, 0, none⟩ = some (.int .i64 t) ∧ W.cell? ⟨w.heap.size, 1, none⟩ = some (.bool b) ∧ W.cell? ⟨w.heap.size, 2, none⟩ = some (.bool g) ∧ W.cell? ⟨w.heap.size, 3, none⟩ = some (.slice A n c) ∧ W.cell? ⟨w.heap.size, 4, none⟩ = some (.slice B m d)) ∧ LiesX W (w.heap.size + 1) zX ∧ Below w.heap.size w W ∧ w.heap.size + 2 ≤ W.heap.size := by
  have l0 : Lies (valW w t b g A n c B m d) w.heap.size 57 (valC t b g A n c B m d) := ((Below.refl _ (w.alloc (.cells (valC t b g A n c B m d) 57))).alloc (Nat.le_refl _) roomO).block _ (Lies.new w _ _).lt |>.trans (Lies.new w _ _)
  have l1 : LiesX (valW w t b g A n c B m d) (w.heap.size + 1) zX := by
    have := Lies.new (w.alloc (.cells (valC t b g A n c B m d) 57)) 49 zX
    simpa using this
  have hs := hb.size
  simp at hs
  have m0 : Lies W w.heap.size 57 (valC t b g A n c B m d) := (hb.block _ l0.lt).trans l0
  exact ⟨⟨m0.cell 0, m0.cell 1, m0.cell 2, m0.cell 3, m0.cell 4⟩, (hb.block _ l1.lt).trans l1, (((Below.refl _ w).alloc (Nat.le_refl _) _).alloc (by simp) _).trans (hb.mono (by simp; omega)), hs⟩
theorem val_room {w W W7 : World} {R : Nat} {x : Sx} {e : Ending} (hR : w.heap.size ≤ R) (hr : LiesX W R zX) (hb : Below w.heap.size w W) (h : SxSaid (fun _ => False) W x e W7) :
    ∃ A' c', e = .returned (sval x A' c') ∧ LiesX W7 R zX ∧ TxSaid w (x, 0) (.returned (.tuple #[sval x A' c', .int .i64 0])) (fillX W7 R (.bool x.list) (.int .i64 x.k) (.string x.T) (.int .i64 x.ta) (.int .i64 x.at_) (.slice A' x.L.length c')) := by
  obtain ⟨⟨A', c', rfl, ht⟩, hb7⟩ := h
  have hlt := hr.lt
  have hs := hb.size
  exact ⟨A', c', rfl, (hb7.block _ hlt).trans hr, TxSaid.of (fill_said hR (hb.trans (hb7.mono hb.size)) (ht.to fun b _ _ h => by rcases h with h | h; exact h.elim; exact ⟨.inr (by omega), by omega⟩))⟩
theorem val_text {w W W7 : World} {R : Nat} {x : Sx} {k : Int} {e : Ending} (hR : w.heap.size ≤ R) (hr : LiesX W R zX) (hb : Below w.heap.size w W) (h : TxSaid W (x, k) e W7) :
    ∃ A' c', e = .returned (.tuple #[sval x A' c', .int .i64 k]) ∧ LiesX W7 R zX ∧ TxSaid w (x, k) (.returned (.tuple #[sval x A' c', .int .i64 k])) (fillX W7 R (.bool x.list) (.int .i64 x.k) (.string x.T) (.int .i64 x.ta) (.int .i64 x.at_) (.slice A' x.L.length c')) := by
  obtain ⟨⟨A', c', rfl, ht⟩, hb7⟩ := h
  have hlt := hr.lt
  have hs := hb.size
  have hbb := hb.trans (hb7.mono hb.size)
  have hf := fill_said (G := fun _ => False) hR hbb ((ht.to (G' := fun b _ => (False ∨ w.heap.size ≤ b) ∧ b ≠ R) fun b _ _ h => by have h' : W.heap.size ≤ b := h; exact ⟨.inr (by omega), by omega⟩))
  obtain ⟨⟨A2, c2, e2, ht2⟩, hb2⟩ := hf
  injection e2 with e2
  simp at e2
  obtain ⟨rfl, rfl⟩ := e2
  exact ⟨A', c', rfl, (hb7.block _ hlt).trans hr, ⟨A', c', rfl, ht2.to fun b _ _ h => h.elim False.elim id⟩, hb2⟩
theorem kValue12 (w : World) (t : Int) (b g : Bool) (A : Option Addr) (n c : Nat) (z : Int) (B : Option Addr) (m d : Nat) (R : List (Int × Int)) (hz : WIn w g A n c z) (hR : RunS w B m R) (hm : m ≤ 100000) (hd : m ≤ d) (hT : NmT w) (hG : Gl w) :
    Calls Tryz.prog 17 #[.agg (valC t b g A n c B m d)] w (TxSaid w (Sh.value t b z R)) := by
  have HV := Lib.hid fun W (hb : Below (valW w t b g A n c B m d).heap.size (valW w t b g A n c B m d) W) => val_later hb
  have HRm := Lib.hid fun W W7 x e (hb : Below (valW w t b g A n c B m d).heap.size (valW w t b g A n c B m d) W) hs => val_room (W := W) (W7 := W7) (x := x) (e := e) (Nat.le_succ _) (val_later hb).2.1 (val_later hb).2.2.1 hs
  obtain ⟨v, hv⟩ : ∃ v, Sh.value t b z R = v := ⟨_, rfl⟩
  rw [hv]
  obtain ⟨Post, hPost⟩ : ∃ Post : Ending → World → Prop, Post = TxSaid w v := ⟨_, rfl⟩
  rw [← hPost]
  have HPo := Lib.hid hPost
  clear hPost
  by_cases h1 : t = 1
  · have hve : v = (Sh.truth b, 0) := by rw [← hv]; unfold Sh.value; rw [if_pos h1]
    have e1 : (t == 1) = true := by rw [h1]; rfl
    have HTr := Lib.hid fun W => ktruth12 b W
    obtain ⟨s, hs⟩ : ∃ s, (Sh.truth b).T = s := ⟨_, rfl⟩
    have htr : Sh.truth b = Sh.atom 3 s := by rw [← hs]; rfl
    rw [hs] at HTr
    have HVe := Lib.hid (hve.trans (by rw [htr]))
    clear hz hR hT hG hv hve hs htr h1
    go_enter Tryz.func17, Tryz.ntmps17
    go_wp2_with fail
    refine (HTr.out _).mono ?_
    rintro e w1 ⟨rfl, b1⟩
    obtain ⟨_, hr, hbw, _⟩ := HV.out w1 b1
    obtain ⟨k0, k1, k2, k3, k4, k5, y0, y1, y2, y3, y4, y5⟩ := ready hr
    obtain ⟨r0, r1, r2, r3, r4, r5⟩ := fill_cells hr (.bool false) (.int .i64 3) (.string s) (.int .i64 0) (.int .i64 0) (.slice none 0 0)
    have hlt := hr.lt
    have HF : Hid (Post (.returned (.tuple #[.agg #[.bool false, .int .i64 3, .string s, .int .i64 0, .int .i64 0, .slice none 0 0], .int .i64 0])) (fillX w1 (w.heap.size + 1) (.bool false) (.int .i64 3) (.string s) (.int .i64 0) (.int .i64 0) (.slice none 0 0))) := by
      show Post _ _
      rw [HPo.out, HVe.out]
      exact ⟨⟨none, 0, rfl, ⟨Nat.le_refl _, Nat.zero_le _⟩, .nil _⟩, fill_below (by omega) hbw _ _ _ _ _ _⟩
    clear b1 hr hbw HV HRm HPo HVe HTr
    go_wp2_with fail
    exact bodyPost_ret (v := .tuple #[.agg #[.bool false, .int .i64 3, .string s, .int .i64 0, .int .i64 0, .slice none 0 0], .int .i64 0]) (by simp [results, Tryz.results17, go_sem, r0, r1, r2, r3, r4, r5]) rfl HF.out
  have e1 : (t == 1) = false := beq_eq_false_iff_ne.2 h1
  by_cases h2 : t = 2
  · have hve : v = (Sh.num z, 0) := by rw [← hv]; unfold Sh.value; rw [if_neg h1, if_pos h2]
    have e2 : (t == 2) = true := by rw [h2]; rfl
    have HNm := Lib.hid fun W (hb : Below w.heap.size w W) => knumber12 g A n c z W (hz.below hb) (hT.below hb)
    obtain ⟨x, hx⟩ : ∃ x, Sh.num z = x := ⟨_, rfl⟩
    rw [hx] at HNm hve
    have HVe := Lib.hid hve
    have hc0 := HV.out _ (Below.refl _ _)
    obtain ⟨_, _, hbw0, _⟩ := hc0
    have HNm0 := Lib.hid (HNm.out _ hbw0)
    clear hz hR hT hG hv hve hx h1 h2 hbw0 HNm
    go_enter Tryz.func17, Tryz.ntmps17
    go_wp2_with fail
    refine HNm0.out.mono ?_
    intro e w1 hs
    obtain ⟨A2, c2, rfl, hr, hsd⟩ := HRm.out _ w1 x e (Below.refl _ _) hs
    obtain ⟨k0, k1, k2, k3, k4, k5, y0, y1, y2, y3, y4, y5⟩ := ready hr
    obtain ⟨r0, r1, r2, r3, r4, r5⟩ := fill_cells hr (.bool x.list) (.int .i64 x.k) (.string x.T) (.int .i64 x.ta) (.int .i64 x.at_) (.slice A2 x.L.length c2)
    have hlt := hr.lt
    have HF := Lib.hid hsd
    clear hs hr hsd HV HRm HNm0
    go_wp2_with fail
    exact bodyPost_ret (v := .tuple #[sval x A2 c2, .int .i64 0]) (by simp [results, Tryz.results17, go_sem, r0, r1, r2, r3, r4, r5]) rfl (by rw [HPo.out, HVe.out]; exact HF.out)
  have e2 : (t == 2) = false := beq_eq_false_iff_ne.2 h2
  have hnone : ∀ (w1 : World), Below (valW w t b g A n c B m d).heap.size (valW w t b g A n c B m d) w1 → TxSaid w (Sx.zero, 1) (.returned (.tuple #[.agg #[.bool false, .int .i64 0, .string ⟨#[]⟩, .int .i64 0, .int .i64 0, .slice none 0 0], .int .i64 1])) (fillX w1 (w.heap.size + 1) (.bool false) (.int .i64 0) (.string ⟨#[]⟩) (.int .i64 0) (.int .i64 0) (.slice none 0 0)) := fun w1 b1 => TxSaid.err (fill_below (by omega) (HV.out w1 b1).2.2.1 _ _ _ _ _ _)
  have HNo := Lib.hid hnone
  by_cases h3 : t = 3
  · have e3 : (t == 3) = true := by rw [h3]; rfl
    obtain ⟨_, _, hbw0, _⟩ := HV.out _ (Below.refl _ _)
    have HMy := Lib.hid (kmayr _ B m d R (hR.below hbw0) (by omega))
    by_cases hmay : Tx.May R
    · have hve : v = Sh.text R := by rw [← hv]; unfold Sh.value; rw [if_neg h1, if_neg h2, if_pos h3, Tx.mayB_true hmay, if_pos rfl]
      rw [Tx.mayB_true hmay] at HMy
      have HTx := Lib.hid fun W (hb : Below w.heap.size w W) => ktext12 W B m d R (hR.below hb) hd hmay (hT.below hb) (hG.below hb)
      obtain ⟨⟨x, k⟩, hx⟩ : ∃ x, Sh.text R = x := ⟨_, rfl⟩
      rw [hx] at HTx hve
      have HVe := Lib.hid hve
      clear hz hR hT hG hv hve hx h1 h2 h3 hbw0 hmay hnone HNo
      go_enter Tryz.func17, Tryz.ntmps17
      go_wp2_with fail
      refine HMy.out.mono ?_
      rintro e w1 ⟨rfl, b1⟩
      obtain ⟨⟨c0, c1, c2, c3, c4⟩, hr1, hbw1, hs1⟩ := HV.out w1 b1
      have HTx1 := Lib.hid (HTx.out w1 hbw1)
      have HEn := Lib.hid fun e w2 (hs : TxSaid w1 (x, k) e w2) => val_text (Nat.le_succ w.heap.size) hr1 hbw1 hs
      have hlw : w.heap.size < w1.heap.size := by omega
      clear b1 hr1 hbw1 hs1 HMy HTx HV HRm c0 c1 c2 c3
      go_wp2_with fail
      refine HTx1.out.mono ?_
      intro e w2 hs
      obtain ⟨A2, c2, rfl, hr, hsd⟩ := HEn.out e w2 hs
      obtain ⟨k0, k1, k2, k3, k4, k5, y0, y1, y2, y3, y4, y5⟩ := ready hr
      obtain ⟨r0, r1, r2, r3, r4, r5⟩ := fill_cells hr (.bool x.list) (.int .i64 x.k) (.string x.T) (.int .i64 x.ta) (.int .i64 x.at_) (.slice A2 x.L.length c2)
      have hlt := hr.lt
      have HF := Lib.hid hsd
      clear hs hr hsd HTx1 HEn c4 hlw
      go_wp2_with fail
      exact bodyPost_ret (v := .tuple #[sval x A2 c2, .int .i64 k]) (by simp [results, Tryz.results17, go_sem, r0, r1, r2, r3, r4, r5]) rfl (by rw [HPo.out, HVe.out]; exact HF.out)
    · have hve : v = (Sx.zero, 1) := by rw [← hv]; unfold Sh.value; rw [if_neg h1, if_neg h2, if_pos h3, Tx.mayB_false hmay, if_neg (by decide)]
      rw [Tx.mayB_false hmay] at HMy
      have HVe := Lib.hid hve
      clear hz hR hT hG hv hve h1 h2 h3 hbw0 hmay hnone
      go_enter Tryz.func17, Tryz.ntmps17
      go_wp2_with fail
      refine HMy.out.mono ?_
      rintro e w1 ⟨rfl, b1⟩
      obtain ⟨_, hr, _, _⟩ := HV.out w1 b1
      have HF := Lib.hid (HNo.out w1 b1)
      obtain ⟨k0, k1, k2, k3, k4, k5, y0, y1, y2, y3, y4, y5⟩ := ready hr
      obtain ⟨r0, r1, r2, r3, r4, r5⟩ := fill_cells hr (.bool false) (.int .i64 0) (.string ⟨#[]⟩) (.int .i64 0) (.int .i64 0) (.slice none 0 0)
      have hlt := hr.lt
      clear b1 hr HV HRm HMy HNo
      go_wp2_with fail
      exact bodyPost_ret (v := .tuple #[.agg #[.bool false, .int .i64 0, .string ⟨#[]⟩, .int .i64 0, .int .i64 0, .slice none 0 0], .int .i64 1]) (by simp [results, Tryz.results17, go_sem, r0, r1, r2, r3, r4, r5]) rfl (by rw [HPo.out, HVe.out]; exact HF.out)
  · have e3 : (t == 3) = false := beq_eq_false_iff_ne.2 h3
    have hve : v = (Sx.zero, 1) := by rw [← hv]; unfold Sh.value; rw [if_neg h1, if_neg h2, if_neg h3]
    have HVe := Lib.hid hve
    have HF : Hid (TxSaid w (Sx.zero, 1) (.returned (.tuple #[.agg #[.bool false, .int .i64 0, .string ⟨#[]⟩, .int .i64 0, .int .i64 0, .slice none 0 0], .int .i64 1])) (valW w t b g A n c B m d)) := TxSaid.err (HV.out _ (Below.refl _ _)).2.2.1
    clear hz hR hT hG hv hve h1 h2 h3 hnone HNo HV HRm
    go_enter Tryz.func17, Tryz.ntmps17
    go_wp2_with fail
    exact bodyPost_ret (v := .tuple #[.agg #[.bool false, .int .i64 0, .string ⟨#[]⟩, .int .i64 0, .int .i64 0, .slice none 0 0], .int .i64 1]) (by simp [results, Tryz.results17, go_sem]) rfl (by rw [HPo.out, HVe.out]; exact HF.out)
end Go.Proofs.YtfjpcjebecgglaaGreatDoor
namespace Go.Proofs.YtfjpcjebecgglaaGreatDoor
open Go.RowKit
theorem Z.sig_one (N : Nat) : Z.sig 1 N = (N : Int) := by simp [Z.sig]
theorem Z.sig_mone (N : Nat) : Z.sig (-1) N = -(N : Int) := by simp [Z.sig]
theorem room_new (w : World) : Room (w.alloc (.cells #[.bool false, .slice none 0 0] 39)) w.heap.size := Room.new w false none 0 0
theorem of_w (z : Int) (w : World) (hz : -9223372036854775808 ≤ z ∧ z ≤ 9223372036854775807) :
    Calls Tryz.prog 24 #[.int .i64 z] w (WGives w z) := by
  obtain ⟨N, HN⟩ : ∃ N, Hid (z.natAbs = N) := ⟨_, rfl⟩
  have HO := Lib.hid fun (W : World) => of_any N W (by have := HN.out; omega)
  have hr0 := room_new w
  have hb0 : Below w.heap.size w (w.alloc (.cells #[.bool false, .slice none 0 0] 39)) := (Below.refl _ _).alloc (Nat.le_refl _) _
  have hs0 : (w.alloc (.cells #[.bool false, .slice none 0 0] 39)).heap.size = w.heap.size + 1 := by simp
  by_cases h0 : z < 0
  · have hw1 : IntKind.u64.wrap z = z + 18446744073709551616 := by rw [IntKind.wrap_u64]; omega
    have hw2 : IntKind.u64.wrap (-(z + 18446744073709551616)) = (N : Int) := by rw [IntKind.wrap_u64]; have := HN.out; omega
    have HE : Hid (Z.sig (-1) N = z) := show Z.sig (-1) N = z by rw [Z.sig_mone]; have := HN.out; omega
    go_enter Tryz.func24, Tryz.ntmps24
    go_wp2_with fail
    refine (HO.out _).mono ?_
    rintro e w1 ⟨v2, rfl, n2, b1⟩
    have b1' := b1
    go_wp2_with fail
    refine (signed_num n2).mono ?_
    rintro e w2 ⟨v4, rfl, ⟨u4, rfl, m4⟩, b2⟩
    obtain ⟨A4, a4, c4, l4, rfl, p4⟩ := id m4
    have b3 := b1.trans (b2.mono b1.size)
    have r4 : Room w2 w.heap.size := hr0.below b3 (by omega)
    obtain ⟨k0, k1, _⟩ := room_cells (x := .bool (decide (Z.sig (-1) N < 0))) (u := .slice A4 a4 c4) r4
    unfold World.room at k0 k1
    have hend := Lib.hid (gives_room m4 (HE.out) r4 (hb0.trans (b3.mono (by omega))) (by omega))
    obtain ⟨xr, yr, zr, qr, ⟨f0, f1, f2, f3⟩⟩ := r4
    have f4 := f3 0
    have f5 := f3 1
    clear hr0 hb0 hs0 b1 b1' b2 b3 m4 p4 f3
    go_wp2_with fail
    exact bodyPost_ret (v := .agg #[.bool (decide (Z.sig (-1) N < 0)), .slice A4 a4 c4]) (by simp [results, Tryz.results24, go_sem, k0, k1]) rfl hend.out
  · have hw1 : IntKind.u64.wrap z = (N : Int) := by rw [IntKind.wrap_u64]; have := HN.out; omega
    have HE : Hid (Z.sig 1 N = z) := show Z.sig 1 N = z by rw [Z.sig_one]; have := HN.out; omega
    go_enter Tryz.func24, Tryz.ntmps24
    go_wp2_with fail
    refine (HO.out _).mono ?_
    rintro e w1 ⟨v2, rfl, n2, b1⟩
    have b1' := b1
    go_wp2_with fail
    refine (signed_num n2).mono ?_
    rintro e w2 ⟨v4, rfl, ⟨u4, rfl, m4⟩, b2⟩
    obtain ⟨A4, a4, c4, l4, rfl, p4⟩ := id m4
    have b3 := b1.trans (b2.mono b1.size)
    have r4 : Room w2 w.heap.size := hr0.below b3 (by omega)
    obtain ⟨k0, k1, _⟩ := room_cells (x := .bool (decide (Z.sig 1 N < 0))) (u := .slice A4 a4 c4) r4
    unfold World.room at k0 k1
    have hend := Lib.hid (gives_room m4 (HE.out) r4 (hb0.trans (b3.mono (by omega))) (by omega))
    obtain ⟨xr, yr, zr, qr, ⟨f0, f1, f2, f3⟩⟩ := r4
    have f4 := f3 0
    have f5 := f3 1
    clear hr0 hb0 hs0 b1 b1' b2 b3 m4 p4 f3
    go_wp2_with fail
    exact bodyPost_ret (v := .agg #[.bool (decide (Z.sig 1 N < 0)), .slice A4 a4 c4]) (by simp [results, Tryz.results24, go_sem, k0, k1]) rfl hend.out
end Go.Proofs.YtfjpcjebecgglaaGreatDoor
namespace Go.Proofs.YtfjpcjebecgglaaGreatDoor
open Go.RowKit
end Go.Proofs.YtfjpcjebecgglaaGreatDoor
namespace Go.Proofs.YtfjpcjebecgglaaGreatDoor
open Go.RowKit
end Go.Proofs.YtfjpcjebecgglaaGreatDoor
namespace Go.Proofs.YtfjpcjebecgglaaGreatDoor
open Go.RowKit
end Go.Proofs.YtfjpcjebecgglaaGreatDoor
namespace Go.Proofs.YtfjpcjebecgglaaGreatDoor
open Go.RowKit
end Go.Proofs.YtfjpcjebecgglaaGreatDoor
namespace Go.Proofs.YtfjpcjebecgglaaGreatDoor
open Go.RowKit
end Go.Proofs.YtfjpcjebecgglaaGreatDoor
namespace Go.Proofs.YtfjpcjebecgglaaGreatDoor
open Go.RowKit
structure BoxZ (W : World) (b : Nat) (g : Bool) (A : Option Addr) (n c : Nat) (z : Int) : Prop where
  box : Box W b g A n c
  num : WIn W g A n c z
structure Loc where
  b : Nat
  g : Bool
  A : Option Addr
  n : Nat
  c : Nat
  z : Int
def HL (w : World) (L M : List Loc) (W : World) : Prop := (∀ x ∈ L, BoxZ W x.b x.g x.A x.n x.c x.z) ∧ (∀ x ∈ M, WNum W (.agg #[.bool x.g, .slice x.A x.n x.c]) x.z) ∧ Below w.heap.size w W
end Go.Proofs.YtfjpcjebecgglaaGreatDoor
namespace Go.Proofs.YtfjpcjebecgglaaGreatDoor
open Go.RowKit Go.ChangeShapes Go.WideShapes Go.Joins
theorem open_limbs {H : Type} {enc : TypeId × Value → H} {W : World} {fuel : Nat} {v : Value} {y : DataW H × List MemPlace} (h : DataW.trod enc Tryz.prog W 0 (fun _ => true) true fuel 37 [v] = some y) :
    ∃ A n c l, v = .slice A n c ∧ Lims W A n l ∧ n ≤ c ∧ c ≤ maxLen ∧ (A = none → n = 0 ∧ c = 0) := by
  rcases open_ints Tryz.underlying37 Tryz.underlying156 (by kernel_rfl) h with ⟨hcs, _⟩ | ⟨x, l, c, zs, hcs, _, hl, hm, hz, _, hcell, hwz⟩
  · injection hcs with hcs
    subst hcs
    exact ⟨none, 0, 0, [], rfl, Lims.nil_ _ _, by omega, by omega, fun _ => ⟨rfl, rfl⟩⟩
  · injection hcs with hcs
    subst hcs
    obtain ⟨k, hk, h1, h2⟩ := lims_of (zs := zs) (.inr ⟨_, rfl, hl, hm, by simpa using hz, hcell, hwz⟩)
    exact ⟨_, _, _, k, rfl, hk, h1, h2, fun e => by cases e⟩
end Go.Proofs.YtfjpcjebecgglaaGreatDoor
