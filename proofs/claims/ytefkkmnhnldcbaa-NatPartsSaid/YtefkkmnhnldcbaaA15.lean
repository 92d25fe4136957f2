/- nat: divideLong: what it answers. -/
import Derived.Test.YtefkkmnhnldcbaaA6
import Derived.Test.YtefkkmnhnldcbaaA8
import Derived.Test.YtefkkmnhnldcbaaA14
import Derived.Test.YtefkkmnhnldcbaaMathU
import Derived.Deep.RegionWith
namespace Go.Proofs.Ytefkkmnhnldcbaa
open Go.RowKit

/-- two numbers -/
def GivesPair (W : World) (N R : Nat) (e : Ending) (w' : World) : Prop :=
  ∃ u v, e = .returned (.tuple #[u, v]) ∧ Num w' u N ∧ Num w' v R ∧ Below W.heap.size W w'

set_option maxHeartbeats 4000000 in
theorem divideLong_any (A B : Option Addr) (la n c d : Nat) (al bl : List Nat) (w : World) (ha : Lims w A la al) (hb : Lims w B n bl) (hn : 2 ≤ n) (hla : n ≤ la) (hl2 : la ≤ 1000000) (hx0 : 1 ≤ bl.getD (n - 1) 0) (hnd : n ≤ d) (hd : d ≤ maxLen) :
    Calls Try.prog 48 #[.slice A la c, .slice B n d] w (GivesPair w (M.val al / M.val bl) (M.val al % M.val bl)) := by
  unfold maxLen at hd
  obtain ⟨n1, Hn1⟩ : ∃ n1, Hid (n - 1 = n1) := ⟨_, rfl⟩
  have en1 : (n : Int) - 1 = (n1 : Int) := by have := Hn1.out; omega
  have ln1 : n1 < n := by have := Hn1.out; omega
  obtain ⟨x, HX⟩ : ∃ x, Hid (x = bl.getD (n - 1) 0) := ⟨_, rfl⟩
  rw [← HX.out] at hx0
  have hxB : x ≤ 4294967295 := by rw [HX.out]; exact fit_of hb.2.1 _
  obtain ⟨bb, bo, rfl, hbb, hbc⟩ := hb.at_ (by omega)
  obtain ⟨x', HX', _, hcx⟩ := hbc n1 ln1
  obtain rfl : x' = x := by rw [HX'.out, HX.out, Hn1.out]
  clear hbc HX'
  obtain ⟨s, K, hs, HK, hK1, hK2, HLZ⟩ := lz_any x' hx0 hxB
  have hK0 : 1 ≤ K := by rw [HK.out]; exact Nat.one_le_two_pow
  have hKm : K ≤ 2147483648 := by rw [HK.out]; exact Nat.pow_le_pow_right (n := 2) (by omega) hs
  obtain ⟨R, HR⟩ : ∃ R, Hid (K * R = M.BB) := ⟨2 ^ (32 - s), by rw [HK.out, ← Nat.pow_add, show s + (32 - s) = 32 from by omega, M.BB_eq]; exact rfl⟩
  have HLZ := Lib.hid HLZ
  obtain ⟨st, Hst⟩ : ∃ st, Hid (la - n + 1 = st) := ⟨_, rfl⟩
  have est : (la : Int) - (n : Int) + 1 = (st : Int) := by have := Hst.out; omega
  have hst1 : st ≤ 1000000 := by have := Hst.out; omega
  have hst2 : la + 1 = st + n := by have := Hst.out; omega
  have hmk := make_any st (by omega)
  go_enter Try.func48, Try.ntmps48
  go_wp2_with fail
  refine (HLZ.out w).mono ?_
  rintro e w1 ⟨rfl, rfl⟩
  go_wp2_with fail
  refine (shiftUp_any A la c s K al w1 ha hs HK hl2).mono ?_
  rintro e w2 ⟨U0, rfl, hu1, hu2, hu3, hu4, hu5⟩
  have hsz2 := hu5.size
  have hlt2 := hu1.lt
  go_wp2_with fail
  refine (shiftUp_any _ n d s K bl w2 (hb.below hu5) hs HK (by omega)).mono ?_
  rintro e w3 ⟨V0, rfl, hv1, hv2, hv3, hv4, hv5⟩
  have hsz3 := hv5.size
  have hlt3 := hv1.lt
  have hnw : n ≤ n + 1 := by omega
  go_wp2_with fail
  have HVV := Lib.hid (M.shifted hb.1 hv2 hb.2.1 hv3 (by omega) HX.out HR.out hK1 hK2 hv4)
  obtain ⟨V, HV⟩ : ∃ V, Hid (M.val bl * K = V) := ⟨_, rfl⟩
  rw [HV.out] at HVV
  have HLU : Hid (U0.length = st + n) := hu2.trans hst2
  have hrowU := hu1.below hv5 hlt2
  have HB3 : Hid (Below w1.heap.size w1 w3) := hu5.trans (hv5.mono (by omega))
  have hlv : Lims w3 (some ⟨w2.heap.size, 0, none⟩) n (V0.take n) := (hv1.lims hv3 hv2).take (by omega)
  have hvb : 2147483648 * M.BB ^ (n - 1) ≤ V := by
    obtain ⟨h1, h2, h3⟩ := HVV.out
    have e := M.val_at (V0.take n) (n - 1) (by rw [List.length_take, hv2]; omega)
    have : M.BB ^ (n - 1) * 2147483648 ≤ M.BB ^ (n - 1) * (V0.take n).getD (n - 1) 0 := Nat.mul_le_mul_left _ h3
    rw [Nat.mul_add] at e
    rw [← h1, Nat.mul_comm]
    omega
  have HVB := Lib.hid hvb
  clear hvb
  have HDL0 := Lib.hid (M.DL.start (n := n) (s := st) HLU.out hu3 (M.begun ha.1 ha.2.1 HLU.out hst2 (by omega) hu4 hKm HVB.out))
  rw [hu4] at HDL0
  obtain ⟨vl, Hvl⟩ : ∃ vl, Hid (V0.take n = vl) := ⟨_, rfl⟩
  rw [Hvl.out] at HVV hlv
  have hrow3 := Row.zeros_ w3 st
  have HB4 : Hid (Below w1.heap.size w1 (w3.alloc (.cells (zeros st) 43))) := HB3.out.alloc (by omega) _
  have HV4 := hlv.below ((Below.refl _ w3).alloc (Nat.le_refl _) (.cells (zeros st) 43))
  have HU4 := hrowU.alloc (.cells (zeros st) 43)
  clear hrowU hlv hv1 hv2 hv3 hv4 hv5 hu1 hu2 hu3 hu4 hu5 HX hcx
  go_loopw [40] (fun kv wr => ∃ (k : Nat) (U Q : List Nat), k ≤ st ∧ kv = .int .i64 k ∧ Row wr w1.heap.size U ∧ Row wr w3.heap.size Q ∧ Lims wr (some ⟨w2.heap.size, 0, none⟩) n vl ∧ M.DL U Q (M.val al * K) V n st (st - k) ∧ Below w1.heap.size w1 wr) (fun kv _ => st - (intOf kv).toNat)
  case atStart => exact ⟨0, _, _, by omega, rfl, HU4, hrow3, HV4, HDL0.out, HB4.out⟩
  case round =>
    obtain ⟨k, U, Q, hk, rfl, hrU, hrQ, hlv, hdl, hbel⟩ := hrel
    by_cases hlt : k < st
    · obtain ⟨j, Hj⟩ : ∃ j, Hid (st - 1 - k = j) := ⟨_, rfl⟩
      have ej : (st : Int) - 1 - (k : Int) = (j : Int) := by have := Hj.out; omega
      have hj1 : j < st := by have := Hj.out; omega
      obtain ⟨h, Hh⟩ : ∃ h, Hid (j + n + 1 = h) := ⟨_, rfl⟩
      have eh : (j : Int) + (n : Int) + 1 = (h : Int) := by have := Hh.out; omega
      have hh1 : h ≤ st + n := by have := Hh.out; omega
      have hh2 : j ≤ h := by have := Hh.out; omega
      have hh3 : h - j = n + 1 := by have := Hh.out; omega
      rw [show st - k = j + 1 from by have := Hj.out; omega] at hdl
      have HD := Lib.hid hdl
      clear hdl
      obtain ⟨hp1, hp2, hp3⟩ := HD.out.part hj1 HVV.out.2.1
      have HP := Lib.hid hp1
      clear hp1 hp2 hp3
      have HU := Lib.hid HD.out.fitU
      have HUL := Lib.hid HD.out.lenU
      have HVL := Lib.hid HVV.out.1
      have HG := Lib.hid (guessLimb_any (some ⟨w1.heap.size, j, none⟩) (some ⟨w2.heap.size, 0, none⟩) n (n + 1) (st + n - j) (n + 1) _ vl wr (hrU.lims_at HU.out (i := j) (n := n + 1) (by rw [HUL.out]; omega)) hlv hn (by omega) (by omega) HVV.out.2.2 (by rw [HVL.out]; exact HP.out))
      rw [HVL.out] at HG
      have hne : ∀ (b o : Nat), (some ⟨w2.heap.size, 0, none⟩ : Option Addr) = some ⟨b, o, none⟩ → b ≠ w1.heap.size := by
        intro b o e
        injection e with e
        injection e with e
        omega
      have HNE := Lib.hid hne
      clear hne
      have HVLL := Lib.hid hlv.1
      go_wp2_with fail
      refine HG.out.mono ?_
      rintro e w4 ⟨G, rfl, hga, q4, rfl⟩
      have hG := hga.lt
      have HGA := Lib.hid hga
      clear hga HG
      go_wp2_with fail
      refine (takeTimes_any w1.heap.size j n (n + 1) (st + n - j) (n + 1) G (some ⟨w2.heap.size, 0, none⟩) vl U (wr.drewN q4) (hrU.drewN _) HU.out (hlv.drewN _) HNE.out (by rw [HUL.out]; omega) (by omega) (by rw [HUL.out]; omega) hG).mono ?_
      rintro e w5 ⟨U2, bo5, rfl, hb5, hr5, hg5, ht5⟩
      have HT := Lib.hid ht5
      clear ht5
      have hQ5 := (hrQ.drewN q4).grown hg5 (by intro e; injection e; omega)
      have hV5 := (hlv.drewN q4).only hg5 HNE.out
      have hB5 := (below_drewN hbel q4).grown hg5 (by exact hbel.size) (by intro q hq; injection hq with hq; omega)
      have HQL := Lib.hid HD.out.lenQ
      have HJ : Hid (st - (k + 1) = j) := (show _ = _ from by have := Hj.out; omega)
      have hg13 : w1.heap.size ≠ w3.heap.size := by omega
      have hne3 : ∀ (b o : Nat), (some ⟨w2.heap.size, 0, none⟩ : Option Addr) = some ⟨b, o, none⟩ → b ≠ w3.heap.size := by
        intro b o e
        injection e with e
        injection e with e
        omega
      have HNE3 := Lib.hid hne3
      clear hne3
      rcases (show bo5 = 0 ∨ bo5 = 1 from by omega) with rfl | rfl
      · have hdl2 := HD.out.step hj1 HVV.out.2.1 (M.DS.right HVL.out HT.out HGA.out)
        obtain ⟨old, hst⟩ : ∃ old : Nat, w5.cell? ⟨w3.heap.size, j, none⟩ = some (.int .u32 (old : Int)) := ⟨_, hQ5.cell (by rw [HQL.out]; omega)⟩
        have hfr := hQ5.frozen j
        have HR1 := Lib.hid (hr5.far (p := ⟨w3.heap.size, j, none⟩) hg13 (.int .u32 (G : Int)))
        have HR2 := Lib.hid (hQ5.set_ j G)
        have HR3 := Lib.hid (hV5.only (only_setCell (World.grownBy.refl w5 _) (p := ⟨w3.heap.size, j, none⟩) (.inl rfl) (.int .u32 (G : Int))) HNE3.out)
        have HB := Lib.hid (hB5.setCell (p := ⟨w3.heap.size, j, none⟩) (show w1.heap.size ≤ w3.heap.size from by omega) (.int .u32 (G : Int)))
        have HDL := Lib.hid hdl2
        clear hdl2 hr5 hQ5 hV5 hB5 hrU hrQ hlv hbel hg5
        go_wp2_with fail
        go_roundw
        case rel => exact ⟨k + 1, U2, _, by omega, by go_num, HR1.out, HR2.out, HR3.out, by rw [HJ.out]; exact HDL.out, HB.out⟩
        case measure => simp [intOf]; omega
      · have hG1 := HT.out.pos (by rw [HUL.out]; omega)
        obtain ⟨Gk, HGk⟩ : ∃ Gk, Hid (G - 1 = Gk) := ⟨_, rfl⟩
        have eGk : (G : Int) - 1 = (Gk : Int) := by have := HGk.out; omega
        have hGk : Gk ≤ 4294967295 := by have := HGk.out; omega
        have wGk : IntKind.u64.wrap (Gk : Int) = (Gk : Int) := IntWalk.u64_in _ (by omega)
        have HC : Hid (∀ (W : World) (nn cc dd : Nat), Row W w1.heap.size U2 → Lims W (some ⟨w2.heap.size, 0, none⟩) n vl → n ≤ nn → Calls Try.prog 41 #[.slice (some ⟨w1.heap.size, j, none⟩) nn cc, .slice (some ⟨w2.heap.size, 0, none⟩) n dd, .int .u64 1] W (AddedT W w1.heap.size j n 1 vl U2)) :=
          fun W nn cc dd q1 q2 q3 => addTimes_any w1.heap.size j n nn cc dd 1 _ vl U2 W q1 HT.out.fit q2 HNE.out (by rw [HT.out.len, HUL.out]; omega) q3 (by rw [HT.out.len, HUL.out]; omega) (by omega)
        obtain ⟨y, HY⟩ : ∃ y, Hid (y = U2.getD (j + n) 0) := ⟨_, rfl⟩
        have hyc : w5.cell? ⟨w1.heap.size, j + n, none⟩ = some (.int .u32 (y : Int)) := by rw [HY.out]; exact hr5.cell (by rw [HT.out.len, HUL.out]; omega)
        have hfr5 := hr5.frozen (j + n)
        go_wp2_with fail
        go_region_with (go_at_call 41; go_loud (refine (HC.out _ _ _ _ (by exact hr5) (by exact hV5) (by omega)).mono ?_); rintro e w6 ⟨U3, cy, rfl, hr6, hg6, ht6⟩; go_loud (obtain ⟨hds, hsum⟩ := M.DS.mended HVL.out HVLL.out (by rw [HUL.out]; omega) HVV.out.2.1 HT.out HGA.out ht6 HY.out); go_loud (have hyw : IntKind.u32.wrap ((y : Int) + (cy : Int)) = 0 := by (rw [show (y : Int) + (cy : Int) = 4294967296 from by rw [M.BB_eq] at hsum; omega]; exact rfl)); go_loud (have hyc6 : w6.cell? ⟨w1.heap.size, j + n, none⟩ = some (.int .u32 (y : Int)) := by (rw [HY.out, ← ht6.rest (j + n) (by omega)]; exact hr6.cell (by rw [ht6.len, HT.out.len, HUL.out]; omega))); have hfr6 := hr6.frozen (j + n); clear hsum)
        all_goals
          have hQ6 : Row w6 w3.heap.size Q := Row.grown (by exact hQ5) hg6 (by intro e; injection e; omega)
          have hV6 : Lims w6 (some ⟨w2.heap.size, 0, none⟩) n vl := Lims.only (by exact hV5) hg6 HNE.out
          have hB6 : Below w1.heap.size w1 w6 := (Below.drew hB5).grown hg6 (by exact hB5.size) (by intro q hq; injection hq with hq; omega)
          have HL1 := Lib.hid (hr6.set_ (j + n) 0)
          have HL2 := Lib.hid (hQ6.far (p := ⟨w1.heap.size, j + n, none⟩) (Ne.symm hg13) (.int .u32 0))
          have HL3 := Lib.hid (hV6.only (only_setCell (World.grownBy.refl w6 _) (p := ⟨w1.heap.size, j + n, none⟩) (.inl rfl) (.int .u32 0)) HNE.out)
          have HL4 := Lib.hid (hB6.setCell (p := ⟨w1.heap.size, j + n, none⟩) (show w1.heap.size ≤ w1.heap.size from Nat.le_refl _) (.int .u32 0))
          have HDL := Lib.hid (HD.out.step hj1 HVV.out.2.1 hds)
          rw [HGk.out] at HDL
          obtain ⟨old, hst⟩ : ∃ old : Nat, (w6.setCell ⟨w1.heap.size, j + n, none⟩ (.int .u32 0)).cell? ⟨w3.heap.size, j, none⟩ = some (.int .u32 (old : Int)) := ⟨_, HL2.out.cell (by rw [HQL.out]; omega)⟩
          have hfr7 := HL2.out.frozen j
          clear hr6 hg6 ht6 hds hyw hyc6 hfr6 hyc hfr5 hQ6 hV6 hB6 hr5 hQ5 hV5 hB5 hrU hrQ hlv hbel hg5
          have HR1 : Hid (Row ((w6.setCell ⟨w1.heap.size, j + n, none⟩ (.int .u32 0)).setCell ⟨w3.heap.size, j, none⟩ (.int .u32 (Gk : Int))) w1.heap.size (U3.set (j + n) 0)) := Row.far (by exact HL1.out) hg13 _
          have HR2 := Lib.hid (HL2.out.set_ j Gk)
          have HR3 := Lib.hid (HL3.out.only (only_setCell (World.grownBy.refl _ _) (p := ⟨w3.heap.size, j, none⟩) (.inl rfl) (.int .u32 (Gk : Int))) HNE3.out)
          have HB := Lib.hid (HL4.out.setCell (p := ⟨w3.heap.size, j, none⟩) (show w1.heap.size ≤ w3.heap.size from by omega) (.int .u32 (Gk : Int)))
          generalize w6.setCell ⟨w1.heap.size, j + n, none⟩ (.int .u32 0) = w7 at *
          go_wp2_with fail
          go_roundw
          case rel => exact ⟨k + 1, _, _, by omega, by go_num, by exact HR1.out, by exact HR2.out, by first | exact HR3.out | exact HR3.out.drewN 1, by rw [HJ.out]; exact HDL.out, by first | exact HB.out | exact HB.out.drew | exact below_drewN HB.out _⟩
          case measure => simp [intOf]; omega
    · obtain rfl : k = st := by omega
      rw [Nat.sub_self] at hdl
      have HUL := Lib.hid hdl.lenU
      have HE := Lib.hid (hdl.end_ (b := M.val bl) hK0 HV.out.symm HVV.out.2.1 (by rw [HUL.out]; omega))
      have HQF := Lib.hid hdl.fitQ
      have HQL := Lib.hid hdl.lenQ
      have HUF := Lib.hid hdl.fitU
      clear hdl
      have hlU : Lims wr (some ⟨w1.heap.size, 0, none⟩) n (U.take n) := (hrU.lims HUF.out HUL.out).take (by omega)
      have HTQ : Hid (∀ W : World, Row W w3.heap.size Q → Calls Try.prog 36 #[.slice (some ⟨w3.heap.size, 0, none⟩) k k] W (Trimmed W Q k)) :=
        fun W q => trim_any _ k k Q W (q.lims HQF.out HQL.out) (Nat.le_refl _) (by unfold maxLen; omega)
      have HSD : Hid (∀ (W : World) (cc : Nat), Lims W (some ⟨w1.heap.size, 0, none⟩) n (U.take n) → Calls Try.prog 60 #[.slice (some ⟨w1.heap.size, 0, none⟩) n cc, .int .i64 s] W (ShiftedDown W (U.take n) n K)) :=
        fun W cc q => shiftDown_any _ n cc s K (U.take n) W q hs HK (by omega)
      have HTR : Hid (∀ (W : World) (g : Nat) (L : List Nat), Row W g L → M.Fit L → L.length = n → Calls Try.prog 36 #[.slice (some ⟨g, 0, none⟩) n n] W (Trimmed W L n)) :=
        fun W g L q1 q2 q3 => trim_any _ n n L W (q1.lims q2 q3) (Nat.le_refl _) (by unfold maxLen; omega)
      have hszr : w3.heap.size < wr.heap.size := hrQ.lt
      have hnk : n ≤ k + n := by omega
      go_wp2_with fail
      go_region_with (first
        | (go_at_call 60; go_loud (refine (HSD.out _ _ (by exact hlU)).mono ?_); rintro e w9 ⟨L9, rfl, r91, r92, r93, r94, r95⟩; go_loud (have hq9 : Row w9 w3.heap.size Q := Row.below (by exact hrQ) r95 (by exact hszr)); go_loud (have hb9 : Below w1.heap.size w1 w9 := (Below.drew hbel).trans (r95.mono (by exact hbel.size))))
        | (go_at_call 36; refine (HTR.out _ _ L9 (by exact r91) r93 r92).mono ?_; rintro e w7 ⟨A7, n7, c7, rfl, t71, t72, t73, t74, t75, t76, rfl⟩)
        | (go_at_call 36; refine (HTQ.out _ (by first | exact hq9 | exact hrQ)).mono ?_; rintro e w8 ⟨A8, n8, c8, rfl, t81, t82, t83, t84, t85, t86, rfl⟩))
      all_goals
        go_wp2_with fail
        go_ret2
        exact ⟨_, _, rfl, ⟨A8, n8, c8, _, rfl, by first | exact t81 | exact t81.below r95, t82, t83.trans HE.out.1, t85, by unfold maxLen; omega⟩, ⟨A7, n7, c7, _, rfl, t71, t72, t73.trans (r94.trans HE.out.2), t75, by unfold maxLen; omega⟩, hb9⟩
end Go.Proofs.Ytefkkmnhnldcbaa
