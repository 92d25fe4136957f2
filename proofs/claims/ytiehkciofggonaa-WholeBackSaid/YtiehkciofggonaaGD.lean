/- several texts in one. -/
import Derived.Test.YtiehkciofggonaaGC
import Derived.Test.YtiehkciofggonaaShelf
import Derived.Test.YtiehkciofggonaaGB
import Derived.Test.YtiehkciofggonaaGM
import Derived.Deep.RegionWith
/- bits.LeadingZeros32 by the number of bits; divideLong. -/
namespace Go.Proofs.Ytiehkciofggonaa
open Go.RowKit

theorem bitLen_spec : ∀ (k x : Nat), k ≤ 64 → x < 2 ^ k → x < 2 ^ Lib.bitLen x ∧ (1 ≤ x → 1 ≤ Lib.bitLen x ∧ 2 ^ (Lib.bitLen x - 1) ≤ x)
  | 0, x, _, h => by
    obtain rfl : x = 0 := by simpa using h
    exact ⟨by decide, fun h => absurd h (by omega)⟩
  | k + 1, x, hk, h => by
    rcases Nat.eq_zero_or_pos x with rfl | h0
    · exact ⟨by decide, fun h => absurd h (by omega)⟩
    have h64 : x < 2 ^ 64 := Nat.lt_of_lt_of_le h (Nat.pow_le_pow_right (by omega) hk)
    have e := Lib.bitLen_half x (by omega) h64
    obtain ⟨h1, h2⟩ := bitLen_spec k (x / 2) (by omega) (by rw [Nat.pow_succ] at h; omega)
    have e2 : Lib.bitLen x = Lib.bitLen (x / 2) + 1 := by omega
    rw [e2, Nat.pow_succ, Nat.add_sub_cancel]
    refine ⟨by omega, fun _ => ⟨by omega, ?_⟩⟩
    rcases Nat.eq_zero_or_pos (x / 2) with h3 | h3
    · rw [h3, show Lib.bitLen 0 = 0 from by decide]
      exact h0
    · obtain ⟨h4, h5⟩ := h2 h3
      obtain ⟨b, hb⟩ : ∃ b, Lib.bitLen (x / 2) = b + 1 := ⟨Lib.bitLen (x / 2) - 1, by omega⟩
      rw [hb, Nat.add_sub_cancel] at h5
      rw [hb, Nat.pow_succ]
      omega

theorem lz_any (x : Nat) (h1 : 1 ≤ x) (h2 : x ≤ 4294967295) : ∃ s K : Nat, s ≤ 31 ∧ Hid (K = 2 ^ s) ∧ 2147483648 ≤ x * K ∧ x * K ≤ 4294967295 ∧
    ∀ w, Calls Try.prog 85 #[.int .u32 (x : Int)] w fun e w' => e = .returned (.int .i64 (s : Nat)) ∧ w' = w := by
  have hx : x < 2 ^ 32 := by omega
  obtain ⟨h3, h4⟩ := bitLen_spec 32 x (by omega) hx
  obtain ⟨h5, h6⟩ := h4 h1
  have h7 := Lib.bitLen_le x 32 (by omega) hx
  refine ⟨32 - Lib.bitLen x, 2 ^ (32 - Lib.bitLen x), by omega, rfl, ?_, ?_, fun w => ?_⟩
  · have := Nat.mul_le_mul_right (2 ^ (32 - Lib.bitLen x)) h6
    rw [← Nat.pow_add, show Lib.bitLen x - 1 + (32 - Lib.bitLen x) = 31 from by omega] at this
    exact this
  · have := Nat.mul_le_mul_right (2 ^ (32 - Lib.bitLen x)) (show x + 1 ≤ 2 ^ Lib.bitLen x from h3)
    rw [← Nat.pow_add, show Lib.bitLen x + (32 - Lib.bitLen x) = 32 from by omega, Nat.add_mul] at this
    have := Nat.one_le_two_pow (n := 32 - Lib.bitLen x)
    omega
  · refine (Try.bits_LeadingZeros32 (x : Int) w (by omega) (by omega)).mono ?_
    rintro e w' ⟨rfl, rfl⟩
    refine ⟨ret_int ?_, rfl⟩
    rw [Int.toNat_natCast]
    omega
end Go.Proofs.Ytiehkciofggonaa

/- nat: divideLong: what it answers. -/
namespace Go.Proofs.Ytiehkciofggonaa
open Go.RowKit

/-- two numbers -/
def GivesPair (W : World) (N R : Nat) (e : Ending) (w' : World) : Prop :=
  ∃ u v, e = .returned (.tuple #[u, v]) ∧ Num w' u N ∧ Num w' v R ∧ Below W.heap.size W w'

set_option maxHeartbeats 4000000 in
theorem divideLong_any (A B : Option Addr) (la n c d : Nat) (al bl : List Nat) (w : World) (ha : Lims w A la al) (hb : Lims w B n bl) (hn : 2 ≤ n) (hla : n ≤ la) (hl2 : la ≤ 1000000) (hx0 : 1 ≤ bl.getD (n - 1) 0) (hnd : n ≤ d) (hd : d ≤ maxLen) :
    Calls Try.prog 83 #[.slice A la c, .slice B n d] w (GivesPair w (M.val al / M.val bl) (M.val al % M.val bl)) := by
  unfold maxLen at hd
  obtain ⟨n1, Hn1⟩ : ∃ n1, Hid (n - 1 = n1) := ⟨_, rfl⟩
  have en1 : (n : Int) - 1 = (n1 : Int) := by have := Hn1.out; omega
  have ln1 : n1 < n := by have := Hn1.out; omega
  obtain ⟨x, HX⟩ : ∃ x, Hid (x = bl.getD (n - 1) 0) := ⟨_, rfl⟩
  rw [← HX.out] at hx0
  have hxB : x ≤ 4294967295 := by rw [HX.out]; exact fit_of hb.2.1 _
  obtain ⟨bb, bo, rfl, hbb, hbc⟩ := hb.at_ (by omega)
  obtain ⟨x', HX', _, hcx⟩ := hbc n1 ln1
  obtain rfl : x' = x := by rw [HX'.out, HX.out, Hn1.out]
  clear hbc HX'
  obtain ⟨s, K, hs, HK, hK1, hK2, HLZ⟩ := lz_any x' hx0 hxB
  have hK0 : 1 ≤ K := by rw [HK.out]; exact Nat.one_le_two_pow
  have hKm : K ≤ 2147483648 := by rw [HK.out]; exact Nat.pow_le_pow_right (n := 2) (by omega) hs
  obtain ⟨R, HR⟩ : ∃ R, Hid (K * R = M.BB) := ⟨2 ^ (32 - s), by rw [HK.out, ← Nat.pow_add, show s + (32 - s) = 32 from by omega, M.BB_eq]; exact rfl⟩
  have HLZ := Lib.hid HLZ
  obtain ⟨st, Hst⟩ : ∃ st, Hid (la - n + 1 = st) := ⟨_, rfl⟩
  have est : (la : Int) - (n : Int) + 1 = (st : Int) := by have := Hst.out; omega
  have hst1 : st ≤ 1000000 := by have := Hst.out; omega
  have hst2 : la + 1 = st + n := by have := Hst.out; omega
  have hmk := make_any st (by omega)
  go_enter Try.func83, Try.ntmps83
  go_wp2_with fail
  refine (HLZ.out w).mono ?_
  rintro e w1 ⟨rfl, rfl⟩
  go_wp2_with fail
  refine (shiftUp_any A la c s K al w1 ha hs HK hl2).mono ?_
  rintro e w2 ⟨U0, rfl, hu1, hu2, hu3, hu4, hu5⟩
  have hsz2 := hu5.size
  have hlt2 := hu1.lt
  go_wp2_with fail
  refine (shiftUp_any _ n d s K bl w2 (hb.below hu5) hs HK (by omega)).mono ?_
  rintro e w3 ⟨V0, rfl, hv1, hv2, hv3, hv4, hv5⟩
  have hsz3 := hv5.size
  have hlt3 := hv1.lt
  have hnw : n ≤ n + 1 := by omega
  go_wp2_with fail
  have HVV := Lib.hid (M.shifted hb.1 hv2 hb.2.1 hv3 (by omega) HX.out HR.out hK1 hK2 hv4)
  obtain ⟨V, HV⟩ : ∃ V, Hid (M.val bl * K = V) := ⟨_, rfl⟩
  rw [HV.out] at HVV
  have HLU : Hid (U0.length = st + n) := hu2.trans hst2
  have hrowU := hu1.below hv5 hlt2
  have HB3 : Hid (Below w1.heap.size w1 w3) := hu5.trans (hv5.mono (by omega))
  have hlv : Lims w3 (some ⟨w2.heap.size, 0, none⟩) n (V0.take n) := (hv1.lims hv3 hv2).take (by omega)
  have hvb : 2147483648 * M.BB ^ (n - 1) ≤ V := by
    obtain ⟨h1, h2, h3⟩ := HVV.out
    have e := M.val_at (V0.take n) (n - 1) (by rw [List.length_take, hv2]; omega)
    have : M.BB ^ (n - 1) * 2147483648 ≤ M.BB ^ (n - 1) * (V0.take n).getD (n - 1) 0 := Nat.mul_le_mul_left _ h3
    rw [Nat.mul_add] at e
    rw [← h1, Nat.mul_comm]
    omega
  have HVB := Lib.hid hvb
  clear hvb
  have HDL0 := Lib.hid (M.DL.start (n := n) (s := st) HLU.out hu3 (M.begun ha.1 ha.2.1 HLU.out hst2 (by omega) hu4 hKm HVB.out))
  rw [hu4] at HDL0
  obtain ⟨vl, Hvl⟩ : ∃ vl, Hid (V0.take n = vl) := ⟨_, rfl⟩
  rw [Hvl.out] at HVV hlv
  have hrow3 := Row.zeros_ w3 st
  have HB4 : Hid (Below w1.heap.size w1 (w3.alloc (.cells (zeros st) 57))) := HB3.out.alloc (by omega) _
  have HV4 := hlv.below ((Below.refl _ w3).alloc (Nat.le_refl _) (.cells (zeros st) 57))
  have HU4 := hrowU.alloc (.cells (zeros st) 57)
  clear hrowU hlv hv1 hv2 hv3 hv4 hv5 hu1 hu2 hu3 hu4 hu5 HX hcx
  go_loopw [40] (fun kv wr => ∃ (k : Nat) (U Q : List Nat), k ≤ st ∧ kv = .int .i64 k ∧ Row wr w1.heap.size U ∧ Row wr w3.heap.size Q ∧ Lims wr (some ⟨w2.heap.size, 0, none⟩) n vl ∧ M.DL U Q (M.val al * K) V n st (st - k) ∧ Below w1.heap.size w1 wr) (fun kv _ => st - (intOf kv).toNat)
  case atStart => exact ⟨0, _, _, by omega, rfl, HU4, hrow3, HV4, HDL0.out, HB4.out⟩
  case round =>
    obtain ⟨k, U, Q, hk, rfl, hrU, hrQ, hlv, hdl, hbel⟩ := hrel
    by_cases hlt : k < st
    · obtain ⟨j, Hj⟩ : ∃ j, Hid (st - 1 - k = j) := ⟨_, rfl⟩
      have ej : (st : Int) - 1 - (k : Int) = (j : Int) := by have := Hj.out; omega
      have hj1 : j < st := by have := Hj.out; omega
      obtain ⟨h, Hh⟩ : ∃ h, Hid (j + n + 1 = h) := ⟨_, rfl⟩
      have eh : (j : Int) + (n : Int) + 1 = (h : Int) := by have := Hh.out; omega
      have hh1 : h ≤ st + n := by have := Hh.out; omega
      have hh2 : j ≤ h := by have := Hh.out; omega
      have hh3 : h - j = n + 1 := by have := Hh.out; omega
      rw [show st - k = j + 1 from by have := Hj.out; omega] at hdl
      have HD := Lib.hid hdl
      clear hdl
      obtain ⟨hp1, hp2, hp3⟩ := HD.out.part hj1 HVV.out.2.1
      have HP := Lib.hid hp1
      clear hp1 hp2 hp3
      have HU := Lib.hid HD.out.fitU
      have HUL := Lib.hid HD.out.lenU
      have HVL := Lib.hid HVV.out.1
      have HG := Lib.hid (guessLimb_any (some ⟨w1.heap.size, j, none⟩) (some ⟨w2.heap.size, 0, none⟩) n (n + 1) (st + n - j) (n + 1) _ vl wr (hrU.lims_at HU.out (i := j) (n := n + 1) (by rw [HUL.out]; omega)) hlv hn (by omega) (by omega) HVV.out.2.2 (by rw [HVL.out]; exact HP.out))
      rw [HVL.out] at HG
      have hne : ∀ (b o : Nat), (some ⟨w2.heap.size, 0, none⟩ : Option Addr) = some ⟨b, o, none⟩ → b ≠ w1.heap.size := by
        intro b o e
        injection e with e
        injection e with e
        omega
      have HNE := Lib.hid hne
      clear hne
      have HVLL := Lib.hid hlv.1
      go_wp2_with fail
      refine HG.out.mono ?_
      rintro e w4 ⟨G, rfl, hga, q4, rfl⟩
      have hG := hga.lt
      have HGA := Lib.hid hga
      clear hga HG
      go_wp2_with fail
      refine (takeTimes_any w1.heap.size j n (n + 1) (st + n - j) (n + 1) G (some ⟨w2.heap.size, 0, none⟩) vl U (wr.drewN q4) (hrU.drewN _) HU.out (hlv.drewN _) HNE.out (by rw [HUL.out]; omega) (by omega) (by rw [HUL.out]; omega) hG).mono ?_
      rintro e w5 ⟨U2, bo5, rfl, hb5, hr5, hg5, ht5⟩
      have HT := Lib.hid ht5
      clear ht5
      have hQ5 := (hrQ.drewN q4).grown hg5 (by intro e; injection e; omega)
      have hV5 := (hlv.drewN q4).only hg5 HNE.out
      have hB5 := (below_drewN hbel q4).grown hg5 (by exact hbel.size) (by intro q hq; injection hq with hq; omega)
      have HQL := Lib.hid HD.out.lenQ
      have HJ : Hid (st - (k + 1) = j) := (show _ = _ from by have := Hj.out; omega)
      have hg13 : w1.heap.size ≠ w3.heap.size := by omega
      have hne3 : ∀ (b o : Nat), (some ⟨w2.heap.size, 0, none⟩ : Option Addr) = some ⟨b, o, none⟩ → b ≠ w3.heap.size := by
        intro b o e
        injection e with e
        injection e with e
        omega
      have HNE3 := Lib.hid hne3
      clear hne3
      rcases (show bo5 = 0 ∨ bo5 = 1 from by omega) with rfl | rfl
      · have hdl2 := HD.out.step hj1 HVV.out.2.1 (M.DS.right HVL.out HT.out HGA.out)
        obtain ⟨old, hst⟩ : ∃ old : Nat, w5.cell? ⟨w3.heap.size, j, none⟩ = some (.int .u32 (old : Int)) := ⟨_, hQ5.cell (by rw [HQL.out]; omega)⟩
        have hfr := hQ5.frozen j
        have HR1 := Lib.hid (hr5.far (p := ⟨w3.heap.size, j, none⟩) hg13 (.int .u32 (G : Int)))
        have HR2 := Lib.hid (hQ5.set_ j G)
        have HR3 := Lib.hid (hV5.only (only_setCell (World.grownBy.refl w5 _) (p := ⟨w3.heap.size, j, none⟩) (.inl rfl) (.int .u32 (G : Int))) HNE3.out)
        have HB := Lib.hid (hB5.setCell (p := ⟨w3.heap.size, j, none⟩) (show w1.heap.size ≤ w3.heap.size from by omega) (.int .u32 (G : Int)))
        have HDL := Lib.hid hdl2
        clear hdl2 hr5 hQ5 hV5 hB5 hrU hrQ hlv hbel hg5
        go_wp2_with fail
        go_roundw
        case rel => exact ⟨k + 1, U2, _, by omega, by go_num, HR1.out, HR2.out, HR3.out, by rw [HJ.out]; exact HDL.out, HB.out⟩
        case measure => simp [intOf]; omega
      · have hG1 := HT.out.pos (by rw [HUL.out]; omega)
        obtain ⟨Gk, HGk⟩ : ∃ Gk, Hid (G - 1 = Gk) := ⟨_, rfl⟩
        have eGk : (G : Int) - 1 = (Gk : Int) := by have := HGk.out; omega
        have hGk : Gk ≤ 4294967295 := by have := HGk.out; omega
        have wGk : IntKind.u64.wrap (Gk : Int) = (Gk : Int) := IntWalk.u64_in _ (by omega)
        have HC : Hid (∀ (W : World) (nn cc dd : Nat), Row W w1.heap.size U2 → Lims W (some ⟨w2.heap.size, 0, none⟩) n vl → n ≤ nn → Calls Try.prog 69 #[.slice (some ⟨w1.heap.size, j, none⟩) nn cc, .slice (some ⟨w2.heap.size, 0, none⟩) n dd, .int .u64 1] W (AddedT W w1.heap.size j n 1 vl U2)) :=
          fun W nn cc dd q1 q2 q3 => addTimes_any w1.heap.size j n nn cc dd 1 _ vl U2 W q1 HT.out.fit q2 HNE.out (by rw [HT.out.len, HUL.out]; omega) q3 (by rw [HT.out.len, HUL.out]; omega) (by omega)
        obtain ⟨y, HY⟩ : ∃ y, Hid (y = U2.getD (j + n) 0) := ⟨_, rfl⟩
        have hyc : w5.cell? ⟨w1.heap.size, j + n, none⟩ = some (.int .u32 (y : Int)) := by rw [HY.out]; exact hr5.cell (by rw [HT.out.len, HUL.out]; omega)
        have hfr5 := hr5.frozen (j + n)
        go_wp2_with fail
        go_region_with (go_at_call 69; go_loud (refine (HC.out _ _ _ _ (by exact hr5) (by exact hV5) (by omega)).mono ?_); rintro e w6 ⟨U3, cy, rfl, hr6, hg6, ht6⟩; go_loud (obtain ⟨hds, hsum⟩ := M.DS.mended HVL.out HVLL.out (by rw [HUL.out]; omega) HVV.out.2.1 HT.out HGA.out ht6 HY.out); go_loud (have hyw : IntKind.u32.wrap ((y : Int) + (cy : Int)) = 0 := by (rw [show (y : Int) + (cy : Int) = 4294967296 from by rw [M.BB_eq] at hsum; omega]; exact rfl)); go_loud (have hyc6 : w6.cell? ⟨w1.heap.size, j + n, none⟩ = some (.int .u32 (y : Int)) := by (rw [HY.out, ← ht6.rest (j + n) (by omega)]; exact hr6.cell (by rw [ht6.len, HT.out.len, HUL.out]; omega))); have hfr6 := hr6.frozen (j + n); clear hsum)
        all_goals
          have hQ6 : Row w6 w3.heap.size Q := Row.grown (by exact hQ5) hg6 (by intro e; injection e; omega)
          have hV6 : Lims w6 (some ⟨w2.heap.size, 0, none⟩) n vl := Lims.only (by exact hV5) hg6 HNE.out
          have hB6 : Below w1.heap.size w1 w6 := (Below.drew hB5).grown hg6 (by exact hB5.size) (by intro q hq; injection hq with hq; omega)
          have HL1 := Lib.hid (hr6.set_ (j + n) 0)
          have HL2 := Lib.hid (hQ6.far (p := ⟨w1.heap.size, j + n, none⟩) (Ne.symm hg13) (.int .u32 0))
          have HL3 := Lib.hid (hV6.only (only_setCell (World.grownBy.refl w6 _) (p := ⟨w1.heap.size, j + n, none⟩) (.inl rfl) (.int .u32 0)) HNE.out)
          have HL4 := Lib.hid (hB6.setCell (p := ⟨w1.heap.size, j + n, none⟩) (show w1.heap.size ≤ w1.heap.size from Nat.le_refl _) (.int .u32 0))
          have HDL := Lib.hid (HD.out.step hj1 HVV.out.2.1 hds)
          rw [HGk.out] at HDL
          obtain ⟨old, hst⟩ : ∃ old : Nat, (w6.setCell ⟨w1.heap.size, j + n, none⟩ (.int .u32 0)).cell? ⟨w3.heap.size, j, none⟩ = some (.int .u32 (old : Int)) := ⟨_, HL2.out.cell (by rw [HQL.out]; omega)⟩
          have hfr7 := HL2.out.frozen j
          clear hr6 hg6 ht6 hds hyw hyc6 hfr6 hyc hfr5 hQ6 hV6 hB6 hr5 hQ5 hV5 hB5 hrU hrQ hlv hbel hg5
          have HR1 : Hid (Row ((w6.setCell ⟨w1.heap.size, j + n, none⟩ (.int .u32 0)).setCell ⟨w3.heap.size, j, none⟩ (.int .u32 (Gk : Int))) w1.heap.size (U3.set (j + n) 0)) := Row.far (by exact HL1.out) hg13 _
          have HR2 := Lib.hid (HL2.out.set_ j Gk)
          have HR3 := Lib.hid (HL3.out.only (only_setCell (World.grownBy.refl _ _) (p := ⟨w3.heap.size, j, none⟩) (.inl rfl) (.int .u32 (Gk : Int))) HNE3.out)
          have HB := Lib.hid (HL4.out.setCell (p := ⟨w3.heap.size, j, none⟩) (show w1.heap.size ≤ w3.heap.size from by omega) (.int .u32 (Gk : Int)))
          generalize w6.setCell ⟨w1.heap.size, j + n, none⟩ (.int .u32 0) = w7 at *
          go_wp2_with fail
          go_roundw
          case rel => exact ⟨k + 1, _, _, by omega, by go_num, by exact HR1.out, by exact HR2.out, by first | exact HR3.out | exact HR3.out.drewN 1, by rw [HJ.out]; exact HDL.out, by first | exact HB.out | exact HB.out.drew | exact below_drewN HB.out _⟩
          case measure => simp [intOf]; omega
    · obtain rfl : k = st := by omega
      rw [Nat.sub_self] at hdl
      have HUL := Lib.hid hdl.lenU
      have HE := Lib.hid (hdl.end_ (b := M.val bl) hK0 HV.out.symm HVV.out.2.1 (by rw [HUL.out]; omega))
      have HQF := Lib.hid hdl.fitQ
      have HQL := Lib.hid hdl.lenQ
      have HUF := Lib.hid hdl.fitU
      clear hdl
      have hlU : Lims wr (some ⟨w1.heap.size, 0, none⟩) n (U.take n) := (hrU.lims HUF.out HUL.out).take (by omega)
      have HTQ : Hid (∀ W : World, Row W w3.heap.size Q → Calls Try.prog 60 #[.slice (some ⟨w3.heap.size, 0, none⟩) k k] W (Trimmed W Q k)) :=
        fun W q => trim_any _ k k Q W (q.lims HQF.out HQL.out) (Nat.le_refl _) (by unfold maxLen; omega)
      have HSD : Hid (∀ (W : World) (cc : Nat), Lims W (some ⟨w1.heap.size, 0, none⟩) n (U.take n) → Calls Try.prog 89 #[.slice (some ⟨w1.heap.size, 0, none⟩) n cc, .int .i64 s] W (ShiftedDown W (U.take n) n K)) :=
        fun W cc q => shiftDown_any _ n cc s K (U.take n) W q hs HK (by omega)
      have HTR : Hid (∀ (W : World) (g : Nat) (L : List Nat), Row W g L → M.Fit L → L.length = n → Calls Try.prog 60 #[.slice (some ⟨g, 0, none⟩) n n] W (Trimmed W L n)) :=
        fun W g L q1 q2 q3 => trim_any _ n n L W (q1.lims q2 q3) (Nat.le_refl _) (by unfold maxLen; omega)
      have hszr : w3.heap.size < wr.heap.size := hrQ.lt
      have hnk : n ≤ k + n := by omega
      go_wp2_with fail
      go_region_with (first
        | (go_at_call 89; go_loud (refine (HSD.out _ _ (by exact hlU)).mono ?_); rintro e w9 ⟨L9, rfl, r91, r92, r93, r94, r95⟩; go_loud (have hq9 : Row w9 w3.heap.size Q := Row.below (by exact hrQ) r95 (by exact hszr)); go_loud (have hb9 : Below w1.heap.size w1 w9 := (Below.drew hbel).trans (r95.mono (by exact hbel.size))))
        | (go_at_call 60; refine (HTR.out _ _ L9 (by exact r91) r93 r92).mono ?_; rintro e w7 ⟨A7, n7, c7, rfl, t71, t72, t73, t74, t75, t76, rfl⟩)
        | (go_at_call 60; refine (HTQ.out _ (by first | exact hq9 | exact hrQ)).mono ?_; rintro e w8 ⟨A8, n8, c8, rfl, t81, t82, t83, t84, t85, t86, rfl⟩))
      all_goals
        go_wp2_with fail
        go_ret2
        exact ⟨_, _, rfl, ⟨A8, n8, c8, _, rfl, by first | exact t81 | exact t81.below r95, t82, t83.trans HE.out.1, t85, by unfold maxLen; omega⟩, ⟨A7, n7, c7, _, rfl, t71, t72, t73.trans (r94.trans HE.out.2), t75, by unfold maxLen; omega⟩, hb9⟩
end Go.Proofs.Ytiehkciofggonaa

/- nat: DivMod, where the numbers are great; the whole of it. -/
namespace Go.Proofs.Ytiehkciofggonaa
open Go.RowKit

theorem GivesTwo.of {W : World} {u v : Value} {N R : Nat} {w' : World} (hu : Num w' u N) (hv : Num w' v R) (hb : Below W.heap.size W w') : GivesTwo W N R (.returned (.tuple #[u, v, .int .i64 0])) w' := ⟨u, v, rfl, hu, hv, hb⟩

set_option maxHeartbeats 2000000 in
theorem divMod_big (A B : Option Addr) (n m c d : Nat) (k l : List Nat) (w : World) (h : Two w A B n m c d k l) (h0 : 0 < M.val l) (hle : M.val l ≤ M.val k) (hk : 18446744073709551615 < M.val k) :
    Calls Try.prog 72 #[.slice A n c, .slice B m d] w (GivesTwo w (M.val k / M.val l) (M.val k % M.val l)) := by
  obtain ⟨ha, hb, hn, hm, hc, hd, hs, ht⟩ := h
  obtain ⟨x, HX⟩ : ∃ x, Hid (M.val k = x) := ⟨_, rfl⟩
  obtain ⟨y, HY⟩ : ∃ y, Hid (M.val l = y) := ⟨_, rfl⟩
  rw [HX.out, HY.out]
  rw [HX.out] at hk hle
  rw [HY.out] at h0 hle
  have HK := Lib.hid hk
  clear hk
  go_enter Try.func72, Try.ntmps72
  go_wp2_with fail
  refine (trim_any _ _ _ _ _ ha hn hc).mono ?_
  rintro e w1 ⟨A', n', c', rfl, h1, h2, h3, h4, h5, h6, rfl⟩
  go_wp2_with fail
  refine (trim_any _ _ _ _ _ hb hm hd).mono ?_
  rintro e w1 ⟨B', m', d', rfl, g1, g2, g3, g4, g5, g6, rfl⟩
  rw [HX.out] at h3
  rw [HY.out] at g3
  have hm0 : m' ≠ 0 := by rintro rfl; simp [M.val] at g3; omega
  have hn3 : 2 < n' := by
    rcases Nat.lt_or_ge 2 n' with q | q
    · exact q
    · exfalso
      have q1 := M.val_lt h1.2.1
      rw [h3, h1.1] at q1
      have q2 : M.BB ^ n' ≤ M.BB ^ 2 := Nat.pow_le_pow_right M.BB_pos q
      have q3 : M.BB ^ 2 = 18446744073709551616 := by rw [M.BB_eq]
      have := HK.out
      omega
  have hmn : m' ≤ n' := by
    rcases Nat.lt_or_ge n' m' with q | q
    · exfalso
      have := M.lt_of_shorter (l := k.take n') (m := l.take m') h1.2.1 g2 (by rw [h1.1, g1.1]; exact q)
      omega
    · exact q
  have hla := ha.1
  have hlb := hb.1
  have hn' : n' ≤ 1000000 := by omega
  have hm' : m' ≤ 1000000 := by omega
  clear hla hlb
  have HC := Lib.hid (cmp_any A' B' n' m' c' d' _ _ w h1 g1 h5 g5 (by omega) (by omega))
  rw [h3, g3] at HC
  obtain ⟨z, Hz, hz0⟩ : ∃ z : Int, Hid (M.cmpI x y = z) ∧ 0 ≤ z := ⟨_, rfl, by unfold M.cmpI; rw [if_neg (by omega)]; split <;> omega⟩
  rw [Hz.out] at HC
  generalize k.take n' = a at *
  generalize l.take m' = b at *
  have H3 := Lib.hid h3
  have G3 := Lib.hid g3
  have G2 := Lib.hid g2
  have H2 := Lib.hid h2
  have hc' : c' ≤ maxLen := by omega
  have hd' : d' ≤ maxLen := by omega
  clear h3 g3 h2 g2 h4 g4 h6 g6 ha hb hn hm hc hd hs ht
  have hz : ((m' : Int) == 0) = false := by simpa using hm0
  clear hm0
  go_wp2_with fail
  refine HC.out.mono ?_
  rintro e w1 ⟨rfl, j, rfl⟩
  go_wp2_with fail
  refine (small_no A' n' c' _ hn3).mono ?_
  rintro e w1 ⟨rfl, rfl⟩
  by_cases hm1 : m' = 1
  · subst hm1
    obtain ⟨bb, bo, rfl, hbb, hcs⟩ := g1.at_ (by omega)
    obtain ⟨d0, HD, hd0, hcd⟩ := hcs 0 (by omega)
    have hcd' : w.cell? ⟨bb, bo, none⟩ = some (.int .u32 (d0 : Int)) := hcd
    clear hcs hcd
    have hyd : Hid (y = d0) := by
      rw [← G3.out, HD.out]
      rcases b with _ | ⟨b0, _ | ⟨b1, bs⟩⟩
      · exact absurd g1.1 (by simp)
      · exact (show _ = _ from by simp [M.val])
      · exact absurd g1.1 (by simp)
    have hd1 : 1 ≤ d0 := by have := hyd.out; omega
    rw [hyd.out]
    have NA := Lib.hid (norm_row A' n' c' a _ (h1.drewN j) h5 hc' hn')
    rw [H3.out] at NA
    go_wp2_with fail
    refine NA.out.mono ?_
    rintro e w2 ⟨L, f1, f2, f3, f4, f5, f6⟩
    rcases f6 with ⟨rfl, rfl⟩ | ⟨rfl, f7⟩
    · exfalso
      have := HK.out
      rw [← f3] at this
      simp [M.val] at this
    obtain ⟨p, HPp⟩ : ∃ p, Hid (L.length = p) := ⟨_, rfl⟩
    rw [HPp.out]
    have hp : p ≤ 1000000 := by have := HPp.out; omega
    have hlim := f7.lt
    have hcd2 : w2.cell? ⟨bb, bo, none⟩ = some (.int .u32 (d0 : Int)) := (f5.cell (p := ⟨bb, bo, none⟩) (by exact hbb)).trans (by exact hcd')
    have HD := Lib.hid (divideBy_any (w.drewN j).heap.size p p d0 L w2 f7 f1 (by rw [HPp.out]; exact Nat.le_refl _) (by omega) hd1 hd0)
    obtain ⟨r, Hr⟩ : ∃ r, Hid (x % d0 = r) := ⟨_, rfl⟩
    have hr : r < d0 := by rw [← Hr.out]; exact Nat.mod_lt _ hd1
    have HF3 := Lib.hid f3
    clear f3 f4
    go_wp2_with fail
    refine HD.out.mono ?_
    rintro e w3 ⟨L', rfl, r1, r2, r3, r4, r5, _⟩
    have e1 : M.val (L.take p) = x := by rw [← HF3.out, M.val_take_len L (by rw [HPp.out]; exact Nat.le_refl _)]
    rw [e1] at r5 ⊢
    rw [M.val_take_len L' (by rw [r3, HPp.out]; exact Nat.le_refl _)] at r5
    rw [Hr.out]
    have R3 := Lib.hid (r3.trans HPp.out)
    have R5 := Lib.hid r5
    clear r3 r5 e1
    have HT := Lib.hid (trim_any (some ⟨(w.drewN j).heap.size, 0, none⟩) p p L' w3 (r1.lims r4 R3.out) (Nat.le_refl _) (by unfold maxLen; omega))
    have hb3 : Hid (Below w.heap.size w w3) := (below_drewN (Below.refl _ _) j).trans (f5.grown r2 (by exact Nat.le_of_lt hlim) (by intro q hq; injection hq with hq; exact Nat.le_of_eq hq))
    go_wp2_with fail
    refine HT.out.mono ?_
    rintro e w4 ⟨A3, n3, c3, rfl, t1, t2, t3, t4, t5, t6, rfl⟩
    have T3 := Lib.hid (t3.trans R5.out)
    have T2 := Lib.hid t2
    clear t3 t2
    have HO := Lib.hid (of_any r w3 (by omega))
    go_wp2_with fail
    refine HO.out.mono ?_
    rintro e w5 ⟨v5, rfl, hv5, hb5⟩
    go_wp2_with fail
    go_ret3
    rw [hyd.out]
    exact GivesTwo.of ⟨A3, n3, c3, _, rfl, t1.below hb5, T2.out, T3.out, t5, by unfold maxLen; omega⟩ (by rw [Hr.out]; exact hv5) (hb3.out.trans (hb5.mono hb3.out.size))
  · have hm2 : 2 ≤ m' := by have := hz; simp at this; omega
    have hz1 : ((m' : Int) == 1) = false := by simp; omega
    clear hm1
    have HTop := Lib.hid (G2.out (by intro e; have := g1.1; rw [e] at this; simp at this; omega))
    rw [g1.1] at HTop
    have HL := Lib.hid (divideLong_any A' B' n' m' c' d' a b _ (h1.drewN j) (g1.drewN j) hm2 hmn hn' (by have := HTop.out; omega) g5 hd')
    rw [H3.out, G3.out] at HL
    go_wp2_with fail
    refine HL.out.mono ?_
    rintro e w2 ⟨u, v, rfl, hu, hv, hbel⟩
    go_wp2_with fail
    go_ret3
    exact GivesTwo.of hu hv ((below_drewN (Below.refl _ _) j).trans hbel)

/-- DivMod: the whole of it -/
theorem divMod_any (A B : Option Addr) (n m c d : Nat) (k l : List Nat) (w : World) (h : Two w A B n m c d k l) (h0 : 0 < M.val l) :
    Calls Try.prog 72 #[.slice A n c, .slice B m d] w (GivesTwo w (M.val k / M.val l) (M.val k % M.val l)) := by
  rcases Nat.lt_or_ge (M.val k) (M.val l) with h1 | h1
  · exact divMod_less A B n m c d k l w h h1
  rcases Nat.lt_or_ge 18446744073709551615 (M.val k) with h2 | h2
  · exact divMod_big A B n m c d k l w h h0 h1 h2
  · exact divMod_small A B n m c d k l w h h0 h1 h2
end Go.Proofs.Ytiehkciofggonaa
