/- several texts in one. -/
import Derived.Test.YtiehkciofggonaaGA
import Derived.Test.YtiehkciofggonaaGM
import Derived.Test.YtiehkciofggonaaGB
/- nat: shiftUp, shiftDown: what each answers. -/
namespace Go.Proofs.Ytiehkciofggonaa
open Go.RowKit

theorem or_low (x c s p : Nat) (hp : x * 2 ^ s = p) (hc : c < 2 ^ s) (bp : p ≤ 18446744073709551615) (bc : c ≤ 18446744073709551615) : bits .or .u64 (p : Int) (c : Int) = ((p + c : Nat) : Int) := by
  rw [Go.u64_or_nat _ _ (by omega) (by omega)]
  congr 1
  have := Nat.two_pow_add_eq_or_of_lt (i := s) (b := c) hc x
  rw [Nat.mul_comm, hp] at this
  exact this.symm

/-- shiftUp's answer -/
def ShiftedUp (w : World) (l : List Nat) (n K : Nat) (e : Ending) (w' : World) : Prop :=
  ∃ L : List Nat, e = .returned (.slice (some ⟨w.heap.size, 0, none⟩) (n + 1) (n + 1)) ∧ Row w' w.heap.size L ∧ L.length = n + 1 ∧ M.Fit L ∧ M.val L = M.val l * K ∧ Below w.heap.size w w'

theorem shiftUp_any (A : Option Addr) (n c s K : Nat) (l : List Nat) (w : World) (hl : Lims w A n l) (hs : s ≤ 31) (HK : Hid (K = 2 ^ s)) (hn : n ≤ 1000000) :
    Calls Try.prog 86 #[.slice A n c, .int .i64 s] w (ShiftedUp w l n K) := by
  have hK1 : 1 ≤ K := by rw [HK.out]; exact Nat.one_le_two_pow
  have hK2 : K ≤ 2147483648 := by rw [HK.out]; exact Nat.pow_le_pow_right (n := 2) (by omega) hs
  obtain ⟨m, hm⟩ : ∃ m, Hid (n + 1 = m) := ⟨_, rfl⟩
  have hme : (n : Int) + 1 = (m : Int) := by have := hm.out; omega
  have hm1 : n < m := by have := hm.out; omega
  have hm2 : m ≤ 1000001 := by have := hm.out; omega
  have hmk := make_any m (by omega)
  have hrow0 := Row.zeros_ w m
  have HB0 : Hid (Below w.heap.size w (w.alloc (.cells (zeros m) 57))) := (Below.refl _ _).alloc (Nat.le_refl _) _
  have HST : Hid (M.Shl l (List.replicate m 0) n 0 K 0) := by rw [← hm.out]; exact M.Shl.start hK1
  have HLN : Hid (l.length = n) := hl.1
  go_enter Try.func86, Try.ntmps86
  go_wp2_with fail
  go_loopw [6, 15] (fun cv iv wr => ∃ (i cy : Nat) (L : List Nat), i ≤ n ∧ cy < K ∧ iv = .int .i64 i ∧ cv = .int .u64 cy ∧ Row wr w.heap.size L ∧ M.Shl l L n i K cy ∧ Below w.heap.size w wr) (fun _ iv _ => n - (intOf iv).toNat)
  case atStart => exact ⟨0, 0, _, by omega, by omega, rfl, rfl, hrow0, HST.out, HB0.out⟩
  case round =>
    obtain ⟨i, cy, L, hi, hcy, rfl, rfl, hrow, ht, hbel⟩ := hrel
    have HLL := Lib.hid (ht.len.trans hm.out)
    by_cases hlt : i < n
    · obtain ⟨bb, bo, rfl, hbb, hcs⟩ := hl.at_ (by omega)
      obtain ⟨x, HX, hx, hcx⟩ := hcs i hlt
      have hcx' : wr.cell? ⟨bb, bo + i, none⟩ = some (.int .u32 (x : Int)) := (hbel.cell hbb).trans hcx
      clear hcs hcx
      obtain ⟨old, hst⟩ : ∃ old : Nat, wr.cell? ⟨w.heap.size, i, none⟩ = some (.int .u32 (old : Int)) := ⟨_, hrow.cell (by rw [HLL.out]; omega)⟩
      have hfr := hrow.frozen i
      obtain ⟨p, HP⟩ : ∃ p, Hid (x * K = p) := ⟨_, rfl⟩
      have hp : p ≤ 9223372034707292160 := by rw [← HP.out]; have := Nat.mul_le_mul hx hK2; omega
      have hpe : (x : Int) * 2 ^ s = (p : Int) := by rw [← HP.out, HK.out]; push_cast; rfl
      have ho := or_low x cy s p (by rw [← HK.out]; exact HP.out) (by rw [← HK.out]; exact hcy) (by omega) (by omega)
      obtain ⟨t, HT⟩ : ∃ t, Hid (p + cy = t) := ⟨_, rfl⟩
      rw [HT.out] at ho
      have htb : t ≤ 9223372036854775808 := by have := HT.out; omega
      have hw : IntKind.u64.wrap (p : Int) = (p : Int) := IntWalk.u64_in _ (by omega)
      have ht' := ht.step (t := t) hlt HX.out (by rw [M.BB_eq]; omega) (by rw [HP.out, HT.out])
      have hc2 := ht'.carry
      have HR := Lib.hid (hrow.set_' i (v := (t : Int) % 4294967296) (t % M.BB) (by rw [M.BB_eq]; omega))
      have HB := Lib.hid (hbel.setCell (Nat.le_refl _) (p := ⟨w.heap.size, i, none⟩) (.int .u32 ((t : Int) % 4294967296)))
      have hcr : Hid (((t / M.BB : Nat) : Int) = (t : Int) / 4294967296) := by rw [M.BB_eq]; exact (show _ = _ from by omega)
      clear hrow hbel ht HT HP
      go_wp2_with fail
      go_roundw
      case rel => exact ⟨i + 1, _, _, by omega, hc2, by go_num, by rw [hcr.out], HR.out, ht', HB.out⟩
      case measure => simp [intOf]; omega
    · obtain rfl : i = n := by omega
      have he := ht.end_ HLN.out
      obtain ⟨old, hst⟩ : ∃ old : Nat, wr.cell? ⟨w.heap.size, i, none⟩ = some (.int .u32 (old : Int)) := ⟨_, hrow.cell (by rw [HLL.out]; omega)⟩
      have hfr := hrow.frozen i
      have HE := Lib.hid he
      have HR := Lib.hid (hrow.set_ i cy)
      have HB := Lib.hid (hbel.setCell (Nat.le_refl _) (p := ⟨w.heap.size, i, none⟩) (.int .u32 (cy : Int)))
      have HF := Lib.hid (ht.fit.set i cy (by rw [M.BB_eq]; omega))
      have hcy2 : cy ≤ 2147483648 := by omega
      clear he hrow hbel ht
      go_wp2_with fail
      go_ret
      exact ⟨_, congrArg (fun q => Ending.returned (.slice (some ⟨w.heap.size, 0, none⟩) q q)) hm.out.symm, HR.out, by simp [HLL.out, hm.out], HF.out, HE.out, HB.out⟩

/-- shiftDown's answer -/
def ShiftedDown (w : World) (l : List Nat) (n K : Nat) (e : Ending) (w' : World) : Prop :=
  ∃ L : List Nat, e = .returned (.slice (some ⟨w.heap.size, 0, none⟩) n n) ∧ Row w' w.heap.size L ∧ L.length = n ∧ M.Fit L ∧ M.val L = M.val l / K ∧ Below w.heap.size w w'

theorem shiftDown_any (A : Option Addr) (n c s K : Nat) (l : List Nat) (w : World) (hl : Lims w A n l) (hs : s ≤ 31) (HK : Hid (K = 2 ^ s)) (hn : n ≤ 1000000) :
    Calls Try.prog 89 #[.slice A n c, .int .i64 s] w (ShiftedDown w l n K) := by
  have hK1 : 1 ≤ K := by rw [HK.out]; exact Nat.one_le_two_pow
  obtain ⟨R, HR⟩ : ∃ R, Hid (K * R = M.BB) := ⟨2 ^ (32 - s), by rw [HK.out, ← Nat.pow_add, show s + (32 - s) = 32 from by omega, M.BB_eq]; exact rfl⟩
  have hmk := make_any n (by omega)
  have hrow0 := Row.zeros_ w n
  have HB0 : Hid (Below w.heap.size w (w.alloc (.cells (zeros n) 57))) := (Below.refl _ _).alloc (Nat.le_refl _) _
  have HLN : Hid (l.length = n) := hl.1
  go_enter Try.func89, Try.ntmps89
  go_wp2_with fail
  go_loopw [13] (fun iv wr => ∃ (i : Nat) (L : List Nat), i ≤ n ∧ iv = .int .i64 i ∧ Row wr w.heap.size L ∧ M.Shr l L n i K ∧ Below w.heap.size w wr) (fun iv _ => n - (intOf iv).toNat)
  case atStart => exact ⟨0, _, by omega, rfl, hrow0, M.Shr.start, HB0.out⟩
  case round =>
    obtain ⟨i, L, hi, rfl, hrow, ht, hbel⟩ := hrel
    have HLL := Lib.hid ht.len
    by_cases hlt : i < n
    · have hl2 := hl.below hbel
      obtain ⟨i1, Hi1⟩ : ∃ i1, Hid (i + 1 = i1) := ⟨_, rfl⟩
      have hi1 : (i : Int) + 1 = (i1 : Int) := by have := Hi1.out; omega
      have hi2 : i1 ≤ n := by have := Hi1.out; omega
      have hi3 : IntKind.i64.wrap (i1 : Int) = (i1 : Int) := IntWalk.i64_in _ (by omega)
      obtain ⟨y, HY⟩ : ∃ y, Hid (y = l.getD i1 0) := ⟨_, rfl⟩
      have hy : y ≤ 4294967295 := by rw [HY.out]; exact fit_of hl.2.1 _
      have HC := Lib.hid fun (q : Nat) => limb_q (hl2.drewN q) (n := n) (c := c) (by unfold maxLen; omega) (i := i1) (by unfold maxLen; omega) HY
      obtain ⟨bb, bo, rfl, hbb, hcs⟩ := hl.at_ (by omega)
      obtain ⟨x, HX, hx, hcx⟩ := hcs i hlt
      have hcx' : wr.cell? ⟨bb, bo + i, none⟩ = some (.int .u32 (x : Int)) := (hbel.cell hbb).trans hcx
      clear hcs hcx hl2
      have ho := or_val x y hx hy
      obtain ⟨t, HT⟩ : ∃ t, Hid (x + 4294967296 * y = t) := ⟨_, rfl⟩
      rw [HT.out] at ho
      have htb : t ≤ 18446744073709551615 := by have := HT.out; omega
      obtain ⟨old, hst⟩ : ∃ old : Nat, wr.cell? ⟨w.heap.size, i, none⟩ = some (.int .u32 (old : Int)) := ⟨_, hrow.cell (by rw [HLL.out]; omega)⟩
      have hfr := hrow.frozen i
      obtain ⟨d, HD⟩ : ∃ d, Hid (t / K = d) := ⟨_, rfl⟩
      have hde : (t : Int) / 2 ^ s = (d : Int) := by rw [← HD.out, HK.out]; push_cast; rfl
      have hdb : d ≤ 18446744073709551615 := by have := HD.out; have := Nat.div_le_self t K; omega
      have ht' := ht.step (o := d % M.BB) hlt HX.out (HY.out.trans (by rw [Hi1.out])) hK1 HR.out (by rw [M.BB_eq]; omega) (by rw [← HD.out, ← HT.out, M.BB_eq, Nat.mul_comm y, Nat.add_comm x])
      have HRR : Hid (∀ q, Row ((wr.drewN q).setCell ⟨w.heap.size, i, none⟩ (.int .u32 ((d : Int) % 4294967296))) w.heap.size (L.set i (d % M.BB))) := fun q => (hrow.drewN q).set_' i _ (by rw [M.BB_eq]; omega)
      have HB : Hid (∀ q, Below w.heap.size w ((wr.drewN q).setCell ⟨w.heap.size, i, none⟩ (.int .u32 ((d : Int) % 4294967296)))) := fun q => (below_drewN hbel q).setCell (Nat.le_refl _) _
      clear hrow hbel ht HT HD
      go_wp2_with fail
      go_quiet ((go_at_call 81; exact Calls.quiet_of_same (HC.out _)))
      go_wp2_with fail
      go_roundw
      case rel => exact ⟨i + 1, _, by omega, by rw [Hi1.out], HRR.out _, ht', HB.out _⟩
      case measure => simp [intOf]; omega
    · obtain rfl : i = n := by omega
      have HE := Lib.hid (ht.end_ HLN.out hK1)
      have HF := Lib.hid ht.fit
      clear ht
      go_wp2_with fail
      go_ret
      exact ⟨L, rfl, hrow, HLL.out, HF.out, HE.out, hbel⟩
end Go.Proofs.Ytiehkciofggonaa

/- nat: takeTimes: what it answers. -/
namespace Go.Proofs.Ytiehkciofggonaa
open Go.RowKit

/-- takeTimes' answer -/
def TakenT (W : World) (g o n k : Nat) (l L : List Nat) (e : Ending) (w' : World) : Prop :=
  ∃ (L' : List Nat) (b : Nat), e = .returned (.bool (decide (b = 1))) ∧ b ≤ 1 ∧ Row w' g L' ∧ W.grownBy w' (some g) ∧ M.TTEnd l L L' o n k b

theorem takeTimes_any (g o n nn c d k : Nat) (B : Option Addr) (l L : List Nat) (w : World) (hrow : Row w g L) (hf : M.Fit L) (hl : Lims w B n l) (hne : ∀ b off, B = some ⟨b, off, none⟩ → b ≠ g) (hn : o + n < L.length) (hnn : n < nn) (hc : L.length ≤ 10000000) (hk : k ≤ 4294967295) :
    Calls Try.prog 88 #[.slice (some ⟨g, o, none⟩) nn c, .slice B n d, .int .u64 k] w (TakenT w g o n k l L) := by
  go_enter Try.func88, Try.ntmps88
  go_wp2_with fail
  go_loopw [8, 9, 17] (fun cv bv iv wr => ∃ (i cy bo : Nat) (L' : List Nat), i ≤ n ∧ cy ≤ 4294967295 ∧ bo ≤ 1 ∧ iv = .int .i64 i ∧ cv = .int .u64 cy ∧ bv = .int .u64 bo ∧ Row wr g L' ∧ M.TT l L L' o i k cy bo ∧ w.grownBy wr (some g)) (fun _ _ iv _ => n - (intOf iv).toNat)
  case atStart => exact ⟨0, 0, 0, L, by omega, by omega, by omega, rfl, rfl, rfl, hrow, M.TT.start hf, World.grownBy.refl _ _⟩
  case round =>
    obtain ⟨i, cy, bo, L', hi, hcy, hbo, rfl, rfl, rfl, hrow', ht, hgr⟩ := hrel
    have hll := ht.len
    have HLL := Lib.hid hll
    clear hll
    by_cases hlt : i < n
    · obtain ⟨bb, bof, rfl, hbb, hcs⟩ := hl.at_ (by omega)
      obtain ⟨x, HX, hx, hcx⟩ := hcs i hlt
      have hbg := hne bb bof rfl
      have hcx' : wr.cell? ⟨bb, bof + i, none⟩ = some (.int .u32 (x : Int)) := (World.cell?_of_block (hgr.block bb hbb (by simp; omega))).trans hcx
      clear hcs hcx
      obtain ⟨y, HY⟩ : ∃ y, Hid (y = L'.getD (o + i) 0) := ⟨_, rfl⟩
      have hy : y ≤ 4294967295 := by rw [HY.out]; exact fit_of ht.fit _
      have hcell : wr.cell? ⟨g, o + i, none⟩ = some (.int .u32 (y : Int)) := by rw [HY.out]; exact hrow'.cell (by rw [HLL.out]; omega)
      have hfr := hrow'.frozen (o + i)
      obtain ⟨m, HM⟩ : ∃ m, Hid (x * k = m) := ⟨_, rfl⟩
      have hm : m ≤ 18446744065119617025 := by rw [← HM.out]; have := Nat.mul_le_mul hx hk; omega
      have hme : (x : Int) * (k : Int) = (m : Int) := by rw [← HM.out]; rfl
      obtain ⟨p, HP⟩ : ∃ p, Hid (m + cy = p) := ⟨_, rfl⟩
      have hp : p ≤ 18446744073709551615 := by have := HP.out; omega
      have hpe : (m : Int) + (cy : Int) = (p : Int) := by have := HP.out; omega
      have hw : IntKind.u64.wrap (m : Int) = (m : Int) := IntWalk.u64_in _ (by omega)
      have hw2 : IntKind.u64.wrap (p : Int) = (p : Int) := IntWalk.u64_in _ (by omega)
      obtain ⟨lo, HLO⟩ : ∃ lo, Hid (p % M.BB = lo) := ⟨_, rfl⟩
      obtain ⟨hg, HHI⟩ : ∃ hg, Hid (p / M.BB = hg) := ⟨_, rfl⟩
      have hlo : lo ≤ 4294967295 := by rw [← HLO.out, M.BB_eq]; omega
      have hloe : (p : Int) % 4294967296 = (lo : Int) := by rw [← HLO.out, M.BB_eq]; exact (show _ = _ from by omega)
      have hhie : (p : Int) / 4294967296 = (hg : Int) := by rw [← HHI.out, M.BB_eq]; exact (show _ = _ from by omega)
      obtain ⟨u, t, v, c', hu, htt, hv1, hv2, hvb, hcb, hve⟩ := sub_word y lo bo hy hlo hbo
      have ht' := ht.step (p := p) (v := v) (b' := c') (by omega) HX.out HY.out (by rw [M.BB_eq]; omega) (by rw [M.BB_eq]; omega) (by rw [HM.out, HP.out]) (by rw [M.BB_eq]; omega) hcb (by rw [HLO.out, M.BB_eq]; exact hve)
      rw [HHI.out] at ht'
      have hc2 := ht'.carry
      rw [M.BB_eq] at hc2
      have HR := Lib.hid (hrow'.set_ (o + i) v)
      have HG := Lib.hid (only_setCell hgr (p := ⟨g, o + i, none⟩) (.inl rfl) (.int .u32 (v : Int)))
      clear hrow' hgr ht hve HP HM HLO HHI
      go_wp2_with fail
      go_roundw
      case rel => exact ⟨i + 1, hg, c', _, by omega, by omega, hcb, by go_num, rfl, rfl, HR.out, ht', HG.out⟩
      case measure => simp [intOf]; omega
    · obtain rfl : i = n := by omega
      obtain ⟨y, HY⟩ : ∃ y, Hid (y = L'.getD (o + i) 0) := ⟨_, rfl⟩
      have hy : y ≤ 4294967295 := by rw [HY.out]; exact fit_of ht.fit _
      have hcell : wr.cell? ⟨g, o + i, none⟩ = some (.int .u32 (y : Int)) := by rw [HY.out]; exact hrow'.cell (by rw [HLL.out]; omega)
      have hfr := hrow'.frozen (o + i)
      obtain ⟨u, t, v, c', hu, htt, hv1, hv2, hvb, hcb, hve⟩ := sub_word y cy bo hy hcy hbo
      have HE := Lib.hid (ht.end_ (v := v) (b' := c') hl.1 hn HY.out (by rw [M.BB_eq]; omega) (by rw [M.BB_eq]; exact hve))
      have HR := Lib.hid (hrow'.set_ (o + i) v)
      have HG := Lib.hid (only_setCell hgr (p := ⟨g, o + i, none⟩) (.inl rfl) (.int .u32 (v : Int)))
      clear hrow' hgr ht hve
      go_wp2_with fail
      go_ret
      refine ⟨_, c', ?_, hcb, HR.out, HG.out, HE.out⟩
      rcases (show c' = 0 ∨ c' = 1 from by omega) with rfl | rfl
      · exact rfl
      · exact rfl
end Go.Proofs.Ytiehkciofggonaa

/- nat: guessLimb: what it answers. -/
namespace Go.Proofs.Ytiehkciofggonaa
open Go.RowKit

/-- guessLimb's answer -/
def Guessed (w : World) (P V : Nat) (e : Ending) (w' : World) : Prop := ∃ G : Nat, e = .returned (.int .u64 G) ∧ M.GA P V G ∧ ∃ j, w' = w.drewN j

set_option maxHeartbeats 1000000 in
theorem guessLimb_any (A B : Option Addr) (n nn c d : Nat) (pl vl : List Nat) (w : World) (hp : Lims w A (n + 1) pl) (hv : Lims w B n vl) (hn : 2 ≤ n) (hn2 : n ≤ 1000000) (hnn : n < nn) (hh : 2147483648 ≤ vl.getD (n - 1) 0) (hP : M.val pl < M.val vl * M.BB) :
    Calls Try.prog 87 #[.slice A nn c, .slice B n d] w (Guessed w (M.val pl) (M.val vl)) := by
  have HF := Lib.hid (M.guess_ready hp.2.1 hv.2.1 hp.1 hv.1 hn)
  obtain ⟨pb, po, rfl, hpb, hpc⟩ := hp.at_ (by omega)
  obtain ⟨vb, vo, rfl, hvb, hvc⟩ := hv.at_ (by omega)
  obtain ⟨n1, Hn1⟩ : ∃ n1, Hid (n - 1 = n1) := ⟨_, rfl⟩
  obtain ⟨n2, Hn2⟩ : ∃ n2, Hid (n - 2 = n2) := ⟨_, rfl⟩
  have en1 : (n : Int) - 1 = (n1 : Int) := by have := Hn1.out; omega
  have en2 : (n : Int) - 2 = (n2 : Int) := by have := Hn2.out; omega
  have ln1 : n1 < n := by have := Hn1.out; omega
  have ln2 : n2 < n := by have := Hn2.out; omega
  obtain ⟨p0, HP0, hp0, hc0⟩ := hpc n (by omega)
  obtain ⟨p1, HP1, hp1, hc1⟩ := hpc n1 (by omega)
  obtain ⟨p2, HP2, hp2, hc2⟩ := hpc n2 (by omega)
  obtain ⟨high, HV1, hv1, hd1⟩ := hvc n1 (by omega)
  obtain ⟨next, HV2, hv2, hd2⟩ := hvc n2 (by omega)
  rw [Hn1.out, ← HV1.out] at hh
  rw [Hn1.out, Hn2.out, ← HP0.out, ← HP1.out, ← HP2.out, ← HV1.out, ← HV2.out] at HF
  have HPV := Lib.hid hP
  generalize M.val pl = P at *
  generalize M.val vl = V at *
  obtain ⟨top, HT⟩ : ∃ top, Hid (p1 + 4294967296 * p0 = top) := ⟨_, rfl⟩
  have ho := or_val p1 p0 hp1 hp0
  rw [HT.out] at ho
  have htop : top ≤ 18446744073709551615 := by have := HT.out; omega
  rw [show p0 * M.BB + p1 = top from by have := HT.out; rw [M.BB_eq]; omega] at HF
  have HS := Lib.hid (M.GI.start HF.out hh (by rw [M.BB_eq]; omega) HPV.out)
  obtain ⟨G0, HG0⟩ : ∃ G0, Hid (top / high = G0) := ⟨_, rfl⟩
  obtain ⟨R0, HR0⟩ : ∃ R0, Hid (top % high = R0) := ⟨_, rfl⟩
  have eG : (top : Int) / (high : Int) = (G0 : Int) := by rw [← HG0.out]; rfl
  have eR : (top : Int) % (high : Int) = (R0 : Int) := by rw [← HR0.out]; rfl
  rw [HG0.out, HR0.out] at HS
  have hpos : (0 : Int) < (high : Int) := by omega
  clear hP hpc hvc hp hv HG0 HR0 HT HP0 HP1 HP2 HV1 HV2
  go_enter Try.func87, Try.ntmps87
  go_wp2_with fail
  go_quiet (fail)
  generalize nq = qa
  go_wp2_with fail
  go_quiet (fail)
  rw [World.drewN_drewN]
  generalize qa + nq = qb
  go_wp2_with fail
  go_quiet (fail)
  rw [World.drewN_drewN]
  generalize qb + nq = qc
  go_wp2_with fail
  go_loopw [9, 10] (fun gv rv wr => ∃ G R : Nat, gv = .int .u64 G ∧ rv = .int .u64 R ∧ M.GI P V high top G R ∧ ∃ q, wr = w.drewN q) (fun gv _ _ => (intOf gv).toNat)
  case atStart => exact ⟨G0, R0, by rw [show IntKind.u64.wrap (G0 : Int) = (G0 : Int) from IntWalk.u64_in _ (by have := HS.out.le; rw [M.BB_eq] at this; omega)], by rw [eR], HS.out, _, rfl⟩
  case round =>
    obtain ⟨G, R, rfl, rfl, hI, q, rfl⟩ := hrel
    have hR := hI.rest
    have hG := hI.le
    rw [M.BB_eq] at hR hG
    have HI := Lib.hid hI
    clear hI
    obtain ⟨R2, HR2⟩ : ∃ R2, Hid (R + high = R2) := ⟨_, rfl⟩
    have eR2 : (R : Int) + (high : Int) = (R2 : Int) := by have := HR2.out; omega
    have wR2 : IntKind.u64.wrap (R2 : Int) = (R2 : Int) := IntWalk.u64_in _ (by omega)
    obtain ⟨GN, HGN⟩ : ∃ GN, Hid (G * next = GN) := ⟨_, rfl⟩
    have eGN : (G : Int) * (next : Int) = (GN : Int) := by rw [← HGN.out]; rfl
    have ho2 := or_val p2 R hp2 (by omega)
    obtain ⟨z, HZ⟩ : ∃ z, Hid (p2 + 4294967296 * R = z) := ⟨_, rfl⟩
    rw [HZ.out] at ho2
    have hRw : IntKind.u64.wrap ((R : Int) * 4294967296) = (R : Int) * 4294967296 := IntWalk.u64_in _ (by omega)
    by_cases hbig : 4294967296 ≤ G
    · obtain ⟨k, Hk⟩ : ∃ k, Hid (G - 1 = k) := ⟨_, rfl⟩
      have ek : (G : Int) - 1 = (k : Int) := by have := Hk.out; omega
      have wk : IntKind.u64.wrap (k : Int) = (k : Int) := IntWalk.u64_in _ (by have := Hk.out; omega)
      have e1 : (G : Int) / 4294967296 = 1 := by omega
      have HO := Lib.hid (M.guess_big HPV.out (by rw [M.BB_eq]; exact hbig))
      by_cases hbr : 4294967296 ≤ R2
      · have e2 : (R2 : Int) / 4294967296 = 1 := by have := HR2.out; omega
        have HA := Lib.hid (HI.out.broke HF.out HPV.out (by omega) HO.out (by rw [HR2.out, M.BB_eq]; exact hbr))
        rw [Hk.out] at HA
        go_wp2_with fail
        go_ret
        exact ⟨k, rfl, HA.out, _, rfl⟩
      · have e2 : (R2 : Int) / 4294967296 = 0 := by omega
        have HN := Lib.hid (HI.out.step (by omega) HO.out (by rw [HR2.out, M.BB_eq]; omega))
        rw [Hk.out, HR2.out] at HN
        go_wp2_with fail
        go_roundw
        case rel => exact ⟨k, R2, rfl, rfl, HN.out, _, rfl⟩
        case measure => simp [intOf]; have := Hk.out; omega
    · have e1 : (G : Int) / 4294967296 = 0 := by omega
      have hGN : GN ≤ 18446744065119617025 := by rw [← HGN.out]; have := Nat.mul_le_mul (show G ≤ 4294967295 by omega) hv2; omega
      have wGN : IntKind.u64.wrap (GN : Int) = (GN : Int) := IntWalk.u64_in _ (by omega)
      by_cases hov : z < GN
      · have hG0 : 0 < G := by
          rcases Nat.eq_zero_or_pos G with h0 | h0
          · exfalso
            have := HGN.out
            rw [h0, Nat.zero_mul] at this
            omega
          · exact h0
        obtain ⟨k, Hk⟩ : ∃ k, Hid (G - 1 = k) := ⟨_, rfl⟩
        have ek : (G : Int) - 1 = (k : Int) := by have := Hk.out; omega
        have wk : IntKind.u64.wrap (k : Int) = (k : Int) := IntWalk.u64_in _ (by have := Hk.out; omega)
        have HO := Lib.hid (HF.out.over G R HI.out.sum (by rw [HGN.out, M.BB_eq]; have := HZ.out; omega))
        by_cases hbr : 4294967296 ≤ R2
        · have e2 : (R2 : Int) / 4294967296 = 1 := by have := HR2.out; omega
          have HA := Lib.hid (HI.out.broke HF.out HPV.out hG0 HO.out (by rw [HR2.out, M.BB_eq]; exact hbr))
          rw [Hk.out] at HA
          go_wp2_with fail
          go_ret
          exact ⟨k, rfl, HA.out, _, rfl⟩
        · have e2 : (R2 : Int) / 4294967296 = 0 := by omega
          have HN := Lib.hid (HI.out.step hG0 HO.out (by rw [HR2.out, M.BB_eq]; omega))
          rw [Hk.out, HR2.out] at HN
          go_wp2_with fail
          go_roundw
          case rel => exact ⟨k, R2, rfl, rfl, HN.out, _, rfl⟩
          case measure => simp [intOf]; have := Hk.out; omega
      · have HA := Lib.hid (HI.out.done HF.out (by omega) (by rw [M.BB_eq]; omega) (by rw [HGN.out, M.BB_eq]; have := HZ.out; omega))
        go_wp2_with fail
        go_ret
        exact ⟨G, rfl, HA.out, _, rfl⟩
end Go.Proofs.Ytiehkciofggonaa
