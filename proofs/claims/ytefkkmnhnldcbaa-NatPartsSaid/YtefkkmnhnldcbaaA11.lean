/- nat: shiftUp, shiftDown: what each answers. -/
import Derived.Test.YtefkkmnhnldcbaaA4
import Derived.Test.YtefkkmnhnldcbaaMathQ
namespace Go.Proofs.Ytefkkmnhnldcbaa
open Go.RowKit

theorem or_low (x c s p : Nat) (hp : x * 2 ^ s = p) (hc : c < 2 ^ s) (bp : p ≤ 18446744073709551615) (bc : c ≤ 18446744073709551615) : bits .or .u64 (p : Int) (c : Int) = ((p + c : Nat) : Int) := by
  rw [Go.u64_or_nat _ _ (by omega) (by omega)]
  congr 1
  have := Nat.two_pow_add_eq_or_of_lt (i := s) (b := c) hc x
  rw [Nat.mul_comm, hp] at this
  exact this.symm

/-- shiftUp's answer -/
def ShiftedUp (w : World) (l : List Nat) (n K : Nat) (e : Ending) (w' : World) : Prop :=
  ∃ L : List Nat, e = .returned (.slice (some ⟨w.heap.size, 0, none⟩) (n + 1) (n + 1)) ∧ Row w' w.heap.size L ∧ L.length = n + 1 ∧ M.Fit L ∧ M.val L = M.val l * K ∧ Below w.heap.size w w'

theorem shiftUp_any (A : Option Addr) (n c s K : Nat) (l : List Nat) (w : World) (hl : Lims w A n l) (hs : s ≤ 31) (HK : Hid (K = 2 ^ s)) (hn : n ≤ 1000000) :
    Calls Try.prog 57 #[.slice A n c, .int .i64 s] w (ShiftedUp w l n K) := by
  have hK1 : 1 ≤ K := by rw [HK.out]; exact Nat.one_le_two_pow
  have hK2 : K ≤ 2147483648 := by rw [HK.out]; exact Nat.pow_le_pow_right (n := 2) (by omega) hs
  obtain ⟨m, hm⟩ : ∃ m, Hid (n + 1 = m) := ⟨_, rfl⟩
  have hme : (n : Int) + 1 = (m : Int) := by have := hm.out; omega
  have hm1 : n < m := by have := hm.out; omega
  have hm2 : m ≤ 1000001 := by have := hm.out; omega
  have hmk := make_any m (by omega)
  have hrow0 := Row.zeros_ w m
  have HB0 : Hid (Below w.heap.size w (w.alloc (.cells (zeros m) 43))) := (Below.refl _ _).alloc (Nat.le_refl _) _
  have HST : Hid (M.Shl l (List.replicate m 0) n 0 K 0) := by rw [← hm.out]; exact M.Shl.start hK1
  have HLN : Hid (l.length = n) := hl.1
  go_enter Try.func57, Try.ntmps57
  go_wp2_with fail
  go_loopw [6, 15] (fun cv iv wr => ∃ (i cy : Nat) (L : List Nat), i ≤ n ∧ cy < K ∧ iv = .int .i64 i ∧ cv = .int .u64 cy ∧ Row wr w.heap.size L ∧ M.Shl l L n i K cy ∧ Below w.heap.size w wr) (fun _ iv _ => n - (intOf iv).toNat)
  case atStart => exact ⟨0, 0, _, by omega, by omega, rfl, rfl, hrow0, HST.out, HB0.out⟩
  case round =>
    obtain ⟨i, cy, L, hi, hcy, rfl, rfl, hrow, ht, hbel⟩ := hrel
    have HLL := Lib.hid (ht.len.trans hm.out)
    by_cases hlt : i < n
    · obtain ⟨bb, bo, rfl, hbb, hcs⟩ := hl.at_ (by omega)
      obtain ⟨x, HX, hx, hcx⟩ := hcs i hlt
      have hcx' : wr.cell? ⟨bb, bo + i, none⟩ = some (.int .u32 (x : Int)) := (hbel.cell hbb).trans hcx
      clear hcs hcx
      obtain ⟨old, hst⟩ : ∃ old : Nat, wr.cell? ⟨w.heap.size, i, none⟩ = some (.int .u32 (old : Int)) := ⟨_, hrow.cell (by rw [HLL.out]; omega)⟩
      have hfr := hrow.frozen i
      obtain ⟨p, HP⟩ : ∃ p, Hid (x * K = p) := ⟨_, rfl⟩
      have hp : p ≤ 9223372034707292160 := by rw [← HP.out]; have := Nat.mul_le_mul hx hK2; omega
      have hpe : (x : Int) * 2 ^ s = (p : Int) := by rw [← HP.out, HK.out]; push_cast; rfl
      have ho := or_low x cy s p (by rw [← HK.out]; exact HP.out) (by rw [← HK.out]; exact hcy) (by omega) (by omega)
      obtain ⟨t, HT⟩ : ∃ t, Hid (p + cy = t) := ⟨_, rfl⟩
      rw [HT.out] at ho
      have htb : t ≤ 9223372036854775808 := by have := HT.out; omega
      have hw : IntKind.u64.wrap (p : Int) = (p : Int) := IntWalk.u64_in _ (by omega)
      have ht' := ht.step (t := t) hlt HX.out (by rw [M.BB_eq]; omega) (by rw [HP.out, HT.out])
      have hc2 := ht'.carry
      have HR := Lib.hid (hrow.set_' i (v := (t : Int) % 4294967296) (t % M.BB) (by rw [M.BB_eq]; omega))
      have HB := Lib.hid (hbel.setCell (Nat.le_refl _) (p := ⟨w.heap.size, i, none⟩) (.int .u32 ((t : Int) % 4294967296)))
      have hcr : Hid (((t / M.BB : Nat) : Int) = (t : Int) / 4294967296) := by rw [M.BB_eq]; exact (show _ = _ from by omega)
      clear hrow hbel ht HT HP
      go_wp2_with fail
      go_roundw
      case rel => exact ⟨i + 1, _, _, by omega, hc2, by go_num, by rw [hcr.out], HR.out, ht', HB.out⟩
      case measure => simp [intOf]; omega
    · obtain rfl : i = n := by omega
      have he := ht.end_ HLN.out
      obtain ⟨old, hst⟩ : ∃ old : Nat, wr.cell? ⟨w.heap.size, i, none⟩ = some (.int .u32 (old : Int)) := ⟨_, hrow.cell (by rw [HLL.out]; omega)⟩
      have hfr := hrow.frozen i
      have HE := Lib.hid he
      have HR := Lib.hid (hrow.set_ i cy)
      have HB := Lib.hid (hbel.setCell (Nat.le_refl _) (p := ⟨w.heap.size, i, none⟩) (.int .u32 (cy : Int)))
      have HF := Lib.hid (ht.fit.set i cy (by rw [M.BB_eq]; omega))
      have hcy2 : cy ≤ 2147483648 := by omega
      clear he hrow hbel ht
      go_wp2_with fail
      go_ret
      exact ⟨_, congrArg (fun q => Ending.returned (.slice (some ⟨w.heap.size, 0, none⟩) q q)) hm.out.symm, HR.out, by simp [HLL.out, hm.out], HF.out, HE.out, HB.out⟩

/-- shiftDown's answer -/
def ShiftedDown (w : World) (l : List Nat) (n K : Nat) (e : Ending) (w' : World) : Prop :=
  ∃ L : List Nat, e = .returned (.slice (some ⟨w.heap.size, 0, none⟩) n n) ∧ Row w' w.heap.size L ∧ L.length = n ∧ M.Fit L ∧ M.val L = M.val l / K ∧ Below w.heap.size w w'

theorem shiftDown_any (A : Option Addr) (n c s K : Nat) (l : List Nat) (w : World) (hl : Lims w A n l) (hs : s ≤ 31) (HK : Hid (K = 2 ^ s)) (hn : n ≤ 1000000) :
    Calls Try.prog 60 #[.slice A n c, .int .i64 s] w (ShiftedDown w l n K) := by
  have hK1 : 1 ≤ K := by rw [HK.out]; exact Nat.one_le_two_pow
  obtain ⟨R, HR⟩ : ∃ R, Hid (K * R = M.BB) := ⟨2 ^ (32 - s), by rw [HK.out, ← Nat.pow_add, show s + (32 - s) = 32 from by omega, M.BB_eq]; exact rfl⟩
  have hmk := make_any n (by omega)
  have hrow0 := Row.zeros_ w n
  have HB0 : Hid (Below w.heap.size w (w.alloc (.cells (zeros n) 43))) := (Below.refl _ _).alloc (Nat.le_refl _) _
  have HLN : Hid (l.length = n) := hl.1
  go_enter Try.func60, Try.ntmps60
  go_wp2_with fail
  go_loopw [13] (fun iv wr => ∃ (i : Nat) (L : List Nat), i ≤ n ∧ iv = .int .i64 i ∧ Row wr w.heap.size L ∧ M.Shr l L n i K ∧ Below w.heap.size w wr) (fun iv _ => n - (intOf iv).toNat)
  case atStart => exact ⟨0, _, by omega, rfl, hrow0, M.Shr.start, HB0.out⟩
  case round =>
    obtain ⟨i, L, hi, rfl, hrow, ht, hbel⟩ := hrel
    have HLL := Lib.hid ht.len
    by_cases hlt : i < n
    · have hl2 := hl.below hbel
      obtain ⟨i1, Hi1⟩ : ∃ i1, Hid (i + 1 = i1) := ⟨_, rfl⟩
      have hi1 : (i : Int) + 1 = (i1 : Int) := by have := Hi1.out; omega
      have hi2 : i1 ≤ n := by have := Hi1.out; omega
      have hi3 : IntKind.i64.wrap (i1 : Int) = (i1 : Int) := IntWalk.i64_in _ (by omega)
      obtain ⟨y, HY⟩ : ∃ y, Hid (y = l.getD i1 0) := ⟨_, rfl⟩
      have hy : y ≤ 4294967295 := by rw [HY.out]; exact fit_of hl.2.1 _
      have HC := Lib.hid fun (q : Nat) => limb_q (hl2.drewN q) (n := n) (c := c) (by unfold maxLen; omega) (i := i1) (by unfold maxLen; omega) HY
      obtain ⟨bb, bo, rfl, hbb, hcs⟩ := hl.at_ (by omega)
      obtain ⟨x, HX, hx, hcx⟩ := hcs i hlt
      have hcx' : wr.cell? ⟨bb, bo + i, none⟩ = some (.int .u32 (x : Int)) := (hbel.cell hbb).trans hcx
      clear hcs hcx hl2
      have ho := or_val x y hx hy
      obtain ⟨t, HT⟩ : ∃ t, Hid (x + 4294967296 * y = t) := ⟨_, rfl⟩
      rw [HT.out] at ho
      have htb : t ≤ 18446744073709551615 := by have := HT.out; omega
      obtain ⟨old, hst⟩ : ∃ old : Nat, wr.cell? ⟨w.heap.size, i, none⟩ = some (.int .u32 (old : Int)) := ⟨_, hrow.cell (by rw [HLL.out]; omega)⟩
      have hfr := hrow.frozen i
      obtain ⟨d, HD⟩ : ∃ d, Hid (t / K = d) := ⟨_, rfl⟩
      have hde : (t : Int) / 2 ^ s = (d : Int) := by rw [← HD.out, HK.out]; push_cast; rfl
      have hdb : d ≤ 18446744073709551615 := by have := HD.out; have := Nat.div_le_self t K; omega
      have ht' := ht.step (o := d % M.BB) hlt HX.out (HY.out.trans (by rw [Hi1.out])) hK1 HR.out (by rw [M.BB_eq]; omega) (by rw [← HD.out, ← HT.out, M.BB_eq, Nat.mul_comm y, Nat.add_comm x])
      have HRR : Hid (∀ q, Row ((wr.drewN q).setCell ⟨w.heap.size, i, none⟩ (.int .u32 ((d : Int) % 4294967296))) w.heap.size (L.set i (d % M.BB))) := fun q => (hrow.drewN q).set_' i _ (by rw [M.BB_eq]; omega)
      have HB : Hid (∀ q, Below w.heap.size w ((wr.drewN q).setCell ⟨w.heap.size, i, none⟩ (.int .u32 ((d : Int) % 4294967296)))) := fun q => (below_drewN hbel q).setCell (Nat.le_refl _) _
      clear hrow hbel ht HT HD
      go_wp2_with fail
      go_quiet ((go_at_call 39; exact Calls.quiet_of_same (HC.out _)))
      go_wp2_with fail
      go_roundw
      case rel => exact ⟨i + 1, _, by omega, by rw [Hi1.out], HRR.out _, ht', HB.out _⟩
      case measure => simp [intOf]; omega
    · obtain rfl : i = n := by omega
      have HE := Lib.hid (ht.end_ HLN.out hK1)
      have HF := Lib.hid ht.fit
      clear ht
      go_wp2_with fail
      go_ret
      exact ⟨L, rfl, hrow, HLL.out, HF.out, HE.out, hbel⟩
end Go.Proofs.Ytefkkmnhnldcbaa
