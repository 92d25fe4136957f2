/- nat: takeTimes: what it answers. -/
import Derived.Test.YtefkkmnhnldcbaaA10
import Derived.Test.YtefkkmnhnldcbaaMathR
namespace Go.Proofs.Ytefkkmnhnldcbaa
open Go.RowKit

/-- takeTimes' answer -/
def TakenT (W : World) (g o n k : Nat) (l L : List Nat) (e : Ending) (w' : World) : Prop :=
  ∃ (L' : List Nat) (b : Nat), e = .returned (.bool (decide (b = 1))) ∧ b ≤ 1 ∧ Row w' g L' ∧ W.grownBy w' (some g) ∧ M.TTEnd l L L' o n k b

theorem takeTimes_any (g o n nn c d k : Nat) (B : Option Addr) (l L : List Nat) (w : World) (hrow : Row w g L) (hf : M.Fit L) (hl : Lims w B n l) (hne : ∀ b off, B = some ⟨b, off, none⟩ → b ≠ g) (hn : o + n < L.length) (hnn : n < nn) (hc : L.length ≤ 10000000) (hk : k ≤ 4294967295) :
    Calls Try.prog 59 #[.slice (some ⟨g, o, none⟩) nn c, .slice B n d, .int .u64 k] w (TakenT w g o n k l L) := by
  go_enter Try.func59, Try.ntmps59
  go_wp2_with fail
  go_loopw [8, 9, 17] (fun cv bv iv wr => ∃ (i cy bo : Nat) (L' : List Nat), i ≤ n ∧ cy ≤ 4294967295 ∧ bo ≤ 1 ∧ iv = .int .i64 i ∧ cv = .int .u64 cy ∧ bv = .int .u64 bo ∧ Row wr g L' ∧ M.TT l L L' o i k cy bo ∧ w.grownBy wr (some g)) (fun _ _ iv _ => n - (intOf iv).toNat)
  case atStart => exact ⟨0, 0, 0, L, by omega, by omega, by omega, rfl, rfl, rfl, hrow, M.TT.start hf, World.grownBy.refl _ _⟩
  case round =>
    obtain ⟨i, cy, bo, L', hi, hcy, hbo, rfl, rfl, rfl, hrow', ht, hgr⟩ := hrel
    have hll := ht.len
    have HLL := Lib.hid hll
    clear hll
    by_cases hlt : i < n
    · obtain ⟨bb, bof, rfl, hbb, hcs⟩ := hl.at_ (by omega)
      obtain ⟨x, HX, hx, hcx⟩ := hcs i hlt
      have hbg := hne bb bof rfl
      have hcx' : wr.cell? ⟨bb, bof + i, none⟩ = some (.int .u32 (x : Int)) := (World.cell?_of_block (hgr.block bb hbb (by simp; omega))).trans hcx
      clear hcs hcx
      obtain ⟨y, HY⟩ : ∃ y, Hid (y = L'.getD (o + i) 0) := ⟨_, rfl⟩
      have hy : y ≤ 4294967295 := by rw [HY.out]; exact fit_of ht.fit _
      have hcell : wr.cell? ⟨g, o + i, none⟩ = some (.int .u32 (y : Int)) := by rw [HY.out]; exact hrow'.cell (by rw [HLL.out]; omega)
      have hfr := hrow'.frozen (o + i)
      obtain ⟨m, HM⟩ : ∃ m, Hid (x * k = m) := ⟨_, rfl⟩
      have hm : m ≤ 18446744065119617025 := by rw [← HM.out]; have := Nat.mul_le_mul hx hk; omega
      have hme : (x : Int) * (k : Int) = (m : Int) := by rw [← HM.out]; rfl
      obtain ⟨p, HP⟩ : ∃ p, Hid (m + cy = p) := ⟨_, rfl⟩
      have hp : p ≤ 18446744073709551615 := by have := HP.out; omega
      have hpe : (m : Int) + (cy : Int) = (p : Int) := by have := HP.out; omega
      have hw : IntKind.u64.wrap (m : Int) = (m : Int) := IntWalk.u64_in _ (by omega)
      have hw2 : IntKind.u64.wrap (p : Int) = (p : Int) := IntWalk.u64_in _ (by omega)
      obtain ⟨lo, HLO⟩ : ∃ lo, Hid (p % M.BB = lo) := ⟨_, rfl⟩
      obtain ⟨hg, HHI⟩ : ∃ hg, Hid (p / M.BB = hg) := ⟨_, rfl⟩
      have hlo : lo ≤ 4294967295 := by rw [← HLO.out, M.BB_eq]; omega
      have hloe : (p : Int) % 4294967296 = (lo : Int) := by rw [← HLO.out, M.BB_eq]; exact (show _ = _ from by omega)
      have hhie : (p : Int) / 4294967296 = (hg : Int) := by rw [← HHI.out, M.BB_eq]; exact (show _ = _ from by omega)
      obtain ⟨u, t, v, c', hu, htt, hv1, hv2, hvb, hcb, hve⟩ := sub_word y lo bo hy hlo hbo
      have ht' := ht.step (p := p) (v := v) (b' := c') (by omega) HX.out HY.out (by rw [M.BB_eq]; omega) (by rw [M.BB_eq]; omega) (by rw [HM.out, HP.out]) (by rw [M.BB_eq]; omega) hcb (by rw [HLO.out, M.BB_eq]; exact hve)
      rw [HHI.out] at ht'
      have hc2 := ht'.carry
      rw [M.BB_eq] at hc2
      have HR := Lib.hid (hrow'.set_ (o + i) v)
      have HG := Lib.hid (only_setCell hgr (p := ⟨g, o + i, none⟩) (.inl rfl) (.int .u32 (v : Int)))
      clear hrow' hgr ht hve HP HM HLO HHI
      go_wp2_with fail
      go_roundw
      case rel => exact ⟨i + 1, hg, c', _, by omega, by omega, hcb, by go_num, rfl, rfl, HR.out, ht', HG.out⟩
      case measure => simp [intOf]; omega
    · obtain rfl : i = n := by omega
      obtain ⟨y, HY⟩ : ∃ y, Hid (y = L'.getD (o + i) 0) := ⟨_, rfl⟩
      have hy : y ≤ 4294967295 := by rw [HY.out]; exact fit_of ht.fit _
      have hcell : wr.cell? ⟨g, o + i, none⟩ = some (.int .u32 (y : Int)) := by rw [HY.out]; exact hrow'.cell (by rw [HLL.out]; omega)
      have hfr := hrow'.frozen (o + i)
      obtain ⟨u, t, v, c', hu, htt, hv1, hv2, hvb, hcb, hve⟩ := sub_word y cy bo hy hcy hbo
      have HE := Lib.hid (ht.end_ (v := v) (b' := c') hl.1 hn HY.out (by rw [M.BB_eq]; omega) (by rw [M.BB_eq]; exact hve))
      have HR := Lib.hid (hrow'.set_ (o + i) v)
      have HG := Lib.hid (only_setCell hgr (p := ⟨g, o + i, none⟩) (.inl rfl) (.int .u32 (v : Int)))
      clear hrow' hgr ht hve
      go_wp2_with fail
      go_ret
      refine ⟨_, c', ?_, hcb, HR.out, HG.out, HE.out⟩
      rcases (show c' = 0 ∨ c' = 1 from by omega) with rfl | rfl
      · exact rfl
      · exact rfl
end Go.Proofs.Ytefkkmnhnldcbaa
