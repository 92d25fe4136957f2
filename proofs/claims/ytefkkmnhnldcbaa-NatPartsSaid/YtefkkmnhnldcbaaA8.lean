/- nat: addTimes, Mul: what each answers. -/
import Derived.Test.YtefkkmnhnldcbaaA4
namespace Go.Proofs.Ytefkkmnhnldcbaa
open Go.RowKit

/-- addTimes' answer -/
def AddedT (W : World) (g o n k : Nat) (l L : List Nat) (e : Ending) (w' : World) : Prop :=
  ∃ (L' : List Nat) (c : Nat), e = .returned (.int .u32 (c : Nat)) ∧ Row w' g L' ∧ W.grownBy w' (some g) ∧ M.AT l L L' o n k c

theorem addTimes_any (g o n nn c d k : Nat) (B : Option Addr) (l L : List Nat) (w : World) (hrow : Row w g L) (hf : M.Fit L) (hl : Lims w B n l) (hne : ∀ b off, B = some ⟨b, off, none⟩ → b ≠ g) (hn : o + n ≤ L.length) (hnn : n ≤ nn) (hc : L.length ≤ 10000000) (hk : k ≤ 4294967295) :
    Calls Try.prog 41 #[.slice (some ⟨g, o, none⟩) nn c, .slice B n d, .int .u64 k] w (AddedT w g o n k l L) := by
  go_enter Try.func41, Try.ntmps41
  go_wp2_with fail
  go_loopw [7, 12] (fun cv iv wr => ∃ (i cy : Nat) (L' : List Nat), i ≤ n ∧ cy ≤ 4294967295 ∧ iv = .int .i64 i ∧ cv = .int .u64 cy ∧ Row wr g L' ∧ M.AT l L L' o i k cy ∧ w.grownBy wr (some g)) (fun _ iv _ => n - (intOf iv).toNat)
  case atStart => exact ⟨0, 0, L, by omega, by omega, rfl, rfl, hrow, M.AT.start hf, World.grownBy.refl _ _⟩
  case round =>
    obtain ⟨i, cy, L', hi, hcy, rfl, rfl, hrow', ht, hgr⟩ := hrel
    have hll := ht.len
    have HLL := Lib.hid hll
    clear hll
    by_cases hlt : i < n
    · obtain ⟨bb, bo, rfl, hbb, hcs⟩ := hl.at_ (by omega)
      obtain ⟨x, HX, hx, hcx⟩ := hcs i hlt
      have hbg := hne bb bo rfl
      have hcx' : wr.cell? ⟨bb, bo + i, none⟩ = some (.int .u32 (x : Int)) := (World.cell?_of_block (hgr.block bb hbb (by simp; omega))).trans hcx
      clear hcs hcx
      obtain ⟨y, HY⟩ : ∃ y, Hid (y = L'.getD (o + i) 0) := ⟨_, rfl⟩
      have hy : y ≤ 4294967295 := by rw [HY.out]; exact fit_of ht.fit _
      have hcell : wr.cell? ⟨g, o + i, none⟩ = some (.int .u32 (y : Int)) := by rw [HY.out]; exact hrow'.cell (by rw [HLL.out]; omega)
      have hfr := hrow'.frozen (o + i)
      obtain ⟨p, HP⟩ : ∃ p, Hid (x * k = p) := ⟨_, rfl⟩
      have hp : p ≤ 18446744065119617025 := by rw [← HP.out]; have := Nat.mul_le_mul hx hk; omega
      have hpe : (x : Int) * (k : Int) = (p : Int) := by rw [← HP.out]; rfl
      have hw : IntKind.u64.wrap (p : Int) = (p : Int) := IntWalk.u64_in _ (by omega)
      have hw2 : IntKind.u64.wrap ((p : Int) + (y : Int)) = (p : Int) + (y : Int) := IntWalk.u64_in _ (by omega)
      have hw3 : IntKind.u64.wrap ((p : Int) + (y : Int) + (cy : Int)) = (p : Int) + (y : Int) + (cy : Int) := IntWalk.u64_in _ (by omega)
      have ht' := ht.step (t := p + y + cy) (by omega) HX.out HY.out (by rw [M.BB_eq]; omega) (by rw [M.BB_eq]; omega) (by rw [HP.out])
      have hc2 := ht'.carry
      rw [M.BB_eq] at hc2
      have HR : Hid (∀ q, Row ((wr.drewN q).setCell ⟨g, o + i, none⟩ (.int .u32 (((p : Int) + y + cy) % 4294967296))) g (L'.set (o + i) ((p + y + cy) % M.BB))) := fun q => (hrow'.drewN q).set_' (o + i) _ (by rw [M.BB_eq]; omega)
      have HG : Hid (∀ q, w.grownBy ((wr.drewN q).setCell ⟨g, o + i, none⟩ (.int .u32 (((p : Int) + y + cy) % 4294967296))) (some g)) := fun q => only_setCell (only_drewN hgr q) (p := ⟨g, o + i, none⟩) (.inl rfl) _
      have hcr : Hid ((((p + y + cy) / M.BB : Nat) : Int) = ((p : Int) + y + cy) / 4294967296) := by rw [M.BB_eq]; exact (show _ = _ from by omega)
      clear hrow' hgr ht
      have HP2 := Lib.hid hp
      clear hp
      go_wp2_with fail
      go_quiet (fail)
      go_wp2_with fail
      go_roundw
      case rel => exact ⟨i + 1, _, _, by omega, by rw [M.BB_eq]; omega, by go_num, by rw [hcr.out], HR.out _, ht', HG.out _⟩
      case measure => simp [intOf]; omega
    · obtain rfl : i = n := by omega
      go_wp2_with fail
      go_ret
      exact ⟨L', cy, rfl, hrow', hgr, ht⟩
end Go.Proofs.Ytefkkmnhnldcbaa
