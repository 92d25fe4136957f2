/- nat: timesPlus, Parse: what each answers. -/
import Derived.Test.YtefkkmnhnldcbaaB4
import Derived.Test.YtefkkmnhnldcbaaMathP
namespace Go.Proofs.Ytefkkmnhnldcbaa
open Go.RowKit

/-- timesPlus' end -/
def Timesed (W : World) (g n k more : Nat) (L : List Nat) (e : Ending) (w' : World) : Prop :=
  ∃ (L' : List Nat) (c : Nat), e = .returned (.tuple #[]) ∧ Row w' g L' ∧ W.grownBy w' (some g) ∧ L'.length = n ∧ M.Fit L' ∧ M.val L' + M.BB ^ n * c = M.val L * k + more

theorem timesPlus_any (g n c k more : Nat) (L : List Nat) (w : World) (hrow : Row w g L) (hf : M.Fit L) (hn : L.length = n) (hc : n ≤ 1000000) (hk : k ≤ 1000000000) (hm : more ≤ k) :
    Calls Try.prog 52 #[.slice (some ⟨g, 0, none⟩) n c, .int .u64 k, .int .u64 more] w (Timesed w g n k more L) := by
  have HN := Lib.hid hn
  clear hn
  go_enter Try.func52, Try.ntmps52
  go_wp2_with fail
  go_loopw [6, 12] (fun cv iv wr => ∃ (i cy : Nat) (L' : List Nat), i ≤ n ∧ cy ≤ 1000000000 ∧ iv = .int .i64 i ∧ cv = .int .u64 cy ∧ Row wr g L' ∧ T.Times L L' n i k more cy ∧ w.grownBy wr (some g)) (fun _ iv _ => n - (intOf iv).toNat)
  case atStart => exact ⟨0, more, L, by omega, by omega, rfl, rfl, hrow, T.Times.start HN.out hf hm, World.grownBy.refl _ _⟩
  case round =>
    obtain ⟨i, cy, L', hi, hcy, rfl, rfl, hrow', ht, hgr⟩ := hrel
    by_cases hlt : i < n
    · obtain ⟨x, HX⟩ : ∃ x, Hid (x = L'.getD i 0) := ⟨_, rfl⟩
      have hx : x ≤ 4294967295 := by rw [HX.out]; exact fit_of ht.fit i
      have hcell : wr.cell? ⟨g, i, none⟩ = some (.int .u32 (x : Int)) := by rw [HX.out]; exact hrow'.cell (by rw [ht.len]; omega)
      have hfr := hrow'.frozen i
      obtain ⟨p, HP⟩ : ∃ p, Hid (x * k = p) := ⟨_, rfl⟩
      have hp : p ≤ 4294967295000000000 := by rw [← HP.out]; have := Nat.mul_le_mul hx hk; omega
      have hpe : (x : Int) * (k : Int) = (p : Int) := by rw [← HP.out]; rfl
      have ht' := ht.step (t := p + cy) hlt HX.out (by rw [HP.out])
      have hc2 := ht'.carry
      have HR : Hid (Row (wr.setCell ⟨g, i, none⟩ (.int .u32 (((p : Int) + cy) % 4294967296))) g (L'.set i ((p + cy) % M.BB))) := hrow'.set_' i _ (by rw [M.BB_eq]; omega)
      have HG : Hid (w.grownBy (wr.setCell ⟨g, i, none⟩ (.int .u32 (((p : Int) + cy) % 4294967296))) (some g)) := only_setCell hgr (p := ⟨g, i, none⟩) (.inl rfl) _
      have hcr : Hid ((((p + cy) / M.BB : Nat) : Int) = ((p : Int) + cy) / 4294967296) := by rw [M.BB_eq]; exact (show _ = _ from by omega)
      clear hrow' hgr ht
      go_wp2_with fail
      go_roundw
      case rel => exact ⟨i + 1, _, _, by omega, by omega, by go_num, by rw [hcr.out], HR.out, ht', HG.out⟩
      case measure => simp [intOf]; omega
    · obtain rfl : i = n := by omega
      have he := ht.end_ HN.out
      have HE := Lib.hid he
      clear he
      go_wp2_with fail
      go_end0
      exact ⟨L', cy, rfl, hrow', hgr, ht.len, ht.fit, HE.out⟩
end Go.Proofs.Ytefkkmnhnldcbaa
