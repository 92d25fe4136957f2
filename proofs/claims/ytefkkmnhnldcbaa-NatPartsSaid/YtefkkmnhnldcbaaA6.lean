/- nat: DivMod, where the numbers are small, or the divisor has one limb: what it answers. -/
import Derived.Test.YtefkkmnhnldcbaaA5
namespace Go.Proofs.Ytefkkmnhnldcbaa
open Go.RowKit

theorem of_int (x : Int) (w : World) (h : 0 ≤ x ∧ x ≤ 18446744073709551615) : Calls Try.prog 28 #[.int .u64 x] w (Gives w x.toNat) := by
  obtain ⟨n, rfl⟩ := Int.eq_ofNat_of_zero_le h.1
  exact of_any n w (by omega)

/-- two numbers, and no error -/
def GivesTwo (W : World) (N R : Nat) (e : Ending) (w' : World) : Prop :=
  ∃ u v, e = .returned (.tuple #[u, v, .int .i64 0]) ∧ Num w' u N ∧ Num w' v R ∧ Below W.heap.size W w'

theorem num_nil (w : World) : Num w (.slice none 0 0) 0 := ⟨none, 0, 0, [], rfl, Lims.nil_ _ _, M.Top.nil, rfl, by omega, by omega⟩

/-- DivMod of numbers in their own form -/
structure Two (w : World) (A B : Option Addr) (n m c d : Nat) (k l : List Nat) : Prop where
  ha : Lims w A n k
  hb : Lims w B m l
  hn : n ≤ c
  hm : m ≤ d
  hc : c ≤ maxLen
  hd : d ≤ maxLen
  hs : n ≤ 1000000
  ht : m ≤ 1000000

theorem divMod_zero (A B : Option Addr) (n m c d : Nat) (k l : List Nat) (w : World) (h : Two w A B n m c d k l) (h0 : M.val l = 0) :
    Calls Try.prog 24 #[.slice A n c, .slice B m d] w fun e w' => e = .returned (.tuple #[.slice none 0 0, .slice none 0 0, .int .i64 7]) ∧ w = w' := by
  obtain ⟨ha, hb, hn, hm, hc, hd, hs, ht⟩ := h
  go_enter Try.func24, Try.ntmps24
  go_wp2_with fail
  refine (trim_any _ _ _ _ _ ha hn hc).mono ?_
  rintro e w1 ⟨A', n', c', rfl, h1, h2, h3, h4, h5, h6, rfl⟩
  go_wp2_with fail
  refine (trim_any _ _ _ _ _ hb hm hd).mono ?_
  rintro e w1 ⟨B', m', d', rfl, g1, g2, g3, g4, g5, g6, rfl⟩
  have hz : m' ≤ 0 := M.len_le g2 g1.1 (k := 0) (by rw [g3, h0]; simp)
  clear g3 h3 h0 h2 g2 g1 h1
  go_wp2_with fail
  go_ret3
  exact ⟨rfl, rfl⟩

theorem divMod_less (A B : Option Addr) (n m c d : Nat) (k l : List Nat) (w : World) (h : Two w A B n m c d k l) (h0 : M.val k < M.val l) :
    Calls Try.prog 24 #[.slice A n c, .slice B m d] w (GivesTwo w (M.val k / M.val l) (M.val k % M.val l)) := by
  obtain ⟨ha, hb, hn, hm, hc, hd, hs, ht⟩ := h
  rw [Nat.div_eq_of_lt h0, Nat.mod_eq_of_lt h0]
  go_enter Try.func24, Try.ntmps24
  go_wp2_with fail
  refine (trim_any _ _ _ _ _ ha hn hc).mono ?_
  rintro e w1 ⟨A', n', c', rfl, h1, h2, h3, h4, h5, h6, rfl⟩
  go_wp2_with fail
  refine (trim_any _ _ _ _ _ hb hm hd).mono ?_
  rintro e w1 ⟨B', m', d', rfl, g1, g2, g3, g4, g5, g6, rfl⟩
  have hlk := ha.1
  have hn' : n' ≤ 1000000 := by omega
  clear hlk
  have hz : ((m' : Int) == 0) = false := by
    have : m' ≠ 0 := by rintro rfl; simp [M.val] at g3; omega
    simpa using this
  have H3 := Lib.hid h3
  have HC := Lib.hid (cmp_any A' B' n' m' c' d' _ _ w h1 g1 h5 g5 (by omega) (by omega))
  rw [h3, g3, M.cmpI_lt h0] at HC
  clear g3 h3 h0 h2 g2
  go_wp2_with fail
  refine HC.out.mono ?_
  rintro e w1 ⟨rfl, q, rfl⟩
  go_wp2_with fail
  refine (norm_any A' n' c' _ _ (h1.drewN q) h5 (by omega) hn').mono ?_
  rintro e w1 ⟨v, rfl, hv, hbel⟩
  go_wp2_with fail
  go_ret3
  exact ⟨_, _, rfl, num_nil _, by rw [← H3.out]; exact hv, (below_drewN (Below.refl _ _) q).trans hbel⟩

set_option maxHeartbeats 1000000 in
theorem divMod_small (A B : Option Addr) (n m c d : Nat) (k l : List Nat) (w : World) (h : Two w A B n m c d k l) (h0 : 0 < M.val l) (hle : M.val l ≤ M.val k) (hk : M.val k ≤ 18446744073709551615) :
    Calls Try.prog 24 #[.slice A n c, .slice B m d] w (GivesTwo w (M.val k / M.val l) (M.val k % M.val l)) := by
  obtain ⟨ha, hb, hn, hm, hc, hd, hs, ht⟩ := h
  obtain ⟨x, HX⟩ : ∃ x, Hid (M.val k = x) := ⟨_, rfl⟩
  obtain ⟨y, HY⟩ : ∃ y, Hid (M.val l = y) := ⟨_, rfl⟩
  rw [HX.out, HY.out]
  rw [HX.out] at hk hle
  rw [HY.out] at h0 hle
  obtain ⟨q, Hq⟩ : ∃ q, Hid (x / y = q) := ⟨_, rfl⟩
  obtain ⟨r, Hr⟩ : ∃ r, Hid (x % y = r) := ⟨_, rfl⟩
  rw [Hq.out, Hr.out]
  have hq : q ≤ x := by rw [← Hq.out]; exact Nat.div_le_self _ _
  have hr : r < y := by rw [← Hr.out]; exact Nat.mod_lt _ h0
  have eq1 : (x : Int) / (y : Int) = (q : Int) := by rw [← Hq.out]; rfl
  have eq2 : (x : Int) % (y : Int) = (r : Int) := by rw [← Hr.out]; rfl
  have eq3 : (x : Int).tdiv (y : Int) = (q : Int) := by rw [Int.tdiv_eq_ediv_of_nonneg (by omega)]; exact eq1
  have eq4 : (x : Int).tmod (y : Int) = (r : Int) := by rw [Int.tmod_eq_emod_of_nonneg (by omega)]; exact eq2
  have hy0 : ((y : Int) == 0) = false := by simp; omega
  have eq5 : IntKind.u64.wrap (q : Int) = (q : Int) := IntWalk.u64_in _ (by omega)
  have HQ := Lib.hid eq1
  clear eq1
  go_enter Try.func24, Try.ntmps24
  go_wp2_with fail
  refine (trim_any _ _ _ _ _ ha hn hc).mono ?_
  rintro e w1 ⟨A', n', c', rfl, h1, h2, h3, h4, h5, h6, rfl⟩
  go_wp2_with fail
  refine (trim_any _ _ _ _ _ hb hm hd).mono ?_
  rintro e w1 ⟨B', m', d', rfl, g1, g2, g3, g4, g5, g6, rfl⟩
  rw [HX.out] at h3
  rw [HY.out] at g3
  have hz : ((m' : Int) == 0) = false := by
    have : m' ≠ 0 := by rintro rfl; simp [M.val] at g3; omega
    simpa using this
  have HC := Lib.hid (cmp_any A' B' n' m' c' d' _ _ w h1 g1 h5 g5 (by omega) (by omega))
  rw [h3, g3] at HC
  obtain ⟨z, Hz, hz0⟩ : ∃ z : Int, Hid (M.cmpI x y = z) ∧ 0 ≤ z := ⟨_, rfl, by unfold M.cmpI; rw [if_neg (by omega)]; split <;> omega⟩
  rw [Hz.out] at HC
  have hn2 : n' ≤ 2 := M.len_le h2 h1.1 (k := 2) (by rw [h3]; simp [M.BB_eq]; omega)
  have hm2 : m' ≤ 2 := M.len_le g2 g1.1 (k := 2) (by rw [g3]; simp [M.BB_eq]; omega)
  clear h2 g2 h4 g4 h6 g6
  have h3' := Lib.hid h3
  have g3' := Lib.hid g3
  clear h3 g3
  go_wp2_with fail
  refine HC.out.mono ?_
  rintro e w1 ⟨rfl, j, rfl⟩
  have HS := Lib.hid (small_yes A' n' c' _ _ (h1.drewN j) hn2)
  have HT := Lib.hid (small_yes B' m' d' _ _ (g1.drewN j) hm2)
  rw [h3'.out] at HS
  rw [g3'.out] at HT
  go_wp2_with fail
  refine HS.out.mono ?_
  rintro e w1 ⟨rfl, rfl⟩
  go_wp2_with fail
  refine HT.out.mono ?_
  rintro e w1 ⟨rfl, rfl⟩
  go_wp2_with fail
  go_region_with (go_at_call 28; go_loud (refine (of_int _ _ (by omega)).mono ?_); rintro e w1 ⟨v, rfl, hv, hbel⟩)
  all_goals
    rename_i w0 v0 hv0 hbel0
    go_wp2_with fail
    go_ret3
    rw [Int.toNat_natCast] at hv hv0
    have hb0 : Below w.heap.size w w0 := (below_drewN (Below.refl _ _) _).trans hbel0
    have hb1 : Below w.heap.size w w1 := hb0.trans (hbel.mono hb0.size)
    first
      | exact ⟨_, _, rfl, hv0.below hbel, hv, hb1⟩
      | exact ⟨_, _, rfl, hv, hv0.below hbel, hb1⟩
end Go.Proofs.Ytefkkmnhnldcbaa
