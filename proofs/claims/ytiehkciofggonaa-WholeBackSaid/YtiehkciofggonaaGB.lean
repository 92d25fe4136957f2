/- several texts in one. -/
import Derived.Test.YtiehkciofggonaaGA
import Derived.Deep.RegionWith
/- nat: gcdSmall, divideBy: what each answers. -/
namespace Go.Proofs.Ytiehkciofggonaa
open Go.RowKit

/-- divideBy's answer: the rest, and the whole part in place -/
def Divided (W : World) (g n d : Nat) (L : List Nat) (e : Ending) (w' : World) : Prop :=
  ∃ L' : List Nat, e = .returned (.int .u32 (M.val (L.take n) % d : Nat)) ∧ Row w' g L' ∧ W.grownBy w' (some g) ∧ L'.length = L.length ∧ M.Fit L' ∧ M.val (L'.take n) = M.val (L.take n) / d ∧ ∀ q, n ≤ q → L'.getD q 0 = L.getD q 0

theorem divideBy_any (g n c d : Nat) (L : List Nat) (w : World) (hrow : Row w g L) (hf : M.Fit L) (hn : n ≤ L.length) (hc : n ≤ 1000000) (hd : 1 ≤ d) (hd' : d ≤ 4294967295) :
    Calls Try.prog 78 #[.slice (some ⟨g, 0, none⟩) n c, .int .u32 d] w (Divided w g n d L) := by
  have hg : Hid (g < w.heap.size) := hrow.lt
  go_enter Try.func78, Try.ntmps78
  go_wp2_with fail
  go_loopw [5, 11] (fun rv jv wr => ∃ (j r : Nat) (L' : List Nat), j ≤ n ∧ r ≤ 4294967295 ∧ jv = .int .i64 j ∧ rv = .int .u64 r ∧ Row wr g L' ∧ M.DivInv L L' n (n - j) d r ∧ w.grownBy wr (some g)) (fun _ jv _ => n - (intOf jv).toNat)
  case atStart => exact ⟨0, 0, L, by omega, by omega, rfl, rfl, hrow, M.DivInv.start hf hn (by omega), World.grownBy.refl _ _⟩
  case round =>
    obtain ⟨j, r, L', hj, hr, rfl, rfl, hrow', hinv, hgr⟩ := hrel
    by_cases hlt : j < n
    · obtain ⟨i, hi⟩ : ∃ i : Nat, Hid (n - 1 - j = i) := ⟨_, rfl⟩
      have hi1 : i < n := by have := hi.out; omega
      have he : (n : Int) - 1 - (j : Int) = (i : Int) := by have := hi.out; omega
      have hinv : M.DivInv L L' n (i + 1) d r := by have e : n - j = i + 1 := by have := hi.out; omega
                                                    rw [← e]; exact hinv
      obtain ⟨x, HX⟩ : ∃ x, Hid (x = L'.getD i 0) := ⟨_, rfl⟩
      have hx : x ≤ 4294967295 := by rw [HX.out]; exact fit_of hinv.fit i
      have hcell : wr.cell? ⟨g, i, none⟩ = some (.int .u32 (x : Int)) := by rw [HX.out]; exact hrow'.cell (by rw [hinv.len]; omega)
      have hfr := hrow'.frozen i
      have ho := or_val x r hx hr
      obtain ⟨t, ht⟩ : ∃ t, Hid (t = x + 4294967296 * r) := ⟨_, rfl⟩
      rw [← ht.out] at ho
      have htb : t ≤ 18446744073709551615 := by rw [ht.out]; omega
      obtain ⟨hq, hinv'⟩ := hinv.step (t := t) hi1 hn HX.out (by rw [ht.out, M.BB_eq])
      obtain ⟨q, Hq⟩ : ∃ q, Hid (q = t / d) := ⟨_, rfl⟩
      obtain ⟨r', Hr⟩ : ∃ r', Hid (r' = t % d) := ⟨_, rfl⟩
      have hrd : r' < d := by rw [Hr.out]; exact Nat.mod_lt _ (by omega)
      rw [← Hq.out] at hq hinv'
      rw [← Hr.out] at hinv'
      rw [M.BB_eq] at hq
      have eq1 : (t : Int) / (d : Int) = (q : Int) := by rw [Hq.out]; rfl
      have eq2 : (t : Int) % (d : Int) = (r' : Int) := by rw [Hr.out]; rfl
      have hd1 : (1 : Int) ≤ (d : Int) := by omega
      have HR := Lib.hid (hrow'.set_ i q)
      have HG := Lib.hid (only_setCell hgr (p := ⟨g, i, none⟩) (.inl rfl) (.int .u32 (q : Int)))
      go_wp2_with fail
      go_roundw
      case rel => exact ⟨j + 1, r', _, by omega, by omega, by go_num, by rw [eq2], HR.out, by have e : n - (j + 1) = i := by have := hi.out; omega
                                                                                              rw [e]; exact hinv', HG.out⟩
      case measure => simp [intOf]; omega
    · obtain rfl : j = n := by omega
      rw [Nat.sub_self] at hinv
      obtain ⟨e1, e2⟩ := hinv.end_
      have E2 := Lib.hid e2
      clear e2
      go_wp2_with fail
      go_ret
      exact ⟨L', by rw [← E2.out]; rfl, hrow', hgr, hinv.len, hinv.fit, e1, hinv.high⟩

end Go.Proofs.Ytiehkciofggonaa

/- nat: DivMod, where the numbers are small, or the divisor has one limb: what it answers. -/
namespace Go.Proofs.Ytiehkciofggonaa
open Go.RowKit

theorem of_int (x : Int) (w : World) (h : 0 ≤ x ∧ x ≤ 18446744073709551615) : Calls Try.prog 54 #[.int .u64 x] w (Gives w x.toNat) := by
  obtain ⟨n, rfl⟩ := Int.eq_ofNat_of_zero_le h.1
  exact of_any n w (by omega)

/-- two numbers, and no error -/
def GivesTwo (W : World) (N R : Nat) (e : Ending) (w' : World) : Prop :=
  ∃ u v, e = .returned (.tuple #[u, v, .int .i64 0]) ∧ Num w' u N ∧ Num w' v R ∧ Below W.heap.size W w'

theorem num_nil (w : World) : Num w (.slice none 0 0) 0 := ⟨none, 0, 0, [], rfl, Lims.nil_ _ _, M.Top.nil, rfl, by omega, by omega⟩

/-- DivMod of numbers in their own form -/
structure Two (w : World) (A B : Option Addr) (n m c d : Nat) (k l : List Nat) : Prop where
  ha : Lims w A n k
  hb : Lims w B m l
  hn : n ≤ c
  hm : m ≤ d
  hc : c ≤ maxLen
  hd : d ≤ maxLen
  hs : n ≤ 1000000
  ht : m ≤ 1000000

theorem divMod_zero (A B : Option Addr) (n m c d : Nat) (k l : List Nat) (w : World) (h : Two w A B n m c d k l) (h0 : M.val l = 0) :
    Calls Try.prog 72 #[.slice A n c, .slice B m d] w fun e w' => e = .returned (.tuple #[.slice none 0 0, .slice none 0 0, .int .i64 7]) ∧ w = w' := by
  obtain ⟨ha, hb, hn, hm, hc, hd, hs, ht⟩ := h
  go_enter Try.func72, Try.ntmps72
  go_wp2_with fail
  refine (trim_any _ _ _ _ _ ha hn hc).mono ?_
  rintro e w1 ⟨A', n', c', rfl, h1, h2, h3, h4, h5, h6, rfl⟩
  go_wp2_with fail
  refine (trim_any _ _ _ _ _ hb hm hd).mono ?_
  rintro e w1 ⟨B', m', d', rfl, g1, g2, g3, g4, g5, g6, rfl⟩
  have hz : m' ≤ 0 := M.len_le g2 g1.1 (k := 0) (by rw [g3, h0]; simp)
  clear g3 h3 h0 h2 g2 g1 h1
  go_wp2_with fail
  go_ret3
  exact ⟨rfl, rfl⟩

theorem divMod_less (A B : Option Addr) (n m c d : Nat) (k l : List Nat) (w : World) (h : Two w A B n m c d k l) (h0 : M.val k < M.val l) :
    Calls Try.prog 72 #[.slice A n c, .slice B m d] w (GivesTwo w (M.val k / M.val l) (M.val k % M.val l)) := by
  obtain ⟨ha, hb, hn, hm, hc, hd, hs, ht⟩ := h
  rw [Nat.div_eq_of_lt h0, Nat.mod_eq_of_lt h0]
  go_enter Try.func72, Try.ntmps72
  go_wp2_with fail
  refine (trim_any _ _ _ _ _ ha hn hc).mono ?_
  rintro e w1 ⟨A', n', c', rfl, h1, h2, h3, h4, h5, h6, rfl⟩
  go_wp2_with fail
  refine (trim_any _ _ _ _ _ hb hm hd).mono ?_
  rintro e w1 ⟨B', m', d', rfl, g1, g2, g3, g4, g5, g6, rfl⟩
  have hlk := ha.1
  have hn' : n' ≤ 1000000 := by omega
  clear hlk
  have hz : ((m' : Int) == 0) = false := by
    have : m' ≠ 0 := by rintro rfl; simp [M.val] at g3; omega
    simpa using this
  have H3 := Lib.hid h3
  have HC := Lib.hid (cmp_any A' B' n' m' c' d' _ _ w h1 g1 h5 g5 (by omega) (by omega))
  rw [h3, g3, M.cmpI_lt h0] at HC
  clear g3 h3 h0 h2 g2
  go_wp2_with fail
  refine HC.out.mono ?_
  rintro e w1 ⟨rfl, q, rfl⟩
  go_wp2_with fail
  refine (norm_any A' n' c' _ _ (h1.drewN q) h5 (by omega) hn').mono ?_
  rintro e w1 ⟨v, rfl, hv, hbel⟩
  go_wp2_with fail
  go_ret3
  exact ⟨_, _, rfl, num_nil _, by rw [← H3.out]; exact hv, (below_drewN (Below.refl _ _) q).trans hbel⟩

set_option maxHeartbeats 1000000 in
theorem divMod_small (A B : Option Addr) (n m c d : Nat) (k l : List Nat) (w : World) (h : Two w A B n m c d k l) (h0 : 0 < M.val l) (hle : M.val l ≤ M.val k) (hk : M.val k ≤ 18446744073709551615) :
    Calls Try.prog 72 #[.slice A n c, .slice B m d] w (GivesTwo w (M.val k / M.val l) (M.val k % M.val l)) := by
  obtain ⟨ha, hb, hn, hm, hc, hd, hs, ht⟩ := h
  obtain ⟨x, HX⟩ : ∃ x, Hid (M.val k = x) := ⟨_, rfl⟩
  obtain ⟨y, HY⟩ : ∃ y, Hid (M.val l = y) := ⟨_, rfl⟩
  rw [HX.out, HY.out]
  rw [HX.out] at hk hle
  rw [HY.out] at h0 hle
  obtain ⟨q, Hq⟩ : ∃ q, Hid (x / y = q) := ⟨_, rfl⟩
  obtain ⟨r, Hr⟩ : ∃ r, Hid (x % y = r) := ⟨_, rfl⟩
  rw [Hq.out, Hr.out]
  have hq : q ≤ x := by rw [← Hq.out]; exact Nat.div_le_self _ _
  have hr : r < y := by rw [← Hr.out]; exact Nat.mod_lt _ h0
  have eq1 : (x : Int) / (y : Int) = (q : Int) := by rw [← Hq.out]; rfl
  have eq2 : (x : Int) % (y : Int) = (r : Int) := by rw [← Hr.out]; rfl
  have eq3 : (x : Int).tdiv (y : Int) = (q : Int) := by rw [Int.tdiv_eq_ediv_of_nonneg (by omega)]; exact eq1
  have eq4 : (x : Int).tmod (y : Int) = (r : Int) := by rw [Int.tmod_eq_emod_of_nonneg (by omega)]; exact eq2
  have hy0 : ((y : Int) == 0) = false := by simp; omega
  have eq5 : IntKind.u64.wrap (q : Int) = (q : Int) := IntWalk.u64_in _ (by omega)
  have HQ := Lib.hid eq1
  clear eq1
  go_enter Try.func72, Try.ntmps72
  go_wp2_with fail
  refine (trim_any _ _ _ _ _ ha hn hc).mono ?_
  rintro e w1 ⟨A', n', c', rfl, h1, h2, h3, h4, h5, h6, rfl⟩
  go_wp2_with fail
  refine (trim_any _ _ _ _ _ hb hm hd).mono ?_
  rintro e w1 ⟨B', m', d', rfl, g1, g2, g3, g4, g5, g6, rfl⟩
  rw [HX.out] at h3
  rw [HY.out] at g3
  have hz : ((m' : Int) == 0) = false := by
    have : m' ≠ 0 := by rintro rfl; simp [M.val] at g3; omega
    simpa using this
  have HC := Lib.hid (cmp_any A' B' n' m' c' d' _ _ w h1 g1 h5 g5 (by omega) (by omega))
  rw [h3, g3] at HC
  obtain ⟨z, Hz, hz0⟩ : ∃ z : Int, Hid (M.cmpI x y = z) ∧ 0 ≤ z := ⟨_, rfl, by unfold M.cmpI; rw [if_neg (by omega)]; split <;> omega⟩
  rw [Hz.out] at HC
  have hn2 : n' ≤ 2 := M.len_le h2 h1.1 (k := 2) (by rw [h3]; simp [M.BB_eq]; omega)
  have hm2 : m' ≤ 2 := M.len_le g2 g1.1 (k := 2) (by rw [g3]; simp [M.BB_eq]; omega)
  clear h2 g2 h4 g4 h6 g6
  have h3' := Lib.hid h3
  have g3' := Lib.hid g3
  clear h3 g3
  go_wp2_with fail
  refine HC.out.mono ?_
  rintro e w1 ⟨rfl, j, rfl⟩
  have HS := Lib.hid (small_yes A' n' c' _ _ (h1.drewN j) hn2)
  have HT := Lib.hid (small_yes B' m' d' _ _ (g1.drewN j) hm2)
  rw [h3'.out] at HS
  rw [g3'.out] at HT
  go_wp2_with fail
  refine HS.out.mono ?_
  rintro e w1 ⟨rfl, rfl⟩
  go_wp2_with fail
  refine HT.out.mono ?_
  rintro e w1 ⟨rfl, rfl⟩
  go_wp2_with fail
  go_region_with (go_at_call 54; go_loud (refine (of_int _ _ (by omega)).mono ?_); rintro e w1 ⟨v, rfl, hv, hbel⟩)
  all_goals
    rename_i w0 v0 hv0 hbel0
    go_wp2_with fail
    go_ret3
    rw [Int.toNat_natCast] at hv hv0
    have hb0 : Below w.heap.size w w0 := (below_drewN (Below.refl _ _) _).trans hbel0
    have hb1 : Below w.heap.size w w1 := hb0.trans (hbel.mono hb0.size)
    first
      | exact ⟨_, _, rfl, hv0.below hbel, hv, hb1⟩
      | exact ⟨_, _, rfl, hv, hv0.below hbel, hb1⟩
end Go.Proofs.Ytiehkciofggonaa

/- nat: Gcd of small numbers: what it answers. -/
namespace Go.Proofs.Ytiehkciofggonaa
open Go.RowKit

end Go.Proofs.Ytiehkciofggonaa

/- nat: addTimes, Mul: what each answers. -/
namespace Go.Proofs.Ytiehkciofggonaa
open Go.RowKit

/-- addTimes' answer -/
def AddedT (W : World) (g o n k : Nat) (l L : List Nat) (e : Ending) (w' : World) : Prop :=
  ∃ (L' : List Nat) (c : Nat), e = .returned (.int .u32 (c : Nat)) ∧ Row w' g L' ∧ W.grownBy w' (some g) ∧ M.AT l L L' o n k c

theorem addTimes_any (g o n nn c d k : Nat) (B : Option Addr) (l L : List Nat) (w : World) (hrow : Row w g L) (hf : M.Fit L) (hl : Lims w B n l) (hne : ∀ b off, B = some ⟨b, off, none⟩ → b ≠ g) (hn : o + n ≤ L.length) (hnn : n ≤ nn) (hc : L.length ≤ 10000000) (hk : k ≤ 4294967295) :
    Calls Try.prog 69 #[.slice (some ⟨g, o, none⟩) nn c, .slice B n d, .int .u64 k] w (AddedT w g o n k l L) := by
  go_enter Try.func69, Try.ntmps69
  go_wp2_with fail
  go_loopw [7, 12] (fun cv iv wr => ∃ (i cy : Nat) (L' : List Nat), i ≤ n ∧ cy ≤ 4294967295 ∧ iv = .int .i64 i ∧ cv = .int .u64 cy ∧ Row wr g L' ∧ M.AT l L L' o i k cy ∧ w.grownBy wr (some g)) (fun _ iv _ => n - (intOf iv).toNat)
  case atStart => exact ⟨0, 0, L, by omega, by omega, rfl, rfl, hrow, M.AT.start hf, World.grownBy.refl _ _⟩
  case round =>
    obtain ⟨i, cy, L', hi, hcy, rfl, rfl, hrow', ht, hgr⟩ := hrel
    have hll := ht.len
    have HLL := Lib.hid hll
    clear hll
    by_cases hlt : i < n
    · obtain ⟨bb, bo, rfl, hbb, hcs⟩ := hl.at_ (by omega)
      obtain ⟨x, HX, hx, hcx⟩ := hcs i hlt
      have hbg := hne bb bo rfl
      have hcx' : wr.cell? ⟨bb, bo + i, none⟩ = some (.int .u32 (x : Int)) := (World.cell?_of_block (hgr.block bb hbb (by simp; omega))).trans hcx
      clear hcs hcx
      obtain ⟨y, HY⟩ : ∃ y, Hid (y = L'.getD (o + i) 0) := ⟨_, rfl⟩
      have hy : y ≤ 4294967295 := by rw [HY.out]; exact fit_of ht.fit _
      have hcell : wr.cell? ⟨g, o + i, none⟩ = some (.int .u32 (y : Int)) := by rw [HY.out]; exact hrow'.cell (by rw [HLL.out]; omega)
      have hfr := hrow'.frozen (o + i)
      obtain ⟨p, HP⟩ : ∃ p, Hid (x * k = p) := ⟨_, rfl⟩
      have hp : p ≤ 18446744065119617025 := by rw [← HP.out]; have := Nat.mul_le_mul hx hk; omega
      have hpe : (x : Int) * (k : Int) = (p : Int) := by rw [← HP.out]; rfl
      have hw : IntKind.u64.wrap (p : Int) = (p : Int) := IntWalk.u64_in _ (by omega)
      have hw2 : IntKind.u64.wrap ((p : Int) + (y : Int)) = (p : Int) + (y : Int) := IntWalk.u64_in _ (by omega)
      have hw3 : IntKind.u64.wrap ((p : Int) + (y : Int) + (cy : Int)) = (p : Int) + (y : Int) + (cy : Int) := IntWalk.u64_in _ (by omega)
      have ht' := ht.step (t := p + y + cy) (by omega) HX.out HY.out (by rw [M.BB_eq]; omega) (by rw [M.BB_eq]; omega) (by rw [HP.out])
      have hc2 := ht'.carry
      rw [M.BB_eq] at hc2
      have HR : Hid (∀ q, Row ((wr.drewN q).setCell ⟨g, o + i, none⟩ (.int .u32 (((p : Int) + y + cy) % 4294967296))) g (L'.set (o + i) ((p + y + cy) % M.BB))) := fun q => (hrow'.drewN q).set_' (o + i) _ (by rw [M.BB_eq]; omega)
      have HG : Hid (∀ q, w.grownBy ((wr.drewN q).setCell ⟨g, o + i, none⟩ (.int .u32 (((p : Int) + y + cy) % 4294967296))) (some g)) := fun q => only_setCell (only_drewN hgr q) (p := ⟨g, o + i, none⟩) (.inl rfl) _
      have hcr : Hid ((((p + y + cy) / M.BB : Nat) : Int) = ((p : Int) + y + cy) / 4294967296) := by rw [M.BB_eq]; exact (show _ = _ from by omega)
      clear hrow' hgr ht
      have HP2 := Lib.hid hp
      clear hp
      go_wp2_with fail
      go_quiet (fail)
      go_wp2_with fail
      go_roundw
      case rel => exact ⟨i + 1, _, _, by omega, by rw [M.BB_eq]; omega, by go_num, by rw [hcr.out], HR.out _, ht', HG.out _⟩
      case measure => simp [intOf]; omega
    · obtain rfl : i = n := by omega
      go_wp2_with fail
      go_ret
      exact ⟨L', cy, rfl, hrow', hgr, ht⟩
end Go.Proofs.Ytiehkciofggonaa

/- nat: Mul: what it answers. -/
namespace Go.Proofs.Ytiehkciofggonaa
open Go.RowKit

set_option maxHeartbeats 2000000 in
theorem mul_any (A B : Option Addr) (n m c d : Nat) (k l : List Nat) (w : World) (hk : Lims w A n k) (hl : Lims w B m l) (hn : n ≤ c) (hm : m ≤ d) (hc : c ≤ maxLen) (hd : d ≤ maxLen) (hs : n ≤ 1000000) (ht : m ≤ 1000000) :
    Calls Try.prog 46 #[.slice A n c, .slice B m d] w (Gives w (M.val k * M.val l)) := by
  go_enter Try.func46, Try.ntmps46
  go_wp2_with fail
  refine (trim_any _ _ _ _ _ hk hn hc).mono ?_
  rintro e w1 ⟨A', n', c', rfl, h1, h2, h3, h4, h5, h6, rfl⟩
  go_wp2_with fail
  refine (trim_any _ _ _ _ _ hl hm hd).mono ?_
  rintro e w1 ⟨B', m', d', rfl, g1, g2, g3, g4, g5, g6, rfl⟩
  have hs' : n' ≤ 1000000 := by have := hk.1; omega
  have ht' : m' ≤ 1000000 := by have := hl.1; omega
  generalize k.take n' = a at *
  generalize l.take m' = b at *
  have hv : Hid (M.val k * M.val l = M.val a * M.val b) := by rw [h3, g3]; exact rfl
  clear h3 g3 h2 g2 h4 g4 hk hl hn hm hs ht
  unfold maxLen at hc hd
  by_cases hn0 : n' = 0
  · subst hn0
    have hz : Hid (M.val k * M.val l = 0) := by rw [hv.out, List.eq_nil_of_length_eq_zero h1.1]; exact (Nat.zero_mul _)
    go_wp2_with fail
    go_ret
    exact ⟨_, rfl, by rw [hz.out]; exact ⟨none, 0, 0, [], rfl, Lims.nil_ _ _, M.Top.nil, rfl, by omega, by omega⟩, Below.refl _ _⟩
  by_cases hm0 : m' = 0
  · subst hm0
    have hn1 : ((n' : Int) == 0) = false := by simp; omega
    have hz : Hid (M.val k * M.val l = 0) := by rw [hv.out, List.eq_nil_of_length_eq_zero g1.1]; exact (Nat.mul_zero _)
    clear hn0
    go_wp2_with fail
    go_ret
    exact ⟨_, rfl, by rw [hz.out]; exact ⟨none, 0, 0, [], rfl, Lims.nil_ _ _, M.Top.nil, rfl, by omega, by omega⟩, Below.refl _ _⟩
  have hn1 : ((n' : Int) == 0) = false := by simp; omega
  have hm1 : ((m' : Int) == 0) = false := by simp; omega
  have hnp : 0 < n' := by omega
  have hmp : 0 < m' := by omega
  clear hn0 hm0
  obtain ⟨p, hp⟩ : ∃ p, Hid (n' + m' = p) := ⟨_, rfl⟩
  have hpe : (n' : Int) + (m' : Int) = (p : Int) := by have := hp.out; omega
  have hp2 : p ≤ 2000000 := by have := hp.out; omega
  have hmk := make_any p (by omega)
  have hrow0 := Row.zeros_ w p
  have HB0 : Hid (Below w.heap.size w (w.alloc (.cells (zeros p) 57))) := (Below.refl _ _).alloc (Nat.le_refl _) _
  have HST : Hid (M.MulInv a b (List.replicate p 0) n' m' 0) := by rw [← hp.out]; exact M.MulInv.start a b n' m'
  have HA1 : Hid (a.length = n') := h1.1
  have HB1 : Hid (b.length = m') := g1.1
  go_wp2_with fail
  go_loopw [27] (fun iv wr => ∃ (i : Nat) (L : List Nat), i ≤ n' ∧ iv = .int .i64 i ∧ Row wr w.heap.size L ∧ M.MulInv a b L n' m' i ∧ Below w.heap.size w wr) (fun iv _ => n' - (intOf iv).toNat)
  case atStart => exact ⟨0, _, by omega, rfl, hrow0, HST.out, HB0.out⟩
  case round =>
    obtain ⟨i, L, hi, rfl, hrow, hinv, hbel⟩ := hrel
    have hll := hinv.len
    have HLL := Lib.hid (hll.trans hp.out)
    clear hll
    by_cases hlt : i < n'
    · obtain ⟨ab, ao, rfl, hab, hcs⟩ := h1.at_ (by omega)
      obtain ⟨x, HX, hx, hcx⟩ := hcs i hlt
      have hcx' : wr.cell? ⟨ab, ao + i, none⟩ = some (.int .u32 (x : Int)) := (hbel.cell hab).trans hcx
      clear hcs hcx
      obtain ⟨j, hj⟩ : ∃ j, Hid (i + m' = j) := ⟨_, rfl⟩
      have hje : (i : Int) + (m' : Int) = (j : Int) := by have := hj.out; omega
      have hij : i ≤ j := by have := hj.out; omega
      have hjp : j < p := by have := hj.out; have := hp.out; omega
      have hjw : IntKind.i64.wrap (j : Int) = (j : Int) := IntWalk.i64_in _ (by omega)
      have hip : ¬ p = i := by omega
      have hjl : j ≤ p := by omega
      have hxw : IntKind.u64.wrap (x : Int) = (x : Int) := IntWalk.u64_in _ (by omega)
      have hb2 := g1.below hbel
      have HC := Lib.hid fun (W : World) (nn cc : Nat) (q1 : Row W w.heap.size L) (q2 : Lims W B' m' b) (hnn : m' ≤ nn) => addTimes_any w.heap.size i m' nn cc d' x B' b L W q1 hinv.fit q2 (by
        intro b1 o1 e
        obtain ⟨b2, o2, e2, h2, _⟩ := g1.2.2 hmp
        rw [e2] at e
        injection e with e
        injection e with e
        omega) (by rw [HLL.out, hj.out]; omega) hnn (by rw [HLL.out]; omega) hx
      go_wp2_with fail
      go_region_with (go_at_call 69; go_loud (refine (HC.out _ _ _ (by exact hrow) (by exact hb2) (by have := hj.out; omega)).mono ?_); rintro e w2 ⟨L2, cy, rfl, r2, g2, t2⟩; obtain ⟨old, hst⟩ : ∃ old : Nat, w2.cell? ⟨w.heap.size, j, none⟩ = some (.int .u32 (old : Int)) := ⟨_, r2.cell (by rw [t2.len, HLL.out]; exact hjp)⟩; have hfr := r2.frozen j)
      all_goals
        have HR : Hid (Row (w2.setCell ⟨w.heap.size, j, none⟩ (.int .u32 (cy : Int))) w.heap.size (L2.set (i + m') cy)) := by rw [hj.out]; exact r2.set_ j cy
        have HB : Hid (Below w.heap.size w (w2.setCell ⟨w.heap.size, j, none⟩ (.int .u32 (cy : Int)))) := ((Below.drew hbel).grown g2 (by exact hbel.size) (by intro q hq; injection hq with hq; omega)).setCell (Nat.le_refl _) _
        have hinv2 := hinv.step hlt HB1.out HX.out t2
        clear r2 g2 t2 hst hfr HC hinv hrow
        go_wp2_with fail
        go_roundw
        case rel => exact ⟨i + 1, _, by omega, by go_num, by exact HR.out, hinv2, by first | exact HB.out | exact HB.out.drew | exact below_drewN HB.out _⟩
        case measure => simp [intOf]; omega
    · obtain rfl : i = n' := by omega
      have hs2 : Hid (M.val L = M.val k * M.val l) := by
        have := hinv.sum
        rw [List.take_of_length_le (by rw [HA1.out]; exact Nat.le_refl _)] at this
        exact this.trans hv.out.symm
      have HT2 := Lib.hid (trim_any (some ⟨w.heap.size, 0, none⟩) p p L wr (hrow.lims hinv.fit HLL.out) (Nat.le_refl _) (by unfold maxLen; omega))
      clear hinv
      go_wp2_with fail
      refine HT2.out.mono ?_
      rintro e w2 hT
      obtain ⟨A3, n3, c3, rfl, hT⟩ := hT
      go_wp2_with fail
      go_ret
      have := Trimmed.gives (W := w) ⟨A3, n3, c3, rfl, hT⟩ (by unfold maxLen; omega) hbel
      rw [hs2.out] at this
      exact this
end Go.Proofs.Ytiehkciofggonaa

/- nat: Sub: what it answers. -/
namespace Go.Proofs.Ytiehkciofggonaa
open Go.RowKit

/-- a number, and no error -/
def Gives1 (W : World) (N : Nat) (e : Ending) (w' : World) : Prop := ∃ v, e = .returned (.tuple #[v, .int .i64 0]) ∧ Num w' v N ∧ Below W.heap.size W w'

theorem cmp_lt {A B : Option Addr} {n m c d : Nat} {k l : List Nat} {w : World} (hk : Lims w A n k) (hl : Lims w B m l) (hn : n ≤ c) (hm : m ≤ d) (hc : c ≤ maxLen) (hd : d ≤ maxLen) (h : M.val k < M.val l) :
    Calls Try.prog 48 #[.slice A n c, .slice B m d] w fun e w' => e = .returned (.int .i64 (-1)) ∧ ∃ j, w' = w.drewN j := by
  have := cmp_any A B n m c d k l w hk hl hn hm hc hd
  rw [M.cmpI_lt h] at this
  exact this
theorem cmp_ge {A B : Option Addr} {n m c d : Nat} {k l : List Nat} {w : World} (hk : Lims w A n k) (hl : Lims w B m l) (hn : n ≤ c) (hm : m ≤ d) (hc : c ≤ maxLen) (hd : d ≤ maxLen) (h : M.val l ≤ M.val k) :
    ∃ z : Nat, Calls Try.prog 48 #[.slice A n c, .slice B m d] w fun e w' => e = .returned (.int .i64 (z : Int)) ∧ ∃ j, w' = w.drewN j := by
  have := cmp_any A B n m c d k l w hk hl hn hm hc hd
  rcases Nat.lt_or_ge (M.val l) (M.val k) with h1 | h1
  · rw [M.cmpI_gt h1] at this
    exact ⟨1, this⟩
  · obtain e : M.val k = M.val l := by omega
    rw [e, M.cmpI_eq] at this
    exact ⟨0, this⟩

theorem sub_err (A B : Option Addr) (n m c d : Nat) (k l : List Nat) (w : World) (hk : Lims w A n k) (hl : Lims w B m l) (hn : n ≤ c) (hm : m ≤ d) (hc : c ≤ maxLen) (hd : d ≤ maxLen) (hlt : M.val k < M.val l) :
    Calls Try.prog 64 #[.slice A n c, .slice B m d] w fun e w' => e = .returned (.tuple #[.slice none 0 0, .int .i64 6]) ∧ ∃ j, w' = w.drewN j := by
  go_enter Try.func64, Try.ntmps64
  go_wp2_with fail
  refine (trim_any _ _ _ _ _ hk hn hc).mono ?_
  rintro e w1 ⟨A', n', c', rfl, h1, h2, h3, h4, h5, h6, rfl⟩
  go_wp2_with fail
  refine (trim_any _ _ _ _ _ hl hm hd).mono ?_
  rintro e w1 ⟨B', m', d', rfl, g1, g2, g3, g4, g5, g6, rfl⟩
  have HC := Lib.hid (cmp_lt h1 g1 h5 g5 (by omega) (by omega) (by rw [h3, g3]; exact hlt))
  clear h3 g3 h2 g2 hlt
  go_wp2_with fail
  refine HC.out.mono ?_
  rintro e w1 ⟨rfl, j, rfl⟩
  go_wp2_with fail
  go_ret2
  exact ⟨rfl, j, rfl⟩

/-- one limb's difference, as Go reckons it -/
theorem sub_word (x y c : Nat) (hx : x ≤ 4294967295) (hy : y ≤ 4294967295) (hc : c ≤ 1) :
    ∃ u t v c' : Nat, IntKind.u64.wrap ((x : Int) - (y : Int)) = (u : Int) ∧ IntKind.u64.wrap ((u : Int) - (c : Int)) = (t : Int) ∧ (t : Int) % 4294967296 = (v : Int) ∧ (t : Int) / 9223372036854775808 = (c' : Int) ∧
      v ≤ 4294967295 ∧ c' ≤ 1 ∧ v + y + c = x + 4294967296 * c' := by
  rw [IntKind.wrap_u64]
  refine ⟨(x + 18446744073709551616 - y) % 18446744073709551616, ((x + 18446744073709551616 - y) % 18446744073709551616 + 18446744073709551616 - c) % 18446744073709551616,
    (((x + 18446744073709551616 - y) % 18446744073709551616 + 18446744073709551616 - c) % 18446744073709551616) % 4294967296,
    (((x + 18446744073709551616 - y) % 18446744073709551616 + 18446744073709551616 - c) % 18446744073709551616) / 9223372036854775808, ?_, ?_, ?_, ?_, ?_, ?_, ?_⟩
  · omega
  · rw [IntKind.wrap_u64]; omega
  · omega
  · omega
  · omega
  · omega
  · omega

set_option maxHeartbeats 2000000 in
theorem sub_ok (A B : Option Addr) (n m c d : Nat) (k l : List Nat) (w : World) (hk : Lims w A n k) (hl : Lims w B m l) (hn : n ≤ c) (hm : m ≤ d) (hc : c ≤ maxLen) (hd : d ≤ maxLen) (hs : n ≤ 1000000) (hle : M.val l ≤ M.val k) :
    Calls Try.prog 64 #[.slice A n c, .slice B m d] w (Gives1 w (M.val k - M.val l)) := by
  go_enter Try.func64, Try.ntmps64
  go_wp2_with fail
  refine (trim_any _ _ _ _ _ hk hn hc).mono ?_
  rintro e w1 ⟨A', n', c', rfl, h1, h2, h3, h4, h5, h6, rfl⟩
  go_wp2_with fail
  refine (trim_any _ _ _ _ _ hl hm hd).mono ?_
  rintro e w1 ⟨B', m', d', rfl, g1, g2, g3, g4, g5, g6, rfl⟩
  have hs' : n' ≤ 1000000 := by have := hk.1; omega
  obtain ⟨z, HC⟩ := cmp_ge h1 g1 h5 g5 (by omega) (by omega) (by rw [h3, g3]; exact hle)
  have HC := Lib.hid HC
  generalize k.take n' = a at *
  generalize l.take m' = b at *
  have hv : Hid (M.val k - M.val l = M.val a - M.val b) := by rw [h3, g3]; exact rfl
  have hle' : Hid (M.val b ≤ M.val a) := by rw [h3, g3]; exact hle
  have hmn : m' ≤ n' := by
    rcases Nat.lt_or_ge n' m' with h | h
    · have := M.lt_of_shorter h1.2.1 g2 (by rw [h1.1, g1.1]; exact h)
      have := hle'.out
      omega
    · exact h
  have ha : Hid (a.length = n') := h1.1
  have hb : Hid (b.length = m') := g1.1
  clear h3 g3 h2 g2 h4 g4 hk hl hn hm hs hle
  unfold maxLen at hc hd
  go_wp2_with fail
  refine HC.out.mono ?_
  rintro e w1 ⟨rfl, j0, rfl⟩
  have h1 := h1.drewN j0
  have g1 := g1.drewN j0
  have hb0 : Hid (Below w.heap.size w (w.drewN j0)) := below_drewN (Below.refl _ _) j0
  generalize w.drewN j0 = W at *
  have hmk := make_any n' (by omega)
  go_wp2_with (refine copy_any rfl (.tmp 21) (.tmp 22) rfl rfl rfl (Row.zeros_ _ _) (h1.below ((Below.refl _ _).alloc (Nat.le_refl _) _)) (Nat.le_refl _) ((Below.refl _ _).alloc (Nat.le_refl _) _) ?_; intro w2 hrow hbel)
  have hrow : Row w2 W.heap.size a := by rw [Nat.sub_self, List.replicate_zero, List.append_nil] at hrow; exact hrow
  go_loopw [7, 26] (fun cv iv wr => ∃ (i cy : Nat) (L : List Nat), i ≤ n' ∧ cy ≤ 1 ∧ iv = .int .i64 i ∧ cv = .int .u64 cy ∧ Row wr W.heap.size L ∧ M.SubInv a b L n' i cy ∧ Below W.heap.size W wr) (fun _ iv _ => n' - (intOf iv).toNat)
  case atStart => exact ⟨0, 0, _, by omega, by omega, rfl, rfl, hrow, M.SubInv.start ha.out h1.2.1, hbel⟩
  case round =>
    obtain ⟨i, cy, L, hi, hcy, rfl, rfl, hrow, hinv, hbel⟩ := hrel
    by_cases hlt : i < n'
    · have hmx : m' ≤ 9223372036854775807 := by omega
      rcases (show (m' ≤ i ∧ cy ≤ 0) ∨ i < m' ∨ (m' ≤ i ∧ 1 ≤ cy) from by omega) with ⟨hbr, hz⟩ | hbr
      · have HE := Lib.hid (hinv.end_ ha.out (by rw [hb.out]; omega) hi (.inr ⟨by rw [hb.out]; exact hbr, by omega⟩) hle'.out)
        have hll := hinv.len
        have HT := Lib.hid (trim_any (some ⟨W.heap.size, 0, none⟩) n' n' L wr (hrow.lims hinv.fit hll) (Nat.le_refl _) (by unfold maxLen; omega))
        clear hinv hrow hll
        go_wp2_with fail
        refine HT.out.mono ?_
        rintro e w3 hT
        obtain ⟨A3, n3, c3, rfl, t1, t2, t3, t4, t5, t6, rfl⟩ := hT
        have T2 := Lib.hid t2
        have T3 := Lib.hid (t3.trans (HE.out.trans hv.out.symm))
        clear t2 t3
        go_wp2_with fail
        go_ret2
        exact ⟨_, rfl, ⟨A3, n3, c3, _, rfl, t1, T2.out, T3.out, t5, by unfold maxLen; omega⟩, hb0.out.trans (hbel.mono hb0.out.size)⟩
      · obtain ⟨ab, ao, rfl, hab, hc1⟩ := h1.at_ (by omega)
        obtain ⟨x, HX, hx, hcx⟩ := hc1 i hlt
        obtain ⟨y, HY⟩ : ∃ y, Hid (y = b.getD i 0) := ⟨_, rfl⟩
        have hy : y ≤ 4294967295 := by rw [HY.out]; exact fit_of g1.2.1 i
        have hcx' : wr.cell? ⟨ab, ao + i, none⟩ = some (.int .u32 (x : Int)) := (hbel.cell hab).trans hcx
        clear hc1 hcx
        have hst : wr.cell? ⟨W.heap.size, i, none⟩ = some (.int .u32 ((L.getD i 0 : Nat) : Int)) := hrow.cell (by rw [hinv.len]; omega)
        have hfr := hrow.frozen i
        generalize L.getD i 0 = old at hst
        obtain ⟨u, t, v, c', hu, ht, hv1, hv2, hvb, hcb, hve⟩ := sub_word x y cy hx hy hcy
        have hinv2 := hinv.step (v := v) (c' := c') hlt HX.out HY.out (by rw [M.BB_eq]; omega) hcb (by rw [M.BB_eq]; exact hve)
        have HR := Lib.hid fun q => (hrow.drewN q).set_ i v
        have HB : Hid (∀ (q : Nat) (v : Value), Below W.heap.size W ((wr.drewN q).setCell ⟨W.heap.size, i, none⟩ v)) := fun q v => (below_drewN hbel q).setCell (Nat.le_refl _) v
        have HV2 := Lib.hid hv2
        clear hv2 hve hinv
        rcases hbr with hbr | ⟨hbr, hb1⟩
        all_goals
          go_wp2_with fail
          go_quiet ((go_at_call 81; exact Calls.quiet_of_same (limb_q ((g1.below hbel).drewN _) (by unfold maxLen; omega) (by unfold maxLen; omega) HY)))
          go_wp2_with fail
          go_roundw
          case rel => exact ⟨i + 1, c', _, by omega, hcb, by go_num, by rw [HV2.out], HR.out _, hinv2, HB.out _ _⟩
          case measure => simp [intOf]; omega
    · have HE := Lib.hid (hinv.end_ ha.out (by rw [hb.out]; omega) hi (.inl (by omega)) hle'.out)
      have hll := hinv.len
      have HT := Lib.hid (trim_any (some ⟨W.heap.size, 0, none⟩) n' n' L wr (hrow.lims hinv.fit hll) (Nat.le_refl _) (by unfold maxLen; omega))
      clear hinv hrow hll
      go_wp2_with fail
      refine HT.out.mono ?_
      rintro e w3 hT
      obtain ⟨A3, n3, c3, rfl, t1, t2, t3, t4, t5, t6, rfl⟩ := hT
      have T2 := Lib.hid t2
      have T3 := Lib.hid (t3.trans (HE.out.trans hv.out.symm))
      clear t2 t3
      go_wp2_with fail
      go_ret2
      exact ⟨_, rfl, ⟨A3, n3, c3, _, rfl, t1, T2.out, T3.out, t5, by unfold maxLen; omega⟩, hb0.out.trans (hbel.mono hb0.out.size)⟩
end Go.Proofs.Ytiehkciofggonaa
