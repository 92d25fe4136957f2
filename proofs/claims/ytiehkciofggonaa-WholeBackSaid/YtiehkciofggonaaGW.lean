/- several texts in one. -/
import Derived.Test.YtiehkciofggonaaGV
import Derived.Test.YtiehkciofggonaaGE
import Derived.Test.YtiehkciofggonaaGS
import Derived.Test.YtiehkciofggonaaGD
import Derived.Test.YtiehkciofggonaaGF
import Derived.Test.YtiehkciofggonaaShelf
import Derived.Lib.SmallJoins
import Derived.ProofKit
import Derived.OpenShut
import Derived.ShutString
import Derived.ChangeOld
import Derived.Below
/- whole: Cmp, Int, Of, Text: what each answers. -/
namespace Go.Proofs.Ytiehkciofggonaa
open Go.RowKit

theorem Z.cmp_same (z y s k : Int) (hz : Z.sgn z = s) (hy : Z.sgn y = s) (hk : M.cmpI z.natAbs y.natAbs = k) : s * k = Z.sgn (z - y) := by
  subst hk
  rcases Z.sgn_cases z with ⟨h1, h2⟩ | ⟨h1, h2⟩ | ⟨h1, h2⟩ <;> rcases Z.sgn_cases y with ⟨h3, h4⟩ | ⟨h3, h4⟩ | ⟨h3, h4⟩ <;> rw [h2] at hz <;> rw [h4] at hy <;> subst hz
  · rcases Nat.lt_trichotomy z.natAbs y.natAbs with e | e | e
    · rw [M.cmpI_lt e, Z.sgn_pos (by omega)]; rfl
    · rw [e, M.cmpI_eq, show z - y = 0 by omega]; rfl
    · rw [M.cmpI_gt e, Z.sgn_neg (by omega)]; rfl
  · omega
  · omega
  · omega
  · rw [h1, h3]; rfl
  · omega
  · omega
  · omega
  · rcases Nat.lt_trichotomy z.natAbs y.natAbs with e | e | e
    · rw [M.cmpI_lt e, Z.sgn_neg (by omega)]; rfl
    · rw [e, M.cmpI_eq, show z - y = 0 by omega]; rfl
    · rw [M.cmpI_gt e, Z.sgn_pos (by omega)]; rfl
theorem Z.cmp_lt (z y : Int) (h : Z.sgn z < Z.sgn y) : Z.sgn (z - y) = -1 := by
  rcases Z.sgn_cases z with ⟨h1, h2⟩ | ⟨h1, h2⟩ | ⟨h1, h2⟩ <;> rcases Z.sgn_cases y with ⟨h3, h4⟩ | ⟨h3, h4⟩ | ⟨h3, h4⟩ <;> rw [h2, h4] at h <;> first | omega | exact Z.sgn_neg (by omega)
theorem Z.cmp_gt (z y : Int) (h : Z.sgn y < Z.sgn z) : Z.sgn (z - y) = 1 := by
  rw [Z.sgn_sub, Z.cmp_lt y z h]; rfl

theorem cmp_w (g h : Bool) (A B : Option Addr) (n c m d : Nat) (z y : Int) (w : World) (ha : WIn w g A n c z) (hb : WIn w h B m d y) :
    Calls Try.prog 22 #[.agg #[.bool g, .slice A n c], .agg #[.bool h, .slice B m d]] w fun e w' => e = .returned (.int .i64 (Z.sgn (z - y))) ∧ Below w.heap.size w w' := by
  obtain ⟨s, HZ⟩ : ∃ s, Hid (Z.sgn z = s) := ⟨_, rfl⟩
  obtain ⟨t, HY⟩ : ∃ t, Hid (Z.sgn y = t) := ⟨_, rfl⟩
  obtain ⟨r, HR⟩ : ∃ r, Hid (Z.sgn (z - y) = r) := ⟨_, rfl⟩
  obtain ⟨k, HK⟩ : ∃ k, Hid (M.cmpI z.natAbs y.natAbs = k) := ⟨_, rfl⟩
  have HG := Lib.hid fun (W : World) (q : W.cell? ⟨w.heap.size, 0, none⟩ = some (.bool g) ∧ W.cell? ⟨w.heap.size, 1, none⟩ = some (.slice A n c) ∧ W.cell? ⟨w.heap.size + 1, 0, none⟩ = some (.bool h) ∧ W.cell? ⟨w.heap.size + 1, 1, none⟩ = some (.slice B m d) ∧ Held2 w g A n c h B m d 0 W) => sign_w g A n c z W (ha.below q.2.2.2.2.bel)
  have HH := Lib.hid fun (W : World) (q : W.cell? ⟨w.heap.size, 0, none⟩ = some (.bool g) ∧ W.cell? ⟨w.heap.size, 1, none⟩ = some (.slice A n c) ∧ W.cell? ⟨w.heap.size + 1, 0, none⟩ = some (.bool h) ∧ W.cell? ⟨w.heap.size + 1, 1, none⟩ = some (.slice B m d) ∧ Held2 w g A n c h B m d 0 W) => sign_w h B m d y W (hb.below q.2.2.2.2.bel)
  have HC := Lib.hid fun (W : World) (q : Held2 w g A n c h B m d 0 W) => cmp_num (ha.below q.bel).1 (hb.below q.bel).1
  rw [HZ.out] at HG
  rw [HY.out] at HH
  rw [HK.out] at HC
  rw [HR.out]
  have HS := Lib.hid (Held2.zero w g h A B n c m d).drew.s
  clear ha hb
  rcases Int.lt_trichotomy s t with hst | hst | hst
  · obtain rfl : r = -1 := by rw [← HR.out]; exact Z.cmp_lt z y (by rw [HZ.out, HY.out]; exact hst)
    go_enter Try.func22, Try.ntmps22
    go_wp2_with fail
    go_region_held3 (fun w' => w'.cell? ⟨w.heap.size, 0, none⟩ = some (.bool g) ∧ w'.cell? ⟨w.heap.size, 1, none⟩ = some (.slice A n c) ∧ w'.cell? ⟨w.heap.size + 1, 0, none⟩ = some (.bool h) ∧ w'.cell? ⟨w.heap.size + 1, 1, none⟩ = some (.slice B m d) ∧ Held2 w g A n c h B m d 0 w')
      (first | exact Held2.keep (by assumption) (by assumption) | exact HS.out)
      (first | (go_at_call 24; first | (with_reducible refine (HG.out _ ?_).mono ?_; assumption; rintro e w1 ⟨rfl, b1⟩) | (with_reducible refine (HH.out _ ?_).mono ?_; assumption; rintro e w2 ⟨rfl, b2⟩)))
    rename_i hh
    have q2 : Held2 w g A n c h B m d 0 w2 := hh.2.2.2.2
    clear hh b1 b2 HS
    have bl := q2.bel
    go_wp2_with fail
    go_ret
    exact ⟨rfl, bl⟩
  · have hr : r = s * k := by rw [← HR.out]; exact (Z.cmp_same z y s k HZ.out (HY.out.trans hst.symm) HK.out).symm
    have hw : IntKind.i64.wrap (s * k) = r := by
      rw [← hr]
      exact IntWalk.i64_in _ (by have := Z.sgn_bd (z - y); rw [HR.out] at this; omega)
    have hr := Lib.hid hr
    subst hst
    go_enter Try.func22, Try.ntmps22
    go_wp2_with fail
    go_region_held3 (fun w' => w'.cell? ⟨w.heap.size, 0, none⟩ = some (.bool g) ∧ w'.cell? ⟨w.heap.size, 1, none⟩ = some (.slice A n c) ∧ w'.cell? ⟨w.heap.size + 1, 0, none⟩ = some (.bool h) ∧ w'.cell? ⟨w.heap.size + 1, 1, none⟩ = some (.slice B m d) ∧ Held2 w g A n c h B m d 0 w')
      (first | exact Held2.keep (by assumption) (by assumption) | exact HS.out)
      (first | (go_at_call 24; first | (with_reducible refine (HG.out _ ?_).mono ?_; assumption; rintro e w1 ⟨rfl, b1⟩) | (with_reducible refine (HH.out _ ?_).mono ?_; assumption; rintro e w2 ⟨rfl, b2⟩)))
    rename_i hh
    have q2 : Held2 w g A n c h B m d 0 w2 := hh.2.2.2.2
    clear hh b1 b2 HS
    have bl := q2.bel
    obtain ⟨x0, x1, x2, _⟩ := q2.box
    obtain ⟨y0, y1, y2, _⟩ := q2.box2
    go_wp2_with fail
    refine (HC.out _ q2).mono ?_
    rintro e w3 ⟨rfl, b3⟩
    have q3 := (q2.below b3).bel
    clear x0 x1 x2 y0 y1 y2 b3 bl
    go_wp2_with fail
    go_ret
    exact ⟨by rw [hr.out]; rfl, q3⟩
  · obtain rfl : r = 1 := by rw [← HR.out]; exact Z.cmp_gt z y (by rw [HZ.out, HY.out]; exact hst)
    go_enter Try.func22, Try.ntmps22
    go_wp2_with fail
    go_region_held3 (fun w' => w'.cell? ⟨w.heap.size, 0, none⟩ = some (.bool g) ∧ w'.cell? ⟨w.heap.size, 1, none⟩ = some (.slice A n c) ∧ w'.cell? ⟨w.heap.size + 1, 0, none⟩ = some (.bool h) ∧ w'.cell? ⟨w.heap.size + 1, 1, none⟩ = some (.slice B m d) ∧ Held2 w g A n c h B m d 0 w')
      (first | exact Held2.keep (by assumption) (by assumption) | exact HS.out)
      (first | (go_at_call 24; first | (with_reducible refine (HG.out _ ?_).mono ?_; assumption; rintro e w1 ⟨rfl, b1⟩) | (with_reducible refine (HH.out _ ?_).mono ?_; assumption; rintro e w2 ⟨rfl, b2⟩)))
    rename_i hh
    have q2 : Held2 w g A n c h B m d 0 w2 := hh.2.2.2.2
    clear hh b1 b2 HS
    have bl := q2.bel
    go_wp2_with fail
    go_ret
    exact ⟨rfl, bl⟩

/-- a number as an int, or nought -/
def iZ (z : Int) : Int := if z.natAbs < 4611686018427387904 then z else 0
def iB (z : Int) : Bool := decide (z.natAbs < 4611686018427387904)
theorem int_num {w : World} {A : Option Addr} {n c N : Nat} (h : In w A n c N) : Calls Try.prog 56 #[.slice A n c] w fun e w' => e = .returned (.tuple #[.int .i64 (iZ (N : Int)), .bool (iB (N : Int))]) ∧ w = w' := by
  obtain ⟨l, h1, rfl, h3, h4, h5⟩ := h
  unfold iZ iB
  rw [Int.natAbs_natCast]
  by_cases hv : M.val l < 4611686018427387904
  · rw [if_pos hv, decide_eq_true hv]
    exact int_small A n c l w h1 h3 h4 (by omega)
  · rw [if_neg hv, decide_eq_false hv]
    exact int_great A n c l w h1 h3 h4 (by omega)
theorem Z.sgn_iZ (z : Int) : Z.sgn z * iZ (z.natAbs : Int) = iZ z ∧ iB (z.natAbs : Int) = iB z := by
  unfold iZ iB
  rw [Int.natAbs_natCast]
  refine ⟨?_, rfl⟩
  split
  · rcases Z.sgn_cases z with ⟨h1, h2⟩ | ⟨h1, h2⟩ | ⟨h1, h2⟩ <;> rw [h2] <;> omega
  · simp
theorem iZ_bd (z : Int) : -4611686018427387904 ≤ iZ z ∧ iZ z ≤ 4611686018427387904 := by
  unfold iZ
  split <;> omega

theorem int_w (g : Bool) (A : Option Addr) (n c : Nat) (z : Int) (w : World) (h : WIn w g A n c z) :
    Calls Try.prog 34 #[.agg #[.bool g, .slice A n c]] w fun e w' => e = .returned (.tuple #[.int .i64 (iZ z), .bool (iB z)]) ∧ Below w.heap.size w w' := by
  obtain ⟨s, HZ⟩ : ∃ s, Hid (Z.sgn z = s) := ⟨_, rfl⟩
  obtain ⟨i, HI⟩ : ∃ i, Hid (iZ (z.natAbs : Int) = i) := ⟨_, rfl⟩
  obtain ⟨b, HB⟩ : ∃ b, Hid (iB (z.natAbs : Int) = b) := ⟨_, rfl⟩
  obtain ⟨r, HR⟩ : ∃ r, Hid (iZ z = r) := ⟨_, rfl⟩
  have hr : s * i = r := by rw [← HZ.out, ← HI.out, ← HR.out]; exact (Z.sgn_iZ z).1
  have hb : iB z = b := by rw [← HB.out]; exact (Z.sgn_iZ z).2.symm
  rw [hb, HR.out]
  have hw : IntKind.i64.wrap (s * i) = s * i := by
    rw [hr]
    exact IntWalk.i64_in _ (by have := iZ_bd z; rw [HR.out] at this; omega)
  have hw' : Hid (wrap64 r = r) := show wrap64 r = r by unfold wrap64; have := iZ_bd z; rw [HR.out] at this; omega
  have HN := Lib.hid fun (W : World) (q : Held1 w g A n c 0 W) => int_num (h.below q.bel).1
  have HG := Lib.hid fun (W : World) (q : Held1 w g A n c 0 W) => sign_w g A n c z W (h.below q.bel)
  rw [HI.out, HB.out] at HN
  rw [HZ.out] at HG
  have hr := Lib.hid hr
  clear hb h
  have q0 := Held1.zero w g A n c
  go_enter Try.func34, Try.ntmps34
  go_wp2_with fail
  refine (HN.out _ q0).mono ?_
  rintro e w1 ⟨rfl, rfl⟩
  go_wp2_with fail
  refine (HG.out _ q0).mono ?_
  rintro e w2 ⟨rfl, b2⟩
  have bl := (q0.below b2).bel
  clear b2
  go_wp2_with fail
  go_ret2
  exact ⟨by show Ending.returned (.tuple #[.int .i64 (wrap64 r), .bool b]) = _; rw [hw'.out], bl⟩

theorem Z.sig_one (N : Nat) : Z.sig 1 N = (N : Int) := by simp [Z.sig]
theorem Z.sig_mone (N : Nat) : Z.sig (-1) N = -(N : Int) := by simp [Z.sig]
theorem room_new (w : World) : Room (w.alloc (.cells #[.bool false, .slice none 0 0] 24)) w.heap.size := Room.new w false none 0 0

set_option maxRecDepth 100000 in
theorem of_w (z : Int) (w : World) (hz : -9223372036854775808 ≤ z ∧ z ≤ 9223372036854775807) :
    Calls Try.prog 32 #[.int .i64 z] w (WGives w z) := by
  obtain ⟨N, HN⟩ : ∃ N, Hid (z.natAbs = N) := ⟨_, rfl⟩
  have HO := Lib.hid fun (W : World) => of_any N W (by have := HN.out; omega)
  have hr0 := room_new w
  have hb0 : Below w.heap.size w (w.alloc (.cells #[.bool false, .slice none 0 0] 24)) := (Below.refl _ _).alloc (Nat.le_refl _) _
  have hs0 : (w.alloc (.cells #[.bool false, .slice none 0 0] 24)).heap.size = w.heap.size + 1 := by simp
  by_cases h0 : z < 0
  · have hw1 : IntKind.u64.wrap z = z + 18446744073709551616 := by rw [IntKind.wrap_u64]; omega
    have hw2 : IntKind.u64.wrap (-(z + 18446744073709551616)) = (N : Int) := by rw [IntKind.wrap_u64]; have := HN.out; omega
    have HE : Hid (Z.sig (-1) N = z) := show Z.sig (-1) N = z by rw [Z.sig_mone]; have := HN.out; omega
    go_enter Try.func32, Try.ntmps32
    go_wp2_with fail
    refine (HO.out _).mono ?_
    rintro e w1 ⟨v2, rfl, n2, b1⟩
    have b1' := b1
    go_wp2_with fail
    refine (signed_num n2).mono ?_
    rintro e w2 ⟨v4, rfl, ⟨u4, rfl, m4⟩, b2⟩
    obtain ⟨A4, a4, c4, l4, rfl, p4⟩ := id m4
    have b3 := b1.trans (b2.mono b1.size)
    have r4 : Room w2 w.heap.size := hr0.below b3 (by omega)
    obtain ⟨k0, k1, _⟩ := room_cells (x := .bool (decide (Z.sig (-1) N < 0))) (u := .slice A4 a4 c4) r4
    unfold World.room at k0 k1
    have hend := Lib.hid (gives_room m4 (HE.out) r4 (hb0.trans (b3.mono (by omega))) (by omega))
    obtain ⟨xr, yr, zr, qr, ⟨f0, f1, f2, f3⟩⟩ := r4
    have f4 := f3 0
    have f5 := f3 1
    clear hr0 hb0 hs0 b1 b1' b2 b3 m4 p4 f3
    go_wp2_with fail
    exact bodyPost_ret (v := .agg #[.bool (decide (Z.sig (-1) N < 0)), .slice A4 a4 c4]) (by simp [results, Try.results32, go_sem, k0, k1]) rfl hend.out

  · have hw1 : IntKind.u64.wrap z = (N : Int) := by rw [IntKind.wrap_u64]; have := HN.out; omega
    have HE : Hid (Z.sig 1 N = z) := show Z.sig 1 N = z by rw [Z.sig_one]; have := HN.out; omega
    go_enter Try.func32, Try.ntmps32
    go_wp2_with fail
    refine (HO.out _).mono ?_
    rintro e w1 ⟨v2, rfl, n2, b1⟩
    have b1' := b1
    go_wp2_with fail
    refine (signed_num n2).mono ?_
    rintro e w2 ⟨v4, rfl, ⟨u4, rfl, m4⟩, b2⟩
    obtain ⟨A4, a4, c4, l4, rfl, p4⟩ := id m4
    have b3 := b1.trans (b2.mono b1.size)
    have r4 : Room w2 w.heap.size := hr0.below b3 (by omega)
    obtain ⟨k0, k1, _⟩ := room_cells (x := .bool (decide (Z.sig 1 N < 0))) (u := .slice A4 a4 c4) r4
    unfold World.room at k0 k1
    have hend := Lib.hid (gives_room m4 (HE.out) r4 (hb0.trans (b3.mono (by omega))) (by omega))
    obtain ⟨xr, yr, zr, qr, ⟨f0, f1, f2, f3⟩⟩ := r4
    have f4 := f3 0
    have f5 := f3 1
    clear hr0 hb0 hs0 b1 b1' b2 b3 m4 p4 f3
    go_wp2_with fail
    exact bodyPost_ret (v := .agg #[.bool (decide (Z.sig 1 N < 0)), .slice A4 a4 c4]) (by simp [results, Try.results32, go_sem, k0, k1]) rfl hend.out


/-- the text of a whole number: - ahead of its digits, if it is below nought -/
def ZTxt (z : Int) (l : List UInt8) : Prop := ∃ t, T.Txt z.natAbs t ∧ l = (if z < 0 then [45] else []) ++ t
def GivesZ (W : World) (z : Int) (e : Ending) (w' : World) : Prop := ∃ l : List UInt8, e = .returned (.string ⟨l.toArray⟩) ∧ ZTxt z l ∧ Below W.heap.size W w'

theorem text_inn {w : World} {A : Option Addr} {n c N : Nat} (h : In w A n c N) : Calls Try.prog 58 #[.slice A n c] w (GivesText w N) := by
  obtain ⟨l, h1, rfl, h3, h4, h5⟩ := h
  exact text_any _ _ _ _ _ h1 h3 h4 h5
theorem in_lt {w : World} {A : Option Addr} {n c N : Nat} (h : In w A n c N) : ∃ k, k ≤ 1000000 ∧ N < M.BB ^ k := by
  obtain ⟨l, h1, rfl, h3, h4, h5⟩ := h
  have := M.val_lt h1.2.1
  rw [h1.1] at this
  exact ⟨n, h5, this⟩
theorem text_w (g : Bool) (A : Option Addr) (n c : Nat) (z : Int) (w : World) (h : WIn w g A n c z) :
    Calls Try.prog 36 #[.agg #[.bool g, .slice A n c]] w (GivesZ w z) := by
  obtain ⟨s, HZ⟩ : ∃ s, Hid (Z.sgn z = s) := ⟨_, rfl⟩
  have HG := Lib.hid fun (W : World) (q : Held1 w g A n c 0 W) => sign_w g A n c z W (h.below q.bel)
  have HN := Lib.hid fun (W : World) (q : Held1 w g A n c 0 W) => text_inn (h.below q.bel).1
  obtain ⟨X, hX, HZ1⟩ := in_lt h.1
  have HZ1 := Lib.hid HZ1
  rw [HZ.out] at HG
  clear h
  have q0 := Held1.zero w g A n c
  by_cases hs : s < 0
  · have hz : Hid (z < 0) := (Z.sgn_lt z).1 (by rw [HZ.out]; exact hs)
    go_enter Try.func36, Try.ntmps36
    go_wp2_with fail
    refine (HG.out _ q0).mono ?_
    rintro e w1 ⟨rfl, b1⟩
    have q1 := q0.below b1
    obtain ⟨x0, x1, x2, _⟩ := q1.box
    clear b1 q0
    go_wp2_with fail
    refine (HN.out _ q1).mono ?_
    rintro e w2 ⟨t, rfl, ht, b2⟩
    have bl := (q1.below b2).bel
    clear b2 x0 x1 x2 q1
    have htl := txt_len ht HZ1.out
    have hsz : t.length ≤ 10000001 := by omega
    clear htl
    go_wp2_with fail
    go_ret
    exact ⟨45 :: t, rfl, ⟨t, ht, by rw [if_pos hz.out]; rfl⟩, bl⟩
  · have hz : Hid (¬ z < 0) := fun h => hs (by rw [← HZ.out]; exact (Z.sgn_lt z).2 h)
    go_enter Try.func36, Try.ntmps36
    go_wp2_with fail
    refine (HG.out _ q0).mono ?_
    rintro e w1 ⟨rfl, b1⟩
    have q1 := q0.below b1
    obtain ⟨x0, x1, x2, _⟩ := q1.box
    clear b1 q0
    go_wp2_with fail
    refine (HN.out _ q1).mono ?_
    rintro e w2 ⟨t, rfl, ht, b2⟩
    have bl := (q1.below b2).bel
    clear b2 x0 x1 x2 q1
    go_wp2_with fail
    go_ret
    exact ⟨t, rfl, ⟨t, ht, by rw [if_neg (by have := hz.out; omega)]; rfl⟩, bl⟩
end Go.Proofs.Ytiehkciofggonaa

/- nat's DivMod by the numbers that its arguments say; NatBack: its walk. -/
namespace Go.Proofs.Ytiehkciofggonaa
open Go.RowKit

theorem divMod_num {w : World} {A B : Option Addr} {n m c d N K : Nat} (h : In w A n c N) (k : In w B m d K) (hK : 0 < K) : Calls Try.prog 72 #[.slice A n c, .slice B m d] w (GivesTwo w (N / K) (N % K)) := by
  obtain ⟨l, h1, rfl, h3, h4, h5⟩ := h
  obtain ⟨l', k1, rfl, k3, k4, k5⟩ := k
  exact divMod_any _ _ _ _ _ _ _ _ _ ⟨h1, k1, h3, k3, h4, k4, h5, k5⟩ hK
theorem divMod_num_zero {w : World} {A B : Option Addr} {n m c d N K : Nat} (h : In w A n c N) (k : In w B m d K) (hK : K = 0) : Calls Try.prog 72 #[.slice A n c, .slice B m d] w fun e w' => e = .returned (.tuple #[.slice none 0 0, .slice none 0 0, .int .i64 7]) ∧ w = w' := by
  obtain ⟨l, h1, rfl, h3, h4, h5⟩ := h
  obtain ⟨l', k1, rfl, k3, k4, k5⟩ := k
  exact divMod_zero _ _ _ _ _ _ _ _ _ ⟨h1, k1, h3, k3, h4, k4, h5, k5⟩ hK
/-- nought has no limbs -/
theorem Num.zero {w : World} {v : Value} (h : Num w v 0) : ∃ A c, v = .slice A 0 c := by
  obtain ⟨A, n, c, l, rfl, h1, h2, h3, h4, h5⟩ := h
  have : n ≤ 0 := M.len_le h2 h1.1 (by rw [h3]; simp)
  obtain rfl : n = 0 := by omega
  exact ⟨A, c, rfl⟩

end Go.Proofs.Ytiehkciofggonaa

/- whole: share, DivMod, Floor: what each answers. -/
namespace Go.Proofs.Ytiehkciofggonaa
open Go.RowKit

theorem num_len {w : World} {A : Option Addr} {n c N : Nat} (h : Num w (.slice A n c) N) : n = 0 ↔ N = 0 := by
  obtain ⟨A', n', c', l, e, h1, h2, h3, h4, h5⟩ := h
  obtain ⟨rfl, rfl, rfl⟩ : A = A' ∧ n = n' ∧ c = c' := by injection e with e1 e2 e3; exact ⟨e1, e2, e3⟩
  constructor
  · intro e
    have hl : l = [] := List.eq_nil_of_length_eq_zero (by rw [h1.1]; exact e)
    rw [← h3, hl, M.val_nil]
  · intro e
    have := M.Top.eq_nil h2 (by rw [h3]; exact e)
    rw [← h1.1, this]; rfl

/-- a quotient and a rest -/
def Shared (W : World) (Q R : Nat) (e : Ending) (w' : World) : Prop := ∃ v1 v2, e = .returned (.tuple #[v1, v2]) ∧ Num w' v1 Q ∧ Num w' v2 R ∧ Below W.heap.size W w'

theorem share_any (A B : Option Addr) (n c m d N K : Nat) (b : Bool) (w : World) (ha : In w A n c N) (hb : In w B m d K) (hK : 0 < K) :
    Calls Try.prog 49 #[.slice A n c, .slice B m d, .bool b] w (Shared w (Z.shQ N K b) (Z.shR N K b)) := by
  obtain ⟨X, hX, hNX⟩ := in_lt ha
  obtain ⟨Y, hY, hKY⟩ := in_lt hb
  have LQ : Hid (N / K < M.BB ^ X) := Nat.lt_of_le_of_lt (Nat.div_le_self _ _) hNX
  have LR : Hid (N % K < M.BB ^ Y) := Nat.lt_trans (Nat.mod_lt _ hK) hKY
  have HD := Lib.hid (divMod_num ha hb hK)
  have HS := Lib.hid fun (W : World) (q : Below w.heap.size w W) (A' : Option Addr) (n' c' : Nat) (q2 : In W A' n' c' (N % K)) => sub_num (hb.below q) q2 (Nat.le_of_lt (Nat.mod_lt N hK))
  clear ha hb hNX hKY hK
  by_cases hb0 : b = true ∧ N % K ≠ 0
  · obtain ⟨rfl, hr0⟩ := hb0
    have eQ : Z.shQ N K true = N / K + 1 := by unfold Z.shQ; rw [if_pos ⟨rfl, hr0⟩]
    have eR : Z.shR N K true = K - N % K := by unfold Z.shR; rw [if_pos ⟨rfl, hr0⟩]
    rw [eQ, eR]
    clear eQ eR
    have HO := Lib.hid fun W : World => of_any 1 W (by omega)
    have hr0 := Lib.hid hr0
    go_enter Try.func49, Try.ntmps49
    go_wp2_with fail
    refine HD.out.mono ?_
    rintro e w1 ⟨v1, v2, rfl, n1, n2, b1⟩
    obtain ⟨A1, q1, c1, rfl, i1⟩ := n1.inn LQ.out (by omega)
    obtain ⟨A2, q2, c2, rfl, i2⟩ := n2.inn LR.out (by omega)
    have hq : q2 ≠ 0 := fun e => hr0.out ((num_len n2).1 e)
    have hq2 : 0 < q2 := by omega
    have hq3 : q2 ≤ 1000000 := i2.choose_spec.2.2.2.2
    clear n1 n2 hq
    go_wp2_with fail
    refine (HS.out _ b1 _ _ _ i2).mono ?_
    rintro e w2 ⟨v3, rfl, n3, b2⟩
    have i1 := i1.below b2
    have b2 := b1.trans (b2.mono b1.size)
    clear b1 i2 hq2 hq3
    go_wp2_with fail
    refine (HO.out _).mono ?_
    rintro e w3 ⟨v4, rfl, n4, b3⟩
    have i1 := i1.below b3
    have n3 := n3.below b3
    have b3 := b2.trans (b3.mono b2.size)
    obtain ⟨A4, q4, c4, rfl, i4⟩ := n4.inn (k := 1) (by rw [Nat.pow_one, M.BB_eq]; omega) (by omega)
    clear b2 n4
    go_wp2_with fail
    refine (add_num i1 i4).mono ?_
    rintro e w4 ⟨v5, rfl, n5, b4⟩
    have n3 := n3.below b4
    have b4 := b3.trans (b4.mono b3.size)
    clear b3 i1 i4
    go_wp2_with fail
    go_ret2
    exact ⟨_, _, rfl, n5, n3, b4⟩
  · have eQ : Z.shQ N K b = N / K := by unfold Z.shQ; rw [if_neg hb0]
    have eR : Z.shR N K b = N % K := by unfold Z.shR; rw [if_neg hb0]
    rw [eQ, eR]
    clear eQ eR HS
    cases b with
    | false =>
      clear hb0
      go_enter Try.func49, Try.ntmps49
      go_wp2_with fail
      refine HD.out.mono ?_
      rintro e w1 ⟨v1, v2, rfl, n1, n2, b1⟩
      obtain ⟨A1, q1, c1, rfl, i1⟩ := n1.inn LQ.out (by omega)
      obtain ⟨A2, q2, c2, rfl, i2⟩ := n2.inn LR.out (by omega)
      clear i1 i2
      go_wp2_with fail
      go_ret2
      exact ⟨_, _, rfl, n1, n2, b1⟩
    | true =>
      have hr0 : Hid (N % K = 0) := show N % K = 0 from Decidable.not_not.1 fun h => hb0 ⟨rfl, h⟩
      clear hb0
      go_enter Try.func49, Try.ntmps49
      go_wp2_with fail
      refine HD.out.mono ?_
      rintro e w1 ⟨v1, v2, rfl, n1, n2, b1⟩
      obtain ⟨A1, q1, c1, rfl, i1⟩ := n1.inn LQ.out (by omega)
      obtain ⟨A2, q2, c2, rfl, i2⟩ := n2.inn LR.out (by omega)
      have hq : q2 = 0 := (num_len n2).2 hr0.out
      subst hq
      clear i1 i2
      go_wp2_with fail
      go_ret2
      exact ⟨_, _, rfl, n1, n2, b1⟩

/-- two whole numbers, and no error -/
def WTwo (W : World) (z1 z2 : Int) (e : Ending) (w' : World) : Prop := ∃ v1 v2, e = .returned (.tuple #[v1, v2, .int .i64 0]) ∧ WNum w' v1 z1 ∧ WNum w' v2 z2 ∧ Below W.heap.size W w'
theorem gives_two {w W : World} {R R2 : Nat} {z z' y y' : Int} {A B : Option Addr} {n c m d : Nat} (h1 : Num W (.slice A n c) z'.natAbs) (h2 : Num W (.slice B m d) y'.natAbs) (hz : z' = z) (hy : y' = y) (r : Room W R) (r2 : Room W R2) (hb : Below w.heap.size w W) (hR : w.heap.size ≤ R) (hR2 : w.heap.size ≤ R2) :
    WTwo w z y (.returned (.tuple #[.agg #[.bool (decide (z' < 0)), .slice A n c], .agg #[.bool (decide (y' < 0)), .slice B m d], .int .i64 0]))
      (World.room (World.room W R (.bool (decide (z' < 0))) (.slice A n c)) R2 (.bool (decide (y' < 0))) (.slice B m d)) := by
  subst hz hy
  exact ⟨_, _, rfl, ⟨_, rfl, num_room (num_room h1 r) (room_room r2 r)⟩, ⟨_, rfl, num_room (num_room h2 r) (room_room r2 r)⟩, below_room (below_room hb hR _ _) hR2 _ _⟩
theorem two_cells {W : World} {R R2 : Nat} {x x' : Bool} {A B : Option Addr} {n c m d : Nat} (r : Room W R) (r2 : Room W R2) (hne : R ≠ R2) :
    (World.room (World.room W R (.bool x) (.slice A n c)) R2 (.bool x') (.slice B m d)).cell? ⟨R, 0, none⟩ = some (.bool x) ∧ (World.room (World.room W R (.bool x) (.slice A n c)) R2 (.bool x') (.slice B m d)).cell? ⟨R, 1, none⟩ = some (.slice A n c) ∧
    (World.room (World.room W R (.bool x) (.slice A n c)) R2 (.bool x') (.slice B m d)).cell? ⟨R2, 0, none⟩ = some (.bool x') ∧ (World.room (World.room W R (.bool x) (.slice A n c)) R2 (.bool x') (.slice B m d)).cell? ⟨R2, 1, none⟩ = some (.slice B m d) := by
  obtain ⟨a1, a2, _⟩ := room_cells (x := .bool x) (u := .slice A n c) r
  obtain ⟨b1, b2, _⟩ := room_cells (x := .bool x') (u := .slice B m d) (room_room (x := x) (A := A) (n := n) (c := c) r2 r)
  exact ⟨(far_room _ R2 _ _ (p := ⟨R, 0, none⟩) hne).trans a1, (far_room _ R2 _ _ (p := ⟨R, 1, none⟩) hne).trans a2, b1, b2⟩

theorem divMod_w_zero (g h : Bool) (A B : Option Addr) (n c m d : Nat) (z y : Int) (w : World) (ha : WIn w g A n c z) (hb : WIn w h B m d y) (hy : y = 0) :
    Calls Try.prog 26 #[.agg #[.bool g, .slice A n c], .agg #[.bool h, .slice B m d]] w fun e w' => e = .returned (.tuple #[.agg #[.bool false, .slice none 0 0], .agg #[.bool false, .slice none 0 0], .int .i64 7]) ∧ Below w.heap.size w w' := by
  obtain ⟨s, HZ⟩ : ∃ s, Hid (Z.sgn z = s) := ⟨_, rfl⟩
  obtain ⟨t, HY⟩ : ∃ t, Hid (Z.sgn y = t) := ⟨_, rfl⟩
  have HG := Lib.hid fun (W : World) (q : W.cell? ⟨w.heap.size, 0, none⟩ = some (.bool g) ∧ W.cell? ⟨w.heap.size, 1, none⟩ = some (.slice A n c) ∧ W.cell? ⟨w.heap.size + 1, 0, none⟩ = some (.bool h) ∧ W.cell? ⟨w.heap.size + 1, 1, none⟩ = some (.slice B m d) ∧ Held2 w g A n c h B m d 2 W) => sign_w g A n c z W (ha.below q.2.2.2.2.bel)
  have HH := Lib.hid fun (W : World) (q : W.cell? ⟨w.heap.size, 0, none⟩ = some (.bool g) ∧ W.cell? ⟨w.heap.size, 1, none⟩ = some (.slice A n c) ∧ W.cell? ⟨w.heap.size + 1, 0, none⟩ = some (.bool h) ∧ W.cell? ⟨w.heap.size + 1, 1, none⟩ = some (.slice B m d) ∧ Held2 w g A n c h B m d 2 W) => sign_w h B m d y W (hb.below q.2.2.2.2.bel)
  rw [HZ.out] at HG
  rw [HY.out] at HH
  obtain rfl : t = 0 := by rw [← HY.out, hy]; rfl
  have HS := Lib.hid (Held2.two w g h A B n c m d).drew.s
  clear ha hb hy
  go_enter Try.func26, Try.ntmps26
  go_wp2_with fail
  go_region_held3 (fun w' => w'.cell? ⟨w.heap.size, 0, none⟩ = some (.bool g) ∧ w'.cell? ⟨w.heap.size, 1, none⟩ = some (.slice A n c) ∧ w'.cell? ⟨w.heap.size + 1, 0, none⟩ = some (.bool h) ∧ w'.cell? ⟨w.heap.size + 1, 1, none⟩ = some (.slice B m d) ∧ Held2 w g A n c h B m d 2 w')
    (first | exact Held2.keep (by assumption) (by assumption) | exact HS.out)
    (first | (go_at_call 24; first | (with_reducible refine (HG.out _ ?_).mono ?_; assumption; rintro e w1 ⟨rfl, b1⟩) | (with_reducible refine (HH.out _ ?_).mono ?_; assumption; rintro e w2 ⟨rfl, b2⟩)))
  rename_i hh
  have q2 : Held2 w g A n c h B m d 2 w2 := hh.2.2.2.2
  clear hh b1 b2 HS
  have r1 : Room w2 (w.heap.size + 2) := q2.room 0 (by omega)
  have r2 : Room w2 (w.heap.size + 3) := q2.room 1 (by omega)
  obtain ⟨k0, k1, k2, k3⟩ := two_cells (x := false) (A := none) (n := 0) (c := 0) (x' := false) (B := none) (m := 0) (d := 0) r1 r2 (by omega)
  unfold World.room at k0 k1 k2 k3
  have bl := below_room (below_room q2.bel (R := w.heap.size + 2) (by omega) (.bool false) (.slice none 0 0)) (R := w.heap.size + 3) (by omega) (.bool false) (.slice none 0 0)
  obtain ⟨xr, yr, zr, qr, ⟨f0, f1, f2, f3⟩⟩ := r1
  obtain ⟨xs, ys, zs, qs, ⟨g0, g1, g2, g3⟩⟩ := r2
  have f4 := f3 0
  have f5 := f3 1
  have g4 := g3 0
  have g5 := g3 1
  clear f3 g3 q2
  go_wp2_with fail
  exact bodyPost_ret (v := .tuple #[.agg #[.bool false, .slice none 0 0], .agg #[.bool false, .slice none 0 0], .int .i64 7]) (by simp [results, Try.results26, go_sem, k0, k1, k2, k3]) rfl ⟨rfl, bl⟩

theorem floor_w_zero (g h : Bool) (A B : Option Addr) (n c m d : Nat) (z y : Int) (w : World) (ha : WIn w g A n c z) (hb : WIn w h B m d y) (hy : y = 0) :
    Calls Try.prog 28 #[.agg #[.bool g, .slice A n c], .agg #[.bool h, .slice B m d]] w fun e w' => e = .returned (.tuple #[.agg #[.bool false, .slice none 0 0], .int .i64 7]) ∧ Below w.heap.size w w' := by
  obtain ⟨s, HZ⟩ : ∃ s, Hid (Z.sgn z = s) := ⟨_, rfl⟩
  obtain ⟨t, HY⟩ : ∃ t, Hid (Z.sgn y = t) := ⟨_, rfl⟩
  have HG := Lib.hid fun (W : World) (q : W.cell? ⟨w.heap.size, 0, none⟩ = some (.bool g) ∧ W.cell? ⟨w.heap.size, 1, none⟩ = some (.slice A n c) ∧ W.cell? ⟨w.heap.size + 1, 0, none⟩ = some (.bool h) ∧ W.cell? ⟨w.heap.size + 1, 1, none⟩ = some (.slice B m d) ∧ Held2 w g A n c h B m d 1 W) => sign_w g A n c z W (ha.below q.2.2.2.2.bel)
  have HH := Lib.hid fun (W : World) (q : W.cell? ⟨w.heap.size, 0, none⟩ = some (.bool g) ∧ W.cell? ⟨w.heap.size, 1, none⟩ = some (.slice A n c) ∧ W.cell? ⟨w.heap.size + 1, 0, none⟩ = some (.bool h) ∧ W.cell? ⟨w.heap.size + 1, 1, none⟩ = some (.slice B m d) ∧ Held2 w g A n c h B m d 1 W) => sign_w h B m d y W (hb.below q.2.2.2.2.bel)
  rw [HZ.out] at HG
  rw [HY.out] at HH
  obtain rfl : t = 0 := by rw [← HY.out, hy]; rfl
  have HS := Lib.hid (Held2.one w g h A B n c m d).drew.s
  clear ha hb hy
  go_enter Try.func28, Try.ntmps28
  go_wp2_with fail
  go_region_held3 (fun w' => w'.cell? ⟨w.heap.size, 0, none⟩ = some (.bool g) ∧ w'.cell? ⟨w.heap.size, 1, none⟩ = some (.slice A n c) ∧ w'.cell? ⟨w.heap.size + 1, 0, none⟩ = some (.bool h) ∧ w'.cell? ⟨w.heap.size + 1, 1, none⟩ = some (.slice B m d) ∧ Held2 w g A n c h B m d 1 w')
    (first | exact Held2.keep (by assumption) (by assumption) | exact HS.out)
    (first | (go_at_call 24; first | (with_reducible refine (HG.out _ ?_).mono ?_; assumption; rintro e w1 ⟨rfl, b1⟩) | (with_reducible refine (HH.out _ ?_).mono ?_; assumption; rintro e w2 ⟨rfl, b2⟩)))
  rename_i hh
  have q2 : Held2 w g A n c h B m d 1 w2 := hh.2.2.2.2
  clear hh b1 b2 HS
  have r1 : Room w2 (w.heap.size + 2) := q2.room 0 (by omega)
  obtain ⟨k0, k1, _⟩ := room_cells (x := .bool false) (u := .slice none 0 0) r1
  unfold World.room at k0 k1
  have bl := below_room q2.bel (R := w.heap.size + 2) (by omega) (.bool false) (.slice none 0 0)
  obtain ⟨xr, yr, zr, qr, ⟨f0, f1, f2, f3⟩⟩ := r1
  have f4 := f3 0
  have f5 := f3 1
  clear f3 q2
  go_wp2_with fail
  exact bodyPost_ret (v := .tuple #[.agg #[.bool false, .slice none 0 0], .int .i64 7]) (by simp [results, Try.results28, go_sem, k0, k1]) rfl ⟨rfl, bl⟩

theorem divMod_w (g h : Bool) (A B : Option Addr) (n c m d : Nat) (z y : Int) (w : World) (ha : WIn w g A n c z) (hb : WIn w h B m d y) (hy : y ≠ 0) :
    Calls Try.prog 26 #[.agg #[.bool g, .slice A n c], .agg #[.bool h, .slice B m d]] w (WTwo w (z / y) (z % y)) := by
  obtain ⟨s, HZ⟩ : ∃ s, Hid (Z.sgn z = s) := ⟨_, rfl⟩
  obtain ⟨t, HY⟩ : ∃ t, Hid (Z.sgn y = t) := ⟨_, rfl⟩
  have HG := Lib.hid fun (W : World) (q : W.cell? ⟨w.heap.size, 0, none⟩ = some (.bool g) ∧ W.cell? ⟨w.heap.size, 1, none⟩ = some (.slice A n c) ∧ W.cell? ⟨w.heap.size + 1, 0, none⟩ = some (.bool h) ∧ W.cell? ⟨w.heap.size + 1, 1, none⟩ = some (.slice B m d) ∧ Held2 w g A n c h B m d 2 W) => sign_w g A n c z W (ha.below q.2.2.2.2.bel)
  have HH := Lib.hid fun (W : World) (q : W.cell? ⟨w.heap.size, 0, none⟩ = some (.bool g) ∧ W.cell? ⟨w.heap.size, 1, none⟩ = some (.slice A n c) ∧ W.cell? ⟨w.heap.size + 1, 0, none⟩ = some (.bool h) ∧ W.cell? ⟨w.heap.size + 1, 1, none⟩ = some (.slice B m d) ∧ Held2 w g A n c h B m d 2 W) => sign_w h B m d y W (hb.below q.2.2.2.2.bel)
  rw [HZ.out] at HG
  rw [HY.out] at HH
  have ht0 : t ≠ 0 := fun e => hy ((Z.sgn_eq y).1 (HY.out.trans e))
  have hs1 : -1 ≤ s ∧ s ≤ 1 := by have := Z.sgn_bd z; rw [HZ.out] at this; exact this
  have ht1 : -1 ≤ t ∧ t ≤ 1 := by have := Z.sgn_bd y; rw [HY.out] at this; exact this
  obtain ⟨p, hp⟩ : ∃ p, s * t = p := ⟨_, rfl⟩
  have hpb := Z.mul_bd s t hs1 ht1
  rw [hp] at hpb
  have hw : IntKind.i64.wrap p = p := IntWalk.i64_in _ (by omega)
  obtain ⟨Q, HQ⟩ : ∃ Q, Hid (Z.shQ z.natAbs y.natAbs (decide (s < 0)) = Q) := ⟨_, rfl⟩
  obtain ⟨r, HR⟩ : ∃ r, Hid (Z.shR z.natAbs y.natAbs (decide (s < 0)) = r) := ⟨_, rfl⟩
  have HE : Hid (Z.sig p Q = z / y ∧ Z.sig 1 r = z % y) := by
    have := Z.divs z y hy
    rw [HZ.out, HY.out, HQ.out, HR.out, hp] at this
    exact ⟨this.1, by rw [Z.sig_one]; exact this.2⟩
  obtain ⟨b, HB⟩ : ∃ b : Bool, Hid (decide (s < 0) = b) := ⟨_, rfl⟩
  have HV := Lib.hid fun (W : World) (q : Held2 w g A n c h B m d 2 W) => share_any A B n c m d z.natAbs y.natAbs b W (ha.below q.bel).1 (hb.below q.bel).1 (by omega)
  rw [HB.out] at HQ HR
  rw [HQ.out, HR.out] at HV
  have HS := Lib.hid (Held2.two w g h A B n c m d).drew.s
  clear ha hb hy hs1 ht1
  have hbs : decide (s < 0) = b := HB.out
  go_enter Try.func26, Try.ntmps26
  go_wp2_with fail
  go_region_held3 (fun w' => w'.cell? ⟨w.heap.size, 0, none⟩ = some (.bool g) ∧ w'.cell? ⟨w.heap.size, 1, none⟩ = some (.slice A n c) ∧ w'.cell? ⟨w.heap.size + 1, 0, none⟩ = some (.bool h) ∧ w'.cell? ⟨w.heap.size + 1, 1, none⟩ = some (.slice B m d) ∧ Held2 w g A n c h B m d 2 w')
    (first | exact Held2.keep (by assumption) (by assumption) | exact HS.out)
    (first | (go_at_call 24; first | (with_reducible refine (HG.out _ ?_).mono ?_; assumption; rintro e w1 ⟨rfl, b1⟩) | (with_reducible refine (HH.out _ ?_).mono ?_; assumption; rintro e w2 ⟨rfl, b2⟩)))
  rename_i hh
  have q2 : Held2 w g A n c h B m d 2 w2 := hh.2.2.2.2
  clear hh b1 b2 HS
  obtain ⟨x0, x1, x2, _⟩ := q2.box
  obtain ⟨y0, y1, y2, _⟩ := q2.box2
  go_wp2_with fail
  refine (HV.out _ q2).mono ?_
  rintro e w3 ⟨v3, v4, rfl, n3, n4, b3⟩
  have q3 := q2.below b3
  clear x0 x1 x2 y0 y1 y2 b3 q2 HV
  go_wp2_with fail
  refine (signed_num n3).mono ?_
  rintro e w4 ⟨v5, rfl, ⟨u5, rfl, m5⟩, b4⟩
  have n4 := n4.below b4
  have q4 := q3.below b4
  clear n3 q3 b4
  go_wp2_with fail
  refine (signed_num n4).mono ?_
  rintro e w5 ⟨v6, rfl, ⟨u6, rfl, m6⟩, b5⟩
  have m5 := m5.below b5
  have q5 := q4.below b5
  clear n4 q4 b5
  obtain ⟨A5, a5, c5, l5, rfl, p5⟩ := id m5
  obtain ⟨A6, a6, c6, l6, rfl, p6⟩ := id m6
  have r1 : Room w5 (w.heap.size + 2) := q5.room 0 (by omega)
  have r2 : Room w5 (w.heap.size + 3) := q5.room 1 (by omega)
  obtain ⟨k0, k1, k2, k3⟩ := two_cells (x := decide (Z.sig p Q < 0)) (A := A5) (n := a5) (c := c5) (x' := decide (Z.sig 1 r < 0)) (B := A6) (m := a6) (d := c6) r1 r2 (by omega)
  unfold World.room at k0 k1 k2 k3
  have hend := Lib.hid (gives_two m5 m6 HE.out.1 HE.out.2 r1 r2 q5.bel (by omega) (by omega))
  obtain ⟨xr, yr, zr, qr, ⟨f0, f1, f2, f3⟩⟩ := r1
  obtain ⟨xs, ys, zs, qs, ⟨g0, g1, g2, g3⟩⟩ := r2
  have f4 := f3 0
  have f5 := f3 1
  have g4 := g3 0
  have g5 := g3 1
  clear f3 g3 q5 p5 p6 m5 m6
  go_wp2_with fail
  exact bodyPost_ret (v := .tuple #[.agg #[.bool (decide (Z.sig p Q < 0)), .slice A5 a5 c5], .agg #[.bool (decide (Z.sig 1 r < 0)), .slice A6 a6 c6], .int .i64 0]) (by simp [results, Try.results26, go_sem, k0, k1, k2, k3]) rfl hend.out

/-- a whole number, and no error -/
def WOne (W : World) (z : Int) (e : Ending) (w' : World) : Prop := ∃ v, e = .returned (.tuple #[v, .int .i64 0]) ∧ WNum w' v z ∧ Below W.heap.size W w'
theorem gives_one {w W : World} {R : Nat} {z z' : Int} {A : Option Addr} {n c : Nat} (m : Num W (.slice A n c) z'.natAbs) (hz : z' = z) (r : Room W R) (hb : Below w.heap.size w W) (hR : w.heap.size ≤ R) :
    WOne w z (.returned (.tuple #[.agg #[.bool (decide (z' < 0)), .slice A n c], .int .i64 0])) (World.room W R (.bool (decide (z' < 0))) (.slice A n c)) := by
  subst hz
  exact ⟨_, rfl, ⟨_, rfl, num_room m r⟩, below_room hb hR _ _⟩
theorem floor_w (g h : Bool) (A B : Option Addr) (n c m d : Nat) (z y : Int) (w : World) (ha : WIn w g A n c z) (hb : WIn w h B m d y) (hy : y ≠ 0) :
    Calls Try.prog 28 #[.agg #[.bool g, .slice A n c], .agg #[.bool h, .slice B m d]] w (WOne w (Z.fl z y)) := by
  obtain ⟨s, HZ⟩ : ∃ s, Hid (Z.sgn z = s) := ⟨_, rfl⟩
  obtain ⟨t, HY⟩ : ∃ t, Hid (Z.sgn y = t) := ⟨_, rfl⟩
  have HG := Lib.hid fun (W : World) (q : W.cell? ⟨w.heap.size, 0, none⟩ = some (.bool g) ∧ W.cell? ⟨w.heap.size, 1, none⟩ = some (.slice A n c) ∧ W.cell? ⟨w.heap.size + 1, 0, none⟩ = some (.bool h) ∧ W.cell? ⟨w.heap.size + 1, 1, none⟩ = some (.slice B m d) ∧ Held2 w g A n c h B m d 1 W) => sign_w g A n c z W (ha.below q.2.2.2.2.bel)
  have HH := Lib.hid fun (W : World) (q : W.cell? ⟨w.heap.size, 0, none⟩ = some (.bool g) ∧ W.cell? ⟨w.heap.size, 1, none⟩ = some (.slice A n c) ∧ W.cell? ⟨w.heap.size + 1, 0, none⟩ = some (.bool h) ∧ W.cell? ⟨w.heap.size + 1, 1, none⟩ = some (.slice B m d) ∧ Held2 w g A n c h B m d 1 W) => sign_w h B m d y W (hb.below q.2.2.2.2.bel)
  rw [HZ.out] at HG
  rw [HY.out] at HH
  have ht0 : t ≠ 0 := fun e => hy ((Z.sgn_eq y).1 (HY.out.trans e))
  have hs1 : -1 ≤ s ∧ s ≤ 1 := by have := Z.sgn_bd z; rw [HZ.out] at this; exact this
  have ht1 : -1 ≤ t ∧ t ≤ 1 := by have := Z.sgn_bd y; rw [HY.out] at this; exact this
  obtain ⟨p, hp⟩ : ∃ p, s * t = p := ⟨_, rfl⟩
  have hpb := Z.mul_bd s t hs1 ht1
  rw [hp] at hpb
  have hw : IntKind.i64.wrap p = p := IntWalk.i64_in _ (by omega)
  obtain ⟨Q, HQ⟩ : ∃ Q, Hid (Z.shQ z.natAbs y.natAbs (decide (p < 0)) = Q) := ⟨_, rfl⟩
  obtain ⟨r, HR⟩ : ∃ r, Hid (Z.shR z.natAbs y.natAbs (decide (p < 0)) = r) := ⟨_, rfl⟩
  have HE : Hid (Z.sig p Q = Z.fl z y) := by
    have := Z.floors z y hy
    rw [HZ.out, HY.out, hp, HQ.out] at this
    exact this
  obtain ⟨b, HB⟩ : ∃ b : Bool, Hid (decide (p < 0) = b) := ⟨_, rfl⟩
  have HV := Lib.hid fun (W : World) (q : Held2 w g A n c h B m d 1 W) => share_any A B n c m d z.natAbs y.natAbs b W (ha.below q.bel).1 (hb.below q.bel).1 (by omega)
  rw [HB.out] at HQ HR
  rw [HQ.out, HR.out] at HV
  have HS := Lib.hid (Held2.one w g h A B n c m d).drew.s
  clear ha hb hy hs1 ht1
  have hbs : decide (p < 0) = b := HB.out
  go_enter Try.func28, Try.ntmps28
  go_wp2_with fail
  go_region_held3 (fun w' => w'.cell? ⟨w.heap.size, 0, none⟩ = some (.bool g) ∧ w'.cell? ⟨w.heap.size, 1, none⟩ = some (.slice A n c) ∧ w'.cell? ⟨w.heap.size + 1, 0, none⟩ = some (.bool h) ∧ w'.cell? ⟨w.heap.size + 1, 1, none⟩ = some (.slice B m d) ∧ Held2 w g A n c h B m d 1 w')
    (first | exact Held2.keep (by assumption) (by assumption) | exact HS.out)
    (first | (go_at_call 24; first | (with_reducible refine (HG.out _ ?_).mono ?_; assumption; rintro e w1 ⟨rfl, b1⟩) | (with_reducible refine (HH.out _ ?_).mono ?_; assumption; rintro e w2 ⟨rfl, b2⟩)))
  rename_i hh
  have q2 : Held2 w g A n c h B m d 1 w2 := hh.2.2.2.2
  clear hh b1 b2 HS
  obtain ⟨x0, x1, x2, _⟩ := q2.box
  obtain ⟨y0, y1, y2, _⟩ := q2.box2
  go_wp2_with fail
  refine (HV.out _ q2).mono ?_
  rintro e w3 ⟨v3, v4, rfl, n3, n4, b3⟩
  have q3 := q2.below b3
  clear x0 x1 x2 y0 y1 y2 b3 q2 HV n4
  go_wp2_with fail
  refine (signed_num n3).mono ?_
  rintro e w4 ⟨v5, rfl, ⟨u5, rfl, m5⟩, b4⟩
  have q4 := q3.below b4
  clear n3 q3 b4
  obtain ⟨A5, a5, c5, l5, rfl, p5⟩ := id m5
  have r1 : Room w4 (w.heap.size + 2) := q4.room 0 (by omega)
  obtain ⟨k0, k1, _⟩ := room_cells (x := .bool (decide (Z.sig p Q < 0))) (u := .slice A5 a5 c5) r1
  unfold World.room at k0 k1
  have hend := Lib.hid (gives_one m5 HE.out r1 q4.bel (by omega))
  obtain ⟨xr, yr, zr, qr, ⟨f0, f1, f2, f3⟩⟩ := r1
  have f4 := f3 0
  have f5 := f3 1
  clear f3 q4 p5 m5
  go_wp2_with fail
  exact bodyPost_ret (v := .tuple #[.agg #[.bool (decide (Z.sig p Q < 0)), .slice A5 a5 c5], .int .i64 0]) (by simp [results, Try.results28, go_sem, k0, k1]) rfl hend.out
end Go.Proofs.Ytiehkciofggonaa

/- whole: Parse: what it answers. -/
namespace Go.Proofs.Ytiehkciofggonaa
open Go.RowKit

theorem str_list (t : List UInt8) : (⟨t.toArray⟩ : ByteArray).data.toList = t := rfl
theorem cut_yes (s : ByteArray) (t : List UInt8) (w : World) (h : s.data.toList = 45 :: t) :
    Calls Try.prog 51 #[.string s, .string ⟨#[45]⟩] w fun e w' => e = .returned (.tuple #[.string ⟨t.toArray⟩, .bool true]) ∧ w' = w := by
  have := Try.strings_CutPrefix s ⟨#[45]⟩ w
  rw [h, show Lib.trimPrefix (45 :: t) (⟨#[45]⟩ : ByteArray).data.toList = t from by simp [Lib.trimPrefix, Lib.hasPrefix, List.isPrefixOf], show Lib.hasPrefix (45 :: t) (⟨#[45]⟩ : ByteArray).data.toList = true from by simp [Lib.hasPrefix, List.isPrefixOf]] at this
  exact this
theorem cut_no (s : ByteArray) (w : World) (h : s.data.toList.head? ≠ some 45) :
    Calls Try.prog 51 #[.string s, .string ⟨#[45]⟩] w fun e w' => e = .returned (.tuple #[.string s, .bool false]) ∧ w' = w := by
  have := Try.strings_CutPrefix s ⟨#[45]⟩ w
  have hf : Lib.hasPrefix s.data.toList (⟨#[45]⟩ : ByteArray).data.toList = false := by
    cases e : s.data.toList with
    | nil => simp [Lib.hasPrefix, List.isPrefixOf]
    | cons x t =>
      rw [e] at h
      simp at h
      simp [Lib.hasPrefix, List.isPrefixOf]
      exact fun e => h e.symm
  rw [hf, show Lib.trimPrefix s.data.toList (⟨#[45]⟩ : ByteArray).data.toList = s.data.toList from by unfold Lib.trimPrefix; rw [hf]; simp] at this
  exact this

/-- what a text says, if it says a number -/
def PZ : List UInt8 → Option Int
  | 45 :: t => if isT t = true ∧ T.dv t ≠ 0 then some (-(T.dv t : Int)) else none
  | l => if isT l = true then some (T.dv l : Int) else none
theorem pz_minus (t : List UInt8) : PZ (45 :: t) = if isT t = true ∧ T.dv t ≠ 0 then some (-(T.dv t : Int)) else none := rfl
theorem pz_plain {l : List UInt8} (h : l.head? ≠ some 45) : PZ l = if isT l = true then some (T.dv l : Int) else none := by
  unfold PZ
  split
  · simp at h
  · rfl
theorem parse_ok (s : ByteArray) (t : List UInt8) (w : World) (e : s.data.toList = t) (hs : s.size ≤ maxLen) (h : isT t = true) : Calls Try.prog 52 #[.string s] w (Parsed w (T.dv t)) := by
  subst e
  exact parse_good s w hs h
theorem parse_no (s : ByteArray) (t : List UInt8) (w : World) (e : s.data.toList = t) (hs : s.size ≤ maxLen) (h : isT t = false) :
    Calls Try.prog 52 #[.string s] w fun e w' => e = .returned (.tuple #[.slice none 0 0, .int .i64 8]) ∧ w = w' := by
  subst e
  exact parse_bad s w hs h

theorem parse_w_some (s : ByteArray) (z : Int) (w : World) (hs : s.size ≤ maxLen) (h : PZ s.data.toList = some z) :
    Calls Try.prog 30 #[.string s] w (WOne w z) := by
  have hr0 := room_new w
  have hb0 : Below w.heap.size w (w.alloc (.cells #[.bool false, .slice none 0 0] 24)) := (Below.refl _ _).alloc (Nat.le_refl _) _
  have hs0 : (w.alloc (.cells #[.bool false, .slice none 0 0] 24)).heap.size = w.heap.size + 1 := by simp
  by_cases hm : s.data.toList.head? = some 45
  · obtain ⟨t, ht⟩ : ∃ t, s.data.toList = 45 :: t := by
      cases e : s.data.toList with
      | nil => rw [e] at hm; cases hm
      | cons x t => rw [e] at hm; injection hm with hm; exact ⟨t, by rw [hm]⟩
    rw [ht, pz_minus] at h
    by_cases hc : isT t = true ∧ T.dv t ≠ 0
    · rw [if_pos hc] at h
      injection h with h
      have HC := Lib.hid fun W : World => cut_yes s t W ht
      have HP := Lib.hid fun W : World => parse_ok ⟨t.toArray⟩ t W rfl (by have := (isT_parts.1 hc.1).2.1; rw [str_size]; unfold maxLen; omega) hc.1
      have HL := Lib.hid fun (W : World) (A : Option Addr) (n c : Nat) (q : Num W (.slice A n c) (T.dv t)) => show 0 < n from Nat.pos_of_ne_zero fun e => hc.2 ((num_len q).1 e)
      have HE : Hid (Z.sig (-1) (T.dv t) = z) := show Z.sig (-1) (T.dv t) = z by rw [Z.sig_mone]; exact h
      clear h hm hc ht
      go_enter Try.func30, Try.ntmps30
      go_wp2_with fail
      refine (HC.out _).mono ?_
      rintro e w1 ⟨rfl, rfl⟩
      go_wp2_with fail
      refine (HP.out _).mono ?_
      rintro e w1 ⟨v1, rfl, n1, b1⟩
      obtain ⟨A1, q1, c1, l1, rfl, m1⟩ := id n1
      have hl := HL.out _ _ _ _ n1
      have hl2 : q1 ≤ 9223372036854775807 := Nat.le_trans m1.2.2.2.1 m1.2.2.2.2
      clear m1
      go_wp2_with fail
      refine (signed_num n1).mono ?_
      rintro e w2 ⟨v4, rfl, ⟨u4, rfl, m4⟩, b2⟩
      obtain ⟨A4, a4, c4, l4, rfl, p4⟩ := id m4
      have b3 := b1.trans (b2.mono b1.size)
      have r4 : Room w2 w.heap.size := hr0.below b3 (by omega)
      obtain ⟨k0, k1, _⟩ := room_cells (x := .bool (decide (Z.sig (-1) (T.dv t) < 0))) (u := .slice A4 a4 c4) r4
      unfold World.room at k0 k1
      have hend := Lib.hid (gives_one m4 (HE.out) r4 (hb0.trans (b3.mono (by omega))) (by omega))
      obtain ⟨xr, yr, zr, qr, ⟨f0, f1, f2, f3⟩⟩ := r4
      have f4 := f3 0
      have f5 := f3 1
      clear hr0 hb0 hs0 b1 b2 b3 m4 p4 f3 hl hl2 n1
      go_wp2_with fail
      exact bodyPost_ret (v := .tuple #[.agg #[.bool (decide (Z.sig (-1) (T.dv t) < 0)), .slice A4 a4 c4], .int .i64 0]) (by simp [results, Try.results30, go_sem, k0, k1]) rfl hend.out

    · rw [if_neg hc] at h; cases h
  · rw [pz_plain hm] at h
    by_cases hc : isT s.data.toList = true
    · rw [if_pos hc] at h
      injection h with h
      obtain ⟨N, HN⟩ : ∃ N, Hid (T.dv s.data.toList = N) := ⟨_, rfl⟩
      have HC := Lib.hid fun W : World => cut_no s W hm
      have HP := Lib.hid fun W : World => parse_ok s _ W rfl hs hc
      rw [HN.out] at HP h
      have HL := Lib.hid fun (W : World) (A : Option Addr) (n c : Nat) (q : Num W (.slice A n c) N) => trivial
      have HE : Hid (Z.sig 1 N = z) := show Z.sig 1 N = z by rw [Z.sig_one]; exact h
      clear h hm hc
      go_enter Try.func30, Try.ntmps30
      go_wp2_with fail
      refine (HC.out _).mono ?_
      rintro e w1 ⟨rfl, rfl⟩
      go_wp2_with fail
      refine (HP.out _).mono ?_
      rintro e w1 ⟨v1, rfl, n1, b1⟩
      obtain ⟨A1, q1, c1, l1, rfl, m1⟩ := id n1
      have hl := HL.out _ _ _ _ n1
      have hl2 : q1 ≤ 9223372036854775807 := Nat.le_trans m1.2.2.2.1 m1.2.2.2.2
      clear m1
      go_wp2_with fail
      refine (signed_num n1).mono ?_
      rintro e w2 ⟨v4, rfl, ⟨u4, rfl, m4⟩, b2⟩
      obtain ⟨A4, a4, c4, l4, rfl, p4⟩ := id m4
      have b3 := b1.trans (b2.mono b1.size)
      have r4 : Room w2 w.heap.size := hr0.below b3 (by omega)
      obtain ⟨k0, k1, _⟩ := room_cells (x := .bool (decide (Z.sig 1 N < 0))) (u := .slice A4 a4 c4) r4
      unfold World.room at k0 k1
      have hend := Lib.hid (gives_one m4 (HE.out) r4 (hb0.trans (b3.mono (by omega))) (by omega))
      obtain ⟨xr, yr, zr, qr, ⟨f0, f1, f2, f3⟩⟩ := r4
      have f4 := f3 0
      have f5 := f3 1
      clear hr0 hb0 hs0 b1 b2 b3 m4 p4 f3 hl hl2 n1
      go_wp2_with fail
      exact bodyPost_ret (v := .tuple #[.agg #[.bool (decide (Z.sig 1 N < 0)), .slice A4 a4 c4], .int .i64 0]) (by simp [results, Try.results30, go_sem, k0, k1]) rfl hend.out

    · rw [if_neg hc] at h; cases h

theorem parse_w_none (s : ByteArray) (w : World) (hs : s.size ≤ maxLen) (h : PZ s.data.toList = none) :
    Calls Try.prog 30 #[.string s] w fun e w' => e = .returned (.tuple #[.agg #[.bool false, .slice none 0 0], .int .i64 8]) ∧ Below w.heap.size w w' := by
  have hr0 := room_new w
  have hb0 : Below w.heap.size w (w.alloc (.cells #[.bool false, .slice none 0 0] 24)) := (Below.refl _ _).alloc (Nat.le_refl _) _
  have hs0 : (w.alloc (.cells #[.bool false, .slice none 0 0] 24)).heap.size = w.heap.size + 1 := by simp
  by_cases hm : s.data.toList.head? = some 45
  · obtain ⟨t, ht⟩ : ∃ t, s.data.toList = 45 :: t := by
      cases e : s.data.toList with
      | nil => rw [e] at hm; cases hm
      | cons x t => rw [e] at hm; injection hm with hm; exact ⟨t, by rw [hm]⟩
    rw [ht, pz_minus] at h
    have hsz : (⟨t.toArray⟩ : ByteArray).size ≤ maxLen := by
      have := lenL s
      rw [ht] at this
      simp at this
      rw [str_size]
      omega
    have HC := Lib.hid fun W : World => cut_yes s t W ht
    cases hc : isT t with
    | true =>
      have h0 : Hid (T.dv t = 0) := show T.dv t = 0 from Decidable.not_not.1 fun e => by rw [if_pos ⟨hc, e⟩] at h; cases h
      have HP := Lib.hid fun W : World => parse_ok ⟨t.toArray⟩ t W rfl hsz hc
      have HL := Lib.hid fun (W : World) (A : Option Addr) (n c : Nat) (q : Num W (.slice A n c) (T.dv t)) => (num_len q).2 h0.out
      clear h hm hc ht hsz
      go_enter Try.func30, Try.ntmps30
      go_wp2_with fail
      refine (HC.out _).mono ?_
      rintro e w1 ⟨rfl, rfl⟩
      go_wp2_with fail
      refine (HP.out _).mono ?_
      rintro e w1 ⟨v1, rfl, n1, b1⟩
      obtain ⟨A1, q1, c1, l1, rfl, m1⟩ := id n1
      have hl := HL.out _ _ _ _ n1
      subst hl
      have r4 : Room w1 w.heap.size := hr0.below b1 (by omega)
      obtain ⟨k0, k1, _⟩ := room_cells (x := .bool false) (u := .slice none 0 0) r4
      unfold World.room at k0 k1
      have bl := below_room (hb0.trans (b1.mono (by omega))) (Nat.le_refl w.heap.size) (.bool false) (.slice none 0 0)
      obtain ⟨xr, yr, zr, qr, ⟨f0, f1, f2, f3⟩⟩ := r4
      have f4 := f3 0
      have f5 := f3 1
      clear hr0 hb0 hs0 b1 m1 f3 n1
      go_wp2_with fail
      exact bodyPost_ret (v := .tuple #[.agg #[.bool false, .slice none 0 0], .int .i64 8]) (by simp [results, Try.results30, go_sem, k0, k1]) rfl ⟨rfl, bl⟩

    | false =>
      have HP := Lib.hid fun W : World => parse_no ⟨t.toArray⟩ t W rfl hsz hc
      clear h hm hc ht hsz hr0 hs0
      go_enter Try.func30, Try.ntmps30
      go_wp2_with fail
      refine (HC.out _).mono ?_
      rintro e w1 ⟨rfl, rfl⟩
      go_wp2_with fail
      refine (HP.out _).mono ?_
      rintro e w1 ⟨rfl, rfl⟩
      go_wp2_with fail
      exact bodyPost_ret (v := .tuple #[.agg #[.bool false, .slice none 0 0], .int .i64 8]) (by simp [results, Try.results30, go_sem]) rfl ⟨rfl, hb0⟩

  · rw [pz_plain hm] at h
    have HC := Lib.hid fun W : World => cut_no s W hm
    cases hc : isT s.data.toList with
    | true => rw [if_pos hc] at h; cases h
    | false =>
      have HP := Lib.hid fun W : World => parse_no s _ W rfl hs hc
      clear h hm hc hr0 hs0
      go_enter Try.func30, Try.ntmps30
      go_wp2_with fail
      refine (HC.out _).mono ?_
      rintro e w1 ⟨rfl, rfl⟩
      go_wp2_with fail
      refine (HP.out _).mono ?_
      rintro e w1 ⟨rfl, rfl⟩
      go_wp2_with fail
      exact bodyPost_ret (v := .tuple #[.agg #[.bool false, .slice none 0 0], .int .i64 8]) (by simp [results, Try.results30, go_sem]) rfl ⟨rfl, hb0⟩

end Go.Proofs.Ytiehkciofggonaa

/- stage 2: few, Same, awake: what each answers. -/
namespace Go.Proofs.Ytiehkciofggonaa
open Go.RowKit

theorem few_w (g h : Bool) (A B : Option Addr) (n m c d : Nat) (b : Bool) (k : Nat) (w : World) (_hk : k ≤ 1000000) (_hn : n ≤ maxLen) (_hm : m ≤ maxLen) (hb : b = (decide (n ≤ k) && decide (m ≤ k))) :
    Calls Try.prog 10 #[.agg #[.bool g, .slice A n c], .agg #[.bool h, .slice B m d], .int .i64 (k : Int)] w fun e w' => e = .returned (.bool b) ∧ Below w.heap.size w w' := by
  unfold maxLen at _hn _hm
  subst hb
  have bl := (Held2.zero w g h A B n c m d).bel
  by_cases h1 : n ≤ k
  · by_cases h2 : m ≤ k
    · rw [decide_eq_true h1, decide_eq_true h2]
      go_enter Try.func10, Try.ntmps10
      go_wp2
      go_ret
      exact ⟨rfl, bl⟩
    · rw [decide_eq_true h1, decide_eq_false h2]
      go_enter Try.func10, Try.ntmps10
      go_wp2
      go_ret
      exact ⟨rfl, bl⟩
  · rw [decide_eq_false h1]
    go_enter Try.func10, Try.ntmps10
    go_wp2
    go_ret
    exact ⟨rfl, bl⟩

theorem same_w {u v : Value} {z y : Int} {w : World} (h : WNum w u z) (k : WNum w v y) (e : z = y) :
    Calls Try.prog 11 #[u, v] w fun e w' => e = .returned (.bool true) ∧ Below w.heap.size w w' := by
  subst e
  obtain ⟨u', rfl, h⟩ := h
  obtain ⟨v', rfl, k⟩ := k
  obtain ⟨A, n, c, B, m, d, rfl, rfl, _⟩ := same_nums h k
  have q0 := Held2.zero w (decide (z < 0)) (decide (z < 0)) A B n c m d
  have HC := Lib.hid (same_nn (h.below q0.bel) (k.below q0.bel) rfl)
  obtain ⟨g, HG⟩ : ∃ g, Hid (decide (z < 0) = g) := ⟨_, rfl⟩
  rw [HG.out] at q0 HC ⊢
  clear h k
  go_enter Try.func11, Try.ntmps11
  go_wp2_with fail
  refine HC.out.mono ?_
  rintro e w1 ⟨rfl, b1⟩
  have q1 := q0.below b1
  have bl := q1.bel
  obtain ⟨x0, x1, x2, _⟩ := q1.box
  obtain ⟨y0, y1, y2, _⟩ := q1.box2
  clear b1 q0 q1 HC
  cases g <;> (go_wp2_with fail; go_ret; exact ⟨rfl, bl⟩)
end Go.Proofs.Ytiehkciofggonaa

/- stage 2: awake: what it answers. -/
namespace Go.Proofs.Ytiehkciofggonaa
open Go.RowKit

theorem WNum.open {w : World} {v : Value} {z : Int} {k : Nat} (h : WNum w v z) (hz : z.natAbs < M.BB ^ k) (hk : k ≤ 1000000) : ∃ g A n c, v = .agg #[.bool g, .slice A n c] ∧ WIn w g A n c z ∧ WNum w (.agg #[.bool g, .slice A n c]) z := by
  obtain ⟨A, n, c, rfl, hi⟩ := h.inn hz hk
  exact ⟨_, A, n, c, rfl, hi, h⟩
theorem loc1 (w : World) (g : Bool) (A : Option Addr) (n c : Nat) : Below w.heap.size w (w.alloc (.cells #[.bool g, .slice A n c] 24)) ∧ Box (w.alloc (.cells #[.bool g, .slice A n c] 24)) w.heap.size g A n c :=
  ⟨(Below.refl _ _).alloc (Nat.le_refl _) _, Box.new w g A n c⟩
theorem loc2 (w : World) (g : Bool) (A : Option Addr) (n c : Nat) (h : Bool) (B : Option Addr) (m d : Nat) :
    Below w.heap.size w ((w.alloc (.cells #[.bool g, .slice A n c] 24)).alloc (.cells #[.bool h, .slice B m d] 24)) ∧ Box ((w.alloc (.cells #[.bool g, .slice A n c] 24)).alloc (.cells #[.bool h, .slice B m d] 24)) w.heap.size g A n c ∧
    Box ((w.alloc (.cells #[.bool g, .slice A n c] 24)).alloc (.cells #[.bool h, .slice B m d] 24)) (w.heap.size + 1) h B m d :=
  ⟨(Held2.zero w g h A B n c m d).bel, (Held2.zero w g h A B n c m d).box, (Held2.zero w g h A B n c m d).box2⟩
theorem ZTxt.uniq {z : Int} {l m : List UInt8} (h : ZTxt z l) (k : ZTxt z m) : l = m := by
  obtain ⟨t, h1, rfl⟩ := h
  obtain ⟨t', k1, rfl⟩ := k
  rw [h1.uniq k1]
theorem digit_txt (d : Nat) (c : UInt8) (h0 : 0 < d) (hd : d < 10) (hc : c = UInt8.ofNat (48 + d)) : T.Txt d [c] := by
  subst hc
  refine .inr ⟨[d], ?_, ?_, by simp, by simp [T.val], rfl⟩
  · refine T.Fit.of_mem fun x hx => ?_
    rw [T.BB_eq]
    simp at hx
    omega
  · intro _
    simp
    omega
theorem ztxt_m4 : ZTxt (-4) [45, 52] := ⟨[52], digit_txt 4 52 (by omega) (by omega) rfl, rfl⟩
theorem ztxt_4 : ZTxt 4 [52] := ⟨[52], digit_txt 4 52 (by omega) (by omega) rfl, rfl⟩
theorem ztxt_1 : ZTxt 1 [49] := ⟨[49], digit_txt 1 49 (by omega) (by omega) rfl, rfl⟩
theorem lt_one {z : Int} (h : z.natAbs < 1000) : z.natAbs < M.BB ^ 1 := by rw [Nat.pow_one, M.BB_eq]; omega

set_option maxRecDepth 100000 in
set_option maxHeartbeats 8000000 in
theorem awake_w (w : World) : Calls Try.prog 9 #[] w fun e w' => e = .returned (.bool true) ∧ Below w.heap.size w w' := by
  go_enter Try.func9, Try.ntmps9
  go_wp2_with fail
  refine (of_w (-7) _ (by omega)).mono ?_
  rintro e w1 ⟨va, rfl, ma, b1⟩
  have bl := b1
  clear b1
  have la := show (-7 : Int).natAbs < M.BB ^ 1 from lt_one (by omega)
  obtain ⟨ga, Aa, na, ca, rfl, ia, na'⟩ := ma.open la (by omega)
  clear ma
  clear na'
  go_wp2_with fail
  refine (of_w (2) _ (by omega)).mono ?_
  rintro e w2 ⟨vb, rfl, mb, b2⟩
  have ia := ia.below b2
  have bl := bl.trans (b2.mono bl.size)
  clear b2
  have lb := show (2 : Int).natAbs < M.BB ^ 1 from lt_one (by omega)
  obtain ⟨gb, Ab, nb, cb, rfl, ib, nb'⟩ := mb.open lb (by omega)
  clear mb
  clear nb'
  go_wp2_with fail
  refine (divMod_w _ _ _ _ _ _ _ _ _ _ _ ia ib (by omega)).mono ?_
  rintro e w3 ⟨vq, vr, rfl, mq, mr, b3⟩
  have ia := ia.below b3
  have ib := ib.below b3
  have bl := bl.trans (b3.mono bl.size)
  clear b3
  rw [show (-7 : Int) / 2 = -4 from by decide] at mq
  rw [show (-7 : Int) % 2 = 1 from by decide] at mr
  have lq := show (-4 : Int).natAbs < M.BB ^ 1 from lt_one (by omega)
  obtain ⟨gq, Aq, nq, cq, rfl, iq, nq'⟩ := mq.open lq (by omega)
  clear mq
  clear nq'
  have lr := show (1 : Int).natAbs < M.BB ^ 1 from lt_one (by omega)
  obtain ⟨gr, Ar, nr, cr, rfl, ir, nr'⟩ := mr.open lr (by omega)
  clear mr
  clear nr'
  clear ia
  clear ib
  go_wp2_with fail
  obtain ⟨ex, Bqp, Brp⟩ := loc2 w3 gq Aq nq cq gr Ar nr cr
  have iq := iq.below ex
  have ir := ir.below ex
  have bl := bl.trans (ex.mono bl.size)
  have Bq := Bqp
  clear Bqp
  have Br := Brp
  clear Brp
  clear ex
  refine (of_w (-7) _ (by omega)).mono ?_
  rintro e w4 ⟨va, rfl, ma, b4⟩
  have Bq := Bq.below b4 Bq.lt
  have Br := Br.below b4 Br.lt
  have iq := iq.below b4
  have ir := ir.below b4
  have bl := bl.trans (b4.mono bl.size)
  clear b4
  have la := show (-7 : Int).natAbs < M.BB ^ 1 from lt_one (by omega)
  obtain ⟨ga, Aa, na, ca, rfl, ia, na'⟩ := ma.open la (by omega)
  clear ma
  clear na'
  obtain ⟨q0, q1, q2, _⟩ := id Bq
  obtain ⟨r0, r1, r2, _⟩ := id Br
  have q3 := Bq.fr 0
  have q4 := Bq.fr 1
  have r3 := Br.fr 0
  have r4 := Br.fr 1
  go_wp2_with fail
  clear q0 q1 q2 q3 q4 r0 r1 r2 r3 r4
  refine (of_w (-2) _ (by omega)).mono ?_
  rintro e w5 ⟨vb, rfl, mb, b5⟩
  have Bq := Bq.below b5 Bq.lt
  have Br := Br.below b5 Br.lt
  have iq := iq.below b5
  have ir := ir.below b5
  have ia := ia.below b5
  have bl := bl.trans (b5.mono bl.size)
  clear b5
  have lb := show (-2 : Int).natAbs < M.BB ^ 1 from lt_one (by omega)
  obtain ⟨gb, Ab, nb, cb, rfl, ib, nb'⟩ := mb.open lb (by omega)
  clear mb
  clear nb'
  obtain ⟨q0, q1, q2, _⟩ := id Bq
  obtain ⟨r0, r1, r2, _⟩ := id Br
  have q3 := Bq.fr 0
  have q4 := Bq.fr 1
  have r3 := Br.fr 0
  have r4 := Br.fr 1
  go_wp2_with fail
  clear q0 q1 q2 q3 q4 r0 r1 r2 r3 r4
  refine (divMod_w _ _ _ _ _ _ _ _ _ _ _ ia ib (by omega)).mono ?_
  rintro e w6 ⟨vp, vs, rfl, mp, ms, b6⟩
  have Bq := Bq.below b6 Bq.lt
  have Br := Br.below b6 Br.lt
  have iq := iq.below b6
  have ir := ir.below b6
  have ia := ia.below b6
  have ib := ib.below b6
  have bl := bl.trans (b6.mono bl.size)
  clear b6
  rw [show (-7 : Int) / (-2) = 4 from by decide] at mp
  rw [show (-7 : Int) % (-2) = 1 from by decide] at ms
  have lp := show (4 : Int).natAbs < M.BB ^ 1 from lt_one (by omega)
  obtain ⟨gp, Ap, np, cp, rfl, ip, np'⟩ := mp.open lp (by omega)
  clear mp
  clear np'
  have ls := show (1 : Int).natAbs < M.BB ^ 1 from lt_one (by omega)
  obtain ⟨gs, As, ns, cs, rfl, is, ns'⟩ := ms.open ls (by omega)
  clear ms
  clear ns'
  clear ia
  clear ib
  obtain ⟨q0, q1, q2, _⟩ := id Bq
  obtain ⟨r0, r1, r2, _⟩ := id Br
  have q3 := Bq.fr 0
  have q4 := Bq.fr 1
  have r3 := Br.fr 0
  have r4 := Br.fr 1
  go_wp2_with fail
  clear q0 q1 q2 q3 q4 r0 r1 r2 r3 r4
  obtain ⟨ex, Bpp, Bsp⟩ := loc2 w6 gp Ap np cp gs As ns cs
  have Bq := Bq.below ex Bq.lt
  have Br := Br.below ex Br.lt
  have iq := iq.below ex
  have ir := ir.below ex
  have ip := ip.below ex
  have is := is.below ex
  have bl := bl.trans (ex.mono bl.size)
  have Bp := Bpp
  clear Bpp
  have Bs := Bsp
  clear Bsp
  clear ex
  refine (of_w (7) _ (by omega)).mono ?_
  rintro e w7 ⟨va, rfl, ma, b7⟩
  have Bq := Bq.below b7 Bq.lt
  have Br := Br.below b7 Br.lt
  have Bp := Bp.below b7 Bp.lt
  have Bs := Bs.below b7 Bs.lt
  have iq := iq.below b7
  have ir := ir.below b7
  have ip := ip.below b7
  have is := is.below b7
  have bl := bl.trans (b7.mono bl.size)
  clear b7
  have la := show (7 : Int).natAbs < M.BB ^ 1 from lt_one (by omega)
  obtain ⟨ga, Aa, na, ca, rfl, ia, na'⟩ := ma.open la (by omega)
  clear ma
  clear na'
  obtain ⟨q0, q1, q2, _⟩ := id Bq
  obtain ⟨r0, r1, r2, _⟩ := id Br
  obtain ⟨p0, p1, p2, _⟩ := id Bp
  obtain ⟨s0, s1, s2, _⟩ := id Bs
  have q3 := Bq.fr 0
  have q4 := Bq.fr 1
  have r3 := Br.fr 0
  have r4 := Br.fr 1
  have p3 := Bp.fr 0
  have p4 := Bp.fr 1
  have s3 := Bs.fr 0
  have s4 := Bs.fr 1
  go_wp2_with fail
  clear q0 q1 q2 q3 q4 r0 r1 r2 r3 r4 p0 p1 p2 p3 p4 s0 s1 s2 s3 s4
  refine (of_w (-2) _ (by omega)).mono ?_
  rintro e w8 ⟨vb, rfl, mb, b8⟩
  have Bq := Bq.below b8 Bq.lt
  have Br := Br.below b8 Br.lt
  have Bp := Bp.below b8 Bp.lt
  have Bs := Bs.below b8 Bs.lt
  have iq := iq.below b8
  have ir := ir.below b8
  have ip := ip.below b8
  have is := is.below b8
  have ia := ia.below b8
  have bl := bl.trans (b8.mono bl.size)
  clear b8
  have lb := show (-2 : Int).natAbs < M.BB ^ 1 from lt_one (by omega)
  obtain ⟨gb, Ab, nb, cb, rfl, ib, nb'⟩ := mb.open lb (by omega)
  clear mb
  clear nb'
  obtain ⟨q0, q1, q2, _⟩ := id Bq
  obtain ⟨r0, r1, r2, _⟩ := id Br
  obtain ⟨p0, p1, p2, _⟩ := id Bp
  obtain ⟨s0, s1, s2, _⟩ := id Bs
  have q3 := Bq.fr 0
  have q4 := Bq.fr 1
  have r3 := Br.fr 0
  have r4 := Br.fr 1
  have p3 := Bp.fr 0
  have p4 := Bp.fr 1
  have s3 := Bs.fr 0
  have s4 := Bs.fr 1
  go_wp2_with fail
  clear q0 q1 q2 q3 q4 r0 r1 r2 r3 r4 p0 p1 p2 p3 p4 s0 s1 s2 s3 s4
  refine (floor_w _ _ _ _ _ _ _ _ _ _ _ ia ib (by omega)).mono ?_
  rintro e w9 ⟨vu, rfl, mu, b9⟩
  have Bq := Bq.below b9 Bq.lt
  have Br := Br.below b9 Br.lt
  have Bp := Bp.below b9 Bp.lt
  have Bs := Bs.below b9 Bs.lt
  have iq := iq.below b9
  have ir := ir.below b9
  have ip := ip.below b9
  have is := is.below b9
  have ia := ia.below b9
  have ib := ib.below b9
  have bl := bl.trans (b9.mono bl.size)
  clear b9
  rw [show Z.fl 7 (-2) = -4 from by decide] at mu
  have lu := show (-4 : Int).natAbs < M.BB ^ 1 from lt_one (by omega)
  obtain ⟨gu, Au, nu, cu, rfl, iu, nu'⟩ := mu.open lu (by omega)
  clear mu
  clear nu'
  clear ia
  clear ib
  obtain ⟨q0, q1, q2, _⟩ := id Bq
  obtain ⟨r0, r1, r2, _⟩ := id Br
  obtain ⟨p0, p1, p2, _⟩ := id Bp
  obtain ⟨s0, s1, s2, _⟩ := id Bs
  have q3 := Bq.fr 0
  have q4 := Bq.fr 1
  have r3 := Br.fr 0
  have r4 := Br.fr 1
  have p3 := Bp.fr 0
  have p4 := Bp.fr 1
  have s3 := Bs.fr 0
  have s4 := Bs.fr 1
  go_wp2_with fail
  clear q0 q1 q2 q3 q4 r0 r1 r2 r3 r4 p0 p1 p2 p3 p4 s0 s1 s2 s3 s4
  obtain ⟨ex, Bup⟩ := loc1 w9 gu Au nu cu
  have Bq := Bq.below ex Bq.lt
  have Br := Br.below ex Br.lt
  have Bp := Bp.below ex Bp.lt
  have Bs := Bs.below ex Bs.lt
  have iq := iq.below ex
  have ir := ir.below ex
  have ip := ip.below ex
  have is := is.below ex
  have iu := iu.below ex
  have bl := bl.trans (ex.mono bl.size)
  have Bu := Bup
  clear Bup
  clear ex
  refine (text_w _ _ _ _ _ _ iq).mono ?_
  rintro e w10 ⟨tq, rfl, yq, b10⟩
  have Bq := Bq.below b10 Bq.lt
  have Br := Br.below b10 Br.lt
  have Bp := Bp.below b10 Bp.lt
  have Bs := Bs.below b10 Bs.lt
  have Bu := Bu.below b10 Bu.lt
  have iq := iq.below b10
  have ir := ir.below b10
  have ip := ip.below b10
  have is := is.below b10
  have iu := iu.below b10
  have bl := bl.trans (b10.mono bl.size)
  clear b10
  obtain rfl := yq.uniq ztxt_m4
  clear yq
  clear Bq
  clear iq
  obtain ⟨r0, r1, r2, _⟩ := id Br
  obtain ⟨p0, p1, p2, _⟩ := id Bp
  obtain ⟨s0, s1, s2, _⟩ := id Bs
  obtain ⟨u0, u1, u2, _⟩ := id Bu
  have r3 := Br.fr 0
  have r4 := Br.fr 1
  have p3 := Bp.fr 0
  have p4 := Bp.fr 1
  have s3 := Bs.fr 0
  have s4 := Bs.fr 1
  have u3 := Bu.fr 0
  have u4 := Bu.fr 1
  go_wp2_with fail
  clear r0 r1 r2 r3 r4 p0 p1 p2 p3 p4 s0 s1 s2 s3 s4 u0 u1 u2 u3 u4
  refine (text_w _ _ _ _ _ _ ir).mono ?_
  rintro e w11 ⟨tr, rfl, yr, b11⟩
  have Br := Br.below b11 Br.lt
  have Bp := Bp.below b11 Bp.lt
  have Bs := Bs.below b11 Bs.lt
  have Bu := Bu.below b11 Bu.lt
  have ir := ir.below b11
  have ip := ip.below b11
  have is := is.below b11
  have iu := iu.below b11
  have bl := bl.trans (b11.mono bl.size)
  clear b11
  obtain rfl := yr.uniq ztxt_1
  clear yr
  clear Br
  clear ir
  obtain ⟨p0, p1, p2, _⟩ := id Bp
  obtain ⟨s0, s1, s2, _⟩ := id Bs
  obtain ⟨u0, u1, u2, _⟩ := id Bu
  have p3 := Bp.fr 0
  have p4 := Bp.fr 1
  have s3 := Bs.fr 0
  have s4 := Bs.fr 1
  have u3 := Bu.fr 0
  have u4 := Bu.fr 1
  go_wp2_with fail
  clear p0 p1 p2 p3 p4 s0 s1 s2 s3 s4 u0 u1 u2 u3 u4
  refine (text_w _ _ _ _ _ _ ip).mono ?_
  rintro e w12 ⟨tp, rfl, yp, b12⟩
  have Bp := Bp.below b12 Bp.lt
  have Bs := Bs.below b12 Bs.lt
  have Bu := Bu.below b12 Bu.lt
  have ip := ip.below b12
  have is := is.below b12
  have iu := iu.below b12
  have bl := bl.trans (b12.mono bl.size)
  clear b12
  obtain rfl := yp.uniq ztxt_4
  clear yp
  clear Bp
  clear ip
  obtain ⟨s0, s1, s2, _⟩ := id Bs
  obtain ⟨u0, u1, u2, _⟩ := id Bu
  have s3 := Bs.fr 0
  have s4 := Bs.fr 1
  have u3 := Bu.fr 0
  have u4 := Bu.fr 1
  go_wp2_with fail
  clear s0 s1 s2 s3 s4 u0 u1 u2 u3 u4
  refine (text_w _ _ _ _ _ _ is).mono ?_
  rintro e w13 ⟨ts, rfl, ys, b13⟩
  have Bs := Bs.below b13 Bs.lt
  have Bu := Bu.below b13 Bu.lt
  have is := is.below b13
  have iu := iu.below b13
  have bl := bl.trans (b13.mono bl.size)
  clear b13
  obtain rfl := ys.uniq ztxt_1
  clear ys
  clear Bs
  clear is
  obtain ⟨u0, u1, u2, _⟩ := id Bu
  have u3 := Bu.fr 0
  have u4 := Bu.fr 1
  go_wp2_with fail
  clear u0 u1 u2 u3 u4
  refine (text_w _ _ _ _ _ _ iu).mono ?_
  rintro e w14 ⟨tu, rfl, yu, b14⟩
  have Bu := Bu.below b14 Bu.lt
  have iu := iu.below b14
  have bl := bl.trans (b14.mono bl.size)
  clear b14
  obtain rfl := yu.uniq ztxt_m4
  clear yu
  clear Bu
  clear iu
  go_wp2_with fail
  go_ret
  exact ⟨by simp, bl⟩
end Go.Proofs.Ytiehkciofggonaa

/- what is held through a region that draws: structs in memory, and the whole numbers that they say. -/
namespace Go.Proofs.Ytiehkciofggonaa
open Go.RowKit

/-- a struct lies in block b and says z -/
structure BoxZ (W : World) (b : Nat) (g : Bool) (A : Option Addr) (n c : Nat) (z : Int) : Prop where
  box : Box W b g A n c
  num : WIn W g A n c z
theorem BoxZ.below {W w1 : World} {b : Nat} {g : Bool} {A : Option Addr} {n c : Nat} {z : Int} (h : BoxZ W b g A n c z) (hk : Below W.heap.size W w1) : BoxZ w1 b g A n c z := ⟨h.box.below hk h.box.lt, h.num.below hk⟩
structure Loc where
  b : Nat
  g : Bool
  A : Option Addr
  n : Nat
  c : Nat
  z : Int
/-- what lies there: L in boxes, M in their own form; nothing below w has changed -/
def HL (w : World) (L M : List Loc) (W : World) : Prop := (∀ x ∈ L, BoxZ W x.b x.g x.A x.n x.c x.z) ∧ (∀ x ∈ M, WNum W (.agg #[.bool x.g, .slice x.A x.n x.c]) x.z) ∧ Below w.heap.size w W
theorem HL.below {w W w1 : World} {L M : List Loc} (h : HL w L M W) (hk : Below W.heap.size W w1) : HL w L M w1 := ⟨fun x hx => (h.1 x hx).below hk, fun x hx => (h.2.1 x hx).below hk, h.2.2.trans (hk.mono h.2.2.size)⟩
theorem HL.drew {w W : World} {L M : List Loc} (h : HL w L M W) : HL w L M W.drew := h.below (Below.refl _ _).drew
theorem one_of {α : Type} {P : α → Prop} {a : α} (h : P a) : ∀ x ∈ [a], P x := fun x hx => by
  simp at hx
  rw [hx]; exact h
theorem cons_of {α : Type} {P : α → Prop} {a : α} {l : List α} (h : P a) (k : ∀ x ∈ l, P x) : ∀ x ∈ a :: l, P x := fun x hx => by
  rcases List.mem_cons.1 hx with e | e
  · rw [e]; exact h
  · exact k x e

theorem cells1 {w W : World} {M : List Loc} {b0 : Nat} {g0 : Bool} {A0 : Option Addr} {n0 c0 : Nat} {z0 : Int} (q : HL w [⟨b0, g0, A0, n0, c0, z0⟩] M W) : W.cell? ⟨b0, 0, none⟩ = some (.bool g0) ∧ W.cell? ⟨b0, 1, none⟩ = some (.slice A0 n0 c0) ∧ HL w [⟨b0, g0, A0, n0, c0, z0⟩] M W :=
  ⟨(q.1 _ (.head _)).box.c0, (q.1 _ (.head _)).box.c1, q⟩
theorem keepZ1 {w W w1 : World} {M : List Loc} {b0 : Nat} {g0 : Bool} {A0 : Option Addr} {n0 c0 : Nat} {z0 : Int} (hk : Below W.heap.size W w1) (h : W.cell? ⟨b0, 0, none⟩ = some (.bool g0) ∧ W.cell? ⟨b0, 1, none⟩ = some (.slice A0 n0 c0) ∧ HL w [⟨b0, g0, A0, n0, c0, z0⟩] M W) : w1.cell? ⟨b0, 0, none⟩ = some (.bool g0) ∧ w1.cell? ⟨b0, 1, none⟩ = some (.slice A0 n0 c0) ∧ HL w [⟨b0, g0, A0, n0, c0, z0⟩] M w1 := cells1 (h.2.2.below hk)
theorem start1 {w W : World} {M : List Loc} {b0 : Nat} {g0 : Bool} {A0 : Option Addr} {n0 c0 : Nat} {z0 : Int} (h0 : BoxZ W b0 g0 A0 n0 c0 z0) (bl : Below w.heap.size w W) (hM : ∀ x ∈ M, WNum W (.agg #[.bool x.g, .slice x.A x.n x.c]) x.z) : W.drew.cell? ⟨b0, 0, none⟩ = some (.bool g0) ∧ W.drew.cell? ⟨b0, 1, none⟩ = some (.slice A0 n0 c0) ∧ HL w [⟨b0, g0, A0, n0, c0, z0⟩] M W.drew :=
  cells1 (HL.drew ⟨cons_of (P := fun x : Loc => BoxZ W x.b x.g x.A x.n x.c x.z) h0 (fun _ h => absurd h (by simp)), hM, bl⟩)
theorem own1 {W : World} {b0 : Nat} {g0 : Bool} {A0 : Option Addr} {n0 c0 : Nat} {z0 : Int} (h0 : WNum W (.agg #[.bool g0, .slice A0 n0 c0]) z0) : ∀ x ∈ [(⟨b0, g0, A0, n0, c0, z0⟩ : Loc)], WNum W (.agg #[.bool x.g, .slice x.A x.n x.c]) x.z :=
  cons_of (P := fun x : Loc => WNum W (.agg #[.bool x.g, .slice x.A x.n x.c]) x.z) h0 (fun _ h => absurd h (by simp))

theorem cells2 {w W : World} {M : List Loc} {b0 : Nat} {g0 : Bool} {A0 : Option Addr} {n0 c0 : Nat} {z0 : Int} {b1 : Nat} {g1 : Bool} {A1 : Option Addr} {n1 c1 : Nat} {z1 : Int} (q : HL w [⟨b0, g0, A0, n0, c0, z0⟩, ⟨b1, g1, A1, n1, c1, z1⟩] M W) : W.cell? ⟨b0, 0, none⟩ = some (.bool g0) ∧ W.cell? ⟨b0, 1, none⟩ = some (.slice A0 n0 c0) ∧ W.cell? ⟨b1, 0, none⟩ = some (.bool g1) ∧ W.cell? ⟨b1, 1, none⟩ = some (.slice A1 n1 c1) ∧ HL w [⟨b0, g0, A0, n0, c0, z0⟩, ⟨b1, g1, A1, n1, c1, z1⟩] M W :=
  ⟨(q.1 _ (.head _)).box.c0, (q.1 _ (.head _)).box.c1, (q.1 _ (.tail _ (.head _))).box.c0, (q.1 _ (.tail _ (.head _))).box.c1, q⟩
theorem keepZ2 {w W w1 : World} {M : List Loc} {b0 : Nat} {g0 : Bool} {A0 : Option Addr} {n0 c0 : Nat} {z0 : Int} {b1 : Nat} {g1 : Bool} {A1 : Option Addr} {n1 c1 : Nat} {z1 : Int} (hk : Below W.heap.size W w1) (h : W.cell? ⟨b0, 0, none⟩ = some (.bool g0) ∧ W.cell? ⟨b0, 1, none⟩ = some (.slice A0 n0 c0) ∧ W.cell? ⟨b1, 0, none⟩ = some (.bool g1) ∧ W.cell? ⟨b1, 1, none⟩ = some (.slice A1 n1 c1) ∧ HL w [⟨b0, g0, A0, n0, c0, z0⟩, ⟨b1, g1, A1, n1, c1, z1⟩] M W) : w1.cell? ⟨b0, 0, none⟩ = some (.bool g0) ∧ w1.cell? ⟨b0, 1, none⟩ = some (.slice A0 n0 c0) ∧ w1.cell? ⟨b1, 0, none⟩ = some (.bool g1) ∧ w1.cell? ⟨b1, 1, none⟩ = some (.slice A1 n1 c1) ∧ HL w [⟨b0, g0, A0, n0, c0, z0⟩, ⟨b1, g1, A1, n1, c1, z1⟩] M w1 := cells2 (h.2.2.2.2.below hk)
theorem start2 {w W : World} {M : List Loc} {b0 : Nat} {g0 : Bool} {A0 : Option Addr} {n0 c0 : Nat} {z0 : Int} {b1 : Nat} {g1 : Bool} {A1 : Option Addr} {n1 c1 : Nat} {z1 : Int} (h0 : BoxZ W b0 g0 A0 n0 c0 z0) (h1 : BoxZ W b1 g1 A1 n1 c1 z1) (bl : Below w.heap.size w W) (hM : ∀ x ∈ M, WNum W (.agg #[.bool x.g, .slice x.A x.n x.c]) x.z) : W.drew.cell? ⟨b0, 0, none⟩ = some (.bool g0) ∧ W.drew.cell? ⟨b0, 1, none⟩ = some (.slice A0 n0 c0) ∧ W.drew.cell? ⟨b1, 0, none⟩ = some (.bool g1) ∧ W.drew.cell? ⟨b1, 1, none⟩ = some (.slice A1 n1 c1) ∧ HL w [⟨b0, g0, A0, n0, c0, z0⟩, ⟨b1, g1, A1, n1, c1, z1⟩] M W.drew :=
  cells2 (HL.drew ⟨cons_of (P := fun x : Loc => BoxZ W x.b x.g x.A x.n x.c x.z) h0 (cons_of (P := fun x : Loc => BoxZ W x.b x.g x.A x.n x.c x.z) h1 (fun _ h => absurd h (by simp))), hM, bl⟩)
theorem own2 {W : World} {b0 : Nat} {g0 : Bool} {A0 : Option Addr} {n0 c0 : Nat} {z0 : Int} {b1 : Nat} {g1 : Bool} {A1 : Option Addr} {n1 c1 : Nat} {z1 : Int} (h0 : WNum W (.agg #[.bool g0, .slice A0 n0 c0]) z0) (h1 : WNum W (.agg #[.bool g1, .slice A1 n1 c1]) z1) : ∀ x ∈ [(⟨b0, g0, A0, n0, c0, z0⟩ : Loc), (⟨b1, g1, A1, n1, c1, z1⟩ : Loc)], WNum W (.agg #[.bool x.g, .slice x.A x.n x.c]) x.z :=
  cons_of (P := fun x : Loc => WNum W (.agg #[.bool x.g, .slice x.A x.n x.c]) x.z) h0 (cons_of (P := fun x : Loc => WNum W (.agg #[.bool x.g, .slice x.A x.n x.c]) x.z) h1 (fun _ h => absurd h (by simp)))

theorem cells3 {w W : World} {M : List Loc} {b0 : Nat} {g0 : Bool} {A0 : Option Addr} {n0 c0 : Nat} {z0 : Int} {b1 : Nat} {g1 : Bool} {A1 : Option Addr} {n1 c1 : Nat} {z1 : Int} {b2 : Nat} {g2 : Bool} {A2 : Option Addr} {n2 c2 : Nat} {z2 : Int} (q : HL w [⟨b0, g0, A0, n0, c0, z0⟩, ⟨b1, g1, A1, n1, c1, z1⟩, ⟨b2, g2, A2, n2, c2, z2⟩] M W) : W.cell? ⟨b0, 0, none⟩ = some (.bool g0) ∧ W.cell? ⟨b0, 1, none⟩ = some (.slice A0 n0 c0) ∧ W.cell? ⟨b1, 0, none⟩ = some (.bool g1) ∧ W.cell? ⟨b1, 1, none⟩ = some (.slice A1 n1 c1) ∧ W.cell? ⟨b2, 0, none⟩ = some (.bool g2) ∧ W.cell? ⟨b2, 1, none⟩ = some (.slice A2 n2 c2) ∧ HL w [⟨b0, g0, A0, n0, c0, z0⟩, ⟨b1, g1, A1, n1, c1, z1⟩, ⟨b2, g2, A2, n2, c2, z2⟩] M W :=
  ⟨(q.1 _ (.head _)).box.c0, (q.1 _ (.head _)).box.c1, (q.1 _ (.tail _ (.head _))).box.c0, (q.1 _ (.tail _ (.head _))).box.c1, (q.1 _ (.tail _ (.tail _ (.head _)))).box.c0, (q.1 _ (.tail _ (.tail _ (.head _)))).box.c1, q⟩
theorem keepZ3 {w W w1 : World} {M : List Loc} {b0 : Nat} {g0 : Bool} {A0 : Option Addr} {n0 c0 : Nat} {z0 : Int} {b1 : Nat} {g1 : Bool} {A1 : Option Addr} {n1 c1 : Nat} {z1 : Int} {b2 : Nat} {g2 : Bool} {A2 : Option Addr} {n2 c2 : Nat} {z2 : Int} (hk : Below W.heap.size W w1) (h : W.cell? ⟨b0, 0, none⟩ = some (.bool g0) ∧ W.cell? ⟨b0, 1, none⟩ = some (.slice A0 n0 c0) ∧ W.cell? ⟨b1, 0, none⟩ = some (.bool g1) ∧ W.cell? ⟨b1, 1, none⟩ = some (.slice A1 n1 c1) ∧ W.cell? ⟨b2, 0, none⟩ = some (.bool g2) ∧ W.cell? ⟨b2, 1, none⟩ = some (.slice A2 n2 c2) ∧ HL w [⟨b0, g0, A0, n0, c0, z0⟩, ⟨b1, g1, A1, n1, c1, z1⟩, ⟨b2, g2, A2, n2, c2, z2⟩] M W) : w1.cell? ⟨b0, 0, none⟩ = some (.bool g0) ∧ w1.cell? ⟨b0, 1, none⟩ = some (.slice A0 n0 c0) ∧ w1.cell? ⟨b1, 0, none⟩ = some (.bool g1) ∧ w1.cell? ⟨b1, 1, none⟩ = some (.slice A1 n1 c1) ∧ w1.cell? ⟨b2, 0, none⟩ = some (.bool g2) ∧ w1.cell? ⟨b2, 1, none⟩ = some (.slice A2 n2 c2) ∧ HL w [⟨b0, g0, A0, n0, c0, z0⟩, ⟨b1, g1, A1, n1, c1, z1⟩, ⟨b2, g2, A2, n2, c2, z2⟩] M w1 := cells3 (h.2.2.2.2.2.2.below hk)
theorem start3 {w W : World} {M : List Loc} {b0 : Nat} {g0 : Bool} {A0 : Option Addr} {n0 c0 : Nat} {z0 : Int} {b1 : Nat} {g1 : Bool} {A1 : Option Addr} {n1 c1 : Nat} {z1 : Int} {b2 : Nat} {g2 : Bool} {A2 : Option Addr} {n2 c2 : Nat} {z2 : Int} (h0 : BoxZ W b0 g0 A0 n0 c0 z0) (h1 : BoxZ W b1 g1 A1 n1 c1 z1) (h2 : BoxZ W b2 g2 A2 n2 c2 z2) (bl : Below w.heap.size w W) (hM : ∀ x ∈ M, WNum W (.agg #[.bool x.g, .slice x.A x.n x.c]) x.z) : W.drew.cell? ⟨b0, 0, none⟩ = some (.bool g0) ∧ W.drew.cell? ⟨b0, 1, none⟩ = some (.slice A0 n0 c0) ∧ W.drew.cell? ⟨b1, 0, none⟩ = some (.bool g1) ∧ W.drew.cell? ⟨b1, 1, none⟩ = some (.slice A1 n1 c1) ∧ W.drew.cell? ⟨b2, 0, none⟩ = some (.bool g2) ∧ W.drew.cell? ⟨b2, 1, none⟩ = some (.slice A2 n2 c2) ∧ HL w [⟨b0, g0, A0, n0, c0, z0⟩, ⟨b1, g1, A1, n1, c1, z1⟩, ⟨b2, g2, A2, n2, c2, z2⟩] M W.drew :=
  cells3 (HL.drew ⟨cons_of (P := fun x : Loc => BoxZ W x.b x.g x.A x.n x.c x.z) h0 (cons_of (P := fun x : Loc => BoxZ W x.b x.g x.A x.n x.c x.z) h1 (cons_of (P := fun x : Loc => BoxZ W x.b x.g x.A x.n x.c x.z) h2 (fun _ h => absurd h (by simp)))), hM, bl⟩)
theorem own3 {W : World} {b0 : Nat} {g0 : Bool} {A0 : Option Addr} {n0 c0 : Nat} {z0 : Int} {b1 : Nat} {g1 : Bool} {A1 : Option Addr} {n1 c1 : Nat} {z1 : Int} {b2 : Nat} {g2 : Bool} {A2 : Option Addr} {n2 c2 : Nat} {z2 : Int} (h0 : WNum W (.agg #[.bool g0, .slice A0 n0 c0]) z0) (h1 : WNum W (.agg #[.bool g1, .slice A1 n1 c1]) z1) (h2 : WNum W (.agg #[.bool g2, .slice A2 n2 c2]) z2) : ∀ x ∈ [(⟨b0, g0, A0, n0, c0, z0⟩ : Loc), (⟨b1, g1, A1, n1, c1, z1⟩ : Loc), (⟨b2, g2, A2, n2, c2, z2⟩ : Loc)], WNum W (.agg #[.bool x.g, .slice x.A x.n x.c]) x.z :=
  cons_of (P := fun x : Loc => WNum W (.agg #[.bool x.g, .slice x.A x.n x.c]) x.z) h0 (cons_of (P := fun x : Loc => WNum W (.agg #[.bool x.g, .slice x.A x.n x.c]) x.z) h1 (cons_of (P := fun x : Loc => WNum W (.agg #[.bool x.g, .slice x.A x.n x.c]) x.z) h2 (fun _ h => absurd h (by simp))))

theorem cells4 {w W : World} {M : List Loc} {b0 : Nat} {g0 : Bool} {A0 : Option Addr} {n0 c0 : Nat} {z0 : Int} {b1 : Nat} {g1 : Bool} {A1 : Option Addr} {n1 c1 : Nat} {z1 : Int} {b2 : Nat} {g2 : Bool} {A2 : Option Addr} {n2 c2 : Nat} {z2 : Int} {b3 : Nat} {g3 : Bool} {A3 : Option Addr} {n3 c3 : Nat} {z3 : Int} (q : HL w [⟨b0, g0, A0, n0, c0, z0⟩, ⟨b1, g1, A1, n1, c1, z1⟩, ⟨b2, g2, A2, n2, c2, z2⟩, ⟨b3, g3, A3, n3, c3, z3⟩] M W) : W.cell? ⟨b0, 0, none⟩ = some (.bool g0) ∧ W.cell? ⟨b0, 1, none⟩ = some (.slice A0 n0 c0) ∧ W.cell? ⟨b1, 0, none⟩ = some (.bool g1) ∧ W.cell? ⟨b1, 1, none⟩ = some (.slice A1 n1 c1) ∧ W.cell? ⟨b2, 0, none⟩ = some (.bool g2) ∧ W.cell? ⟨b2, 1, none⟩ = some (.slice A2 n2 c2) ∧ W.cell? ⟨b3, 0, none⟩ = some (.bool g3) ∧ W.cell? ⟨b3, 1, none⟩ = some (.slice A3 n3 c3) ∧ HL w [⟨b0, g0, A0, n0, c0, z0⟩, ⟨b1, g1, A1, n1, c1, z1⟩, ⟨b2, g2, A2, n2, c2, z2⟩, ⟨b3, g3, A3, n3, c3, z3⟩] M W :=
  ⟨(q.1 _ (.head _)).box.c0, (q.1 _ (.head _)).box.c1, (q.1 _ (.tail _ (.head _))).box.c0, (q.1 _ (.tail _ (.head _))).box.c1, (q.1 _ (.tail _ (.tail _ (.head _)))).box.c0, (q.1 _ (.tail _ (.tail _ (.head _)))).box.c1, (q.1 _ (.tail _ (.tail _ (.tail _ (.head _))))).box.c0, (q.1 _ (.tail _ (.tail _ (.tail _ (.head _))))).box.c1, q⟩
theorem keepZ4 {w W w1 : World} {M : List Loc} {b0 : Nat} {g0 : Bool} {A0 : Option Addr} {n0 c0 : Nat} {z0 : Int} {b1 : Nat} {g1 : Bool} {A1 : Option Addr} {n1 c1 : Nat} {z1 : Int} {b2 : Nat} {g2 : Bool} {A2 : Option Addr} {n2 c2 : Nat} {z2 : Int} {b3 : Nat} {g3 : Bool} {A3 : Option Addr} {n3 c3 : Nat} {z3 : Int} (hk : Below W.heap.size W w1) (h : W.cell? ⟨b0, 0, none⟩ = some (.bool g0) ∧ W.cell? ⟨b0, 1, none⟩ = some (.slice A0 n0 c0) ∧ W.cell? ⟨b1, 0, none⟩ = some (.bool g1) ∧ W.cell? ⟨b1, 1, none⟩ = some (.slice A1 n1 c1) ∧ W.cell? ⟨b2, 0, none⟩ = some (.bool g2) ∧ W.cell? ⟨b2, 1, none⟩ = some (.slice A2 n2 c2) ∧ W.cell? ⟨b3, 0, none⟩ = some (.bool g3) ∧ W.cell? ⟨b3, 1, none⟩ = some (.slice A3 n3 c3) ∧ HL w [⟨b0, g0, A0, n0, c0, z0⟩, ⟨b1, g1, A1, n1, c1, z1⟩, ⟨b2, g2, A2, n2, c2, z2⟩, ⟨b3, g3, A3, n3, c3, z3⟩] M W) : w1.cell? ⟨b0, 0, none⟩ = some (.bool g0) ∧ w1.cell? ⟨b0, 1, none⟩ = some (.slice A0 n0 c0) ∧ w1.cell? ⟨b1, 0, none⟩ = some (.bool g1) ∧ w1.cell? ⟨b1, 1, none⟩ = some (.slice A1 n1 c1) ∧ w1.cell? ⟨b2, 0, none⟩ = some (.bool g2) ∧ w1.cell? ⟨b2, 1, none⟩ = some (.slice A2 n2 c2) ∧ w1.cell? ⟨b3, 0, none⟩ = some (.bool g3) ∧ w1.cell? ⟨b3, 1, none⟩ = some (.slice A3 n3 c3) ∧ HL w [⟨b0, g0, A0, n0, c0, z0⟩, ⟨b1, g1, A1, n1, c1, z1⟩, ⟨b2, g2, A2, n2, c2, z2⟩, ⟨b3, g3, A3, n3, c3, z3⟩] M w1 := cells4 (h.2.2.2.2.2.2.2.2.below hk)
theorem start4 {w W : World} {M : List Loc} {b0 : Nat} {g0 : Bool} {A0 : Option Addr} {n0 c0 : Nat} {z0 : Int} {b1 : Nat} {g1 : Bool} {A1 : Option Addr} {n1 c1 : Nat} {z1 : Int} {b2 : Nat} {g2 : Bool} {A2 : Option Addr} {n2 c2 : Nat} {z2 : Int} {b3 : Nat} {g3 : Bool} {A3 : Option Addr} {n3 c3 : Nat} {z3 : Int} (h0 : BoxZ W b0 g0 A0 n0 c0 z0) (h1 : BoxZ W b1 g1 A1 n1 c1 z1) (h2 : BoxZ W b2 g2 A2 n2 c2 z2) (h3 : BoxZ W b3 g3 A3 n3 c3 z3) (bl : Below w.heap.size w W) (hM : ∀ x ∈ M, WNum W (.agg #[.bool x.g, .slice x.A x.n x.c]) x.z) : W.drew.cell? ⟨b0, 0, none⟩ = some (.bool g0) ∧ W.drew.cell? ⟨b0, 1, none⟩ = some (.slice A0 n0 c0) ∧ W.drew.cell? ⟨b1, 0, none⟩ = some (.bool g1) ∧ W.drew.cell? ⟨b1, 1, none⟩ = some (.slice A1 n1 c1) ∧ W.drew.cell? ⟨b2, 0, none⟩ = some (.bool g2) ∧ W.drew.cell? ⟨b2, 1, none⟩ = some (.slice A2 n2 c2) ∧ W.drew.cell? ⟨b3, 0, none⟩ = some (.bool g3) ∧ W.drew.cell? ⟨b3, 1, none⟩ = some (.slice A3 n3 c3) ∧ HL w [⟨b0, g0, A0, n0, c0, z0⟩, ⟨b1, g1, A1, n1, c1, z1⟩, ⟨b2, g2, A2, n2, c2, z2⟩, ⟨b3, g3, A3, n3, c3, z3⟩] M W.drew :=
  cells4 (HL.drew ⟨cons_of (P := fun x : Loc => BoxZ W x.b x.g x.A x.n x.c x.z) h0 (cons_of (P := fun x : Loc => BoxZ W x.b x.g x.A x.n x.c x.z) h1 (cons_of (P := fun x : Loc => BoxZ W x.b x.g x.A x.n x.c x.z) h2 (cons_of (P := fun x : Loc => BoxZ W x.b x.g x.A x.n x.c x.z) h3 (fun _ h => absurd h (by simp))))), hM, bl⟩)
theorem own4 {W : World} {b0 : Nat} {g0 : Bool} {A0 : Option Addr} {n0 c0 : Nat} {z0 : Int} {b1 : Nat} {g1 : Bool} {A1 : Option Addr} {n1 c1 : Nat} {z1 : Int} {b2 : Nat} {g2 : Bool} {A2 : Option Addr} {n2 c2 : Nat} {z2 : Int} {b3 : Nat} {g3 : Bool} {A3 : Option Addr} {n3 c3 : Nat} {z3 : Int} (h0 : WNum W (.agg #[.bool g0, .slice A0 n0 c0]) z0) (h1 : WNum W (.agg #[.bool g1, .slice A1 n1 c1]) z1) (h2 : WNum W (.agg #[.bool g2, .slice A2 n2 c2]) z2) (h3 : WNum W (.agg #[.bool g3, .slice A3 n3 c3]) z3) : ∀ x ∈ [(⟨b0, g0, A0, n0, c0, z0⟩ : Loc), (⟨b1, g1, A1, n1, c1, z1⟩ : Loc), (⟨b2, g2, A2, n2, c2, z2⟩ : Loc), (⟨b3, g3, A3, n3, c3, z3⟩ : Loc)], WNum W (.agg #[.bool x.g, .slice x.A x.n x.c]) x.z :=
  cons_of (P := fun x : Loc => WNum W (.agg #[.bool x.g, .slice x.A x.n x.c]) x.z) h0 (cons_of (P := fun x : Loc => WNum W (.agg #[.bool x.g, .slice x.A x.n x.c]) x.z) h1 (cons_of (P := fun x : Loc => WNum W (.agg #[.bool x.g, .slice x.A x.n x.c]) x.z) h2 (cons_of (P := fun x : Loc => WNum W (.agg #[.bool x.g, .slice x.A x.n x.c]) x.z) h3 (fun _ h => absurd h (by simp)))))

theorem cells5 {w W : World} {M : List Loc} {b0 : Nat} {g0 : Bool} {A0 : Option Addr} {n0 c0 : Nat} {z0 : Int} {b1 : Nat} {g1 : Bool} {A1 : Option Addr} {n1 c1 : Nat} {z1 : Int} {b2 : Nat} {g2 : Bool} {A2 : Option Addr} {n2 c2 : Nat} {z2 : Int} {b3 : Nat} {g3 : Bool} {A3 : Option Addr} {n3 c3 : Nat} {z3 : Int} {b4 : Nat} {g4 : Bool} {A4 : Option Addr} {n4 c4 : Nat} {z4 : Int} (q : HL w [⟨b0, g0, A0, n0, c0, z0⟩, ⟨b1, g1, A1, n1, c1, z1⟩, ⟨b2, g2, A2, n2, c2, z2⟩, ⟨b3, g3, A3, n3, c3, z3⟩, ⟨b4, g4, A4, n4, c4, z4⟩] M W) : W.cell? ⟨b0, 0, none⟩ = some (.bool g0) ∧ W.cell? ⟨b0, 1, none⟩ = some (.slice A0 n0 c0) ∧ W.cell? ⟨b1, 0, none⟩ = some (.bool g1) ∧ W.cell? ⟨b1, 1, none⟩ = some (.slice A1 n1 c1) ∧ W.cell? ⟨b2, 0, none⟩ = some (.bool g2) ∧ W.cell? ⟨b2, 1, none⟩ = some (.slice A2 n2 c2) ∧ W.cell? ⟨b3, 0, none⟩ = some (.bool g3) ∧ W.cell? ⟨b3, 1, none⟩ = some (.slice A3 n3 c3) ∧ W.cell? ⟨b4, 0, none⟩ = some (.bool g4) ∧ W.cell? ⟨b4, 1, none⟩ = some (.slice A4 n4 c4) ∧ HL w [⟨b0, g0, A0, n0, c0, z0⟩, ⟨b1, g1, A1, n1, c1, z1⟩, ⟨b2, g2, A2, n2, c2, z2⟩, ⟨b3, g3, A3, n3, c3, z3⟩, ⟨b4, g4, A4, n4, c4, z4⟩] M W :=
  ⟨(q.1 _ (.head _)).box.c0, (q.1 _ (.head _)).box.c1, (q.1 _ (.tail _ (.head _))).box.c0, (q.1 _ (.tail _ (.head _))).box.c1, (q.1 _ (.tail _ (.tail _ (.head _)))).box.c0, (q.1 _ (.tail _ (.tail _ (.head _)))).box.c1, (q.1 _ (.tail _ (.tail _ (.tail _ (.head _))))).box.c0, (q.1 _ (.tail _ (.tail _ (.tail _ (.head _))))).box.c1, (q.1 _ (.tail _ (.tail _ (.tail _ (.tail _ (.head _)))))).box.c0, (q.1 _ (.tail _ (.tail _ (.tail _ (.tail _ (.head _)))))).box.c1, q⟩
theorem keepZ5 {w W w1 : World} {M : List Loc} {b0 : Nat} {g0 : Bool} {A0 : Option Addr} {n0 c0 : Nat} {z0 : Int} {b1 : Nat} {g1 : Bool} {A1 : Option Addr} {n1 c1 : Nat} {z1 : Int} {b2 : Nat} {g2 : Bool} {A2 : Option Addr} {n2 c2 : Nat} {z2 : Int} {b3 : Nat} {g3 : Bool} {A3 : Option Addr} {n3 c3 : Nat} {z3 : Int} {b4 : Nat} {g4 : Bool} {A4 : Option Addr} {n4 c4 : Nat} {z4 : Int} (hk : Below W.heap.size W w1) (h : W.cell? ⟨b0, 0, none⟩ = some (.bool g0) ∧ W.cell? ⟨b0, 1, none⟩ = some (.slice A0 n0 c0) ∧ W.cell? ⟨b1, 0, none⟩ = some (.bool g1) ∧ W.cell? ⟨b1, 1, none⟩ = some (.slice A1 n1 c1) ∧ W.cell? ⟨b2, 0, none⟩ = some (.bool g2) ∧ W.cell? ⟨b2, 1, none⟩ = some (.slice A2 n2 c2) ∧ W.cell? ⟨b3, 0, none⟩ = some (.bool g3) ∧ W.cell? ⟨b3, 1, none⟩ = some (.slice A3 n3 c3) ∧ W.cell? ⟨b4, 0, none⟩ = some (.bool g4) ∧ W.cell? ⟨b4, 1, none⟩ = some (.slice A4 n4 c4) ∧ HL w [⟨b0, g0, A0, n0, c0, z0⟩, ⟨b1, g1, A1, n1, c1, z1⟩, ⟨b2, g2, A2, n2, c2, z2⟩, ⟨b3, g3, A3, n3, c3, z3⟩, ⟨b4, g4, A4, n4, c4, z4⟩] M W) : w1.cell? ⟨b0, 0, none⟩ = some (.bool g0) ∧ w1.cell? ⟨b0, 1, none⟩ = some (.slice A0 n0 c0) ∧ w1.cell? ⟨b1, 0, none⟩ = some (.bool g1) ∧ w1.cell? ⟨b1, 1, none⟩ = some (.slice A1 n1 c1) ∧ w1.cell? ⟨b2, 0, none⟩ = some (.bool g2) ∧ w1.cell? ⟨b2, 1, none⟩ = some (.slice A2 n2 c2) ∧ w1.cell? ⟨b3, 0, none⟩ = some (.bool g3) ∧ w1.cell? ⟨b3, 1, none⟩ = some (.slice A3 n3 c3) ∧ w1.cell? ⟨b4, 0, none⟩ = some (.bool g4) ∧ w1.cell? ⟨b4, 1, none⟩ = some (.slice A4 n4 c4) ∧ HL w [⟨b0, g0, A0, n0, c0, z0⟩, ⟨b1, g1, A1, n1, c1, z1⟩, ⟨b2, g2, A2, n2, c2, z2⟩, ⟨b3, g3, A3, n3, c3, z3⟩, ⟨b4, g4, A4, n4, c4, z4⟩] M w1 := cells5 (h.2.2.2.2.2.2.2.2.2.2.below hk)
theorem start5 {w W : World} {M : List Loc} {b0 : Nat} {g0 : Bool} {A0 : Option Addr} {n0 c0 : Nat} {z0 : Int} {b1 : Nat} {g1 : Bool} {A1 : Option Addr} {n1 c1 : Nat} {z1 : Int} {b2 : Nat} {g2 : Bool} {A2 : Option Addr} {n2 c2 : Nat} {z2 : Int} {b3 : Nat} {g3 : Bool} {A3 : Option Addr} {n3 c3 : Nat} {z3 : Int} {b4 : Nat} {g4 : Bool} {A4 : Option Addr} {n4 c4 : Nat} {z4 : Int} (h0 : BoxZ W b0 g0 A0 n0 c0 z0) (h1 : BoxZ W b1 g1 A1 n1 c1 z1) (h2 : BoxZ W b2 g2 A2 n2 c2 z2) (h3 : BoxZ W b3 g3 A3 n3 c3 z3) (h4 : BoxZ W b4 g4 A4 n4 c4 z4) (bl : Below w.heap.size w W) (hM : ∀ x ∈ M, WNum W (.agg #[.bool x.g, .slice x.A x.n x.c]) x.z) : W.drew.cell? ⟨b0, 0, none⟩ = some (.bool g0) ∧ W.drew.cell? ⟨b0, 1, none⟩ = some (.slice A0 n0 c0) ∧ W.drew.cell? ⟨b1, 0, none⟩ = some (.bool g1) ∧ W.drew.cell? ⟨b1, 1, none⟩ = some (.slice A1 n1 c1) ∧ W.drew.cell? ⟨b2, 0, none⟩ = some (.bool g2) ∧ W.drew.cell? ⟨b2, 1, none⟩ = some (.slice A2 n2 c2) ∧ W.drew.cell? ⟨b3, 0, none⟩ = some (.bool g3) ∧ W.drew.cell? ⟨b3, 1, none⟩ = some (.slice A3 n3 c3) ∧ W.drew.cell? ⟨b4, 0, none⟩ = some (.bool g4) ∧ W.drew.cell? ⟨b4, 1, none⟩ = some (.slice A4 n4 c4) ∧ HL w [⟨b0, g0, A0, n0, c0, z0⟩, ⟨b1, g1, A1, n1, c1, z1⟩, ⟨b2, g2, A2, n2, c2, z2⟩, ⟨b3, g3, A3, n3, c3, z3⟩, ⟨b4, g4, A4, n4, c4, z4⟩] M W.drew :=
  cells5 (HL.drew ⟨cons_of (P := fun x : Loc => BoxZ W x.b x.g x.A x.n x.c x.z) h0 (cons_of (P := fun x : Loc => BoxZ W x.b x.g x.A x.n x.c x.z) h1 (cons_of (P := fun x : Loc => BoxZ W x.b x.g x.A x.n x.c x.z) h2 (cons_of (P := fun x : Loc => BoxZ W x.b x.g x.A x.n x.c x.z) h3 (cons_of (P := fun x : Loc => BoxZ W x.b x.g x.A x.n x.c x.z) h4 (fun _ h => absurd h (by simp)))))), hM, bl⟩)
theorem own5 {W : World} {b0 : Nat} {g0 : Bool} {A0 : Option Addr} {n0 c0 : Nat} {z0 : Int} {b1 : Nat} {g1 : Bool} {A1 : Option Addr} {n1 c1 : Nat} {z1 : Int} {b2 : Nat} {g2 : Bool} {A2 : Option Addr} {n2 c2 : Nat} {z2 : Int} {b3 : Nat} {g3 : Bool} {A3 : Option Addr} {n3 c3 : Nat} {z3 : Int} {b4 : Nat} {g4 : Bool} {A4 : Option Addr} {n4 c4 : Nat} {z4 : Int} (h0 : WNum W (.agg #[.bool g0, .slice A0 n0 c0]) z0) (h1 : WNum W (.agg #[.bool g1, .slice A1 n1 c1]) z1) (h2 : WNum W (.agg #[.bool g2, .slice A2 n2 c2]) z2) (h3 : WNum W (.agg #[.bool g3, .slice A3 n3 c3]) z3) (h4 : WNum W (.agg #[.bool g4, .slice A4 n4 c4]) z4) : ∀ x ∈ [(⟨b0, g0, A0, n0, c0, z0⟩ : Loc), (⟨b1, g1, A1, n1, c1, z1⟩ : Loc), (⟨b2, g2, A2, n2, c2, z2⟩ : Loc), (⟨b3, g3, A3, n3, c3, z3⟩ : Loc), (⟨b4, g4, A4, n4, c4, z4⟩ : Loc)], WNum W (.agg #[.bool x.g, .slice x.A x.n x.c]) x.z :=
  cons_of (P := fun x : Loc => WNum W (.agg #[.bool x.g, .slice x.A x.n x.c]) x.z) h0 (cons_of (P := fun x : Loc => WNum W (.agg #[.bool x.g, .slice x.A x.n x.c]) x.z) h1 (cons_of (P := fun x : Loc => WNum W (.agg #[.bool x.g, .slice x.A x.n x.c]) x.z) h2 (cons_of (P := fun x : Loc => WNum W (.agg #[.bool x.g, .slice x.A x.n x.c]) x.z) h3 (cons_of (P := fun x : Loc => WNum W (.agg #[.bool x.g, .slice x.A x.n x.c]) x.z) h4 (fun _ h => absurd h (by simp))))))

theorem cells6 {w W : World} {M : List Loc} {b0 : Nat} {g0 : Bool} {A0 : Option Addr} {n0 c0 : Nat} {z0 : Int} {b1 : Nat} {g1 : Bool} {A1 : Option Addr} {n1 c1 : Nat} {z1 : Int} {b2 : Nat} {g2 : Bool} {A2 : Option Addr} {n2 c2 : Nat} {z2 : Int} {b3 : Nat} {g3 : Bool} {A3 : Option Addr} {n3 c3 : Nat} {z3 : Int} {b4 : Nat} {g4 : Bool} {A4 : Option Addr} {n4 c4 : Nat} {z4 : Int} {b5 : Nat} {g5 : Bool} {A5 : Option Addr} {n5 c5 : Nat} {z5 : Int} (q : HL w [⟨b0, g0, A0, n0, c0, z0⟩, ⟨b1, g1, A1, n1, c1, z1⟩, ⟨b2, g2, A2, n2, c2, z2⟩, ⟨b3, g3, A3, n3, c3, z3⟩, ⟨b4, g4, A4, n4, c4, z4⟩, ⟨b5, g5, A5, n5, c5, z5⟩] M W) : W.cell? ⟨b0, 0, none⟩ = some (.bool g0) ∧ W.cell? ⟨b0, 1, none⟩ = some (.slice A0 n0 c0) ∧ W.cell? ⟨b1, 0, none⟩ = some (.bool g1) ∧ W.cell? ⟨b1, 1, none⟩ = some (.slice A1 n1 c1) ∧ W.cell? ⟨b2, 0, none⟩ = some (.bool g2) ∧ W.cell? ⟨b2, 1, none⟩ = some (.slice A2 n2 c2) ∧ W.cell? ⟨b3, 0, none⟩ = some (.bool g3) ∧ W.cell? ⟨b3, 1, none⟩ = some (.slice A3 n3 c3) ∧ W.cell? ⟨b4, 0, none⟩ = some (.bool g4) ∧ W.cell? ⟨b4, 1, none⟩ = some (.slice A4 n4 c4) ∧ W.cell? ⟨b5, 0, none⟩ = some (.bool g5) ∧ W.cell? ⟨b5, 1, none⟩ = some (.slice A5 n5 c5) ∧ HL w [⟨b0, g0, A0, n0, c0, z0⟩, ⟨b1, g1, A1, n1, c1, z1⟩, ⟨b2, g2, A2, n2, c2, z2⟩, ⟨b3, g3, A3, n3, c3, z3⟩, ⟨b4, g4, A4, n4, c4, z4⟩, ⟨b5, g5, A5, n5, c5, z5⟩] M W :=
  ⟨(q.1 _ (.head _)).box.c0, (q.1 _ (.head _)).box.c1, (q.1 _ (.tail _ (.head _))).box.c0, (q.1 _ (.tail _ (.head _))).box.c1, (q.1 _ (.tail _ (.tail _ (.head _)))).box.c0, (q.1 _ (.tail _ (.tail _ (.head _)))).box.c1, (q.1 _ (.tail _ (.tail _ (.tail _ (.head _))))).box.c0, (q.1 _ (.tail _ (.tail _ (.tail _ (.head _))))).box.c1, (q.1 _ (.tail _ (.tail _ (.tail _ (.tail _ (.head _)))))).box.c0, (q.1 _ (.tail _ (.tail _ (.tail _ (.tail _ (.head _)))))).box.c1, (q.1 _ (.tail _ (.tail _ (.tail _ (.tail _ (.tail _ (.head _))))))).box.c0, (q.1 _ (.tail _ (.tail _ (.tail _ (.tail _ (.tail _ (.head _))))))).box.c1, q⟩
theorem keepZ6 {w W w1 : World} {M : List Loc} {b0 : Nat} {g0 : Bool} {A0 : Option Addr} {n0 c0 : Nat} {z0 : Int} {b1 : Nat} {g1 : Bool} {A1 : Option Addr} {n1 c1 : Nat} {z1 : Int} {b2 : Nat} {g2 : Bool} {A2 : Option Addr} {n2 c2 : Nat} {z2 : Int} {b3 : Nat} {g3 : Bool} {A3 : Option Addr} {n3 c3 : Nat} {z3 : Int} {b4 : Nat} {g4 : Bool} {A4 : Option Addr} {n4 c4 : Nat} {z4 : Int} {b5 : Nat} {g5 : Bool} {A5 : Option Addr} {n5 c5 : Nat} {z5 : Int} (hk : Below W.heap.size W w1) (h : W.cell? ⟨b0, 0, none⟩ = some (.bool g0) ∧ W.cell? ⟨b0, 1, none⟩ = some (.slice A0 n0 c0) ∧ W.cell? ⟨b1, 0, none⟩ = some (.bool g1) ∧ W.cell? ⟨b1, 1, none⟩ = some (.slice A1 n1 c1) ∧ W.cell? ⟨b2, 0, none⟩ = some (.bool g2) ∧ W.cell? ⟨b2, 1, none⟩ = some (.slice A2 n2 c2) ∧ W.cell? ⟨b3, 0, none⟩ = some (.bool g3) ∧ W.cell? ⟨b3, 1, none⟩ = some (.slice A3 n3 c3) ∧ W.cell? ⟨b4, 0, none⟩ = some (.bool g4) ∧ W.cell? ⟨b4, 1, none⟩ = some (.slice A4 n4 c4) ∧ W.cell? ⟨b5, 0, none⟩ = some (.bool g5) ∧ W.cell? ⟨b5, 1, none⟩ = some (.slice A5 n5 c5) ∧ HL w [⟨b0, g0, A0, n0, c0, z0⟩, ⟨b1, g1, A1, n1, c1, z1⟩, ⟨b2, g2, A2, n2, c2, z2⟩, ⟨b3, g3, A3, n3, c3, z3⟩, ⟨b4, g4, A4, n4, c4, z4⟩, ⟨b5, g5, A5, n5, c5, z5⟩] M W) : w1.cell? ⟨b0, 0, none⟩ = some (.bool g0) ∧ w1.cell? ⟨b0, 1, none⟩ = some (.slice A0 n0 c0) ∧ w1.cell? ⟨b1, 0, none⟩ = some (.bool g1) ∧ w1.cell? ⟨b1, 1, none⟩ = some (.slice A1 n1 c1) ∧ w1.cell? ⟨b2, 0, none⟩ = some (.bool g2) ∧ w1.cell? ⟨b2, 1, none⟩ = some (.slice A2 n2 c2) ∧ w1.cell? ⟨b3, 0, none⟩ = some (.bool g3) ∧ w1.cell? ⟨b3, 1, none⟩ = some (.slice A3 n3 c3) ∧ w1.cell? ⟨b4, 0, none⟩ = some (.bool g4) ∧ w1.cell? ⟨b4, 1, none⟩ = some (.slice A4 n4 c4) ∧ w1.cell? ⟨b5, 0, none⟩ = some (.bool g5) ∧ w1.cell? ⟨b5, 1, none⟩ = some (.slice A5 n5 c5) ∧ HL w [⟨b0, g0, A0, n0, c0, z0⟩, ⟨b1, g1, A1, n1, c1, z1⟩, ⟨b2, g2, A2, n2, c2, z2⟩, ⟨b3, g3, A3, n3, c3, z3⟩, ⟨b4, g4, A4, n4, c4, z4⟩, ⟨b5, g5, A5, n5, c5, z5⟩] M w1 := cells6 (h.2.2.2.2.2.2.2.2.2.2.2.2.below hk)
theorem start6 {w W : World} {M : List Loc} {b0 : Nat} {g0 : Bool} {A0 : Option Addr} {n0 c0 : Nat} {z0 : Int} {b1 : Nat} {g1 : Bool} {A1 : Option Addr} {n1 c1 : Nat} {z1 : Int} {b2 : Nat} {g2 : Bool} {A2 : Option Addr} {n2 c2 : Nat} {z2 : Int} {b3 : Nat} {g3 : Bool} {A3 : Option Addr} {n3 c3 : Nat} {z3 : Int} {b4 : Nat} {g4 : Bool} {A4 : Option Addr} {n4 c4 : Nat} {z4 : Int} {b5 : Nat} {g5 : Bool} {A5 : Option Addr} {n5 c5 : Nat} {z5 : Int} (h0 : BoxZ W b0 g0 A0 n0 c0 z0) (h1 : BoxZ W b1 g1 A1 n1 c1 z1) (h2 : BoxZ W b2 g2 A2 n2 c2 z2) (h3 : BoxZ W b3 g3 A3 n3 c3 z3) (h4 : BoxZ W b4 g4 A4 n4 c4 z4) (h5 : BoxZ W b5 g5 A5 n5 c5 z5) (bl : Below w.heap.size w W) (hM : ∀ x ∈ M, WNum W (.agg #[.bool x.g, .slice x.A x.n x.c]) x.z) : W.drew.cell? ⟨b0, 0, none⟩ = some (.bool g0) ∧ W.drew.cell? ⟨b0, 1, none⟩ = some (.slice A0 n0 c0) ∧ W.drew.cell? ⟨b1, 0, none⟩ = some (.bool g1) ∧ W.drew.cell? ⟨b1, 1, none⟩ = some (.slice A1 n1 c1) ∧ W.drew.cell? ⟨b2, 0, none⟩ = some (.bool g2) ∧ W.drew.cell? ⟨b2, 1, none⟩ = some (.slice A2 n2 c2) ∧ W.drew.cell? ⟨b3, 0, none⟩ = some (.bool g3) ∧ W.drew.cell? ⟨b3, 1, none⟩ = some (.slice A3 n3 c3) ∧ W.drew.cell? ⟨b4, 0, none⟩ = some (.bool g4) ∧ W.drew.cell? ⟨b4, 1, none⟩ = some (.slice A4 n4 c4) ∧ W.drew.cell? ⟨b5, 0, none⟩ = some (.bool g5) ∧ W.drew.cell? ⟨b5, 1, none⟩ = some (.slice A5 n5 c5) ∧ HL w [⟨b0, g0, A0, n0, c0, z0⟩, ⟨b1, g1, A1, n1, c1, z1⟩, ⟨b2, g2, A2, n2, c2, z2⟩, ⟨b3, g3, A3, n3, c3, z3⟩, ⟨b4, g4, A4, n4, c4, z4⟩, ⟨b5, g5, A5, n5, c5, z5⟩] M W.drew :=
  cells6 (HL.drew ⟨cons_of (P := fun x : Loc => BoxZ W x.b x.g x.A x.n x.c x.z) h0 (cons_of (P := fun x : Loc => BoxZ W x.b x.g x.A x.n x.c x.z) h1 (cons_of (P := fun x : Loc => BoxZ W x.b x.g x.A x.n x.c x.z) h2 (cons_of (P := fun x : Loc => BoxZ W x.b x.g x.A x.n x.c x.z) h3 (cons_of (P := fun x : Loc => BoxZ W x.b x.g x.A x.n x.c x.z) h4 (cons_of (P := fun x : Loc => BoxZ W x.b x.g x.A x.n x.c x.z) h5 (fun _ h => absurd h (by simp))))))), hM, bl⟩)
theorem own6 {W : World} {b0 : Nat} {g0 : Bool} {A0 : Option Addr} {n0 c0 : Nat} {z0 : Int} {b1 : Nat} {g1 : Bool} {A1 : Option Addr} {n1 c1 : Nat} {z1 : Int} {b2 : Nat} {g2 : Bool} {A2 : Option Addr} {n2 c2 : Nat} {z2 : Int} {b3 : Nat} {g3 : Bool} {A3 : Option Addr} {n3 c3 : Nat} {z3 : Int} {b4 : Nat} {g4 : Bool} {A4 : Option Addr} {n4 c4 : Nat} {z4 : Int} {b5 : Nat} {g5 : Bool} {A5 : Option Addr} {n5 c5 : Nat} {z5 : Int} (h0 : WNum W (.agg #[.bool g0, .slice A0 n0 c0]) z0) (h1 : WNum W (.agg #[.bool g1, .slice A1 n1 c1]) z1) (h2 : WNum W (.agg #[.bool g2, .slice A2 n2 c2]) z2) (h3 : WNum W (.agg #[.bool g3, .slice A3 n3 c3]) z3) (h4 : WNum W (.agg #[.bool g4, .slice A4 n4 c4]) z4) (h5 : WNum W (.agg #[.bool g5, .slice A5 n5 c5]) z5) : ∀ x ∈ [(⟨b0, g0, A0, n0, c0, z0⟩ : Loc), (⟨b1, g1, A1, n1, c1, z1⟩ : Loc), (⟨b2, g2, A2, n2, c2, z2⟩ : Loc), (⟨b3, g3, A3, n3, c3, z3⟩ : Loc), (⟨b4, g4, A4, n4, c4, z4⟩ : Loc), (⟨b5, g5, A5, n5, c5, z5⟩ : Loc)], WNum W (.agg #[.bool x.g, .slice x.A x.n x.c]) x.z :=
  cons_of (P := fun x : Loc => WNum W (.agg #[.bool x.g, .slice x.A x.n x.c]) x.z) h0 (cons_of (P := fun x : Loc => WNum W (.agg #[.bool x.g, .slice x.A x.n x.c]) x.z) h1 (cons_of (P := fun x : Loc => WNum W (.agg #[.bool x.g, .slice x.A x.n x.c]) x.z) h2 (cons_of (P := fun x : Loc => WNum W (.agg #[.bool x.g, .slice x.A x.n x.c]) x.z) h3 (cons_of (P := fun x : Loc => WNum W (.agg #[.bool x.g, .slice x.A x.n x.c]) x.z) h4 (cons_of (P := fun x : Loc => WNum W (.agg #[.bool x.g, .slice x.A x.n x.c]) x.z) h5 (fun _ h => absurd h (by simp)))))))

theorem cells7 {w W : World} {M : List Loc} {b0 : Nat} {g0 : Bool} {A0 : Option Addr} {n0 c0 : Nat} {z0 : Int} {b1 : Nat} {g1 : Bool} {A1 : Option Addr} {n1 c1 : Nat} {z1 : Int} {b2 : Nat} {g2 : Bool} {A2 : Option Addr} {n2 c2 : Nat} {z2 : Int} {b3 : Nat} {g3 : Bool} {A3 : Option Addr} {n3 c3 : Nat} {z3 : Int} {b4 : Nat} {g4 : Bool} {A4 : Option Addr} {n4 c4 : Nat} {z4 : Int} {b5 : Nat} {g5 : Bool} {A5 : Option Addr} {n5 c5 : Nat} {z5 : Int} {b6 : Nat} {g6 : Bool} {A6 : Option Addr} {n6 c6 : Nat} {z6 : Int} (q : HL w [⟨b0, g0, A0, n0, c0, z0⟩, ⟨b1, g1, A1, n1, c1, z1⟩, ⟨b2, g2, A2, n2, c2, z2⟩, ⟨b3, g3, A3, n3, c3, z3⟩, ⟨b4, g4, A4, n4, c4, z4⟩, ⟨b5, g5, A5, n5, c5, z5⟩, ⟨b6, g6, A6, n6, c6, z6⟩] M W) : W.cell? ⟨b0, 0, none⟩ = some (.bool g0) ∧ W.cell? ⟨b0, 1, none⟩ = some (.slice A0 n0 c0) ∧ W.cell? ⟨b1, 0, none⟩ = some (.bool g1) ∧ W.cell? ⟨b1, 1, none⟩ = some (.slice A1 n1 c1) ∧ W.cell? ⟨b2, 0, none⟩ = some (.bool g2) ∧ W.cell? ⟨b2, 1, none⟩ = some (.slice A2 n2 c2) ∧ W.cell? ⟨b3, 0, none⟩ = some (.bool g3) ∧ W.cell? ⟨b3, 1, none⟩ = some (.slice A3 n3 c3) ∧ W.cell? ⟨b4, 0, none⟩ = some (.bool g4) ∧ W.cell? ⟨b4, 1, none⟩ = some (.slice A4 n4 c4) ∧ W.cell? ⟨b5, 0, none⟩ = some (.bool g5) ∧ W.cell? ⟨b5, 1, none⟩ = some (.slice A5 n5 c5) ∧ W.cell? ⟨b6, 0, none⟩ = some (.bool g6) ∧ W.cell? ⟨b6, 1, none⟩ = some (.slice A6 n6 c6) ∧ HL w [⟨b0, g0, A0, n0, c0, z0⟩, ⟨b1, g1, A1, n1, c1, z1⟩, ⟨b2, g2, A2, n2, c2, z2⟩, ⟨b3, g3, A3, n3, c3, z3⟩, ⟨b4, g4, A4, n4, c4, z4⟩, ⟨b5, g5, A5, n5, c5, z5⟩, ⟨b6, g6, A6, n6, c6, z6⟩] M W :=
  ⟨(q.1 _ (.head _)).box.c0, (q.1 _ (.head _)).box.c1, (q.1 _ (.tail _ (.head _))).box.c0, (q.1 _ (.tail _ (.head _))).box.c1, (q.1 _ (.tail _ (.tail _ (.head _)))).box.c0, (q.1 _ (.tail _ (.tail _ (.head _)))).box.c1, (q.1 _ (.tail _ (.tail _ (.tail _ (.head _))))).box.c0, (q.1 _ (.tail _ (.tail _ (.tail _ (.head _))))).box.c1, (q.1 _ (.tail _ (.tail _ (.tail _ (.tail _ (.head _)))))).box.c0, (q.1 _ (.tail _ (.tail _ (.tail _ (.tail _ (.head _)))))).box.c1, (q.1 _ (.tail _ (.tail _ (.tail _ (.tail _ (.tail _ (.head _))))))).box.c0, (q.1 _ (.tail _ (.tail _ (.tail _ (.tail _ (.tail _ (.head _))))))).box.c1, (q.1 _ (.tail _ (.tail _ (.tail _ (.tail _ (.tail _ (.tail _ (.head _)))))))).box.c0, (q.1 _ (.tail _ (.tail _ (.tail _ (.tail _ (.tail _ (.tail _ (.head _)))))))).box.c1, q⟩
theorem keepZ7 {w W w1 : World} {M : List Loc} {b0 : Nat} {g0 : Bool} {A0 : Option Addr} {n0 c0 : Nat} {z0 : Int} {b1 : Nat} {g1 : Bool} {A1 : Option Addr} {n1 c1 : Nat} {z1 : Int} {b2 : Nat} {g2 : Bool} {A2 : Option Addr} {n2 c2 : Nat} {z2 : Int} {b3 : Nat} {g3 : Bool} {A3 : Option Addr} {n3 c3 : Nat} {z3 : Int} {b4 : Nat} {g4 : Bool} {A4 : Option Addr} {n4 c4 : Nat} {z4 : Int} {b5 : Nat} {g5 : Bool} {A5 : Option Addr} {n5 c5 : Nat} {z5 : Int} {b6 : Nat} {g6 : Bool} {A6 : Option Addr} {n6 c6 : Nat} {z6 : Int} (hk : Below W.heap.size W w1) (h : W.cell? ⟨b0, 0, none⟩ = some (.bool g0) ∧ W.cell? ⟨b0, 1, none⟩ = some (.slice A0 n0 c0) ∧ W.cell? ⟨b1, 0, none⟩ = some (.bool g1) ∧ W.cell? ⟨b1, 1, none⟩ = some (.slice A1 n1 c1) ∧ W.cell? ⟨b2, 0, none⟩ = some (.bool g2) ∧ W.cell? ⟨b2, 1, none⟩ = some (.slice A2 n2 c2) ∧ W.cell? ⟨b3, 0, none⟩ = some (.bool g3) ∧ W.cell? ⟨b3, 1, none⟩ = some (.slice A3 n3 c3) ∧ W.cell? ⟨b4, 0, none⟩ = some (.bool g4) ∧ W.cell? ⟨b4, 1, none⟩ = some (.slice A4 n4 c4) ∧ W.cell? ⟨b5, 0, none⟩ = some (.bool g5) ∧ W.cell? ⟨b5, 1, none⟩ = some (.slice A5 n5 c5) ∧ W.cell? ⟨b6, 0, none⟩ = some (.bool g6) ∧ W.cell? ⟨b6, 1, none⟩ = some (.slice A6 n6 c6) ∧ HL w [⟨b0, g0, A0, n0, c0, z0⟩, ⟨b1, g1, A1, n1, c1, z1⟩, ⟨b2, g2, A2, n2, c2, z2⟩, ⟨b3, g3, A3, n3, c3, z3⟩, ⟨b4, g4, A4, n4, c4, z4⟩, ⟨b5, g5, A5, n5, c5, z5⟩, ⟨b6, g6, A6, n6, c6, z6⟩] M W) : w1.cell? ⟨b0, 0, none⟩ = some (.bool g0) ∧ w1.cell? ⟨b0, 1, none⟩ = some (.slice A0 n0 c0) ∧ w1.cell? ⟨b1, 0, none⟩ = some (.bool g1) ∧ w1.cell? ⟨b1, 1, none⟩ = some (.slice A1 n1 c1) ∧ w1.cell? ⟨b2, 0, none⟩ = some (.bool g2) ∧ w1.cell? ⟨b2, 1, none⟩ = some (.slice A2 n2 c2) ∧ w1.cell? ⟨b3, 0, none⟩ = some (.bool g3) ∧ w1.cell? ⟨b3, 1, none⟩ = some (.slice A3 n3 c3) ∧ w1.cell? ⟨b4, 0, none⟩ = some (.bool g4) ∧ w1.cell? ⟨b4, 1, none⟩ = some (.slice A4 n4 c4) ∧ w1.cell? ⟨b5, 0, none⟩ = some (.bool g5) ∧ w1.cell? ⟨b5, 1, none⟩ = some (.slice A5 n5 c5) ∧ w1.cell? ⟨b6, 0, none⟩ = some (.bool g6) ∧ w1.cell? ⟨b6, 1, none⟩ = some (.slice A6 n6 c6) ∧ HL w [⟨b0, g0, A0, n0, c0, z0⟩, ⟨b1, g1, A1, n1, c1, z1⟩, ⟨b2, g2, A2, n2, c2, z2⟩, ⟨b3, g3, A3, n3, c3, z3⟩, ⟨b4, g4, A4, n4, c4, z4⟩, ⟨b5, g5, A5, n5, c5, z5⟩, ⟨b6, g6, A6, n6, c6, z6⟩] M w1 := cells7 (h.2.2.2.2.2.2.2.2.2.2.2.2.2.2.below hk)
theorem start7 {w W : World} {M : List Loc} {b0 : Nat} {g0 : Bool} {A0 : Option Addr} {n0 c0 : Nat} {z0 : Int} {b1 : Nat} {g1 : Bool} {A1 : Option Addr} {n1 c1 : Nat} {z1 : Int} {b2 : Nat} {g2 : Bool} {A2 : Option Addr} {n2 c2 : Nat} {z2 : Int} {b3 : Nat} {g3 : Bool} {A3 : Option Addr} {n3 c3 : Nat} {z3 : Int} {b4 : Nat} {g4 : Bool} {A4 : Option Addr} {n4 c4 : Nat} {z4 : Int} {b5 : Nat} {g5 : Bool} {A5 : Option Addr} {n5 c5 : Nat} {z5 : Int} {b6 : Nat} {g6 : Bool} {A6 : Option Addr} {n6 c6 : Nat} {z6 : Int} (h0 : BoxZ W b0 g0 A0 n0 c0 z0) (h1 : BoxZ W b1 g1 A1 n1 c1 z1) (h2 : BoxZ W b2 g2 A2 n2 c2 z2) (h3 : BoxZ W b3 g3 A3 n3 c3 z3) (h4 : BoxZ W b4 g4 A4 n4 c4 z4) (h5 : BoxZ W b5 g5 A5 n5 c5 z5) (h6 : BoxZ W b6 g6 A6 n6 c6 z6) (bl : Below w.heap.size w W) (hM : ∀ x ∈ M, WNum W (.agg #[.bool x.g, .slice x.A x.n x.c]) x.z) : W.drew.cell? ⟨b0, 0, none⟩ = some (.bool g0) ∧ W.drew.cell? ⟨b0, 1, none⟩ = some (.slice A0 n0 c0) ∧ W.drew.cell? ⟨b1, 0, none⟩ = some (.bool g1) ∧ W.drew.cell? ⟨b1, 1, none⟩ = some (.slice A1 n1 c1) ∧ W.drew.cell? ⟨b2, 0, none⟩ = some (.bool g2) ∧ W.drew.cell? ⟨b2, 1, none⟩ = some (.slice A2 n2 c2) ∧ W.drew.cell? ⟨b3, 0, none⟩ = some (.bool g3) ∧ W.drew.cell? ⟨b3, 1, none⟩ = some (.slice A3 n3 c3) ∧ W.drew.cell? ⟨b4, 0, none⟩ = some (.bool g4) ∧ W.drew.cell? ⟨b4, 1, none⟩ = some (.slice A4 n4 c4) ∧ W.drew.cell? ⟨b5, 0, none⟩ = some (.bool g5) ∧ W.drew.cell? ⟨b5, 1, none⟩ = some (.slice A5 n5 c5) ∧ W.drew.cell? ⟨b6, 0, none⟩ = some (.bool g6) ∧ W.drew.cell? ⟨b6, 1, none⟩ = some (.slice A6 n6 c6) ∧ HL w [⟨b0, g0, A0, n0, c0, z0⟩, ⟨b1, g1, A1, n1, c1, z1⟩, ⟨b2, g2, A2, n2, c2, z2⟩, ⟨b3, g3, A3, n3, c3, z3⟩, ⟨b4, g4, A4, n4, c4, z4⟩, ⟨b5, g5, A5, n5, c5, z5⟩, ⟨b6, g6, A6, n6, c6, z6⟩] M W.drew :=
  cells7 (HL.drew ⟨cons_of (P := fun x : Loc => BoxZ W x.b x.g x.A x.n x.c x.z) h0 (cons_of (P := fun x : Loc => BoxZ W x.b x.g x.A x.n x.c x.z) h1 (cons_of (P := fun x : Loc => BoxZ W x.b x.g x.A x.n x.c x.z) h2 (cons_of (P := fun x : Loc => BoxZ W x.b x.g x.A x.n x.c x.z) h3 (cons_of (P := fun x : Loc => BoxZ W x.b x.g x.A x.n x.c x.z) h4 (cons_of (P := fun x : Loc => BoxZ W x.b x.g x.A x.n x.c x.z) h5 (cons_of (P := fun x : Loc => BoxZ W x.b x.g x.A x.n x.c x.z) h6 (fun _ h => absurd h (by simp)))))))), hM, bl⟩)
theorem own7 {W : World} {b0 : Nat} {g0 : Bool} {A0 : Option Addr} {n0 c0 : Nat} {z0 : Int} {b1 : Nat} {g1 : Bool} {A1 : Option Addr} {n1 c1 : Nat} {z1 : Int} {b2 : Nat} {g2 : Bool} {A2 : Option Addr} {n2 c2 : Nat} {z2 : Int} {b3 : Nat} {g3 : Bool} {A3 : Option Addr} {n3 c3 : Nat} {z3 : Int} {b4 : Nat} {g4 : Bool} {A4 : Option Addr} {n4 c4 : Nat} {z4 : Int} {b5 : Nat} {g5 : Bool} {A5 : Option Addr} {n5 c5 : Nat} {z5 : Int} {b6 : Nat} {g6 : Bool} {A6 : Option Addr} {n6 c6 : Nat} {z6 : Int} (h0 : WNum W (.agg #[.bool g0, .slice A0 n0 c0]) z0) (h1 : WNum W (.agg #[.bool g1, .slice A1 n1 c1]) z1) (h2 : WNum W (.agg #[.bool g2, .slice A2 n2 c2]) z2) (h3 : WNum W (.agg #[.bool g3, .slice A3 n3 c3]) z3) (h4 : WNum W (.agg #[.bool g4, .slice A4 n4 c4]) z4) (h5 : WNum W (.agg #[.bool g5, .slice A5 n5 c5]) z5) (h6 : WNum W (.agg #[.bool g6, .slice A6 n6 c6]) z6) : ∀ x ∈ [(⟨b0, g0, A0, n0, c0, z0⟩ : Loc), (⟨b1, g1, A1, n1, c1, z1⟩ : Loc), (⟨b2, g2, A2, n2, c2, z2⟩ : Loc), (⟨b3, g3, A3, n3, c3, z3⟩ : Loc), (⟨b4, g4, A4, n4, c4, z4⟩ : Loc), (⟨b5, g5, A5, n5, c5, z5⟩ : Loc), (⟨b6, g6, A6, n6, c6, z6⟩ : Loc)], WNum W (.agg #[.bool x.g, .slice x.A x.n x.c]) x.z :=
  cons_of (P := fun x : Loc => WNum W (.agg #[.bool x.g, .slice x.A x.n x.c]) x.z) h0 (cons_of (P := fun x : Loc => WNum W (.agg #[.bool x.g, .slice x.A x.n x.c]) x.z) h1 (cons_of (P := fun x : Loc => WNum W (.agg #[.bool x.g, .slice x.A x.n x.c]) x.z) h2 (cons_of (P := fun x : Loc => WNum W (.agg #[.bool x.g, .slice x.A x.n x.c]) x.z) h3 (cons_of (P := fun x : Loc => WNum W (.agg #[.bool x.g, .slice x.A x.n x.c]) x.z) h4 (cons_of (P := fun x : Loc => WNum W (.agg #[.bool x.g, .slice x.A x.n x.c]) x.z) h5 (cons_of (P := fun x : Loc => WNum W (.agg #[.bool x.g, .slice x.A x.n x.c]) x.z) h6 (fun _ h => absurd h (by simp))))))))

theorem lt_addZ {x y : Int} {i j : Nat} (hx : x.natAbs < M.BB ^ i) (hy : y.natAbs < M.BB ^ j) : (x + y).natAbs < M.BB ^ (i + j + 1) := by
  have := lt_add hx hy
  omega
theorem lt_subZ {x y : Int} {i j : Nat} (hx : x.natAbs < M.BB ^ i) (hy : y.natAbs < M.BB ^ j) : (x - y).natAbs < M.BB ^ (i + j + 1) := by
  have := lt_add hx hy
  omega
theorem lt_mulZ {x y : Int} {i j : Nat} (hx : x.natAbs < M.BB ^ i) (hy : y.natAbs < M.BB ^ j) : (x * y).natAbs < M.BB ^ (i + j) := by
  rw [Int.natAbs_mul]
  exact lt_mul hx hy
theorem lt_negZ {x : Int} {i : Nat} (hx : x.natAbs < M.BB ^ i) : (-x).natAbs < M.BB ^ i := by rw [Int.natAbs_neg]; exact hx
theorem lt_moreZ {x : Nat} {i : Nat} (hx : x < M.BB ^ i) : x + 1 < M.BB ^ (i + 1) := by
  have h1 : M.BB ^ i * 2 ≤ M.BB ^ i * M.BB := Nat.mul_le_mul_left _ (by rw [M.BB_eq]; omega)
  rw [Nat.pow_succ]
  omega
theorem lt_divZ {z y : Int} {i : Nat} (hz : z.natAbs < M.BB ^ i) (hy : y ≠ 0) : (z / y).natAbs < M.BB ^ (i + 1) := Nat.lt_of_le_of_lt (Z.abs_div hy) (lt_moreZ hz)
theorem lt_flZ {z y : Int} {i : Nat} (hz : z.natAbs < M.BB ^ i) (hy : y ≠ 0) : (Z.fl z y).natAbs < M.BB ^ (i + 1) := Nat.lt_of_le_of_lt (Z.abs_lt_fl hy) (lt_moreZ hz)
theorem lt_modZ {z y : Int} {i : Nat} (hy : y.natAbs < M.BB ^ i) (h0 : y ≠ 0) : (z % y).natAbs < M.BB ^ i := Nat.lt_trans (Z.abs_mod h0) hy
/-- what came in -/
theorem win_of {w : World} {g : Bool} {A : Option Addr} {n c k : Nat} {l : List Nat} (h : Lims w A n l) (hn : n ≤ c) (hc : c ≤ maxLen) (hk : n ≤ k) (hk' : k ≤ 1000000) : WIn w g A n c (Z.sg g (M.val l)) ∧ (Z.sg g (M.val l)).natAbs < M.BB ^ k := by
  obtain ⟨i, b⟩ := in_of h hn hc hk hk'
  rw [Z.sg_abs]
  refine ⟨⟨?_, ?_⟩, b⟩
  · rw [Z.sg_abs]; exact i
  · rw [Z.sg_abs]
end Go.Proofs.Ytiehkciofggonaa

/- a whole number that came in: a struct of a sign and a list of limbs. -/
namespace Go.Proofs.Ytiehkciofggonaa
open Go.RowKit Go.ChangeShapes Go.WideShapes Go.Joins

theorem open_limbs {H : Type} {enc : TypeId × Value → H} {W : World} {fuel : Nat} {v : Value} {y : DataW H × List MemPlace} (h : DataW.trod enc Try.prog W 0 (fun _ => true) true fuel 22 [v] = some y) :
    ∃ A n c l, v = .slice A n c ∧ Lims W A n l ∧ n ≤ c ∧ c ≤ maxLen ∧ (A = none → n = 0 ∧ c = 0) := by
  rcases open_ints Try.underlying22 Try.underlying57 (by kernel_rfl) h with ⟨hcs, _⟩ | ⟨x, l, c, zs, hcs, _, hl, hm, hz, _, hcell, hwz⟩
  · injection hcs with hcs
    subst hcs
    exact ⟨none, 0, 0, [], rfl, Lims.nil_ _ _, by omega, by omega, fun _ => ⟨rfl, rfl⟩⟩
  · injection hcs with hcs
    subst hcs
    obtain ⟨k, hk, h1, h2⟩ := lims_of (zs := zs) (.inr ⟨_, rfl, hl, hm, by simpa using hz, hcell, hwz⟩)
    exact ⟨_, _, _, k, rfl, hk, h1, h2, fun e => by cases e⟩
theorem open_whole {H : Type} {enc : TypeId × Value → H} {W : World} {r : Reach} {b0 : Nat} {v : Value} {d : DataW H} {p : List MemPlace} (hv : Value.okWide Try.prog W r b0 24 v) (h : DataW.Trod enc Try.prog W 0 (fun _ => true) true 24 v d p) :
    ∃ g A n c l, v = .agg #[.bool g, .slice A n c] ∧ Lims W A n l ∧ n ≤ c ∧ c ≤ maxLen ∧ (A = none → n = 0 ∧ c = 0) := by
  obtain ⟨v0, v1, y0, y1, n, rfl, rfl, rfl, h0, h1⟩ := open_agg2 Try.underlying24 (by kernel_rfl) (by kernel_rfl) hv h
  obtain ⟨g, hg, _⟩ := DataW.trod_bool Try.underlying4 h0
  injection hg with hg
  subst hg
  obtain ⟨A, n', c, l, rfl, hl⟩ := open_limbs h1
  exact ⟨g, A, n', c, l, rfl, hl⟩
end Go.Proofs.Ytiehkciofggonaa
