/- the reference's whole numbers: Of, Int, Text, Parse: what each answers. -/
import Derived.Test.YtiehkciofggonaaW13
import Derived.Test.YtiehkciofggonaaD8
import Derived.Test.YtiehkciofggonaaD9
namespace Go.Proofs.Ytiehkciofggonaa
open Go.RowKit

theorem rof_w (z : Int) (w : World) (hz : -9223372036854775808 ≤ z ∧ z ≤ 9223372036854775807) :
    Calls Try.prog 33 #[.int .i64 z] w (WGives w z) := by
  obtain ⟨N, HN⟩ : ∃ N, Hid (z.natAbs = N) := ⟨_, rfl⟩
  have HO := Lib.hid fun (W : World) => rof_any N W (by have := HN.out; omega)
  have LN : Hid (N < M.BB ^ 3) := show N < M.BB ^ 3 by
    have : M.BB ^ 3 = 4294967296 * 4294967296 * 4294967296 := by rw [Nat.pow_succ, Nat.pow_succ, Nat.pow_one, M.BB_eq]
    have := HN.out
    omega
  have hr0 := room_new w
  have hb0 : Below w.heap.size w (w.alloc (.cells #[.bool false, .slice none 0 0] 24)) := (Below.refl _ _).alloc (Nat.le_refl _) _
  have hs0 : (w.alloc (.cells #[.bool false, .slice none 0 0] 24)).heap.size = w.heap.size + 1 := by simp
  by_cases h0 : z < 0
  · have HE : Hid (Z.sg true N = z) := show Z.sg true N = z by rw [Z.sg_true]; have := HN.out; omega
    obtain ⟨u, hu⟩ : ∃ u, z + 1 = u := ⟨_, rfl⟩
    obtain ⟨v, hv⟩ : ∃ v, -u = v := ⟨_, rfl⟩
    have hw1 : IntKind.i64.wrap u = u := IntWalk.i64_in _ (by omega)
    have hw2 : IntKind.i64.wrap v = v := IntWalk.i64_in _ (by omega)
    have hw3 : IntKind.u64.wrap v = v := by rw [IntKind.wrap_u64]; omega
    have hv1 : v + 1 = (N : Int) := by have := HN.out; omega
    have hw4 : IntKind.u64.wrap (N : Int) = (N : Int) := by rw [IntKind.wrap_u64]; have := HN.out; omega
    go_enter Try.func33, Try.ntmps33
    go_wp2_with fail
    refine (HO.out _).mono ?_
    rintro e w1 ⟨v1, rfl, n1, b1⟩
    obtain ⟨A1, a1, c1, rfl, i1, hn1⟩ := n1.inn_le LN.out (by omega)
    clear n1
    go_wp2_with fail
    refine (rnorm_w true A1 a1 c1 _ _ (win_sg true i1) hn1).mono ?_
    rw [HE.out]
    rintro e w2 ⟨v2, rfl, m8, b2⟩
    have b3 := b1.trans (b2.mono b1.size)
    clear b1 b2 i1
    obtain ⟨g9, A9, n9, c9, rfl, m9, hg9⟩ := m8.form
    have r9 : Room w2 w.heap.size := hr0.below b3 (by omega)
    obtain ⟨k0, k1, _⟩ := room_cells (x := .bool g9) (u := .slice A9 n9 c9) r9
    unfold World.room at k0 k1
    have hend := Lib.hid (gives_own m9 hg9 r9 (hb0.trans (b3.mono (by omega))) (by omega))
    obtain ⟨xr, yr, zr, qr, ⟨f0, f1, f2, f3⟩⟩ := r9
    have f4 := f3 0
    have f5 := f3 1
    clear f3 hr0 hb0 hs0 b3 m9
    go_wp2_with fail
    exact bodyPost_ret (v := .agg #[.bool g9, .slice A9 n9 c9]) (by simp [results, Try.results33, go_sem, k0, k1]) rfl hend.out
  · have HE : Hid (Z.sg false N = z) := show Z.sg false N = z by rw [Z.sg_false]; have := HN.out; omega
    have hw1 : IntKind.u64.wrap z = (N : Int) := by rw [IntKind.wrap_u64]; have := HN.out; omega
    go_enter Try.func33, Try.ntmps33
    go_wp2_with fail
    refine (HO.out _).mono ?_
    rintro e w1 ⟨v1, rfl, n1, b1⟩
    obtain ⟨A1, a1, c1, rfl, i1, hn1⟩ := n1.inn_le LN.out (by omega)
    clear n1
    go_wp2_with fail
    refine (rnorm_w false A1 a1 c1 _ _ (win_sg false i1) hn1).mono ?_
    rw [HE.out]
    rintro e w2 ⟨v2, rfl, m8, b2⟩
    have b3 := b1.trans (b2.mono b1.size)
    clear b1 b2 i1
    obtain ⟨g9, A9, n9, c9, rfl, m9, hg9⟩ := m8.form
    have r9 : Room w2 w.heap.size := hr0.below b3 (by omega)
    obtain ⟨k0, k1, _⟩ := room_cells (x := .bool g9) (u := .slice A9 n9 c9) r9
    unfold World.room at k0 k1
    have hend := Lib.hid (gives_own m9 hg9 r9 (hb0.trans (b3.mono (by omega))) (by omega))
    obtain ⟨xr, yr, zr, qr, ⟨f0, f1, f2, f3⟩⟩ := r9
    have f4 := f3 0
    have f5 := f3 1
    clear f3 hr0 hb0 hs0 b3 m9
    go_wp2_with fail
    exact bodyPost_ret (v := .agg #[.bool g9, .slice A9 n9 c9]) (by simp [results, Try.results33, go_sem, k0, k1]) rfl hend.out

theorem rint_num {w : World} {A : Option Addr} {n c N : Nat} (h : In w A n c N) (hn : n ≤ 900000) : Calls Try.prog 57 #[.slice A n c] w fun e w' => e = .returned (.tuple #[.int .i64 (iZ (N : Int)), .bool (iB (N : Int))]) ∧ Below w.heap.size w w' := by
  obtain ⟨l, h1, rfl, h3, h4, h5⟩ := h
  unfold iZ iB
  rw [Int.natAbs_natCast]
  by_cases hv : M.val l < 4611686018427387904
  · rw [if_pos hv, decide_eq_true hv]
    exact rint_small A n c l w h1 hn (by omega)
  · rw [if_neg hv, decide_eq_false hv]
    exact rint_great A n c l w h1 hn (by omega)
theorem rint_w (g : Bool) (A : Option Addr) (n c : Nat) (z : Int) (w : World) (h : WIn w g A n c z) (hn : n ≤ 900000) :
    Calls Try.prog 35 #[.agg #[.bool g, .slice A n c]] w fun e w' => e = .returned (.tuple #[.int .i64 (iZ z), .bool (iB z)]) ∧ Below w.heap.size w w' := by
  obtain ⟨i, HI⟩ : ∃ i, Hid (iZ (z.natAbs : Int) = i) := ⟨_, rfl⟩
  obtain ⟨b, HB⟩ : ∃ b, Hid (iB (z.natAbs : Int) = b) := ⟨_, rfl⟩
  have HN := Lib.hid fun (W : World) (q : Held1 w g A n c 0 W) => rint_num (h.below q.bel).1 hn
  have hbz : iB z = b := by rw [← HB.out]; exact (Z.sgn_iZ z).2.symm
  have hbd := iZ_bd (z.natAbs : Int)
  rw [HI.out] at hbd
  rw [hbz]
  rw [HI.out, HB.out] at HN
  have q0 := Held1.zero w g A n c
  have hsg := h.2
  clear h hn hbz
  cases g with
  | false =>
    have hz : iZ z = i := by rw [← HI.out]; rw [Z.sg_false] at hsg; rw [hsg]
    rw [hz]
    clear hz hsg HI HB hbd
    go_enter Try.func35, Try.ntmps35
    go_wp2_with fail
    refine (HN.out _ q0).mono ?_
    rintro e w1 ⟨rfl, b1⟩
    have q1 := q0.below b1
    obtain ⟨x0, x1, x2, _⟩ := q1.box
    have bl := q1.bel
    clear q0 q1 b1
    go_wp2_with fail
    go_ret2
    exact ⟨rfl, bl⟩
  | true =>
    obtain ⟨v, hv⟩ : ∃ v, -i = v := ⟨_, rfl⟩
    have hz : iZ z = v := by
      rw [← hv, ← HI.out]
      rw [Z.sg_true] at hsg
      unfold iZ
      rw [Int.natAbs_natCast]
      split <;> omega
    have hw : IntKind.i64.wrap v = v := IntWalk.i64_in _ (by omega)
    rw [hz]
    clear hz hsg HI HB hbd
    go_enter Try.func35, Try.ntmps35
    go_wp2_with fail
    refine (HN.out _ q0).mono ?_
    rintro e w1 ⟨rfl, b1⟩
    have q1 := q0.below b1
    obtain ⟨x0, x1, x2, _⟩ := q1.box
    have bl := q1.bel
    clear q0 q1 b1
    go_wp2_with fail
    go_ret2
    exact ⟨rfl, bl⟩

theorem rtext_w (g : Bool) (A : Option Addr) (n c X : Nat) (z : Int) (w : World) (h : WIn w g A n c z) (hn : n ≤ 900000) (hX : X ≤ 100000) (HZ1 : Hid (z.natAbs < M.BB ^ X)) :
    Calls Try.prog 37 #[.agg #[.bool g, .slice A n c]] w (GivesZ w z) := by
  obtain ⟨s, HZ⟩ : ∃ s, Hid (Z.sgn z = s) := ⟨_, rfl⟩
  have HG := Lib.hid fun (W : World) (q : Held1 w g A n c 0 W) => rsign_w g A n c z W (h.below q.bel) hn
  have HN := Lib.hid fun (W : World) (q : Held1 w g A n c 0 W) => rtext_num A n c z.natAbs X W (h.below q.bel).1 HZ1.out hX
  rw [HZ.out] at HG
  clear h hn
  have q0 := Held1.zero w g A n c
  by_cases hs : s < 0
  · have hz : Hid (z < 0) := (Z.sgn_lt z).1 (by rw [HZ.out]; exact hs)
    go_enter Try.func37, Try.ntmps37
    go_wp2_with fail
    refine (HG.out _ q0).mono ?_
    rintro e w1 ⟨rfl, b1⟩
    have q1 := q0.below b1
    obtain ⟨x0, x1, x2, _⟩ := q1.box
    clear b1 q0
    go_wp2_with fail
    refine (HN.out _ q1).mono ?_
    rintro e w2 ⟨t, rfl, ht, b2⟩
    have bl := (q1.below b2).bel
    clear b2 x0 x1 x2 q1
    have htl := txt_len ht HZ1.out
    have hsz : t.length ≤ 1000001 := by omega
    clear htl
    go_wp2_with fail
    go_ret
    exact ⟨45 :: t, rfl, ⟨t, ht, by rw [if_pos hz.out]; rfl⟩, bl⟩
  · have hz : Hid (¬ z < 0) := fun h => hs (by rw [← HZ.out]; exact (Z.sgn_lt z).2 h)
    go_enter Try.func37, Try.ntmps37
    go_wp2_with fail
    refine (HG.out _ q0).mono ?_
    rintro e w1 ⟨rfl, b1⟩
    have q1 := q0.below b1
    obtain ⟨x0, x1, x2, _⟩ := q1.box
    clear b1 q0
    go_wp2_with fail
    refine (HN.out _ q1).mono ?_
    rintro e w2 ⟨t, rfl, ht, b2⟩
    have bl := (q1.below b2).bel
    clear b2 x0 x1 x2 q1
    go_wp2_with fail
    go_ret
    exact ⟨t, rfl, ⟨t, ht, by rw [if_neg (by have := hz.out; omega)]; rfl⟩, bl⟩
end Go.Proofs.Ytiehkciofggonaa
