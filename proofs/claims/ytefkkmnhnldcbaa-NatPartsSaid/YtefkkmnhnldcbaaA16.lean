/- nat: DivMod, where the numbers are great; the whole of it. -/
import Derived.Test.YtefkkmnhnldcbaaA15
namespace Go.Proofs.Ytefkkmnhnldcbaa
open Go.RowKit

theorem GivesTwo.of {W : World} {u v : Value} {N R : Nat} {w' : World} (hu : Num w' u N) (hv : Num w' v R) (hb : Below W.heap.size W w') : GivesTwo W N R (.returned (.tuple #[u, v, .int .i64 0])) w' := ⟨u, v, rfl, hu, hv, hb⟩

set_option maxHeartbeats 2000000 in
theorem divMod_big (A B : Option Addr) (n m c d : Nat) (k l : List Nat) (w : World) (h : Two w A B n m c d k l) (h0 : 0 < M.val l) (hle : M.val l ≤ M.val k) (hk : 18446744073709551615 < M.val k) :
    Calls Try.prog 24 #[.slice A n c, .slice B m d] w (GivesTwo w (M.val k / M.val l) (M.val k % M.val l)) := by
  obtain ⟨ha, hb, hn, hm, hc, hd, hs, ht⟩ := h
  obtain ⟨x, HX⟩ : ∃ x, Hid (M.val k = x) := ⟨_, rfl⟩
  obtain ⟨y, HY⟩ : ∃ y, Hid (M.val l = y) := ⟨_, rfl⟩
  rw [HX.out, HY.out]
  rw [HX.out] at hk hle
  rw [HY.out] at h0 hle
  have HK := Lib.hid hk
  clear hk
  go_enter Try.func24, Try.ntmps24
  go_wp2_with fail
  refine (trim_any _ _ _ _ _ ha hn hc).mono ?_
  rintro e w1 ⟨A', n', c', rfl, h1, h2, h3, h4, h5, h6, rfl⟩
  go_wp2_with fail
  refine (trim_any _ _ _ _ _ hb hm hd).mono ?_
  rintro e w1 ⟨B', m', d', rfl, g1, g2, g3, g4, g5, g6, rfl⟩
  rw [HX.out] at h3
  rw [HY.out] at g3
  have hm0 : m' ≠ 0 := by rintro rfl; simp [M.val] at g3; omega
  have hn3 : 2 < n' := by
    rcases Nat.lt_or_ge 2 n' with q | q
    · exact q
    · exfalso
      have q1 := M.val_lt h1.2.1
      rw [h3, h1.1] at q1
      have q2 : M.BB ^ n' ≤ M.BB ^ 2 := Nat.pow_le_pow_right M.BB_pos q
      have q3 : M.BB ^ 2 = 18446744073709551616 := by rw [M.BB_eq]
      have := HK.out
      omega
  have hmn : m' ≤ n' := by
    rcases Nat.lt_or_ge n' m' with q | q
    · exfalso
      have := M.lt_of_shorter (l := k.take n') (m := l.take m') h1.2.1 g2 (by rw [h1.1, g1.1]; exact q)
      omega
    · exact q
  have hla := ha.1
  have hlb := hb.1
  have hn' : n' ≤ 1000000 := by omega
  have hm' : m' ≤ 1000000 := by omega
  clear hla hlb
  have HC := Lib.hid (cmp_any A' B' n' m' c' d' _ _ w h1 g1 h5 g5 (by omega) (by omega))
  rw [h3, g3] at HC
  obtain ⟨z, Hz, hz0⟩ : ∃ z : Int, Hid (M.cmpI x y = z) ∧ 0 ≤ z := ⟨_, rfl, by unfold M.cmpI; rw [if_neg (by omega)]; split <;> omega⟩
  rw [Hz.out] at HC
  generalize k.take n' = a at *
  generalize l.take m' = b at *
  have H3 := Lib.hid h3
  have G3 := Lib.hid g3
  have G2 := Lib.hid g2
  have H2 := Lib.hid h2
  have hc' : c' ≤ maxLen := by omega
  have hd' : d' ≤ maxLen := by omega
  clear h3 g3 h2 g2 h4 g4 h6 g6 ha hb hn hm hc hd hs ht
  have hz : ((m' : Int) == 0) = false := by simpa using hm0
  clear hm0
  go_wp2_with fail
  refine HC.out.mono ?_
  rintro e w1 ⟨rfl, j, rfl⟩
  go_wp2_with fail
  refine (small_no A' n' c' _ hn3).mono ?_
  rintro e w1 ⟨rfl, rfl⟩
  by_cases hm1 : m' = 1
  · subst hm1
    obtain ⟨bb, bo, rfl, hbb, hcs⟩ := g1.at_ (by omega)
    obtain ⟨d0, HD, hd0, hcd⟩ := hcs 0 (by omega)
    have hcd' : w.cell? ⟨bb, bo, none⟩ = some (.int .u32 (d0 : Int)) := hcd
    clear hcs hcd
    have hyd : Hid (y = d0) := by
      rw [← G3.out, HD.out]
      rcases b with _ | ⟨b0, _ | ⟨b1, bs⟩⟩
      · exact absurd g1.1 (by simp)
      · exact (show _ = _ from by simp [M.val])
      · exact absurd g1.1 (by simp)
    have hd1 : 1 ≤ d0 := by have := hyd.out; omega
    rw [hyd.out]
    have NA := Lib.hid (norm_row A' n' c' a _ (h1.drewN j) h5 hc' hn')
    rw [H3.out] at NA
    go_wp2_with fail
    refine NA.out.mono ?_
    rintro e w2 ⟨L, f1, f2, f3, f4, f5, f6⟩
    rcases f6 with ⟨rfl, rfl⟩ | ⟨rfl, f7⟩
    · exfalso
      have := HK.out
      rw [← f3] at this
      simp [M.val] at this
    obtain ⟨p, HPp⟩ : ∃ p, Hid (L.length = p) := ⟨_, rfl⟩
    rw [HPp.out]
    have hp : p ≤ 1000000 := by have := HPp.out; omega
    have hlim := f7.lt
    have hcd2 : w2.cell? ⟨bb, bo, none⟩ = some (.int .u32 (d0 : Int)) := (f5.cell (p := ⟨bb, bo, none⟩) (by exact hbb)).trans (by exact hcd')
    have HD := Lib.hid (divideBy_any (w.drewN j).heap.size p p d0 L w2 f7 f1 (by rw [HPp.out]; exact Nat.le_refl _) (by omega) hd1 hd0)
    obtain ⟨r, Hr⟩ : ∃ r, Hid (x % d0 = r) := ⟨_, rfl⟩
    have hr : r < d0 := by rw [← Hr.out]; exact Nat.mod_lt _ hd1
    have HF3 := Lib.hid f3
    clear f3 f4
    go_wp2_with fail
    refine HD.out.mono ?_
    rintro e w3 ⟨L', rfl, r1, r2, r3, r4, r5, _⟩
    have e1 : M.val (L.take p) = x := by rw [← HF3.out, M.val_take_len L (by rw [HPp.out]; exact Nat.le_refl _)]
    rw [e1] at r5 ⊢
    rw [M.val_take_len L' (by rw [r3, HPp.out]; exact Nat.le_refl _)] at r5
    rw [Hr.out]
    have R3 := Lib.hid (r3.trans HPp.out)
    have R5 := Lib.hid r5
    clear r3 r5 e1
    have HT := Lib.hid (trim_any (some ⟨(w.drewN j).heap.size, 0, none⟩) p p L' w3 (r1.lims r4 R3.out) (Nat.le_refl _) (by unfold maxLen; omega))
    have hb3 : Hid (Below w.heap.size w w3) := (below_drewN (Below.refl _ _) j).trans (f5.grown r2 (by exact Nat.le_of_lt hlim) (by intro q hq; injection hq with hq; exact Nat.le_of_eq hq))
    go_wp2_with fail
    refine HT.out.mono ?_
    rintro e w4 ⟨A3, n3, c3, rfl, t1, t2, t3, t4, t5, t6, rfl⟩
    have T3 := Lib.hid (t3.trans R5.out)
    have T2 := Lib.hid t2
    clear t3 t2
    have HO := Lib.hid (of_any r w3 (by omega))
    go_wp2_with fail
    refine HO.out.mono ?_
    rintro e w5 ⟨v5, rfl, hv5, hb5⟩
    go_wp2_with fail
    go_ret3
    rw [hyd.out]
    exact GivesTwo.of ⟨A3, n3, c3, _, rfl, t1.below hb5, T2.out, T3.out, t5, by unfold maxLen; omega⟩ (by rw [Hr.out]; exact hv5) (hb3.out.trans (hb5.mono hb3.out.size))
  · have hm2 : 2 ≤ m' := by have := hz; simp at this; omega
    have hz1 : ((m' : Int) == 1) = false := by simp; omega
    clear hm1
    have HTop := Lib.hid (G2.out (by intro e; have := g1.1; rw [e] at this; simp at this; omega))
    rw [g1.1] at HTop
    have HL := Lib.hid (divideLong_any A' B' n' m' c' d' a b _ (h1.drewN j) (g1.drewN j) hm2 hmn hn' (by have := HTop.out; omega) g5 hd')
    rw [H3.out, G3.out] at HL
    go_wp2_with fail
    refine HL.out.mono ?_
    rintro e w2 ⟨u, v, rfl, hu, hv, hbel⟩
    go_wp2_with fail
    go_ret3
    exact GivesTwo.of hu hv ((below_drewN (Below.refl _ _) j).trans hbel)

/-- DivMod: the whole of it -/
theorem divMod_any (A B : Option Addr) (n m c d : Nat) (k l : List Nat) (w : World) (h : Two w A B n m c d k l) (h0 : 0 < M.val l) :
    Calls Try.prog 24 #[.slice A n c, .slice B m d] w (GivesTwo w (M.val k / M.val l) (M.val k % M.val l)) := by
  rcases Nat.lt_or_ge (M.val k) (M.val l) with h1 | h1
  · exact divMod_less A B n m c d k l w h h1
  rcases Nat.lt_or_ge 18446744073709551615 (M.val k) with h2 | h2
  · exact divMod_big A B n m c d k l w h h0 h1 h2
  · exact divMod_small A B n m c d k l w h h0 h1 h2
end Go.Proofs.Ytefkkmnhnldcbaa
