/- the reference's Parse: what it answers. -/
import Derived.Test.YtiehkciofggonaaW15
namespace Go.Proofs.Ytiehkciofggonaa
open Go.RowKit

theorem gives_one' {w W : World} {R : Nat} {z : Int} {g : Bool} {A : Option Addr} {n c : Nat} (m : Num W (.slice A n c) z.natAbs) (hg : decide (z < 0) = g) (r : Room W R) (hb : Below w.heap.size w W) (hR : w.heap.size ≤ R) :
    WOne w z (.returned (.tuple #[.agg #[.bool g, .slice A n c], .int .i64 0])) (World.room W R (.bool g) (.slice A n c)) := by
  subst hg
  exact ⟨_, rfl, ⟨_, rfl, num_room m r⟩, below_room hb hR _ _⟩
theorem tail_list (s : ByteArray) (x : UInt8) (t : List UInt8) (h : s.data.toList = x :: t) : (s.extract 1 s.size).data.toList = t := by
  have h1 := Lib.extract_eq s 1 s.size
  have hl := lenL s
  rw [h] at h1 hl
  rw [h1]
  show ((x :: t).drop 1).take (s.size - 1) = t
  simp at hl
  rw [List.drop_succ_cons, List.drop_zero]
  exact List.take_of_length_le (by omega)

/-- the tests of the first byte, where it is no minus -/
theorem no_minus {s : ByteArray} (hm : s.data.toList.head? ≠ some 45) : s.size = 0 ∨ ∃ h : 0 < s.size, ((s[0].toNat : Int) == 45) = false := by
  rcases Nat.eq_zero_or_pos s.size with e | e
  · exact .inl e
  · refine .inr ⟨e, ?_⟩
    have hg := getL e
    cases hl : s.data.toList with
    | nil => have := lenL s; rw [hl] at this; simp at this; omega
    | cons x t =>
      rw [hl] at hg hm
      simp at hg hm
      rw [← hg]
      have : x.toNat ≠ 45 := fun e => hm (UInt8.toNat_inj.1 e)
      simp
      omega
theorem rparse_w_some (s : ByteArray) (z : Int) (w : World) (hs : s.size ≤ maxLen) (h : PZ s.data.toList = some z) :
    Calls Try.prog 31 #[.string s] w (WOne w z) := by
  have hr0 := room_new w
  have hb0 : Below w.heap.size w (w.alloc (.cells #[.bool false, .slice none 0 0] 24)) := (Below.refl _ _).alloc (Nat.le_refl _) _
  have hs0 : (w.alloc (.cells #[.bool false, .slice none 0 0] 24)).heap.size = w.heap.size + 1 := by simp
  have hlen := lenL s
  by_cases hm : s.data.toList.head? = some 45
  · obtain ⟨t, ht⟩ : ∃ t, s.data.toList = 45 :: t := by
      cases e : s.data.toList with
      | nil => rw [e] at hm; cases hm
      | cons x t => rw [e] at hm; injection hm with hm; exact ⟨t, by rw [hm]⟩
    rw [ht, pz_minus] at h
    by_cases hc : isT t = true ∧ T.dv t ≠ 0
    · rw [if_pos hc] at h
      injection h with h
      subst h
      obtain ⟨hit, hne⟩ := hc
      have hne := Lib.hid hne
      have hp : 0 < s.size := by rw [ht] at hlen; simp at hlen; omega
      have hc : ((s[0].toNat : Int) == 45) = true := by
        have := getL hp
        rw [ht] at this
        simp at this
        rw [← this]; rfl
      have hsz : (s.extract 1 s.size).size ≤ maxLen := by
        have h1 := lenL (s.extract 1 s.size)
        rw [tail_list s 45 t ht] at h1
        rw [ht] at hlen
        simp at hlen
        omega
      have hs1 : s.size ≤ 9223372036854775807 := hs
      have HP := Lib.hid fun W : World => rparse_good (s.extract 1 s.size) W (by rw [tail_list s 45 t ht]; exact hit)
      rw [tail_list s 45 t ht] at HP
      generalize T.dv t = N at *
      clear hm ht hit hsz hlen hs
      go_enter Try.func31, Try.ntmps31
      go_wp2_with fail
      refine (HP.out _).mono ?_
      rintro e w1 ⟨v1, rfl, n1, b1⟩
      obtain ⟨A1, q1, c1, l1, rfl, m1⟩ := id n1
      have hl : 0 < q1 := Nat.pos_of_ne_zero fun e => hne.out ((num_len n1).1 e)
      have hl2 : q1 ≤ 9223372036854775807 := Nat.le_trans m1.2.2.2.1 m1.2.2.2.2
      clear m1
      have r4 : Room w1 w.heap.size := hr0.below b1 (by omega)
      obtain ⟨k0, k1, _⟩ := room_cells (x := .bool true) (u := .slice A1 q1 c1) r4
      unfold World.room at k0 k1
      have hend := Lib.hid (gives_one' (z := -(N : Int)) (g := true) (by rw [Int.natAbs_neg, Int.natAbs_natCast]; exact n1) (decide_eq_true (by have := hne.out; omega)) r4 (hb0.trans (b1.mono (by omega))) (by omega))
      obtain ⟨xr, yr, zr, qr, ⟨f0, f1, f2, f3⟩⟩ := r4
      have f4 := f3 0
      have f5 := f3 1
      clear hr0 hb0 hs0 b1 f3 n1
      go_wp2_with fail
      exact bodyPost_ret (v := .tuple #[.agg #[.bool true, .slice A1 q1 c1], .int .i64 0]) (by simp [results, Try.results31, go_sem, k0, k1]) rfl hend.out

    · rw [if_neg hc] at h; cases h
  · rw [pz_plain hm] at h
    by_cases hc : isT s.data.toList = true
    · rw [if_pos hc] at h
      injection h with h
      subst h
      have HP := Lib.hid fun W : World => rparse_good s W hc
      have hs1 : s.size ≤ 9223372036854775807 := hs
      have hno := no_minus hm
      have hps : s.size ≠ 0 := fun e => (isT_parts.1 hc).1 (List.eq_nil_of_length_eq_zero (by rw [hlen]; exact e))
      generalize T.dv s.data.toList = N at *
      clear hm hc hlen hs
      rcases hno with e | ⟨hp, hcc⟩
      · exact absurd e hps
      ·
        go_enter Try.func31, Try.ntmps31
        go_wp2_with fail
        refine (HP.out _).mono ?_
        rintro e w1 ⟨v1, rfl, n1, b1⟩
        obtain ⟨A1, q1, c1, l1, rfl, m1⟩ := id n1
  
        have hl2 : q1 ≤ 9223372036854775807 := Nat.le_trans m1.2.2.2.1 m1.2.2.2.2
        clear m1
        have r4 : Room w1 w.heap.size := hr0.below b1 (by omega)
        obtain ⟨k0, k1, _⟩ := room_cells (x := .bool false) (u := .slice A1 q1 c1) r4
        unfold World.room at k0 k1
        have hend := Lib.hid (gives_one' (z := (N : Int)) (g := false) (by rw [Int.natAbs_natCast]; exact n1) (decide_eq_false (by omega)) r4 (hb0.trans (b1.mono (by omega))) (by omega))
        obtain ⟨xr, yr, zr, qr, ⟨f0, f1, f2, f3⟩⟩ := r4
        have f4 := f3 0
        have f5 := f3 1
        clear hr0 hb0 hs0 b1 f3 n1
        go_wp2_with fail
        exact bodyPost_ret (v := .tuple #[.agg #[.bool false, .slice A1 q1 c1], .int .i64 0]) (by simp [results, Try.results31, go_sem, k0, k1]) rfl hend.out

    · rw [if_neg hc] at h; cases h

theorem rparse_w_none (s : ByteArray) (w : World) (hs : s.size ≤ maxLen) (h : PZ s.data.toList = none) :
    Calls Try.prog 31 #[.string s] w fun e w' => e = .returned (.tuple #[.agg #[.bool false, .slice none 0 0], .int .i64 8]) ∧ Below w.heap.size w w' := by
  have hr0 := room_new w
  have hb0 : Below w.heap.size w (w.alloc (.cells #[.bool false, .slice none 0 0] 24)) := (Below.refl _ _).alloc (Nat.le_refl _) _
  have hs0 : (w.alloc (.cells #[.bool false, .slice none 0 0] 24)).heap.size = w.heap.size + 1 := by simp
  have hlen := lenL s
  by_cases hm : s.data.toList.head? = some 45
  · obtain ⟨t, ht⟩ : ∃ t, s.data.toList = 45 :: t := by
      cases e : s.data.toList with
      | nil => rw [e] at hm; cases hm
      | cons x t => rw [e] at hm; injection hm with hm; exact ⟨t, by rw [hm]⟩
    rw [ht, pz_minus] at h
    have hp : 0 < s.size := by rw [ht] at hlen; simp at hlen; omega
    have hc : ((s[0].toNat : Int) == 45) = true := by
      have := getL hp
      rw [ht] at this
      simp at this
      rw [← this]; rfl
    have hsz : (s.extract 1 s.size).size ≤ maxLen := by
      have h1 := lenL (s.extract 1 s.size)
      rw [tail_list s 45 t ht] at h1
      rw [ht] at hlen
      simp at hlen
      omega
    have hs1 : s.size ≤ 9223372036854775807 := hs
    cases hit : isT t with
    | true =>
      have hne : Hid (T.dv t = 0) := show T.dv t = 0 from Decidable.not_not.1 fun e => by rw [if_pos ⟨hit, e⟩] at h; cases h
      have HP := Lib.hid fun W : World => rparse_good (s.extract 1 s.size) W (by rw [tail_list s 45 t ht]; exact hit)
      rw [tail_list s 45 t ht] at HP
      clear h hm ht hit hsz hlen hs
      go_enter Try.func31, Try.ntmps31
      go_wp2_with fail
      refine (HP.out _).mono ?_
      rintro e w1 ⟨v1, rfl, n1, b1⟩
      obtain ⟨A1, q1, c1, l1, rfl, m1⟩ := id n1
      have hl : q1 = 0 := (num_len n1).2 hne.out
      subst hl
      clear m1
      have r4 : Room w1 w.heap.size := hr0.below b1 (by omega)
      obtain ⟨k0, k1, _⟩ := room_cells (x := .bool false) (u := .slice none 0 0) r4
      unfold World.room at k0 k1
      have bl := below_room (hb0.trans (b1.mono (by omega))) (Nat.le_refl w.heap.size) (.bool false) (.slice none 0 0)
      obtain ⟨xr, yr, zr, qr, ⟨f0, f1, f2, f3⟩⟩ := r4
      have f4 := f3 0
      have f5 := f3 1
      clear hr0 hb0 hs0 b1 f3 n1
      go_wp2_with fail
      exact bodyPost_ret (v := .tuple #[.agg #[.bool false, .slice none 0 0], .int .i64 8]) (by simp [results, Try.results31, go_sem, k0, k1]) rfl ⟨rfl, bl⟩

    | false =>
      have HP := Lib.hid fun W : World => rparse_bad (s.extract 1 s.size) W hsz (by rw [tail_list s 45 t ht]; exact hit)
      clear h hm ht hit hsz hlen hs
      go_enter Try.func31, Try.ntmps31
      go_wp2_with fail
      refine (HP.out _).mono ?_
      rintro e w1 ⟨rfl, b1⟩
      have r4 : Room w1 w.heap.size := hr0.below b1 (by omega)
      obtain ⟨k0, k1, _⟩ := room_cells (x := .bool false) (u := .slice none 0 0) r4
      unfold World.room at k0 k1
      have bl := below_room (hb0.trans (b1.mono (by omega))) (Nat.le_refl w.heap.size) (.bool false) (.slice none 0 0)
      obtain ⟨xr, yr, zr, qr, ⟨f0, f1, f2, f3⟩⟩ := r4
      have f4 := f3 0
      have f5 := f3 1
      clear hr0 hb0 hs0 b1 f3
      go_wp2_with fail
      exact bodyPost_ret (v := .tuple #[.agg #[.bool false, .slice none 0 0], .int .i64 8]) (by simp [results, Try.results31, go_sem, k0, k1]) rfl ⟨rfl, bl⟩

  · rw [pz_plain hm] at h
    cases hit : isT s.data.toList with
    | true => rw [if_pos hit] at h; cases h
    | false =>
      have HP := Lib.hid fun W : World => rparse_bad s W hs hit
      have hs1 : s.size ≤ 9223372036854775807 := hs
      have hno := no_minus hm
      clear h hm hit hlen hs
      rcases hno with e | ⟨hp, hcc⟩
      ·
        go_enter Try.func31, Try.ntmps31
        go_wp2_with fail
        refine (HP.out _).mono ?_
        rintro e w1 ⟨rfl, b1⟩
        have r4 : Room w1 w.heap.size := hr0.below b1 (by omega)
        obtain ⟨k0, k1, _⟩ := room_cells (x := .bool false) (u := .slice none 0 0) r4
        unfold World.room at k0 k1
        have bl := below_room (hb0.trans (b1.mono (by omega))) (Nat.le_refl w.heap.size) (.bool false) (.slice none 0 0)
        obtain ⟨xr, yr, zr, qr, ⟨f0, f1, f2, f3⟩⟩ := r4
        have f4 := f3 0
        have f5 := f3 1
        clear hr0 hb0 hs0 b1 f3
        go_wp2_with fail
        exact bodyPost_ret (v := .tuple #[.agg #[.bool false, .slice none 0 0], .int .i64 8]) (by simp [results, Try.results31, go_sem, k0, k1]) rfl ⟨rfl, bl⟩

      ·
        go_enter Try.func31, Try.ntmps31
        go_wp2_with fail
        refine (HP.out _).mono ?_
        rintro e w1 ⟨rfl, b1⟩
        have r4 : Room w1 w.heap.size := hr0.below b1 (by omega)
        obtain ⟨k0, k1, _⟩ := room_cells (x := .bool false) (u := .slice none 0 0) r4
        unfold World.room at k0 k1
        have bl := below_room (hb0.trans (b1.mono (by omega))) (Nat.le_refl w.heap.size) (.bool false) (.slice none 0 0)
        obtain ⟨xr, yr, zr, qr, ⟨f0, f1, f2, f3⟩⟩ := r4
        have f4 := f3 0
        have f5 := f3 1
        clear hr0 hb0 hs0 b1 f3
        go_wp2_with fail
        exact bodyPost_ret (v := .tuple #[.agg #[.bool false, .slice none 0 0], .int .i64 8]) (by simp [results, Try.results31, go_sem, k0, k1]) rfl ⟨rfl, bl⟩

end Go.Proofs.Ytiehkciofggonaa
