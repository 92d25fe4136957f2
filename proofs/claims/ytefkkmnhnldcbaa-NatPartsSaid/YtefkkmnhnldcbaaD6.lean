/- the reference's sub and mul, over bits: what each answers. -/
import Derived.Test.YtefkkmnhnldcbaaD5
namespace Go.Proofs.Ytefkkmnhnldcbaa
open Go.RowKit

set_option maxHeartbeats 4000000 in
theorem rsub_any (A B : Option Addr) (n m c d : Nat) (k l : List Bool) (w : World) (hk : Bts w A n c k) (hl : Bts w B m d l) (hn : n ≤ 90000000) (hmn : m ≤ n) (hle : Bt.val l ≤ Bt.val k) :
    Calls Try.prog 44 #[.slice A n c, .slice B m d] w (GivesB w (Bt.val k - Bt.val l)) := by
  have HLIT := Lib.hid bts_lit
  have HLE := Lib.hid hle
  clear hle
  go_enter Try.func44, Try.ntmps44
  go_wp2_with fail
  go_loopw [5, 6, 7] (fun dv cv iv wr => ∃ (i : Nat) (cy : Bool) (out : List Bool), i ≤ n ∧ iv = .int .i64 i ∧ cv = .bool cy ∧ Bt.SubInv k l out i cy ∧ OwnB wr w.heap.size dv out ∧ Below w.heap.size w wr) (fun _ _ iv _ => n - (intOf iv).toNat)
  case atStart => exact ⟨0, false, [], by omega, rfl, rfl, Bt.SubInv.start k l, OwnB.nil_ _ _, Below.refl _ _⟩
  case round =>
    obtain ⟨i, cy, out, hi, rfl, rfl, hinv, hown, hbel⟩ := hrel
    have hol := hinv.len
    have hol2 : out.length ≤ 90000001 := by omega
    clear hol
    by_cases hlt : i < n
    · obtain ⟨y, HY⟩ : ∃ y, Hid (y = l.getD i false) := ⟨_, rfl⟩
      have H2 := Lib.hid (at_at (hl.below hbel) (show i ≤ 1000000000 by omega) HY)
      obtain ⟨b, off, rfl, hb, hcs⟩ := hk.at_ (by omega)
      obtain ⟨x, HX, hcell⟩ := hcs i hlt
      have hcx : wr.cell? ⟨b, off + i, none⟩ = some (.bool x) := (hbel.cell hb).trans hcell
      clear hcs hcell
      have HI := Lib.hid hinv
      clear hinv
      cases cy
      all_goals
        cases x <;> cases y
        all_goals
          go_wp2_with fail
          refine H2.out.mono ?_
          rintro e w1 ⟨rfl, rfl⟩
          go_wp2_with (refine appendB rfl (.tmp 29) (.tmp 36) rfl (N := 90000002) rfl (hown.alloc _) rfl (HLIT.out _ _) (by omega) (by omega) (by simp; have := hbel.size; omega) ?_; intro v4 w4 ho4 hg4)
          have hbel4 := (hbel.alloc hbel.size _).grown hg4 (by simp; have := hbel.size; omega) (hown.own_ge (Nat.le_refl _))
          go_roundw
          case rel => exact ⟨i + 1, _, _, by omega, by go_num, rfl, by exact HI.out.step HX.out HY.out (by rfl), ho4, hbel4⟩
          case measure => simp [intOf]; omega
    · obtain rfl : i = n := by omega
      have HE := Lib.hid (hinv.end_ (by rw [hk.1]; exact Nat.le_refl _) (by rw [hl.1]; exact hmn) HLE.out)
      obtain ⟨A', c', rfl, hb⟩ := hown.bts
      go_wp2_with fail
      refine (rtrim_any _ _ _ _ _ hb (by omega)).mono ?_
      rintro e w2 ⟨v, rfl, hv, hb2⟩
      rw [HE.out] at hv
      go_wp2_with fail
      go_ret
      exact ⟨v, rfl, hv, hbel.trans (hb2.mono hbel.size)⟩

set_option maxHeartbeats 4000000 in
theorem rmul_any (A B : Option Addr) (n m c d : Nat) (k l : List Bool) (w : World) (hk : Bts w A n c k) (hl : Bts w B m d l) (hn : n ≤ 40000000) (hm : m ≤ 40000000) :
    Calls Try.prog 42 #[.slice A n c, .slice B m d] w (GivesB w (Bt.val k * Bt.val l)) := by
  have HLB : Hid (Bt.val l < 2 ^ m) := by have := Bt.val_lt l; rw [hl.1] at this; exact this
  have HKL : Hid (k.length = n) := hk.1
  go_enter Try.func42, Try.ntmps42
  go_wp2_with fail
  go_loopw [5, 6] (fun dv iv wr => ∃ (i : Nat) (A' : Option Addr) (n' c' : Nat) (os : List Bool), i ≤ n ∧ iv = .int .i64 ((i : Int) - 1) ∧ dv = .slice A' n' c' ∧ Bts wr A' n' c' os ∧ n' ≤ n - i + m ∧ Hid (Bt.val os = Bt.val (k.drop i) * Bt.val l) ∧ Below w.heap.size w wr) (fun _ iv _ => (intOf iv + 1).toNat)
  case atStart => exact ⟨n, none, 0, 0, [], by omega, rfl, rfl, ⟨rfl, by omega, by omega, .inl ⟨rfl, rfl, rfl⟩⟩, by omega, by rw [List.drop_of_length_le (by rw [HKL.out]; exact Nat.le_refl _)]; exact (Nat.zero_mul _).symm, Below.refl _ _⟩
  case round =>
    obtain ⟨i, A', n', c', os, hi, rfl, rfl, hos, hn', HV, hbel⟩ := hrel
    by_cases h0 : 0 < i
    · obtain ⟨j, hj⟩ : ∃ j : Nat, Hid (i - 1 = j) := ⟨_, rfl⟩
      have he : (i : Int) - 1 = (j : Int) := by have := hj.out; omega
      have hjn : j < n := by have := hj.out; omega
      obtain ⟨b, off, rfl, hb, hcs⟩ := hk.at_ (by omega)
      obtain ⟨x, HX, hcell⟩ := hcs j hjn
      have HC0 := Lib.hid hcell
      clear hcs hcell
      have hdr : Hid (Bt.val (k.drop j) = x.toNat + 2 * Bt.val (k.drop i)) := by
        rw [Bt.val_drop k j, HX.out, show j + 1 = i from by have := hj.out; omega]
        exact rfl
      have hlit := fun W : World => OwnB.lit W (B := w.heap.size) false
      have HLIT := Lib.hid hlit
      clear hlit
      have hnb : n' ≤ 80000000 := by omega
      have hn2 : n' + 1 ≤ n - j + m := by have := hj.out; omega
      have hl5 : ([false] ++ os).length ≤ n - j + m := by simp; rw [hos.1]; omega
      obtain ⟨n5, hn5⟩ : ∃ n5, Hid (([false] ++ os).length = n5) := ⟨_, rfl⟩
      rw [hn5.out] at hl5
      have HV5 : Hid (Bt.val ([false] ++ os) = 2 * (Bt.val (k.drop i) * Bt.val l)) := by
        rw [List.singleton_append, Bt.val_cons, HV.out]
        exact (Nat.zero_add _)
      cases x
      · go_wp2_with (refine appendB rfl (.tmp 14) (.tmp 15) rfl (N := 80000001) rfl (HLIT.out _ hbel.size) rfl (hos.below ((Below.refl _ _).alloc (Nat.le_refl _) _)) (by simp; omega) (by omega) (by simp; have := hbel.size; omega) ?_; intro v4 w4 ho4 hg4; have hbel4 := (hbel.alloc hbel.size _).grown hg4 (by simp; have := hbel.size; omega) (OwnB.own_ge (HLIT.out _ hbel.size) (Nat.le_refl _)); have hcx4 := (hbel4.cell (p := ⟨b, off + j, none⟩) hb).trans HC0.out; obtain ⟨A5, c5, e5, hb5⟩ := ho4.bts; rw [hn5.out] at e5 hb5; subst e5)
        have HV6 : Hid (Bt.val ([false] ++ os) = Bt.val (k.drop j) * Bt.val l) := (show Bt.val ([false] ++ os) = Bt.val (k.drop j) * Bt.val l from by rw [hdr.out, HV5.out, ← Nat.mul_assoc]; simp)
        go_roundw
        case rel => exact ⟨j, A5, n5, c5, _, by omega, by go_num, rfl, hb5, hl5, HV6, hbel4⟩
        case measure => simp [intOf]; omega
      · go_wp2_with (refine appendB rfl (.tmp 14) (.tmp 15) rfl (N := 80000001) rfl (HLIT.out _ hbel.size) rfl (hos.below ((Below.refl _ _).alloc (Nat.le_refl _) _)) (by simp; omega) (by omega) (by simp; have := hbel.size; omega) ?_; intro v4 w4 ho4 hg4; have hbel4 := (hbel.alloc hbel.size _).grown hg4 (by simp; have := hbel.size; omega) (OwnB.own_ge (HLIT.out _ hbel.size) (Nat.le_refl _)); have hcx4 := (hbel4.cell (p := ⟨b, off + j, none⟩) hb).trans HC0.out; obtain ⟨A5, c5, e5, hb5⟩ := ho4.bts; rw [hn5.out] at e5 hb5; subst e5)
        have hradd := radd_any A5 B n5 m c5 d _ l w4 hb5 (hl.below hbel4) (by omega) (by omega)
        have HV6 : Hid (Bt.val ([false] ++ os) + Bt.val l = Bt.val (k.drop j) * Bt.val l) := by
          rw [hdr.out, HV5.out, ← Nat.mul_assoc, show (true.toNat + 2 * Bt.val (k.drop i)) = 2 * Bt.val (k.drop i) + 1 from by simp; omega, Nat.add_mul, Nat.one_mul]
          exact rfl
        rw [HV6.out] at hradd
        have HRA := Lib.hid hradd
        clear hradd
        go_wp2_with fail
        refine HRA.out.mono ?_
        rintro e w5 ⟨v, rfl, ⟨A6, n6, c6, ps, rfl, hb6, ht6, hv6⟩, hbel5⟩
        have hbel6 := hbel4.trans (hbel5.mono hbel4.size)
        have hn6 : n6 ≤ n - j + m := by
          have h1 : Bt.val ps < 2 ^ (n - j + m) := by
            rw [hv6, Nat.pow_add]
            have h2 := Bt.val_lt (k.drop j)
            rw [List.length_drop, HKL.out] at h2
            have h3 := HLB.out
            exact Nat.mul_lt_mul'' h2 h3
          have := Bt.len_le ht6 h1
          rw [hb6.1] at this
          exact this
        have HV7 := Lib.hid hv6
        clear hv6 ht6
        go_wp2_with fail
        go_roundw
        case rel => exact ⟨j, A6, n6, c6, ps, by omega, by go_num, rfl, hb6, hn6, HV7.out, hbel6⟩
        case measure => simp [intOf]; omega
    · obtain rfl : i = 0 := by omega
      have hz : ((0 : Nat) : Int) - 1 < 0 := by omega
      have HVV : Hid (Bt.val os = Bt.val k * Bt.val l) := by rw [HV.out, List.drop_zero]; exact rfl
      go_wp2_with fail
      refine (rtrim_any _ _ _ _ _ hos (by omega)).mono ?_
      rintro e w2 ⟨v, rfl, hv, hb2⟩
      rw [HVV.out] at hv
      go_wp2_with fail
      go_ret
      exact ⟨v, rfl, hv, hbel.trans (hb2.mono hbel.size)⟩
end Go.Proofs.Ytefkkmnhnldcbaa
