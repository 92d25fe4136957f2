/- The reference of scripts: one, where names end. -/
import Derived.Test.YtpjdfogieiokkaaDoorR6
namespace Go.Proofs.YtpjdfogieiokkaaDoor
open Go.RowKit

theorem len_bytes (s : ByteArray) : s.data.toList.length = s.size := by rw [Array.length_toList]; rfl
theorem drop_inj (s : ByteArray) {k k' : Nat} (h : k ≤ s.size) (h' : k' ≤ s.size) (e : s.data.toList.drop k = s.data.toList.drop k') : k = k' := by
  have := congrArg List.length e
  rw [List.length_drop, List.length_drop, len_bytes] at this
  omega
/-- where names end, once for all -/
theorem names_k (s : ByteArray) (a : Nat) (hs : s.size ≤ 1000000) (ha : a ≤ s.size) : ∃ k : Nat, a ≤ k ∧ k ≤ s.size ∧ s.data.toList.drop k = (s.data.toList.drop a).dropWhile Lx.name ∧
    ∀ w, Calls Tryd.prog 58 #[.string s, .int .i64 (a : Nat)] w fun e w' => e = .returned (.int .i64 (k : Nat)) ∧ w' = w := by
  have h := Lx.take_drop Lx.name (s.data.toList.drop a)
  have hl := congrArg List.length h
  rw [List.length_append, List.length_drop, len_bytes] at hl
  have hk : s.data.toList.drop (a + ((s.data.toList.drop a).takeWhile Lx.name).length) = (s.data.toList.drop a).dropWhile Lx.name := by
    rw [← List.drop_drop]
    have := congrArg (List.drop ((s.data.toList.drop a).takeWhile Lx.name).length) h
    rw [List.drop_left] at this
    exact this.symm
  refine ⟨a + ((s.data.toList.drop a).takeWhile Lx.name).length, by omega, by omega, hk, fun w => ?_⟩
  refine (rnames s a w (by unfold maxLen; omega) ha).mono ?_
  rintro e w' ⟨k', rfl, rfl, h1, h2, h3⟩
  obtain rfl := drop_inj s h2 (by omega) (h3.trans hk.symm)
  exact ⟨rfl, rfl⟩

set_option maxHeartbeats 1600000 in
theorem rone_names (s : ByteArray) (a : Nat) (w : World) (hs : s.size ≤ 1000000) (ha : a < s.size) (h40 : s[a].toNat ≠ 40) (h41 : s[a].toNat ≠ 41) (h124 : s[a].toNat ≠ 124) (h34 : s[a].toNat ≠ 34) :
    Calls Tryd.prog 38 #[.string s, .int .i64 (a : Nat)] w (OSaid s a (Lx.one (s.data.toList.drop a)) w) := by
  obtain ⟨k, h1, h2, h3, HN⟩ := names_k s (a + 1) hs (by omega)
  have hT := text_of s a k ha h1 h2 h3
  have hsz := (cut_bytes s a k h2 (by omega)).2
  have hsl := slice_both s a k h2 (by omega)
  have hwi : IntKind.i64.wrap ((a : Int) + 1) = ((a + 1 : Nat) : Int) := IntWalk.i64_in _ (by omega)
  have HD := Lib.hid (rdigit s[a])
  have HM := Lib.hid (rname s[a])
  have HU := Lib.hid fun W => rnumber (s.extract a k) W (by unfold maxLen; omega)
  have HV := Lib.hid fun W => rother (s.extract a k) W (by unfold maxLen; omega)
  replace HN := Lib.hid HN
  rw [hT] at HU HV
  have b1 : ((s[a].toNat : Int) == 40) = false := beq_eq_false_iff_ne.2 (by omega)
  have b2 : ((s[a].toNat : Int) == 41) = false := beq_eq_false_iff_ne.2 (by omega)
  have b3 : ((s[a].toNat : Int) == 124) = false := beq_eq_false_iff_ne.2 (by omega)
  have b4 : ((s[a].toNat : Int) == 34) = false := beq_eq_false_iff_ne.2 (by omega)
  obtain ⟨T, hTd⟩ : ∃ T, T = s.extract a k := ⟨_, rfl⟩
  rw [← hTd] at hT hsl HU HV hsz
  have HT := Lib.hid hT
  have H3 := Lib.hid h3
  clear hTd hT
  have hO : ¬ (s[a].toNat = 124 ∨ s[a].toNat = 34) := by omega
  by_cases h5 : Lx.digit s[a] = true
  · rw [h5] at HD
    obtain ⟨z, hz⟩ : ∃ z, Lx.number (s[a] :: (s.data.toList.drop (a + 1)).takeWhile Lx.name) = z := ⟨_, rfl⟩
    rw [hz] at HU
    by_cases hz0 : z = 0
    · have hX : Lx.one (s.data.toList.drop a) = (0, [], 8, s.data.toList.drop a) := by
        rw [drop_at s ha]
        simp [Lx.one, h40, h41, hO, h5, hz, hz0]
      rw [hX]
      subst hz0
      clear hX hO hz h3 h40 h41 h124 h34 h5
      go_enter Tryd.func38, Tryd.ntmps38
      go_wp2_with (first
        | (go_at_call 58; refine (HN.out _).mono ?_; rintro e w2 ⟨rfl, rfl⟩)
        | (go_at_call 60; refine (HD.out _).mono ?_; rintro e w2 ⟨rfl, rfl⟩)
        | (go_at_call 61; refine (HU.out _).mono ?_; rintro e w2 ⟨rfl, rfl⟩))
      exact bodyPost_ret (v := .tuple #[.agg #[.int .i64 0, .string ⟨#[]⟩, .int .i64 0], .int .i64 0, .int .i64 8, .int .i64 (a : Nat)]) (by simp [results, Tryd.results38, go_sem]) rfl ⟨below_alloc2 _ _ _, fun h => absurd h (by simp), fun _ => ⟨a, rfl, by omega, ha, rfl⟩⟩
    · have hX : Lx.one (s.data.toList.drop a) = (z, s[a] :: (s.data.toList.drop (a + 1)).takeWhile Lx.name, 0, (s.data.toList.drop (a + 1)).dropWhile Lx.name) := by
        rw [drop_at s ha]
        simp [Lx.one, h40, h41, hO, h5, hz, hz0]
      rw [hX]
      have bz : (z == 0) = false := beq_eq_false_iff_ne.2 hz0
      clear hX hO hz hz0 h3 h40 h41 h124 h34 h5
      go_enter Tryd.func38, Tryd.ntmps38
      go_wp2_with (first
        | (go_at_call 58; refine (HN.out _).mono ?_; rintro e w2 ⟨rfl, rfl⟩)
        | (go_at_call 60; refine (HD.out _).mono ?_; rintro e w2 ⟨rfl, rfl⟩)
        | (go_at_call 61; refine (HU.out _).mono ?_; rintro e w2 ⟨rfl, rfl⟩))
      exact bodyPost_ret (v := .tuple #[.agg #[.int .i64 z, .string T, .int .i64 (a : Nat)], .int .i64 (k : Nat), .int .i64 0, .int .i64 0]) (by simp [results, Tryd.results38, go_sem]) rfl ⟨below_alloc2 _ _ _, fun _ => ⟨T, k, rfl, HT.out, by omega, h2, H3.out⟩, fun h => absurd rfl h⟩
  have h5' := Bool.eq_false_iff.2 h5
  rw [h5'] at HD
  by_cases h6 : Lx.name s[a] = true
  · rw [h6] at HM
    have hX : Lx.one (s.data.toList.drop a) = (3, s[a] :: (s.data.toList.drop (a + 1)).takeWhile Lx.name, 0, (s.data.toList.drop (a + 1)).dropWhile Lx.name) := by
      rw [drop_at s ha]
      simp [Lx.one, h40, h41, hO, h5, h6]
    rw [hX]
    clear hX hO h3 h40 h41 h124 h34 h5 h5' h6
    go_enter Tryd.func38, Tryd.ntmps38
    go_wp2_with (first
      | (go_at_call 58; refine (HN.out _).mono ?_; rintro e w2 ⟨rfl, rfl⟩)
      | (go_at_call 60; refine (HD.out _).mono ?_; rintro e w2 ⟨rfl, rfl⟩)
      | (go_at_call 62; refine (HM.out _).mono ?_; rintro e w2 ⟨rfl, rfl⟩))
    exact bodyPost_ret (v := .tuple #[.agg #[.int .i64 3, .string T, .int .i64 (a : Nat)], .int .i64 (k : Nat), .int .i64 0, .int .i64 0]) (by simp [results, Tryd.results38, go_sem]) rfl ⟨below_alloc2 _ _ _, fun _ => ⟨T, k, rfl, HT.out, by omega, h2, H3.out⟩, fun h => absurd rfl h⟩
  have h6' := Bool.eq_false_iff.2 h6
  rw [h6'] at HM
  by_cases h58 : s[a].toNat = 58
  · have b5 : ((s[a].toNat : Int) == 58) = true := beq_iff_eq.2 (by omega)
    by_cases hk : k = a + 1
    · have hem : ((s.data.toList.drop (a + 1)).takeWhile Lx.name).isEmpty = true := by
        have := congrArg List.length HT.out
        rw [len_bytes, hsz, hk, List.length_cons] at this
        rw [List.isEmpty_iff_length_eq_zero]
        omega
      have hX : Lx.one (s.data.toList.drop a) = (0, [], 8, s.data.toList.drop a) := by
        rw [drop_at s ha]
        simp only [Lx.one, h58, h5, h6, hem]
        simp
      rw [hX]
      have hlt : (T.size : Int) < 2 := by omega
      clear hX hO hem hk h3 h40 h41 h124 h34 h5 h6 h5' h6' h58 hsz
      go_enter Tryd.func38, Tryd.ntmps38
      go_wp2_with (first
        | (go_at_call 58; refine (HN.out _).mono ?_; rintro e w2 ⟨rfl, rfl⟩)
        | (go_at_call 60; refine (HD.out _).mono ?_; rintro e w2 ⟨rfl, rfl⟩)
        | (go_at_call 62; refine (HM.out _).mono ?_; rintro e w2 ⟨rfl, rfl⟩))
      exact bodyPost_ret (v := .tuple #[.agg #[.int .i64 0, .string ⟨#[]⟩, .int .i64 0], .int .i64 0, .int .i64 8, .int .i64 (a : Nat)]) (by simp [results, Tryd.results38, go_sem]) rfl ⟨below_alloc2 _ _ _, fun h => absurd h (by simp), fun _ => ⟨a, rfl, by omega, ha, rfl⟩⟩
    · have hem : ((s.data.toList.drop (a + 1)).takeWhile Lx.name).isEmpty = false := by
        have := congrArg List.length HT.out
        rw [len_bytes, hsz, List.length_cons] at this
        cases hq : (s.data.toList.drop (a + 1)).takeWhile Lx.name with
        | nil => rw [hq, List.length_nil] at this; omega
        | cons _ _ => rfl
      have hX : Lx.one (s.data.toList.drop a) = (7, s[a] :: (s.data.toList.drop (a + 1)).takeWhile Lx.name, 0, (s.data.toList.drop (a + 1)).dropWhile Lx.name) := by
        rw [drop_at s ha]
        simp only [Lx.one, h58, h5, h6, hem]
        simp
      rw [hX]
      have hlt : ¬ (T.size : Int) < 2 := by omega
      clear hX hO hem hk h3 h40 h41 h124 h34 h5 h6 h5' h6' h58 hsz
      go_enter Tryd.func38, Tryd.ntmps38
      go_wp2_with (first
        | (go_at_call 58; refine (HN.out _).mono ?_; rintro e w2 ⟨rfl, rfl⟩)
        | (go_at_call 60; refine (HD.out _).mono ?_; rintro e w2 ⟨rfl, rfl⟩)
        | (go_at_call 62; refine (HM.out _).mono ?_; rintro e w2 ⟨rfl, rfl⟩))
      exact bodyPost_ret (v := .tuple #[.agg #[.int .i64 7, .string T, .int .i64 (a : Nat)], .int .i64 (k : Nat), .int .i64 0, .int .i64 0]) (by simp [results, Tryd.results38, go_sem]) rfl ⟨below_alloc2 _ _ _, fun _ => ⟨T, k, rfl, HT.out, by omega, h2, H3.out⟩, fun h => absurd rfl h⟩
  have b5 : ((s[a].toNat : Int) == 58) = false := beq_eq_false_iff_ne.2 (by omega)
  by_cases h35 : s[a].toNat = 35
  · have b6 : ((s[a].toNat : Int) == 35) = true := beq_iff_eq.2 (by omega)
    obtain ⟨z, hz⟩ : ∃ z, Lx.other (s[a] :: (s.data.toList.drop (a + 1)).takeWhile Lx.name) = z := ⟨_, rfl⟩
    rw [hz] at HV
    cases z with
    | false =>
      have hX : Lx.one (s.data.toList.drop a) = (0, [], 8, s.data.toList.drop a) := by
        rw [drop_at s ha]
        simp only [Lx.one, h35, h5, h6, hz]
        simp
      rw [hX]
      clear hX hO hz h3 h40 h41 h124 h34 h5 h6 h5' h6' h58 h35 hsz
      go_enter Tryd.func38, Tryd.ntmps38
      go_wp2_with (first
        | (go_at_call 58; refine (HN.out _).mono ?_; rintro e w2 ⟨rfl, rfl⟩)
        | (go_at_call 60; refine (HD.out _).mono ?_; rintro e w2 ⟨rfl, rfl⟩)
        | (go_at_call 62; refine (HM.out _).mono ?_; rintro e w2 ⟨rfl, rfl⟩)
        | (go_at_call 63; refine (HV.out _).mono ?_; rintro e w2 ⟨rfl, rfl⟩))
      exact bodyPost_ret (v := .tuple #[.agg #[.int .i64 0, .string ⟨#[]⟩, .int .i64 0], .int .i64 0, .int .i64 8, .int .i64 (a : Nat)]) (by simp [results, Tryd.results38, go_sem]) rfl ⟨below_alloc2 _ _ _, fun h => absurd h (by simp), fun _ => ⟨a, rfl, by omega, ha, rfl⟩⟩
    | true =>
      have hX : Lx.one (s.data.toList.drop a) = (8, s[a] :: (s.data.toList.drop (a + 1)).takeWhile Lx.name, 0, (s.data.toList.drop (a + 1)).dropWhile Lx.name) := by
        rw [drop_at s ha]
        simp only [Lx.one, h35, h5, h6, hz]
        simp
      rw [hX]
      clear hX hO hz h3 h40 h41 h124 h34 h5 h6 h5' h6' h58 h35 hsz
      go_enter Tryd.func38, Tryd.ntmps38
      go_wp2_with (first
        | (go_at_call 58; refine (HN.out _).mono ?_; rintro e w2 ⟨rfl, rfl⟩)
        | (go_at_call 60; refine (HD.out _).mono ?_; rintro e w2 ⟨rfl, rfl⟩)
        | (go_at_call 62; refine (HM.out _).mono ?_; rintro e w2 ⟨rfl, rfl⟩)
        | (go_at_call 63; refine (HV.out _).mono ?_; rintro e w2 ⟨rfl, rfl⟩))
      exact bodyPost_ret (v := .tuple #[.agg #[.int .i64 8, .string T, .int .i64 (a : Nat)], .int .i64 (k : Nat), .int .i64 0, .int .i64 0]) (by simp [results, Tryd.results38, go_sem]) rfl ⟨below_alloc2 _ _ _, fun _ => ⟨T, k, rfl, HT.out, by omega, h2, H3.out⟩, fun h => absurd rfl h⟩
  have b6 : ((s[a].toNat : Int) == 35) = false := beq_eq_false_iff_ne.2 (by omega)
  have hX : Lx.one (s.data.toList.drop a) = (0, [], 50, s.data.toList.drop a) := by
    rw [drop_at s ha]
    simp [Lx.one, h40, h41, hO, h5, h6, h58, h35]
  rw [hX]
  clear hX hO h3 h40 h41 h124 h34 h5 h6 h5' h6' h58 h35 hsz
  go_enter Tryd.func38, Tryd.ntmps38
  go_wp2_with (first
    | (go_at_call 58; refine (HN.out _).mono ?_; rintro e w2 ⟨rfl, rfl⟩)
    | (go_at_call 60; refine (HD.out _).mono ?_; rintro e w2 ⟨rfl, rfl⟩)
    | (go_at_call 62; refine (HM.out _).mono ?_; rintro e w2 ⟨rfl, rfl⟩))
  exact bodyPost_ret (v := .tuple #[.agg #[.int .i64 0, .string ⟨#[]⟩, .int .i64 0], .int .i64 0, .int .i64 50, .int .i64 (a : Nat)]) (by simp [results, Tryd.results38, go_sem]) rfl ⟨below_alloc2 _ _ _, fun h => absurd h (by simp), fun _ => ⟨a, rfl, by omega, ha, rfl⟩⟩
end Go.Proofs.YtpjdfogieiokkaaDoor
