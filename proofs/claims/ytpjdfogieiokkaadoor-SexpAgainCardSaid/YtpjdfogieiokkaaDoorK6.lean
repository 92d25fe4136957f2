/- The code's pieces: barred. -/
import Derived.Test.YtpjdfogieiokkaaDoorK5
import Derived.Test.YtpjdfogieiokkaaDoorShelf
namespace Go.Proofs.YtpjdfogieiokkaaDoor
open Go.RowKit Go.Shelf

set_option maxHeartbeats 1600000 in
theorem kbarred (s : ByteArray) (w : World) (hs : s.size ≤ 1000000) (h0 : 0 < s.size) (h124 : s[0].toNat = 124) :
    Calls Tryd.prog 49 #[.string s] w (PSaid s (Lx.one s.data.toList) w) := by
  obtain ⟨k, hk, hk1, hk2, HS⟩ := span_end _ enter_clos2 (Lx.but 124) kclos2 s 1 (by unfold maxLen; omega) h0
  replace HS := Lib.hid HS
  have hsl := slice_from s 1 (by omega)
  have HR := Lib.hid fun (w4 : World) b4 => pc_store w (w4 := w4) b4
  obtain ⟨T, hT⟩ : ∃ T, (s.data.toList.drop 1).takeWhile (Lx.but 124) = T := ⟨_, rfl⟩
  have hq := Lx.quo_span 124 (s.data.toList.drop 1)
  rw [show (124 : UInt8).toNat = 124 from rfl, ← hk2, hT] at hq
  obtain ⟨e, he⟩ : ∃ e, 1 + k = e := ⟨_, rfl⟩
  rw [he] at hk1 hk2 hq
  have hki : (1 : Int) + (k : Int) = (e : Int) := by omega
  have he1 : 1 ≤ e := by omega
  have hs0 : s[0] = 124 := Lx.byte_eq h124
  have hone : Lx.one s.data.toList = if (Lx.quo 124 (s.data.toList.drop 1)).2.1 = 0 then (if (Lx.quo 124 (s.data.toList.drop 1)).1.any (fun d => decide (d.toNat = 92)) then ((0 : Int), [], (8 : Int), s.data.toList) else (3, (Lx.quo 124 (s.data.toList.drop 1)).1, 0, (Lx.quo 124 (s.data.toList.drop 1)).2.2)) else if (Lx.quo 124 (s.data.toList.drop 1)).2.1 = 50 then (0, [], 50, (Lx.quo 124 (s.data.toList.drop 1)).2.2) else (0, [], 51, s.data.toList) := by
    have hw := whole_head s h0
    rw [hs0] at hw
    generalize s.data.toList.drop 1 = L at hw
    rw [hw]
    rfl
  rw [hq] at hone
  rw [hone]
  clear hone
  by_cases hes : e = s.size
  · rw [hes, drop_end]
    have hX : Lx.quo 124 [] = ([], 51, []) := rfl
    rw [hX]
    have HW := Lib.hid fun W => kwrong 51 0 W
    have hb : ((e : Int) == (s.size : Int)) = true := beq_iff_eq.2 (by omega)
    clear hq hX hk hk2 hT h124 hs0 he
    show Calls _ _ _ _ (PSaid s (0, [], 51, s.data.toList) w)
    go_enter Tryd.func49, Tryd.ntmps49
    go_wp2_with (first
      | (go_at_call 45; refine (HS.out _).mono ?_; rintro e w1 ⟨rfl, rfl⟩)
      | (go_at_call 56; refine (HW.out _).mono ?_; rintro e w4 ⟨rfl, b4⟩; obtain ⟨z0, y0, y1, y2, y3, f0, f1, f2, f3, hl, hb⟩ := HR.out _ b4))
    obtain ⟨_, e0, e1, e2, e3⟩ := pc_cells hl.out (.int .i64 0) (.string ⟨#[]⟩) (.int .i64 0) (.int .i64 51)
    exact bodyPost_ret (v := piece 0 ⟨#[]⟩ 0 51) (by simp [results, Tryd.results49, go_sem, e0, e1, e2, e3]) rfl (PSaid.at_start (hb.out _ _ _ _) (by decide) h0)
  have hlt : e < s.size := by omega
  have hlt' : (e : Int) < (s.size : Int) := by omega
  have hb : ((e : Int) == (s.size : Int)) = false := beq_eq_false_iff_ne.2 (by omega)
  have hDe := drop_at s hlt
  by_cases hc : s[e].toNat = 124
  · have hb2 : ((s[e].toNat : Int) != 124) = false := by rw [bne, beq_iff_eq.2 (by omega : (s[e].toNat : Int) = 124)]; rfl
    have hX : Lx.quo 124 (s.data.toList.drop e) = ([], 0, s.data.toList.drop (e + 1)) := by
      rw [hDe, Lx.byte_eq hc]
      exact Lx.quo_last _ (by decide) (fun h => absurd h.1 (by decide))
    rw [hX, List.append_nil]
    obtain ⟨z, hz⟩ : ∃ z, (T.any fun d => decide (d.toNat = 92)) = z := ⟨_, rfl⟩
    have hTl : T.length = e - 1 := by rw [← hT, ← hk]; omega
    have hcut : (s.extract 1 e).data.toList = T := by
      rw [(cut_bytes s 1 e hk1 he1).1, ← hTl]
      have h3 := congrArg (List.take T.length) (Lx.take_drop (Lx.but 124) (s.data.toList.drop 1))
      rw [hT, List.take_left] at h3
      exact h3.symm
    have HC := Lib.hid fun W => Tryd.strings_Contains_one (s.extract 0 e) 92 W
    have hidx : decide (0 ≤ Lib.indexByte (s.extract 0 e).data.toList 92) = z := by
      rw [Lx.index_any, (cut_bytes s 0 e hk1 (Nat.zero_le _)).1, List.drop_zero, whole_head s h0, show e - 0 = (e - 1) + 1 by omega, List.take_succ_cons, List.any_cons, hs0]
      have h3 := (cut_bytes s 1 e hk1 he1).1
      rw [hcut] at h3
      rw [← h3, ← hz]
      rfl
    rw [hidx] at HC
    have hsl2 := slice_to s e hk1
    obtain ⟨U, hU⟩ : ∃ U, s.extract 0 e = U := ⟨_, rfl⟩
    rw [hU] at HC hsl2
    have HT := Lib.hid hcut
    have HW := Lib.hid fun W => kwrong 8 0 W
    clear hq hX hk hk2 hT h124 hs0 he hTl hidx hDe hc hcut hU hes
    cases z with
    | true =>
      show Calls _ _ _ _ (PSaid s (if (0 : Int) = 0 then (if T.any (fun d => decide (d.toNat = 92)) then ((0 : Int), [], (8 : Int), s.data.toList) else (3, T, 0, s.data.toList.drop (e + 1))) else _) w)
      rw [if_pos rfl, if_pos hz]
      clear hz
      go_enter Tryd.func49, Tryd.ntmps49
      go_wp2_with (first
        | (go_at_call 45; refine (HS.out _).mono ?_; rintro e w1 ⟨rfl, rfl⟩)
        | (go_at_call 70; refine (HC.out _).mono ?_; rintro e w1 ⟨rfl, rfl⟩)
        | (go_at_call 56; refine (HW.out _).mono ?_; rintro e w4 ⟨rfl, b4⟩; obtain ⟨z0, y0, y1, y2, y3, f0, f1, f2, f3, hl, hb⟩ := HR.out _ b4))
      obtain ⟨_, e0, e1, e2, e3⟩ := pc_cells hl.out (.int .i64 0) (.string ⟨#[]⟩) (.int .i64 0) (.int .i64 8)
      exact bodyPost_ret (v := piece 0 ⟨#[]⟩ 0 8) (by simp [results, Tryd.results49, go_sem, e0, e1, e2, e3]) rfl (PSaid.at_start (hb.out _ _ _ _) (by decide) h0)
    | false =>
      show Calls _ _ _ _ (PSaid s (if (0 : Int) = 0 then (if T.any (fun d => decide (d.toNat = 92)) then ((0 : Int), [], (8 : Int), s.data.toList) else (3, T, 0, s.data.toList.drop (e + 1))) else _) w)
      rw [if_pos rfl, if_neg (by rw [hz]; decide)]
      clear hz HW
      obtain ⟨m, hm⟩ : ∃ m, e + 1 = m := ⟨_, rfl⟩
      have hmi : (e : Int) + 1 = (m : Int) := by omega
      have hm1 : 0 < m ∧ m ≤ s.size := by omega
      rw [hm]
      clear hm
      go_enter Tryd.func49, Tryd.ntmps49
      go_wp2_with (first
        | (go_at_call 45; refine (HS.out _).mono ?_; rintro e w1 ⟨rfl, rfl⟩)
        | (go_at_call 70; refine (HC.out _).mono ?_; rintro e w1 ⟨rfl, rfl⟩))
      exact bodyPost_ret (v := piece 3 (s.extract 1 e) (m : Nat) 0) (by simp [results, Tryd.results49, go_sem]) rfl ⟨(Below.refl _ w).alloc (Nat.le_refl _) _, fun _ => ⟨_, m, rfl, HT.out, hm1.1, hm1.2, rfl⟩, fun h => absurd rfl h⟩
  · have hg : Lx.good s[e] = false := by
      rcases Lx.but_stops (hk2.symm.trans hDe) with h | h
      · exact absurd h hc
      · exact h
    have hb2 : ((s[e].toNat : Int) != 124) = true := bne_iff_ne.2 (by omega)
    have hX : Lx.quo 124 (s.data.toList.drop e) = ([], 50, s.data.toList.drop e) := by rw [hDe, Lx.quo_bad _ hg]
    rw [hX]
    have HW := Lib.hid fun W => kwrong 50 (e : Nat) W
    clear hq hX hk hk2 hT h124 hs0 he hDe hc hes hg
    show Calls _ _ _ _ (PSaid s (0, [], 50, s.data.toList.drop e) w)
    go_enter Tryd.func49, Tryd.ntmps49
    go_wp2_with (first
      | (go_at_call 45; refine (HS.out _).mono ?_; rintro e w1 ⟨rfl, rfl⟩)
      | (go_at_call 56; refine (HW.out _).mono ?_; rintro e w4 ⟨rfl, b4⟩; obtain ⟨z0, y0, y1, y2, y3, f0, f1, f2, f3, hl, hb⟩ := HR.out _ b4))
    obtain ⟨_, e0, e1, e2, e3⟩ := pc_cells hl.out (.int .i64 0) (.string ⟨#[]⟩) (.int .i64 (e : Nat)) (.int .i64 50)
    exact bodyPost_ret (v := piece 0 ⟨#[]⟩ (e : Nat) 50) (by simp [results, Tryd.results49, go_sem, e0, e1, e2, e3]) rfl ⟨hb.out _ _ _ _, fun h => absurd h (by simp), fun _ => ⟨e, rfl, hlt, rfl⟩⟩
end Go.Proofs.YtpjdfogieiokkaaDoor
