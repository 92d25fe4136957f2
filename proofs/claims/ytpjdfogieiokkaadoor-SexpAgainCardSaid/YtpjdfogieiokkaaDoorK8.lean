/- The code's pieces: first. -/
import Derived.Test.YtpjdfogieiokkaaDoorK7
namespace Go.Proofs.YtpjdfogieiokkaaDoor
open Go.RowKit Go.Shelf

theorem PSaid.form {s : ByteArray} {X : Int × List UInt8 × Int × List UInt8} {w w' : World} {e : Ending} (q : PSaid s X w e w') :
    ∃ k T n E, e = .returned (piece k T n E) ∧ Hid (∀ W0 w0', Below W0.heap.size W0 w0' → PSaid s X W0 (.returned (piece k T n E)) w0') := by
  by_cases h : X.2.2.1 = 0
  · obtain ⟨T, b, rfl, h1, h2, h3, h4⟩ := q.ok h
    exact ⟨_, _, _, _, rfl, fun W0 w0' hb => ⟨hb, fun _ => ⟨T, b, rfl, h1, h2, h3, h4⟩, fun h' => absurd h h'⟩⟩
  · obtain ⟨p, rfl, h1, h2⟩ := q.bad h
    exact ⟨_, _, _, _, rfl, fun W0 w0' hb => ⟨hb, fun h' => absurd h' h, fun _ => ⟨p, rfl, h1, h2⟩⟩⟩

set_option maxHeartbeats 1600000 in
theorem kfirst (s : ByteArray) (w : World) (hs : s.size ≤ 1000000) (h0 : 0 < s.size) (hm : MaxL w) :
    Calls Tryd.prog 35 #[.string s] w (PSaid s (Lx.one s.data.toList) w) := by
  have HR := Lib.hid fun (w4 : World) b4 => pc_store w (w4 := w4) b4
  have HM := Lib.hid (hm.alloc (.cells ZP 64))
  have hw := rune_c s[0]
  have h0' : (0 : Int) < (s.size : Int) := by omega
  clear hm
  by_cases h40 : s[0].toNat = 40
  · have c40 : ((s[0].toNat : Int) == 40) = true := beq_iff_eq.2 (by omega)
    have hX : Lx.one s.data.toList = ((1 : Int), [s[0]], (0 : Int), s.data.toList.drop 1) := by
      conv => lhs; rw [whole_head s h0]
      simp [Lx.one, h40]
    have hT : (s.extract 0 1).data.toList = [s[0]] := by
      rw [(cut_bytes s 0 1 h0 (Nat.zero_le _)).1, List.drop_zero, whole_head s h0]
      rfl
    have HP := Lib.hid fun W => (kupTo s 1 1 W h0).mono fun e w' (h : e = .returned (piece 1 (s.extract 0 1) (1 : Nat) 0) ∧ Below W.heap.size W w') => (show PSaid s (1, [s[0]], 0, s.data.toList.drop 1) W e w' from ⟨h.2, fun _ => ⟨_, 1, h.1, hT, Nat.zero_lt_one, h0, rfl⟩, fun h => absurd rfl h⟩)
    rw [hX]
    clear hX hT h40
    go_enter Tryd.func35, Tryd.ntmps35
    go_wp2_with (go_at_call 48; refine (HP.out _).mono ?_; rintro e w4 q; obtain ⟨k, T, n, E, rfl, HQ⟩ := q.form; obtain ⟨z0, y0, y1, y2, y3, f0, f1, f2, f3, hl, hb⟩ := HR.out _ q.below; clear q)
    obtain ⟨_, e0, e1, e2, e3⟩ := pc_cells hl.out (.int .i64 k) (.string T) (.int .i64 n) (.int .i64 E)
    exact bodyPost_ret (v := piece k T n E) (by simp [results, Tryd.results35, go_sem, e0, e1, e2, e3]) rfl (HQ.out _ _ (hb.out _ _ _ _))
  by_cases h41 : s[0].toNat = 41
  · have c40 : ((s[0].toNat : Int) == 40) = false := beq_eq_false_iff_ne.2 (by omega)
    have c41 : ((s[0].toNat : Int) == 41) = true := beq_iff_eq.2 (by omega)
    have hX : Lx.one s.data.toList = ((2 : Int), [s[0]], (0 : Int), s.data.toList.drop 1) := by
      conv => lhs; rw [whole_head s h0]
      simp [Lx.one, h41]
    have hT : (s.extract 0 1).data.toList = [s[0]] := by
      rw [(cut_bytes s 0 1 h0 (Nat.zero_le _)).1, List.drop_zero, whole_head s h0]
      rfl
    have HP := Lib.hid fun W => (kupTo s 1 2 W h0).mono fun e w' (h : e = .returned (piece 2 (s.extract 0 1) (1 : Nat) 0) ∧ Below W.heap.size W w') => (show PSaid s (2, [s[0]], 0, s.data.toList.drop 1) W e w' from ⟨h.2, fun _ => ⟨_, 1, h.1, hT, Nat.zero_lt_one, h0, rfl⟩, fun h => absurd rfl h⟩)
    rw [hX]
    clear hX hT h40 h41
    go_enter Tryd.func35, Tryd.ntmps35
    go_wp2_with (go_at_call 48; refine (HP.out _).mono ?_; rintro e w4 q; obtain ⟨k, T, n, E, rfl, HQ⟩ := q.form; obtain ⟨z0, y0, y1, y2, y3, f0, f1, f2, f3, hl, hb⟩ := HR.out _ q.below; clear q)
    obtain ⟨_, e0, e1, e2, e3⟩ := pc_cells hl.out (.int .i64 k) (.string T) (.int .i64 n) (.int .i64 E)
    exact bodyPost_ret (v := piece k T n E) (by simp [results, Tryd.results35, go_sem, e0, e1, e2, e3]) rfl (HQ.out _ _ (hb.out _ _ _ _))
  by_cases h124 : s[0].toNat = 124
  · have c40 : ((s[0].toNat : Int) == 40) = false := beq_eq_false_iff_ne.2 (by omega)
    have c41 : ((s[0].toNat : Int) == 41) = false := beq_eq_false_iff_ne.2 (by omega)
    have c124 : ((s[0].toNat : Int) == 124) = true := beq_iff_eq.2 (by omega)
    have HP := Lib.hid fun W => kbarred s W hs h0 h124
    clear h40 h41 h124
    go_enter Tryd.func35, Tryd.ntmps35
    go_wp2_with (go_at_call 49; refine (HP.out _).mono ?_; rintro e w4 q; obtain ⟨k, T, n, E, rfl, HQ⟩ := q.form; obtain ⟨z0, y0, y1, y2, y3, f0, f1, f2, f3, hl, hb⟩ := HR.out _ q.below; clear q)
    obtain ⟨_, e0, e1, e2, e3⟩ := pc_cells hl.out (.int .i64 k) (.string T) (.int .i64 n) (.int .i64 E)
    exact bodyPost_ret (v := piece k T n E) (by simp [results, Tryd.results35, go_sem, e0, e1, e2, e3]) rfl (HQ.out _ _ (hb.out _ _ _ _))
  by_cases h34 : s[0].toNat = 34
  · have c40 : ((s[0].toNat : Int) == 40) = false := beq_eq_false_iff_ne.2 (by omega)
    have c41 : ((s[0].toNat : Int) == 41) = false := beq_eq_false_iff_ne.2 (by omega)
    have c124 : ((s[0].toNat : Int) == 124) = false := beq_eq_false_iff_ne.2 (by omega)
    have c34 : ((s[0].toNat : Int) == 34) = true := beq_iff_eq.2 (by omega)
    have HP := Lib.hid fun W => fun hW => kquoted s W hs h0 h34 hW
    clear h40 h41 h124 h34
    go_enter Tryd.func35, Tryd.ntmps35
    go_wp2_with (go_at_call 50; refine (HP.out _ HM.out).mono ?_; rintro e w4 q; obtain ⟨k, T, n, E, rfl, HQ⟩ := q.form; obtain ⟨z0, y0, y1, y2, y3, f0, f1, f2, f3, hl, hb⟩ := HR.out _ q.below; clear q)
    obtain ⟨_, e0, e1, e2, e3⟩ := pc_cells hl.out (.int .i64 k) (.string T) (.int .i64 n) (.int .i64 E)
    exact bodyPost_ret (v := piece k T n E) (by simp [results, Tryd.results35, go_sem, e0, e1, e2, e3]) rfl (HQ.out _ _ (hb.out _ _ _ _))
  by_cases h58 : s[0].toNat = 58
  · have c40 : ((s[0].toNat : Int) == 40) = false := beq_eq_false_iff_ne.2 (by omega)
    have c41 : ((s[0].toNat : Int) == 41) = false := beq_eq_false_iff_ne.2 (by omega)
    have c124 : ((s[0].toNat : Int) == 124) = false := beq_eq_false_iff_ne.2 (by omega)
    have c34 : ((s[0].toNat : Int) == 34) = false := beq_eq_false_iff_ne.2 (by omega)
    have c58 : ((s[0].toNat : Int) == 58) = true := beq_iff_eq.2 (by omega)
    have HP := Lib.hid fun W => kkeyword s W hs h0 h58
    clear h40 h41 h124 h34 h58
    go_enter Tryd.func35, Tryd.ntmps35
    go_wp2_with (go_at_call 51; refine (HP.out _).mono ?_; rintro e w4 q; obtain ⟨k, T, n, E, rfl, HQ⟩ := q.form; obtain ⟨z0, y0, y1, y2, y3, f0, f1, f2, f3, hl, hb⟩ := HR.out _ q.below; clear q)
    obtain ⟨_, e0, e1, e2, e3⟩ := pc_cells hl.out (.int .i64 k) (.string T) (.int .i64 n) (.int .i64 E)
    exact bodyPost_ret (v := piece k T n E) (by simp [results, Tryd.results35, go_sem, e0, e1, e2, e3]) rfl (HQ.out _ _ (hb.out _ _ _ _))
  by_cases h35 : s[0].toNat = 35
  · have c40 : ((s[0].toNat : Int) == 40) = false := beq_eq_false_iff_ne.2 (by omega)
    have c41 : ((s[0].toNat : Int) == 41) = false := beq_eq_false_iff_ne.2 (by omega)
    have c124 : ((s[0].toNat : Int) == 124) = false := beq_eq_false_iff_ne.2 (by omega)
    have c34 : ((s[0].toNat : Int) == 34) = false := beq_eq_false_iff_ne.2 (by omega)
    have c58 : ((s[0].toNat : Int) == 58) = false := beq_eq_false_iff_ne.2 (by omega)
    have c35 : ((s[0].toNat : Int) == 35) = true := beq_iff_eq.2 (by omega)
    have HP := Lib.hid fun W => kother s W hs h0 h35
    clear h40 h41 h124 h34 h58 h35
    go_enter Tryd.func35, Tryd.ntmps35
    go_wp2_with (go_at_call 52; refine (HP.out _).mono ?_; rintro e w4 q; obtain ⟨k, T, n, E, rfl, HQ⟩ := q.form; obtain ⟨z0, y0, y1, y2, y3, f0, f1, f2, f3, hl, hb⟩ := HR.out _ q.below; clear q)
    obtain ⟨_, e0, e1, e2, e3⟩ := pc_cells hl.out (.int .i64 k) (.string T) (.int .i64 n) (.int .i64 E)
    exact bodyPost_ret (v := piece k T n E) (by simp [results, Tryd.results35, go_sem, e0, e1, e2, e3]) rfl (HQ.out _ _ (hb.out _ _ _ _))
  by_cases hd : Lx.digit s[0] = true
  · have c40 : ((s[0].toNat : Int) == 40) = false := beq_eq_false_iff_ne.2 (by omega)
    have c41 : ((s[0].toNat : Int) == 41) = false := beq_eq_false_iff_ne.2 (by omega)
    have c124 : ((s[0].toNat : Int) == 124) = false := beq_eq_false_iff_ne.2 (by omega)
    have c34 : ((s[0].toNat : Int) == 34) = false := beq_eq_false_iff_ne.2 (by omega)
    have c58 : ((s[0].toNat : Int) == 58) = false := beq_eq_false_iff_ne.2 (by omega)
    have c35 : ((s[0].toNat : Int) == 35) = false := beq_eq_false_iff_ne.2 (by omega)
    have HD := Lib.hid fun W => kdigit s[0] W
    rw [hd] at HD
    have HP := Lib.hid fun W => knumber s W hs h0 hd
    clear hd h40 h41 h124 h34 h58 h35
    go_enter Tryd.func35, Tryd.ntmps35
    go_wp2_with (first
      | (go_at_call 53; refine (HD.out _).mono ?_; rintro e w1 ⟨rfl, rfl⟩)
      | (go_at_call 54; refine (HP.out _).mono ?_; rintro e w4 q; obtain ⟨k, T, n, E, rfl, HQ⟩ := q.form; obtain ⟨z0, y0, y1, y2, y3, f0, f1, f2, f3, hl, hb⟩ := HR.out _ q.below; clear q))
    obtain ⟨_, e0, e1, e2, e3⟩ := pc_cells hl.out (.int .i64 k) (.string T) (.int .i64 n) (.int .i64 E)
    exact bodyPost_ret (v := piece k T n E) (by simp [results, Tryd.results35, go_sem, e0, e1, e2, e3]) rfl (HQ.out _ _ (hb.out _ _ _ _))
  have c40 : ((s[0].toNat : Int) == 40) = false := beq_eq_false_iff_ne.2 (by omega)
  have c41 : ((s[0].toNat : Int) == 41) = false := beq_eq_false_iff_ne.2 (by omega)
  have c124 : ((s[0].toNat : Int) == 124) = false := beq_eq_false_iff_ne.2 (by omega)
  have c34 : ((s[0].toNat : Int) == 34) = false := beq_eq_false_iff_ne.2 (by omega)
  have c58 : ((s[0].toNat : Int) == 58) = false := beq_eq_false_iff_ne.2 (by omega)
  have c35 : ((s[0].toNat : Int) == 35) = false := beq_eq_false_iff_ne.2 (by omega)
  have HD := Lib.hid fun W => kdigit s[0] W
  rw [Bool.eq_false_iff.2 hd] at HD
  have HS := Lib.hid fun W => kspan _ enter_named _ knamed s W (by unfold maxLen; omega)
  obtain ⟨v, hv⟩ : ∃ v, (s.data.toList.takeWhile Lx.name).length = v := ⟨_, rfl⟩
  rw [hv] at HS
  have hq : ¬ (s[0].toNat = 124 ∨ s[0].toNat = 34) := by omega
  have htk := takeWhile_at Lx.name s h0
  rw [List.drop_zero] at htk
  by_cases hn : Lx.name s[0] = true
  · have hX : Lx.one s.data.toList = ((3 : Int), s[0] :: (s.data.toList.drop 1).takeWhile Lx.name, (0 : Int), (s.data.toList.drop 1).dropWhile Lx.name) := by
      conv => lhs; rw [whole_head s h0]
      simp [Lx.one, h40, h41, hq, hd, hn]
    rw [if_pos hn] at htk
    obtain ⟨t1, t2⟩ := take_len Lx.name s 0 (Nat.zero_le _)
    rw [List.drop_zero, hv, Nat.zero_add] at t1 t2
    have t3 : s.data.toList.drop v = (s.data.toList.drop 1).dropWhile Lx.name := by
      rw [t2]
      conv => lhs; rw [whole_head s h0]
      rw [List.dropWhile_cons, if_pos hn]
    have hv1 : 0 < v := by rw [← hv, htk]; simp
    have hT := text_of s 0 v h0 hv1 t1 t3
    have hv' : (0 : Int) < (v : Int) := by omega
    have HP := Lib.hid fun W => (kupTo s v 3 W t1).mono fun e w' (h : e = .returned (piece 3 (s.extract 0 v) (v : Nat) 0) ∧ Below W.heap.size W w') => (show PSaid s (3, s[0] :: (s.data.toList.drop 1).takeWhile Lx.name, 0, (s.data.toList.drop 1).dropWhile Lx.name) W e w' from ⟨h.2, fun _ => ⟨_, v, h.1, hT, hv1, t1, t3⟩, fun h => absurd rfl h⟩)
    rw [hX]
    clear hX hT t1 t2 t3 hv htk hq hn hd h40 h41 h124 h34 h58 h35 hv1
    go_enter Tryd.func35, Tryd.ntmps35
    go_wp2_with (first
      | (go_at_call 53; refine (HD.out _).mono ?_; rintro e w1 ⟨rfl, rfl⟩)
      | (go_at_call 45; refine (HS.out _).mono ?_; rintro e w1 ⟨rfl, rfl⟩)
      | (go_at_call 48; refine (HP.out _).mono ?_; rintro e w4 q; obtain ⟨k, T, n, E, rfl, HQ⟩ := q.form; obtain ⟨z0, y0, y1, y2, y3, f0, f1, f2, f3, hl, hb⟩ := HR.out _ q.below; clear q))
    obtain ⟨_, e0, e1, e2, e3⟩ := pc_cells hl.out (.int .i64 k) (.string T) (.int .i64 n) (.int .i64 E)
    exact bodyPost_ret (v := piece k T n E) (by simp [results, Tryd.results35, go_sem, e0, e1, e2, e3]) rfl (HQ.out _ _ (hb.out _ _ _ _))
  · have hX : Lx.one s.data.toList = ((0 : Int), [], (50 : Int), s.data.toList) := by
      conv => lhs; rw [whole_head s h0]
      simp only [Lx.one, h40, h41, hq, hd, hn, h58, h35, if_false]
      rw [← whole_head s h0]
      simp
    rw [if_neg hn] at htk
    obtain rfl : v = 0 := by rw [← hv, htk]; rfl
    have HP := Lib.hid fun W => (kwrong 50 0 W).mono fun e w' (h : e = .returned (piece 0 ⟨#[]⟩ 0 50) ∧ Below W.heap.size W w') => (show PSaid s (0, [], 50, s.data.toList) W e w' from h.1 ▸ PSaid.at_start h.2 (by decide) h0)
    rw [hX]
    clear hX hv htk hq hn hd h40 h41 h124 h34 h58 h35
    go_enter Tryd.func35, Tryd.ntmps35
    go_wp2_with (first
      | (go_at_call 53; refine (HD.out _).mono ?_; rintro e w1 ⟨rfl, rfl⟩)
      | (go_at_call 45; refine (HS.out _).mono ?_; rintro e w1 ⟨rfl, rfl⟩)
      | (go_at_call 56; refine (HP.out _).mono ?_; rintro e w4 q; obtain ⟨k, T, n, E, rfl, HQ⟩ := q.form; obtain ⟨z0, y0, y1, y2, y3, f0, f1, f2, f3, hl, hb⟩ := HR.out _ q.below; clear q))
    obtain ⟨_, e0, e1, e2, e3⟩ := pc_cells hl.out (.int .i64 k) (.string T) (.int .i64 n) (.int .i64 E)
    exact bodyPost_ret (v := piece k T n E) (by simp [results, Tryd.results35, go_sem, e0, e1, e2, e3]) rfl (HQ.out _ _ (hb.out _ _ _ _))
end Go.Proofs.YtpjdfogieiokkaaDoor
