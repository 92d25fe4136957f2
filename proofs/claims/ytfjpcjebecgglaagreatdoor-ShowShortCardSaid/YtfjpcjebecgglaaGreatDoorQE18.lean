/- What the proofs of this claim use, text by text. -/
import Derived.Test.YtfjpcjebecgglaaGreatDoorQE16
import Derived.Test.YtfjpcjebecgglaaGreatDoorQE17
set_option linter.unusedSimpArgs false
set_option linter.unusedVariables false
set_option maxRecDepth 100000
set_option maxHeartbeats 25600000
namespace Go.Proofs.YtfjpcjebecgglaaGreatDoor
open Go.RowKit Go.Shelf
theorem PSaid.form {s : ByteArray} {X : Int × List UInt8 × Int × List UInt8} {w w' : World} {e : Ending} (q : PSaid s X w e w') :
    ∃ k T n E, e = .returned (piece k T n E) ∧ Hid (∀ W0 w0', Below W0.heap.size W0 w0' → PSaid s X W0 (.returned (piece k T n E)) w0') := by
  by_cases h : X.2.2.1 = 0
  · obtain ⟨T, b, rfl, h1, h2, h3, h4⟩ := q.ok h
    exact ⟨_, _, _, _, rfl, fun W0 w0' hb => ⟨hb, fun _ => ⟨T, b, rfl, h1, h2, h3, h4⟩, fun h' => absurd h h'⟩⟩
  · obtain ⟨p, rfl, h1, h2⟩ := q.bad h
    exact ⟨_, _, _, _, rfl, fun W0 w0' hb => ⟨hb, fun h' => absurd h' h, fun _ => ⟨p, rfl, h1, h2⟩⟩⟩
theorem kfirst (s : ByteArray) (w : World) (hs : s.size ≤ 1000000) (h0 : 0 < s.size) (hm : MaxL w) :
    Calls Tryz.prog 153 #[.string s] w (PSaid s (Lx.one s.data.toList) w) := by
  have HR := Lib.hid fun (w4 : World) b4 => pc_store w (w4 := w4) b4
  have HM := Lib.hid (hm.alloc (.cells ZP 212))
  have hw := rune_c s[0]
  have h0' : (0 : Int) < (s.size : Int) := by omega
  clear hm
  by_cases h40 : s[0].toNat = 40
  · have c40 : ((s[0].toNat : Int) == 40) = true := beq_iff_eq.2 (by omega)
    have hX : Lx.one s.data.toList = ((1 : Int), [s[0]], (0 : Int), s.data.toList.drop 1) := by
      conv => lhs; rw [whole_head s h0]
      simp [Lx.one, h40]
    have hT : (s.extract 0 1).data.toList = [s[0]] := by
      rw [(cut_bytes s 0 1 h0 (Nat.zero_le _)).1, List.drop_zero, whole_head s h0]
      rfl
    have HP := Lib.hid fun W => (kupTo s 1 1 W h0).mono fun e w' (h : e = .returned (piece 1 (s.extract 0 1) (1 : Nat) 0) ∧ Below W.heap.size W w') => (show PSaid s (1, [s[0]], 0, s.data.toList.drop 1) W e w' from ⟨h.2, fun _ => ⟨_, 1, h.1, hT, Nat.zero_lt_one, h0, rfl⟩, fun h => absurd rfl h⟩)
    rw [hX]
    clear hX hT h40
    go_enter Tryz.func153, Tryz.ntmps153
    go_wp2_with (go_at_call 164; refine (HP.out _).mono ?_; rintro e w4 q; obtain ⟨k, T, n, E, rfl, HQ⟩ := q.form; obtain ⟨z0, y0, y1, y2, y3, f0, f1, f2, f3, hl, hb⟩ := HR.out _ q.below; clear q)
    obtain ⟨_, e0, e1, e2, e3⟩ := pc_cells hl.out (.int .i64 k) (.string T) (.int .i64 n) (.int .i64 E)
    exact bodyPost_ret (v := piece k T n E) (by simp [results, Tryz.results153, go_sem, e0, e1, e2, e3]) rfl (HQ.out _ _ (hb.out _ _ _ _))
  by_cases h41 : s[0].toNat = 41
  · have c40 : ((s[0].toNat : Int) == 40) = false := beq_eq_false_iff_ne.2 (by omega)
    have c41 : ((s[0].toNat : Int) == 41) = true := beq_iff_eq.2 (by omega)
    have hX : Lx.one s.data.toList = ((2 : Int), [s[0]], (0 : Int), s.data.toList.drop 1) := by
      conv => lhs; rw [whole_head s h0]
      simp [Lx.one, h41]
    have hT : (s.extract 0 1).data.toList = [s[0]] := by
      rw [(cut_bytes s 0 1 h0 (Nat.zero_le _)).1, List.drop_zero, whole_head s h0]
      rfl
    have HP := Lib.hid fun W => (kupTo s 1 2 W h0).mono fun e w' (h : e = .returned (piece 2 (s.extract 0 1) (1 : Nat) 0) ∧ Below W.heap.size W w') => (show PSaid s (2, [s[0]], 0, s.data.toList.drop 1) W e w' from ⟨h.2, fun _ => ⟨_, 1, h.1, hT, Nat.zero_lt_one, h0, rfl⟩, fun h => absurd rfl h⟩)
    rw [hX]
    clear hX hT h40 h41
    go_enter Tryz.func153, Tryz.ntmps153
    go_wp2_with (go_at_call 164; refine (HP.out _).mono ?_; rintro e w4 q; obtain ⟨k, T, n, E, rfl, HQ⟩ := q.form; obtain ⟨z0, y0, y1, y2, y3, f0, f1, f2, f3, hl, hb⟩ := HR.out _ q.below; clear q)
    obtain ⟨_, e0, e1, e2, e3⟩ := pc_cells hl.out (.int .i64 k) (.string T) (.int .i64 n) (.int .i64 E)
    exact bodyPost_ret (v := piece k T n E) (by simp [results, Tryz.results153, go_sem, e0, e1, e2, e3]) rfl (HQ.out _ _ (hb.out _ _ _ _))
  by_cases h124 : s[0].toNat = 124
  · have c40 : ((s[0].toNat : Int) == 40) = false := beq_eq_false_iff_ne.2 (by omega)
    have c41 : ((s[0].toNat : Int) == 41) = false := beq_eq_false_iff_ne.2 (by omega)
    have c124 : ((s[0].toNat : Int) == 124) = true := beq_iff_eq.2 (by omega)
    have HP := Lib.hid fun W => kbarred s W hs h0 h124
    clear h40 h41 h124
    go_enter Tryz.func153, Tryz.ntmps153
    go_wp2_with (go_at_call 165; refine (HP.out _).mono ?_; rintro e w4 q; obtain ⟨k, T, n, E, rfl, HQ⟩ := q.form; obtain ⟨z0, y0, y1, y2, y3, f0, f1, f2, f3, hl, hb⟩ := HR.out _ q.below; clear q)
    obtain ⟨_, e0, e1, e2, e3⟩ := pc_cells hl.out (.int .i64 k) (.string T) (.int .i64 n) (.int .i64 E)
    exact bodyPost_ret (v := piece k T n E) (by simp [results, Tryz.results153, go_sem, e0, e1, e2, e3]) rfl (HQ.out _ _ (hb.out _ _ _ _))
  by_cases h34 : s[0].toNat = 34
  · have c40 : ((s[0].toNat : Int) == 40) = false := beq_eq_false_iff_ne.2 (by omega)
    have c41 : ((s[0].toNat : Int) == 41) = false := beq_eq_false_iff_ne.2 (by omega)
    have c124 : ((s[0].toNat : Int) == 124) = false := beq_eq_false_iff_ne.2 (by omega)
    have c34 : ((s[0].toNat : Int) == 34) = true := beq_iff_eq.2 (by omega)
    have HP := Lib.hid fun W => fun hW => kquoted s W hs h0 h34 hW
    clear h40 h41 h124 h34
    go_enter Tryz.func153, Tryz.ntmps153
    go_wp2_with (go_at_call 166; refine (HP.out _ HM.out).mono ?_; rintro e w4 q; obtain ⟨k, T, n, E, rfl, HQ⟩ := q.form; obtain ⟨z0, y0, y1, y2, y3, f0, f1, f2, f3, hl, hb⟩ := HR.out _ q.below; clear q)
    obtain ⟨_, e0, e1, e2, e3⟩ := pc_cells hl.out (.int .i64 k) (.string T) (.int .i64 n) (.int .i64 E)
    exact bodyPost_ret (v := piece k T n E) (by simp [results, Tryz.results153, go_sem, e0, e1, e2, e3]) rfl (HQ.out _ _ (hb.out _ _ _ _))
  by_cases h58 : s[0].toNat = 58
  · have c40 : ((s[0].toNat : Int) == 40) = false := beq_eq_false_iff_ne.2 (by omega)
    have c41 : ((s[0].toNat : Int) == 41) = false := beq_eq_false_iff_ne.2 (by omega)
    have c124 : ((s[0].toNat : Int) == 124) = false := beq_eq_false_iff_ne.2 (by omega)
    have c34 : ((s[0].toNat : Int) == 34) = false := beq_eq_false_iff_ne.2 (by omega)
    have c58 : ((s[0].toNat : Int) == 58) = true := beq_iff_eq.2 (by omega)
    have HP := Lib.hid fun W => kkeyword s W hs h0 h58
    clear h40 h41 h124 h34 h58
    go_enter Tryz.func153, Tryz.ntmps153
    go_wp2_with (go_at_call 167; refine (HP.out _).mono ?_; rintro e w4 q; obtain ⟨k, T, n, E, rfl, HQ⟩ := q.form; obtain ⟨z0, y0, y1, y2, y3, f0, f1, f2, f3, hl, hb⟩ := HR.out _ q.below; clear q)
    obtain ⟨_, e0, e1, e2, e3⟩ := pc_cells hl.out (.int .i64 k) (.string T) (.int .i64 n) (.int .i64 E)
    exact bodyPost_ret (v := piece k T n E) (by simp [results, Tryz.results153, go_sem, e0, e1, e2, e3]) rfl (HQ.out _ _ (hb.out _ _ _ _))
  by_cases h35 : s[0].toNat = 35
  · have c40 : ((s[0].toNat : Int) == 40) = false := beq_eq_false_iff_ne.2 (by omega)
    have c41 : ((s[0].toNat : Int) == 41) = false := beq_eq_false_iff_ne.2 (by omega)
    have c124 : ((s[0].toNat : Int) == 124) = false := beq_eq_false_iff_ne.2 (by omega)
    have c34 : ((s[0].toNat : Int) == 34) = false := beq_eq_false_iff_ne.2 (by omega)
    have c58 : ((s[0].toNat : Int) == 58) = false := beq_eq_false_iff_ne.2 (by omega)
    have c35 : ((s[0].toNat : Int) == 35) = true := beq_iff_eq.2 (by omega)
    have HP := Lib.hid fun W => kother s W hs h0 h35
    clear h40 h41 h124 h34 h58 h35
    go_enter Tryz.func153, Tryz.ntmps153
    go_wp2_with (go_at_call 168; refine (HP.out _).mono ?_; rintro e w4 q; obtain ⟨k, T, n, E, rfl, HQ⟩ := q.form; obtain ⟨z0, y0, y1, y2, y3, f0, f1, f2, f3, hl, hb⟩ := HR.out _ q.below; clear q)
    obtain ⟨_, e0, e1, e2, e3⟩ := pc_cells hl.out (.int .i64 k) (.string T) (.int .i64 n) (.int .i64 E)
    exact bodyPost_ret (v := piece k T n E) (by simp [results, Tryz.results153, go_sem, e0, e1, e2, e3]) rfl (HQ.out _ _ (hb.out _ _ _ _))
  by_cases hd : Lx.digit s[0] = true
  · have c40 : ((s[0].toNat : Int) == 40) = false := beq_eq_false_iff_ne.2 (by omega)
    have c41 : ((s[0].toNat : Int) == 41) = false := beq_eq_false_iff_ne.2 (by omega)
    have c124 : ((s[0].toNat : Int) == 124) = false := beq_eq_false_iff_ne.2 (by omega)
    have c34 : ((s[0].toNat : Int) == 34) = false := beq_eq_false_iff_ne.2 (by omega)
    have c58 : ((s[0].toNat : Int) == 58) = false := beq_eq_false_iff_ne.2 (by omega)
    have c35 : ((s[0].toNat : Int) == 35) = false := beq_eq_false_iff_ne.2 (by omega)
    have HD := Lib.hid fun W => kdigit s[0] W
    rw [hd] at HD
    have HP := Lib.hid fun W => knumber s W hs h0 hd
    clear hd h40 h41 h124 h34 h58 h35
    go_enter Tryz.func153, Tryz.ntmps153
    go_wp2_with (first
      | (go_at_call 160; refine (HD.out _).mono ?_; rintro e w1 ⟨rfl, rfl⟩)
      | (go_at_call 169; refine (HP.out _).mono ?_; rintro e w4 q; obtain ⟨k, T, n, E, rfl, HQ⟩ := q.form; obtain ⟨z0, y0, y1, y2, y3, f0, f1, f2, f3, hl, hb⟩ := HR.out _ q.below; clear q))
    obtain ⟨_, e0, e1, e2, e3⟩ := pc_cells hl.out (.int .i64 k) (.string T) (.int .i64 n) (.int .i64 E)
    exact bodyPost_ret (v := piece k T n E) (by simp [results, Tryz.results153, go_sem, e0, e1, e2, e3]) rfl (HQ.out _ _ (hb.out _ _ _ _))
  have c40 : ((s[0].toNat : Int) == 40) = false := beq_eq_false_iff_ne.2 (by omega)
  have c41 : ((s[0].toNat : Int) == 41) = false := beq_eq_false_iff_ne.2 (by omega)
  have c124 : ((s[0].toNat : Int) == 124) = false := beq_eq_false_iff_ne.2 (by omega)
  have c34 : ((s[0].toNat : Int) == 34) = false := beq_eq_false_iff_ne.2 (by omega)
  have c58 : ((s[0].toNat : Int) == 58) = false := beq_eq_false_iff_ne.2 (by omega)
  have c35 : ((s[0].toNat : Int) == 35) = false := beq_eq_false_iff_ne.2 (by omega)
  have HD := Lib.hid fun W => kdigit s[0] W
  rw [Bool.eq_false_iff.2 hd] at HD
  have HS := Lib.hid fun W => kspan _ enter_named _ knamed s W (by unfold maxLen; omega)
  obtain ⟨v, hv⟩ : ∃ v, (s.data.toList.takeWhile Lx.name).length = v := ⟨_, rfl⟩
  rw [hv] at HS
  have hq : ¬ (s[0].toNat = 124 ∨ s[0].toNat = 34) := by omega
  have htk := takeWhile_at Lx.name s h0
  rw [List.drop_zero] at htk
  by_cases hn : Lx.name s[0] = true
  · have hX : Lx.one s.data.toList = ((3 : Int), s[0] :: (s.data.toList.drop 1).takeWhile Lx.name, (0 : Int), (s.data.toList.drop 1).dropWhile Lx.name) := by
      conv => lhs; rw [whole_head s h0]
      simp [Lx.one, h40, h41, hq, hd, hn]
    rw [if_pos hn] at htk
    obtain ⟨t1, t2⟩ := take_len Lx.name s 0 (Nat.zero_le _)
    rw [List.drop_zero, hv, Nat.zero_add] at t1 t2
    have t3 : s.data.toList.drop v = (s.data.toList.drop 1).dropWhile Lx.name := by
      rw [t2]
      conv => lhs; rw [whole_head s h0]
      rw [List.dropWhile_cons, if_pos hn]
    have hv1 : 0 < v := by rw [← hv, htk]; simp
    have hT := text_of s 0 v h0 hv1 t1 t3
    have hv' : (0 : Int) < (v : Int) := by omega
    have HP := Lib.hid fun W => (kupTo s v 3 W t1).mono fun e w' (h : e = .returned (piece 3 (s.extract 0 v) (v : Nat) 0) ∧ Below W.heap.size W w') => (show PSaid s (3, s[0] :: (s.data.toList.drop 1).takeWhile Lx.name, 0, (s.data.toList.drop 1).dropWhile Lx.name) W e w' from ⟨h.2, fun _ => ⟨_, v, h.1, hT, hv1, t1, t3⟩, fun h => absurd rfl h⟩)
    rw [hX]
    clear hX hT t1 t2 t3 hv htk hq hn hd h40 h41 h124 h34 h58 h35 hv1
    go_enter Tryz.func153, Tryz.ntmps153
    go_wp2_with (first
      | (go_at_call 160; refine (HD.out _).mono ?_; rintro e w1 ⟨rfl, rfl⟩)
      | (go_at_call 158; refine (HS.out _).mono ?_; rintro e w1 ⟨rfl, rfl⟩)
      | (go_at_call 164; refine (HP.out _).mono ?_; rintro e w4 q; obtain ⟨k, T, n, E, rfl, HQ⟩ := q.form; obtain ⟨z0, y0, y1, y2, y3, f0, f1, f2, f3, hl, hb⟩ := HR.out _ q.below; clear q))
    obtain ⟨_, e0, e1, e2, e3⟩ := pc_cells hl.out (.int .i64 k) (.string T) (.int .i64 n) (.int .i64 E)
    exact bodyPost_ret (v := piece k T n E) (by simp [results, Tryz.results153, go_sem, e0, e1, e2, e3]) rfl (HQ.out _ _ (hb.out _ _ _ _))
  · have hX : Lx.one s.data.toList = ((0 : Int), [], (50 : Int), s.data.toList) := by
      conv => lhs; rw [whole_head s h0]
      simp only [Lx.one, h40, h41, hq, hd, hn, h58, h35, if_false]
      rw [← whole_head s h0]
      simp
    rw [if_neg hn] at htk
    obtain rfl : v = 0 := by rw [← hv, htk]; rfl
    have HP := Lib.hid fun W => (kwrong 50 0 W).mono fun e w' (h : e = .returned (piece 0 ⟨#[]⟩ 0 50) ∧ Below W.heap.size W w') => (show PSaid s (0, [], 50, s.data.toList) W e w' from h.1 ▸ PSaid.at_start h.2 (by decide) h0)
    rw [hX]
    clear hX hv htk hq hn hd h40 h41 h124 h34 h58 h35
    go_enter Tryz.func153, Tryz.ntmps153
    go_wp2_with (first
      | (go_at_call 160; refine (HD.out _).mono ?_; rintro e w1 ⟨rfl, rfl⟩)
      | (go_at_call 158; refine (HS.out _).mono ?_; rintro e w1 ⟨rfl, rfl⟩)
      | (go_at_call 170; refine (HP.out _).mono ?_; rintro e w4 q; obtain ⟨k, T, n, E, rfl, HQ⟩ := q.form; obtain ⟨z0, y0, y1, y2, y3, f0, f1, f2, f3, hl, hb⟩ := HR.out _ q.below; clear q))
    obtain ⟨_, e0, e1, e2, e3⟩ := pc_cells hl.out (.int .i64 k) (.string T) (.int .i64 n) (.int .i64 E)
    exact bodyPost_ret (v := piece k T n E) (by simp [results, Tryz.results153, go_sem, e0, e1, e2, e3]) rfl (HQ.out _ _ (hb.out _ _ _ _))
end Go.Proofs.YtfjpcjebecgglaaGreatDoor
namespace Go.Proofs.YtfjpcjebecgglaaGreatDoor
open Go.RowKit Go.Shelf
theorem Lx.skip_twice : ∀ (l : List UInt8) (r : Bool), Lx.skip false (Lx.skip r l) = Lx.skip r l
  | [], _ => rfl
  | c :: t, r => by
    rw [Lx.skip_cons]
    split
    · rename_i hg
      split
      · rename_i h
        have h' := h
        simp at h'
        exact Lx.skip_stays t h'.2 h'.1.2
      · exact Lx.skip_twice t _
    · rename_i hg
      rw [Lx.skip_cons, if_neg hg]
theorem pass_k (s : ByteArray) (a : Nat) (hs : s.size ≤ 1000000) (ha : a ≤ s.size) : ∃ k : Nat, a ≤ k ∧ k ≤ s.size ∧ s.data.toList.drop k = Lx.skip false (s.data.toList.drop a) ∧
    ∀ w, Calls Tryz.prog 151 #[.string s, .int .i64 (a : Nat)] w fun e w' => e = .returned (.int .i64 (k : Nat)) ∧ w' = w := by
  obtain ⟨p, hp⟩ := Lx.skip_end (s.data.toList.drop a) false
  have hl := congrArg List.length hp
  rw [List.length_append, List.length_drop, len_bytes] at hl
  have hk : s.data.toList.drop (a + p.length) = Lx.skip false (s.data.toList.drop a) := by
    rw [← List.drop_drop]
    have := congrArg (List.drop p.length) hp
    rw [List.drop_left] at this
    exact this
  refine ⟨a + p.length, by omega, by omega, hk, fun w => ?_⟩
  refine (kpass s a w (by unfold maxLen; omega) ha).mono ?_
  rintro e w' ⟨k', rfl, rfl, h1, h2, h3⟩
  obtain rfl := drop_inj s h2 (by omega) (h3.trans hk.symm)
  exact ⟨rfl, rfl⟩
theorem klex (s : ByteArray) (w : World) (hs : s.size ≤ 100000000) (hm : MaxL w) :
    Calls Tryz.prog 135 #[.string s] w fun e w' => ∃ A c l E p, e = .returned (.tuple #[.slice A l.length c, .int .i64 E, .int .i64 (p : Nat)]) ∧ LSaid s w A c l E p w' := by
  by_cases hlong : 16384 < s.size
  · have hl' : (16384 : Int) < (s.size : Int) := by omega
    go_enter Tryz.func135, Tryz.ntmps135
    go_wp2
    go_ret3
    exact ⟨none, 0, [], 2, 0, rfl, ⟨OwnL.nil _ _, Below.refl _ _, fun x hx => absurd hx List.not_mem_nil, Nat.zero_le _, by simp, fun _ => ⟨rfl, rfl, rfl⟩, fun h => absurd h (by omega)⟩⟩
  · have hl' : ¬ (16384 : Int) < (s.size : Int) := by omega
    replace hs : s.size ≤ 1000000 := by omega
    obtain ⟨X, HX⟩ : ∃ X, Hid (Lx.lex 4000 s.data.toList = X) := ⟨_, rfl⟩
    have HX0 := Lib.hid HX.out
    obtain ⟨j, hj1, hj2, hj3, HJ⟩ := pass_k s 0 hs (Nat.zero_le _)
    rw [List.drop_zero] at hj3
    replace HJ := Lib.hid HJ
    have HXj : Hid (Lx.skip false (s.data.toList.drop j) = s.data.toList.drop j ∧ X = (Lx.lex 4000 (s.data.toList.drop j))) := ⟨by rw [hj3, Lx.skip_twice], by rw [← HX.out]; exact Lx.lex_skip 4000 (by rw [hj3, Lx.skip_twice])⟩
    have HM := Lib.hid hm
    clear hj1 hj3 hm
    go_enter Tryz.func135, Tryz.ntmps135
    go_wp2_with (go_at_call 151; refine (HJ.out _).mono ?_; rintro e w1 ⟨rfl, rfl⟩)
    go_loopw [5, 6] (fun ov iv wr => ∃ (i m : Nat) (A : Option Addr) (c : Nat) (l : List MTok), i ≤ s.size ∧ m ≤ 4000 ∧ iv = .int .i64 (i : Nat) ∧ ov = .slice A m c ∧ Below w1.heap.size w1 wr ∧
      Hid (Lx.skip false (s.data.toList.drop i) = s.data.toList.drop i ∧ OwnL wr w1.heap.size A c l ∧ l.length = m ∧ (∀ x ∈ l, x.2.2 ≤ s.size) ∧ X = (l.map (pureTok s) ++ (Lx.lex (4000 - m) (s.data.toList.drop i)).1, (Lx.lex (4000 - m) (s.data.toList.drop i)).2))) (fun _ iv _ => s.size - (intOf iv).toNat)
    case atStart => exact ⟨j, 0, none, 0, [], hj2, Nat.zero_le _, rfl, rfl, by first | exact Below.refl _ _ | assumption, ⟨HXj.out.1, OwnL.nil _ _, rfl, fun x hx => absurd hx List.not_mem_nil, by rw [HXj.out.2]; rfl⟩⟩
    case round =>
      clear HX HXj HJ hj2
      obtain ⟨i, m, A, c, l, hi, hm, rfl, rfl, hb, HI⟩ := hrel
      obtain ⟨hsk, ho, hlm, hat, hX⟩ := HI.out
      clear HI
      have HB := Lib.hid hb
      have HO := Lib.hid ho
      have HL := Lib.hid hlm
      have HT := Lib.hid hat
      have hfew : Hid (l.length ≤ 4000) := (by show _ ≤ _; omega)
      have hnl : ¬ 16384 < s.size := hlong
      have end_ : ∀ (E : Int) (p : Nat), p ≤ s.size → X = (l.map (pureTok s), E, s.data.toList.drop p) → Hid (∀ w', Below wr.heap.size wr w' → LSaid s w1 A c l E p w') := fun E p hp hx => Lib.hid fun w' b' =>
        ⟨HO.out.kept b', HB.out.trans (b'.mono HB.out.size), HT.out, hp, hfew.out, fun h => absurd h hnl, fun _ => by rw [HX0.out, hx]; exact ⟨rfl, rfl, rfl⟩⟩
      have HEnd := Lib.hid end_
      by_cases hks : i = s.size
      · subst hks
        rw [drop_end] at hX
        rw [Lx.lex_nil _ (show Lx.skip false [] = [] from rfl)] at hX
        have HZ := Lib.hid (HEnd.out 0 s.size (Nat.le_refl _) (by rw [hX, drop_end]; simp))
        clear hX hsk hb ho hlm hat end_ HEnd
        go_wp2
        go_ret3
        exact ⟨A, c, l, 0, s.size, by rw [HL.out]; rfl, HZ.out.out _ (Below.refl _ _)⟩
      have hklt : i < s.size := by omega
      have hklt' : (i : Int) < (s.size : Int) := by omega
      have hDk := drop_at s hklt
      rw [hDk] at hsk
      have HG := Lib.hid fun W => kscripts s[i] W
      have hwc := rune_c s[i]
      obtain ⟨g, hg⟩ : ∃ g, Lx.good s[i] = g := ⟨_, rfl⟩
      rw [hg] at HG
      rw [hDk] at hX
      cases g with
      | false =>
        rw [Lx.lex_bad _ hsk hg] at hX
        have HZ := Lib.hid (HEnd.out 50 i hi (by rw [hX, hDk]; simp))
        clear hX hb ho hlm hat end_ HEnd hsk hDk hg hks
        go_wp2_with (go_at_call 152; refine (HG.out _).mono ?_; rintro e w5 ⟨rfl, rfl⟩)
        go_ret3
        exact ⟨A, c, l, 50, i, by rw [HL.out]; rfl, HZ.out.out _ (Below.refl _ _)⟩
      | true =>
        by_cases hm4 : m = 4000
        · subst hm4
          rw [Nat.sub_self, Lx.lex_zero hsk hg] at hX
          have HZ := Lib.hid (HEnd.out 2 i hi (by rw [hX, hDk]; simp))
          clear hX hb ho hlm hat end_ HEnd hsk hDk hg hks
          go_wp2_with (go_at_call 152; refine (HG.out _).mono ?_; rintro e w5 ⟨rfl, rfl⟩)
          go_ret3
          exact ⟨A, c, l, 2, i, by rw [HL.out]; rfl, HZ.out.out _ (Below.refl _ _)⟩
        · obtain ⟨r, hr⟩ : ∃ r, 4000 - m = r + 1 := ⟨4000 - m - 1, by omega⟩
          have hr2 : 4000 - (m + 1) = r := by omega
          have hmb : ((m : Int) == 4000) = false := beq_eq_false_iff_ne.2 (by omega)
          rw [hr] at hX
          have hsl := slice_from s i hi
          obtain ⟨c1, c2⟩ := cut_bytes s i s.size (Nat.le_refl _) hi
          rw [List.take_of_length_le (by rw [List.length_drop, len_bytes]; exact Nat.le_refl _)] at c1
          have H1 := Lib.hid fun W hW => kfirst (s.extract i s.size) W (by omega) (by omega) hW
          obtain ⟨Y, hY⟩ : ∃ Y, Lx.one (s.data.toList.drop i) = Y := ⟨_, rfl⟩
          rw [c1, hY] at H1
          rw [hDk] at hY
          have HMr := Lib.hid (HM.out.below HB.out)
          have HC := Lib.hid (And.intro c1 c2)
          by_cases he : Y.2.2.1 = 0
          · rw [Lx.lex_ok r hsk hg (by rw [hY]; exact he), hY] at hX
            have HE := Lib.hid he
            have hm3 : m + 1 ≤ 4000 := by omega
            have HOn : Hid (∀ w2, Below wr.heap.size wr w2 → ∀ o, OwnL (w2.alloc o) w1.heap.size A c l ∧ Below w1.heap.size w1 w2 ∧ w1.heap.size ≤ w2.heap.size) := fun w2 b2 o => ⟨HO.out.kept (b2.alloc b2.size o), HB.out.trans (b2.mono HB.out.size), Nat.le_trans HB.out.size b2.size⟩
            have HXn : Hid (∀ (T : ByteArray) (b k : Nat), T.data.toList = Y.2.1 → s.data.toList.drop b = Y.2.2.2 → s.data.toList.drop k = Lx.skip false (s.data.toList.drop b) → Lx.skip false (s.data.toList.drop k) = s.data.toList.drop k ∧ X = ((l ++ [(Y.1, T, i)]).map (pureTok s) ++ (Lx.lex (4000 - (m + 1)) (s.data.toList.drop k)).1, (Lx.lex (4000 - (m + 1)) (s.data.toList.drop k)).2)) := fun T b k e1 e2 e3 => by
              refine ⟨by rw [e3, Lx.skip_twice], ?_⟩
              rw [hX, ← e2, hr2, List.map_append, Lx.lex_skip r (show Lx.skip false (s.data.toList.drop b) = Lx.skip false (s.data.toList.drop k) by rw [e3, Lx.skip_twice])]
              have : (s[i] :: s.data.toList.drop (i + 1)).length = s.size - i := by rw [← hDk, List.length_drop, len_bytes]
              simp only [List.map_cons, List.map_nil, pureTok, e1, this, List.append_assoc, List.cons_append, List.nil_append]
            have HO2 : Hid (∀ w2 w3 o1 o2, Below w1.heap.size w1 w2 → w1.heap.size ≤ w2.heap.size → ((w2.alloc o1).grownBy w3 (Value.slice A m c).ownBlock) → (Value.slice A m c).ownBlock = o2 → Below w1.heap.size w1 w3) := fun w2 w3 o1 o2 b2 z2 g3 _ =>
              (b2.alloc z2 o1).grown g3 (Nat.le_trans z2 (by simp)) (fun q hq => (HO.out.lt q (by rw [HL.out]; exact hq)).1)
            have HBX : Hid (∀ w2 w3 cs, Below wr.heap.size wr w2 → ((w2.alloc (.cells cs 212)).grownBy w3 (Value.slice A m c).ownBlock) → Lies w3 w2.heap.size 212 cs) := fun w2 w3 cs b2 g3 =>
              (Turn.of_grown (F := fun q => (Value.slice A m c).ownBlock = some q) g3 (fun q hq _ => hq)).lies (Lies.new w2 212 cs) (fun hq => absurd (HO.out.lt _ (by rw [HL.out]; exact hq)).2 (Nat.not_lt.2 b2.size))
            have HPK := Lib.hid fun (b : Nat) (hb : b ≤ s.size) => pass_k s b hs hb
            clear hX hb ho hlm hat end_ HEnd hsk hDk hg hks hY he hr hr2 hm4 c1 HX0
            go_wp2_with (first
              | (go_at_call 152; refine (HG.out _).mono ?_; rintro e w5 ⟨rfl, rfl⟩)
              | (go_at_call 153; refine (H1.out _ HMr.out).mono ?_; rintro e w2 q; obtain ⟨T, b, rfl, hT, hb1, hb2, hb3⟩ := q.ok HE.out; have QT := Lib.hid hT; have QB := Lib.hid hb3; have QW := Lib.hid q.below; clear q hT hb3; obtain ⟨d, hd⟩ : ∃ d, i + b = d := ⟨_, rfl⟩; have hdi : (i : Int) + (b : Int) = (d : Int) := (by omega); obtain ⟨k, hk1, hk2, hk3, hk4⟩ := HPK.out d (by omega); have HK4 := Lib.hid hk4; have HK3 := Lib.hid hk3; clear hk3 hk4)
              | (go_at_call 151; refine (HK4.out _).mono ?_; rintro e w6 ⟨rfl, rfl⟩)
              | (at_builtin; refine appendL _ rfl (.tmp 44) (.tmp 51) rfl w1.heap.size A c l m HL.out (Y.1, T, i) _ (by simp) rfl (HOn.out _ QW.out _).1 rfl (by omega) (Nat.le_trans (HOn.out _ QW.out (.cells #[] 0)).2.2 (by simp)) ?_; intro A3 c3 w3 o3 g3; have O3 := Lib.hid o3; have B3 := Lib.hid (HO2.out _ _ _ _ (HOn.out _ QW.out (.cells #[] 0)).2.1 (HOn.out _ QW.out (.cells #[] 0)).2.2 g3 rfl); have HLi := HBX.out _ _ _ QW.out g3; have z2 := HLi.cell 2; simp at z2; have z3 := HLi.lt; clear o3 g3 HLi))
            go_roundw
            case rel => exact ⟨k, m + 1, A3, c3, l ++ [(Y.1, T, i)], hk2, hm3, rfl, rfl, B3.out, ⟨(HXn.out T d k QT.out (by rw [← hd, ← List.drop_drop, ← HC.out.1]; exact QB.out) HK3.out).1, O3.out, by rw [List.length_append, HL.out]; rfl, fun x hx => (by rcases List.mem_append.1 hx with h | h; exact HT.out x h; rw [List.mem_singleton.1 h]; exact hi), (HXn.out T d k QT.out (by rw [← hd, ← List.drop_drop, ← HC.out.1]; exact QB.out) HK3.out).2⟩⟩
            case measure => simp [intOf]; omega
          · rw [Lx.lex_err r hsk hg (by rw [hY]; exact he), hY] at hX
            have HE := Lib.hid he
            have HZ : Hid (∀ p : Nat, i + p < s.size → (s.extract i s.size).data.toList.drop p = Y.2.2.2 → ∀ w', Below wr.heap.size wr w' → LSaid s w1 A c l Y.2.2.1 (i + p : Nat) w') := fun p hp e2 w' b' =>
              (HEnd.out Y.2.2.1 (i + p) (by omega) (by rw [hX, ← e2, HC.out.1, List.drop_drop]; simp)).out w' b'
            obtain ⟨E, hE⟩ : ∃ E, Y.2.2.1 = E := ⟨_, rfl⟩
            have hEb : (E == 0) = false := by rw [← hE]; exact beq_eq_false_iff_ne.2 he
            have hEn : (E != 0) = true := by rw [bne, hEb]; rfl
            have HEq := Lib.hid hE
            clear hX hb ho hlm hat end_ HEnd hsk hDk hg hks hY he hr hr2 hm4 hE c1 HX0
            go_wp2_with (first
              | (go_at_call 152; refine (HG.out _).mono ?_; rintro e w5 ⟨rfl, rfl⟩)
              | (go_at_call 153; refine (H1.out _ HMr.out).mono ?_; rintro e w2 q; obtain ⟨p, rfl, hp1, hp3⟩ := q.bad HE.out; rw [HEq.out]; have QB := Lib.hid hp3; have QW := Lib.hid q.below; clear q hp3; obtain ⟨d, hd⟩ : ∃ d, i + p = d := ⟨_, rfl⟩; have hdi : (i : Int) + (p : Int) = (d : Int) := (by omega)))
            go_quiet (fail)
            go_wp2
            go_ret3
            exact ⟨A, c, l, Y.2.2.1, d, by rw [HL.out, HEq.out]; rfl, hd ▸ HZ.out p (by omega) QB.out _ (((QW.out.alloc QW.out.size _).trans (Turn.none_ ((Turn.refl (fun _ => False) _).drewN _) (fun _ => id) |>.mono (by simp; exact Nat.le_succ_of_le QW.out.size))))⟩
end Go.Proofs.YtfjpcjebecgglaaGreatDoor
namespace Go.Proofs.YtfjpcjebecgglaaGreatDoor
open Go.RowKit Go.Shelf
theorem kwrite (k : Int) (T : ByteArray) (at_ : Int) (w : World) (hT : T.size ≤ 1100000) (hm : MaxL w) :
    Calls Tryz.prog 134 #[.agg #[.int .i64 k, .string T, .int .i64 at_]] w fun e w' =>
      ∃ V : ByteArray, e = .returned (.string V) ∧ V.data.toList = Lx.show k T.data.toList ∧ V.size ≤ 4000000 ∧ Below w.heap.size w w' := by
  obtain ⟨X, hX⟩ : ∃ X, Lx.show k T.data.toList = X := ⟨_, rfl⟩
  rw [hX]
  have HX := Lib.hid hX
  obtain ⟨sm, hsm⟩ : ∃ b, Lx.simple T.data.toList = b := ⟨_, rfl⟩
  have HS := Lib.hid fun W => ksimple T W (by unfold maxLen; omega)
  rw [hsm] at HS
  have HSM := Lib.hid hsm
  have HBa := Lib.hid ((Below.refl _ w).alloc (Nat.le_refl _) (tbox k T at_))
  have HMa := Lib.hid (hm.alloc (tbox k T at_))
  have hTs : T.size ≤ 4000000 := by omega
  have hadd : ∀ (a b : ByteArray) (W : World), a.size ≤ 8388608 → b.size ≤ 8388608 → (Op.stringOp .add a b).run Tryz.prog W = .ok (.string (a ++ b)) W := fun a b W ha hb => run_string_add W a b (by omega) (by omega)
  clear hX hsm hm
  have hways : (k = 3 ∧ sm = true) ∨ (k = 3 ∧ sm = false) ∨ k = 6 ∨ (k ≠ 3 ∧ k ≠ 6) := by
    by_cases h3 : k = 3
    · cases sm
      · exact .inr (.inl ⟨h3, rfl⟩)
      · exact .inl ⟨h3, rfl⟩
    · by_cases h6 : k = 6
      · exact .inr (.inr (.inl h6))
      · exact .inr (.inr (.inr ⟨h3, h6⟩))
  rcases hways with ⟨hk, rfl⟩ | ⟨hk, rfl⟩ | hk | ⟨h3, h6⟩
  · have k3 : (k == 3) = true := beq_iff_eq.2 hk
    have k6 : (k == 6) = false := beq_eq_false_iff_ne.2 (by omega)
    have HV : Hid (T.data.toList = X) := by show _ = _; rw [← HX.out, hk, Lx.show, if_pos rfl, if_pos HSM.out]
    clear hk hadd
    go_enter Tryz.func134, Tryz.ntmps134
    go_wp2_with (go_at_call 149; refine (HS.out _).mono ?_; rintro e w1 ⟨rfl, q, rfl⟩)
    go_ret
    exact ⟨T, rfl, HV.out, hTs, HBa.out.trans ((Turn.none_ ((Turn.refl (fun _ => False) _).drewN _) (fun _ => id)).mono (by simp))⟩
  · have k3 : (k == 3) = true := beq_iff_eq.2 hk
    have k6 : (k == 6) = false := beq_eq_false_iff_ne.2 (by omega)
    have a1 := fun W => hadd ⟨#[124]⟩ T W (by decide) (by omega)
    obtain ⟨V1, hV1⟩ : ∃ V : ByteArray, ⟨#[124]⟩ ++ T = V := ⟨_, rfl⟩
    obtain ⟨q1, q2⟩ := app_bytes ⟨#[124]⟩ T
    rw [hV1] at a1 q1 q2
    have q2' : V1.size ≤ 1100001 := by rw [q2]; show 1 + T.size ≤ _; omega
    have a2 := fun W => hadd V1 ⟨#[124]⟩ W (by omega) (by decide)
    obtain ⟨V, hV⟩ : ∃ V : ByteArray, V1 ++ ⟨#[124]⟩ = V := ⟨_, rfl⟩
    obtain ⟨q3, q4⟩ := app_bytes V1 ⟨#[124]⟩
    rw [hV] at a2 q3 q4
    have HV : Hid (V.data.toList = X) := by show _ = _; rw [← HX.out, hk, Lx.show, if_pos rfl, if_neg (by rw [HSM.out]; decide), q3, q1]; rfl
    have hVs : V.size ≤ 4000000 := by rw [q4]; show V1.size + 1 ≤ _; omega
    clear hk hadd hV1 hV q1 q2 q3 q4 q2'
    go_enter Tryz.func134, Tryz.ntmps134
    go_wp2_with (go_at_call 149; refine (HS.out _).mono ?_; rintro e w1 ⟨rfl, q, rfl⟩)
    go_ret
    exact ⟨V, rfl, HV.out, hVs, HBa.out.trans ((Turn.none_ ((Turn.refl (fun _ => False) _).drewN _) (fun _ => id)).mono (by simp))⟩
  · have k3 : (k == 3) = false := beq_eq_false_iff_ne.2 (by omega)
    have k6 : (k == 6) = true := beq_iff_eq.2 hk
    obtain ⟨V0, hV0⟩ : ∃ V : ByteArray, (⟨(Lx.dbl T.data.toList).toArray⟩ : ByteArray) = V := ⟨_, rfl⟩
    have HD := Lib.hid fun W hW => kdouble T W hW hTs
    have q0 : V0.data.toList = Lx.dbl T.data.toList := by rw [← hV0]
    have q0' : V0.size ≤ 2200000 := by
      have := Lx.dbl_len T.data.toList
      rw [← len_bytes, q0]
      rw [len_bytes] at this
      omega
    rw [hV0] at HD
    have a1 := fun W => hadd ⟨#[34]⟩ V0 W (by decide) (by omega)
    obtain ⟨V1, hV1⟩ : ∃ V : ByteArray, ⟨#[34]⟩ ++ V0 = V := ⟨_, rfl⟩
    obtain ⟨q1, q2⟩ := app_bytes ⟨#[34]⟩ V0
    rw [hV1] at a1 q1 q2
    have q2' : V1.size ≤ 2200001 := by rw [q2]; show 1 + V0.size ≤ _; omega
    have a2 := fun W => hadd V1 ⟨#[34]⟩ W (by omega) (by decide)
    obtain ⟨V, hV⟩ : ∃ V : ByteArray, V1 ++ ⟨#[34]⟩ = V := ⟨_, rfl⟩
    obtain ⟨q3, q4⟩ := app_bytes V1 ⟨#[34]⟩
    rw [hV] at a2 q3 q4
    have HV : Hid (V.data.toList = X) := by show _ = _; rw [← HX.out, hk, Lx.show, if_neg (by decide), if_pos rfl, q3, q1, q0]; rfl
    have hVs : V.size ≤ 4000000 := by rw [q4]; show V1.size + 1 ≤ _; omega
    clear hk hadd hV0 q0 q0' hV1 hV q1 q2 q3 q4 q2'
    go_enter Tryz.func134, Tryz.ntmps134
    go_wp2_with (go_at_call 150; refine (HD.out _ HMa.out).mono ?_; rintro e w1 ⟨rfl, b1⟩)
    go_ret
    exact ⟨V, rfl, HV.out, hVs, HBa.out.trans (b1.mono (by simp))⟩
  · have k3 : (k == 3) = false := beq_eq_false_iff_ne.2 h3
    have k6 : (k == 6) = false := beq_eq_false_iff_ne.2 h6
    have HV : Hid (T.data.toList = X) := by show _ = _; rw [← HX.out, Lx.show, if_neg h3, if_neg h6]
    clear h3 h6 hadd
    go_enter Tryz.func134, Tryz.ntmps134
    go_wp2
    go_ret
    exact ⟨T, rfl, HV.out, hTs, HBa.out⟩
end Go.Proofs.YtfjpcjebecgglaaGreatDoor
namespace Go.Proofs.YtfjpcjebecgglaaGreatDoor
open Go.RowKit Go.Shelf
theorem kshow (k : Int) (T : ByteArray) (at_ : Int) (w : World) (hT : T.size ≤ 1100000) (hm : MaxL w) :
    Calls Tryz.prog 118 #[.agg #[.int .i64 k, .string T, .int .i64 at_]] w fun e w' =>
      (if Lx.okShow k T.data.toList then ∃ V : ByteArray, e = .returned (.tuple #[.string V, .int .i64 0]) ∧ V.data.toList = Lx.show k T.data.toList else e = .returned (.tuple #[.string ⟨#[]⟩, .int .i64 1])) ∧ Below w.heap.size w w' := by
  obtain ⟨ok, hok⟩ : ∃ b, Lx.okShow k T.data.toList = b := ⟨_, rfl⟩
  obtain ⟨X, hX⟩ : ∃ X, Lx.show k T.data.toList = X := ⟨_, rfl⟩
  rw [hok, hX]
  obtain ⟨Post, hPost⟩ : ∃ Post : Ending → World → Prop, Post = fun e w' => (if ok then ∃ V : ByteArray, e = .returned (.tuple #[.string V, .int .i64 0]) ∧ V.data.toList = X else e = .returned (.tuple #[.string ⟨#[]⟩, .int .i64 1])) ∧ Below w.heap.size w w' := ⟨_, rfl⟩
  rw [← hPost]
  have HPo := Lib.hid hPost
  have HOK := Lib.hid hok
  have HX := Lib.hid hX
  have HW1 := Lib.hid ((Below.refl _ w).alloc (Nat.le_refl _) (tbox k T at_))
  have HMa := Lib.hid (hm.alloc (tbox k T at_))
  have HWr := Lib.hid fun W hW => kwrite k T at_ W hT hW
  have HL := Lib.hid fun (V : ByteArray) (hV : V.size ≤ 4000000) W hW => klex V W (by omega) hW
  clear hPost hok hX hm
  go_enter Tryz.func118, Tryz.ntmps118
  go_wp2_with (first
    | (go_at_call 134; refine (HWr.out _ HMa.out).mono ?_; rintro e w1 ⟨V, rfl, hV, hVs, b1⟩; rw [HX.out] at hV; have HV := Lib.hid hV; have B1 := Lib.hid b1; have HM1 := Lib.hid (HMa.out.below b1); clear hV b1)
    | (go_at_call 135; refine (HL.out _ hVs _ HM1.out).mono ?_; rintro e w2 ⟨A9, c9, l9, E, p9, rfl, q⟩
       have hok := show_ok (HV.out.trans HX.out.symm) q
       rw [HOK.out] at hok
       have hB := B1.out.trans (q.below.mono B1.out.size)
       have hBx := (Turn.of_below (F := fun _ => False) hB).lies (Lies.new w 46 #[.int .i64 k, .string T, .int .i64 at_]) id
       have HB2 : Hid (∀ n, Below w.heap.size w (w2.drewN n)) := fun n => (HW1.out.trans (hB.mono HW1.out.size)).trans ((Turn.none_ ((Turn.refl (fun _ => False) w2).drewN n) (fun _ => id)).mono (HW1.out.trans (hB.mono HW1.out.size)).size)
       have z0 := hBx.lt
       have z1 := hBx.cell 0
       have z2 := hBx.cell 1
       simp at z1 z2
       have HTk := q.own.toks
       clear hB hBx q))
  clear HL HOK HX HW1 HMa HWr B1 HM1 hVs
  by_cases hE : E = 0
  · subst hE
    rw [decide_eq_true rfl, Bool.true_and] at hok
    obtain ⟨n9, hn9⟩ : ∃ n9, l9.length = n9 := ⟨_, rfl⟩
    rw [hn9] at HTk ⊢
    by_cases h1 : n9 = 1
    case neg =>
      obtain rfl : ok = false := by
        rw [hok, decide_eq_false_iff_not]
        intro e
        have := congrArg List.length e
        rw [List.length_map, hn9] at this
        exact h1 this
      have hl : (n9 : Int) ≠ 1 := by omega
      have b1 : ((n9 : Int) != 1) = true := bne_iff_ne.2 hl
      have b2 : ((n9 : Int) == 1) = false := beq_eq_false_iff_ne.2 hl
      clear hok HTk hn9 hl h1
      go_quiet (fail)
      go_wp2
      rw [HPo.out]
      exact ⟨by rw [if_neg (by decide)]; rfl, HB2.out _⟩
    case pos =>
      obtain ⟨x, rfl⟩ : ∃ x, l9 = [x] := List.length_eq_one_iff.1 (hn9.trans h1)
      obtain ⟨b, off, x', rfl, hx', _, hc⟩ := HTk.get (i := 0) (by omega)
      obtain rfl : x' = toI x := by simpa using hx'.symm
      obtain ⟨y0, y1, y2, _⟩ := hc _ (Below.refl _ w2)
      simp only [Nat.zero_mul, Nat.add_zero] at y1 y2
      obtain ⟨xk, xt, xa⟩ := x
      simp only [toI] at y1 y2
      have b3 : ((n9 : Int) != 1) = false := by rw [h1]; rfl
      have b4 : ((n9 : Int) == 1) = true := by rw [h1]; rfl
      have h0 : (0 : Int) < (n9 : Int) := by omega
      have h0' : 0 < n9 := by omega
      clear HTk hx' hc hn9 h1
      by_cases hk : xk = k
      · subst hk
        by_cases ht : xt.data.toList = T.data.toList
        · obtain rfl : ok = true := by rw [hok]; simp [ht]
          have b1 : (xt.toList == T.toList) = true := by rw [ByteArray.toList_eq, ByteArray.toList_eq]; exact beq_iff_eq.2 ht
          have b2 : (xt.toList != T.toList) = false := by rw [bne, b1]; rfl
          clear hok ht
          go_quiet (fail)
          go_wp2
          rw [HPo.out]
          exact ⟨by rw [if_pos trivial]; exact ⟨_, rfl, HV.out⟩, HB2.out _⟩
        · obtain rfl : ok = false := by rw [hok]; simp [ht]
          have b1 : (xt.toList == T.toList) = false := by rw [ByteArray.toList_eq, ByteArray.toList_eq]; exact beq_eq_false_iff_ne.2 ht
          have b2 : (xt.toList != T.toList) = true := by rw [bne, b1]; rfl
          clear hok ht
          go_quiet (fail)
          go_wp2
          rw [HPo.out]
          exact ⟨by rw [if_neg (by decide)]; rfl, HB2.out _⟩
      · obtain rfl : ok = false := by rw [hok]; simp [hk]
        have b1 : (xk != k) = true := bne_iff_ne.2 hk
        have b2 : (xk == k) = false := beq_eq_false_iff_ne.2 hk
        clear hok hk
        go_quiet (fail)
        go_wp2
        rw [HPo.out]
        exact ⟨by rw [if_neg (by decide)]; rfl, HB2.out _⟩
  · obtain rfl : ok = false := by rw [hok, decide_eq_false hE]; rfl
    have b1 : (E != 0) = true := bne_iff_ne.2 hE
    have b2 : (E == 0) = false := beq_eq_false_iff_ne.2 hE
    obtain ⟨n9, hn9⟩ : ∃ n9, l9.length = n9 := ⟨_, rfl⟩
    rw [hn9]
    clear hok hE HTk hn9
    go_quiet (fail)
    go_wp2
    rw [HPo.out]
    exact ⟨by rw [if_neg (by decide)]; rfl, HB2.out _⟩
end Go.Proofs.YtfjpcjebecgglaaGreatDoor
