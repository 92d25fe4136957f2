/- The code's pieces: quoted, over the library's HasPrefix and ReplaceAll. -/
import Derived.Test.YtpjdfogieiokkaaDoorK6
namespace Go.Proofs.YtpjdfogieiokkaaDoor
open Go.RowKit Go.Shelf

/-- the library's own variable holds some number -/
def MaxL (w : World) : Prop := ∃ m : Int, w.cell? ⟨0, 0, none⟩ = some (.int .i64 m)
theorem MaxL.below {w w' : World} (h : MaxL w) (hb : Below w.heap.size w w') : MaxL w' := by
  obtain ⟨m, hm⟩ := h
  exact ⟨m, (hb.cell (p := ⟨0, 0, none⟩) (World.block_lt_of_cell? w _ hm)).trans hm⟩
theorem MaxL.alloc {w : World} (h : MaxL w) (o : Obj) : MaxL (w.alloc o) := h.below ((Below.refl _ w).alloc (Nat.le_refl _) o)
theorem MaxL.drewN {w : World} (h : MaxL w) (n : Nat) : MaxL (w.drewN n) := h.below (Turn.none_ ((Turn.refl (fun _ => False) w).drewN n) (fun _ => id))

theorem count_room (s : ByteArray) (sub : ByteArray) (n : Nat) (hn : n ≤ 2) (hs : s.size ≤ 4000000) : s.size + Lib.countB s sub * n ≤ 140737488355328 := by
  have h : Lib.countB s sub ≤ s.size + 1 := by
    have := Lib.count_le s.data.toList sub.data.toList
    rw [len_bytes] at this
    exact this
  have h2 : Lib.countB s sub * n ≤ (s.size + 1) * 2 := Nat.mul_le_mul h hn
  omega
/-- each quote is doubled -/
theorem kdouble (V : ByteArray) (W : World) (hm : MaxL W) (hs : V.size ≤ 4000000) :
    Calls Tryd.prog 73 #[.string V, .string ⟨#[34]⟩, .string ⟨#[34, 34]⟩] W fun e w' => e = .returned (.string ⟨(Lx.dbl V.data.toList).toArray⟩) ∧ Below W.heap.size W w' := by
  obtain ⟨m, hm⟩ := hm
  have := Tryd.strings_ReplaceAll V ⟨#[34]⟩ ⟨#[34, 34]⟩ m W (by omega) hm (by decide) (count_room _ _ _ (by decide) hs)
  rw [show (⟨#[34]⟩ : ByteArray).data.toList = [34] from rfl, show (⟨#[34, 34]⟩ : ByteArray).data.toList = [34, 34] from rfl, Lx.rep_all _ _ _ (by decide), Lx.rep_dbl] at this
  exact this
/-- .. and is single again -/
theorem ksingle (V : ByteArray) (l : List UInt8) (hV : V.data.toList = Lx.dbl l) (W : World) (hm : MaxL W) (hs : V.size ≤ 4000000) :
    Calls Tryd.prog 73 #[.string V, .string ⟨#[34, 34]⟩, .string ⟨#[34]⟩] W fun e w' => e = .returned (.string ⟨l.toArray⟩) ∧ Below W.heap.size W w' := by
  obtain ⟨m, hm⟩ := hm
  have := Tryd.strings_ReplaceAll V ⟨#[34, 34]⟩ ⟨#[34]⟩ m W (by omega) hm (by decide) (count_room _ _ _ (by decide) hs)
  rw [show (⟨#[34]⟩ : ByteArray).data.toList = [34] from rfl, show (⟨#[34, 34]⟩ : ByteArray).data.toList = [34, 34] from rfl, Lx.rep_all _ _ _ (by decide), hV, Lx.rep_undbl] at this
  exact this

theorem khas (V : ByteArray) (W : World) (hs : V.size ≤ 1000000) :
    Calls Tryd.prog 72 #[.string V, .string ⟨#[34, 34]⟩] W fun e w' => e = .returned (.bool (decide (2 ≤ V.size) && (V.data.toList.take 2 == [34, 34]))) ∧ w' = W := by
  have hl : Calls Tryd.prog 79 #[.string V, .string ⟨#[34, 34]⟩] W fun e w' => e = .returned (.bool (decide (2 ≤ V.size) && (V.data.toList.take 2 == [34, 34]))) ∧ w' = W := by
    by_cases h2 : 2 ≤ V.size
    · have h2' : (2 : Int) ≤ (V.size : Int) := by omega
      have hsl := slice_to V 2 h2
      have hc : ((V.extract 0 2).toList == [34, 34]) = (V.data.toList.take 2 == [34, 34]) := by
        rw [ByteArray.toList_eq, (cut_bytes V 0 2 h2 (Nat.zero_le _)).1]
        rfl
      obtain ⟨b, hb⟩ : ∃ b, (V.data.toList.take 2 == [34, 34]) = b := ⟨_, rfl⟩
      rw [hb] at hc
      rw [hb, decide_eq_true h2]
      clear hb h2
      go_enter Tryd.func79, Tryd.ntmps79
      go_wp2
      go_ret
      exact ⟨by cases b <;> rfl, rfl⟩
    · have h2' : ¬ (2 : Int) ≤ (V.size : Int) := by omega
      rw [decide_eq_false h2]
      clear h2
      go_enter Tryd.func79, Tryd.ntmps79
      go_wp2
      go_ret
      exact ⟨rfl, rfl⟩
  have HL := Lib.hid hl
  obtain ⟨b, hb⟩ : ∃ b, (decide (2 ≤ V.size) && (V.data.toList.take 2 == [34, 34])) = b := ⟨_, rfl⟩
  rw [hb] at HL ⊢
  clear hl hb
  go_enter Tryd.func72, Tryd.ntmps72
  go_wp2_with (go_at_call 79; refine HL.out.mono ?_; rintro e w1 ⟨rfl, rfl⟩)
  go_ret
  exact ⟨rfl, rfl⟩

set_option maxHeartbeats 3200000 in
theorem kquoted (s : ByteArray) (w : World) (hs : s.size ≤ 1000000) (h0 : 0 < s.size) (h34 : s[0].toNat = 34) (hm : MaxL w) :
    Calls Tryd.prog 50 #[.string s] w (PSaid s (Lx.one s.data.toList) w) := by
  have HR := Lib.hid fun (w4 : World) b4 => pc_store w (w4 := w4) b4
  have HM := Lib.hid (hm.alloc (.cells ZP 64))
  have hs0 : s[0] = 34 := Lx.byte_eq h34
  obtain ⟨X, hX⟩ : ∃ X, Lx.quo 34 (s.data.toList.drop 1) = X := ⟨_, rfl⟩
  have hone : Lx.one s.data.toList = if X.2.1 = 0 then ((6 : Int), X.1, (0 : Int), X.2.2) else if X.2.1 = 50 then (0, [], 50, X.2.2) else (0, [], 51, s.data.toList) := by
    have hw := whole_head s h0
    rw [hs0] at hw
    rw [← hX]
    generalize s.data.toList.drop 1 = L at hw
    rw [hw]
    rfl
  obtain ⟨Y, hY⟩ : ∃ Y, Y = if X.2.1 = 0 then ((6 : Int), X.1, (0 : Int), X.2.2) else if X.2.1 = 50 then (0, [], 50, X.2.2) else (0, [], 51, s.data.toList) := ⟨_, rfl⟩
  rw [hone, ← hY]
  have HY := Lib.hid hY
  have hX0 : Hid (X = ([] ++ (Lx.quo 34 (s.data.toList.drop 1)).1, (Lx.quo 34 (s.data.toList.drop 1)).2)) := by
    show _ = _
    rw [hX]
    rfl
  clear hone hX hs0 h34 hm hY
  go_enter Tryd.func50, Tryd.ntmps50
  go_wp2
  go_loopw [3] (fun iv wr => ∃ i : Nat, 1 ≤ i ∧ i ≤ s.size ∧ iv = .int .i64 (i : Nat) ∧ wr = w.alloc (.cells ZP 64) ∧
    Hid (∃ l, (s.data.toList.drop 1).take (i - 1) = Lx.dbl l ∧ X = (l ++ (Lx.quo 34 (s.data.toList.drop i)).1, (Lx.quo 34 (s.data.toList.drop i)).2))) (fun iv _ => s.size - (intOf iv).toNat)
  case atStart => exact ⟨1, Nat.le_refl _, h0, by first | rfl | go_num, rfl, ⟨[], by rw [Nat.sub_self, List.take_zero]; rfl, hX0.out⟩⟩
  case round =>
    clear hX0
    obtain ⟨i, hi1, hi, rfl, rfl, HI⟩ := hrel
    obtain ⟨l, hl, hX⟩ := HI.out
    obtain ⟨k, hk, hk1, hk2, HS⟩ := span_end _ enter_clos3 (Lx.but 34) kclos3 s i (by unfold maxLen; omega) hi
    replace HS := Lib.hid HS
    have hsl := slice_from s i hi
    obtain ⟨T, hT⟩ : ∃ T, (s.data.toList.drop i).takeWhile (Lx.but 34) = T := ⟨_, rfl⟩
    have hq := Lx.quo_span 34 (s.data.toList.drop i)
    rw [show (34 : UInt8).toNat = 34 from rfl, ← hk2, hT] at hq
    rw [hq] at hX
    obtain ⟨e, he⟩ : ∃ e, i + k = e := ⟨_, rfl⟩
    rw [he] at hk1 hk2 hX
    have hki : (i : Int) + (k : Int) = (e : Int) := by omega
    have he1 : 1 ≤ e := by omega
    clear HI hq
    by_cases hes : e = s.size
    · rw [hes, drop_end] at hX
      have hX1 : X.2.1 = 51 := by rw [hX]; rfl
      obtain rfl : Y = (0, [], 51, s.data.toList) := by rw [HY.out, hX1, if_neg (by decide), if_neg (by decide)]
      have HW := Lib.hid fun W => kwrong 51 0 W
      have hb : ((e : Int) == (s.size : Int)) = true := beq_iff_eq.2 (by omega)
      clear hX hX1 hk hk2 hT he hl hes HY
      go_wp2_with (first
        | (go_at_call 45; refine (HS.out _).mono ?_; rintro e w1 ⟨rfl, rfl⟩)
        | (go_at_call 56; refine (HW.out _).mono ?_; rintro e w4 ⟨rfl, b4⟩; obtain ⟨z0, y0, y1, y2, y3, f0, f1, f2, f3, hl, hb⟩ := HR.out _ b4))
      obtain ⟨_, e0, e1, e2, e3⟩ := pc_cells hl.out (.int .i64 0) (.string ⟨#[]⟩) (.int .i64 0) (.int .i64 51)
      exact bodyPost_ret (v := piece 0 ⟨#[]⟩ 0 51) (by simp [results, Tryd.results50, go_sem, e0, e1, e2, e3]) rfl (PSaid.at_start (hb.out _ _ _ _) (by decide) h0)
    have hlt : e < s.size := by omega
    have hlt' : (e : Int) < (s.size : Int) := by omega
    have hb : ((e : Int) == (s.size : Int)) = false := beq_eq_false_iff_ne.2 (by omega)
    have hDe := drop_at s hlt
    by_cases hc : s[e].toNat = 34
    · have hb2 : ((s[e].toNat : Int) != 34) = false := by rw [bne, beq_iff_eq.2 (by omega : (s[e].toNat : Int) = 34)]; rfl
      have hse : s[e] = 34 := Lx.byte_eq hc
      have hTd : Lx.dbl (l ++ T) = (s.data.toList.drop 1).take (e - 1) := by
        have hTl : T.length = e - i := by rw [← hT, ← hk]; omega
        have h3 := congrArg (List.take T.length) (Lx.take_drop (Lx.but 34) (s.data.toList.drop i))
        rw [hT, List.take_left, hTl] at h3
        have h4 : s.data.toList.drop i = (s.data.toList.drop 1).drop (i - 1) := by rw [List.drop_drop]; congr 1; omega
        rw [Lx.dbl_app, ← hl, Lx.dbl_none T (by rw [← hT]; exact Lx.but_take 34 _), show e - 1 = (i - 1) + (e - i) by omega, List.take_add, ← h4, ← h3]
      obtain ⟨c1, c2⟩ := cut_bytes s e s.size (Nat.le_refl _) (by omega)
      rw [List.take_of_length_le (by rw [List.length_drop, len_bytes]; exact Nat.le_refl _)] at c1
      have hsl2 := slice_from s e hk1
      have HP := Lib.hid fun W => khas (s.extract e s.size) W (by omega)
      by_cases ht : ∃ u, s.data.toList.drop (e + 1) = 34 :: u
      · obtain ⟨u, hu⟩ := ht
        have he2 : e + 1 < s.size := by
          have := congrArg List.length hu
          rw [List.length_drop, len_bytes, List.length_cons] at this
          omega
        have hu2 : u = s.data.toList.drop (e + 2) := by
          have := drop_at s he2
          rw [hu] at this
          injection this
        have hpre : (decide (2 ≤ (s.extract e s.size).size) && ((s.extract e s.size).data.toList.take 2 == [34, 34])) = true := by
          rw [decide_eq_true (by omega), c1, hDe, hu, hse]
          rfl
        rw [hpre] at HP
        rw [hDe, hse, hu, Lx.quo_twice _ (by decide) (by decide)] at hX
        have HN : Hid (∃ l, (s.data.toList.drop 1).take (e + 2 - 1) = Lx.dbl l ∧ X = (l ++ (Lx.quo 34 (s.data.toList.drop (e + 2))).1, (Lx.quo 34 (s.data.toList.drop (e + 2))).2)) := by
          refine ⟨l ++ T ++ [34], ?_, by rw [hX, ← hu2]; simp⟩
          have h4 : s.data.toList.drop e = (s.data.toList.drop 1).drop (e - 1) := by rw [List.drop_drop]; congr 1; omega
          rw [Lx.dbl_app, hTd, show e + 2 - 1 = (e - 1) + 2 by omega, List.take_add, ← h4, hDe, hu, hse]
          rfl
        clear hX hk hk2 hT he hl hes hTd hpre c1 c2 hDe hc hu hu2 hse HY
        go_wp2_with (first
          | (go_at_call 45; refine (HS.out _).mono ?_; rintro e w1 ⟨rfl, rfl⟩)
          | (go_at_call 72; refine (HP.out _).mono ?_; rintro e w1 ⟨rfl, rfl⟩))
        go_roundw
        case rel => exact ⟨e + 2, by omega, by omega, by go_num, by trivial, HN⟩
        case measure => simp [intOf]; omega
      · have hpre : (decide (2 ≤ (s.extract e s.size).size) && ((s.extract e s.size).data.toList.take 2 == [34, 34])) = false := by
          rw [Bool.and_eq_false_iff]
          refine .inr (beq_eq_false_iff_ne.2 fun h => ht ?_)
          rw [c1, hDe] at h
          cases hr : s.data.toList.drop (e + 1) with
          | nil => rw [hr] at h; simp at h
          | cons d u => rw [hr] at h; simp at h; exact ⟨u, by rw [h.2]⟩
        rw [hpre] at HP
        rw [hDe, hse, Lx.quo_last _ (by decide) (fun h => ht h.2), List.append_nil] at hX
        obtain ⟨m, hm⟩ : ∃ m, e + 1 = m := ⟨_, rfl⟩
        have hmi : (e : Int) + 1 = (m : Int) := by omega
        have hm1 : 0 < m ∧ m ≤ s.size := by omega
        obtain rfl : Y = (6, l ++ T, 0, s.data.toList.drop m) := by rw [HY.out, hX, if_pos rfl, hm]
        have HU := Lib.hid fun W hW => ksingle (s.extract 1 e) (l ++ T) (by rw [(cut_bytes s 1 e hk1 he1).1, hTd]) W hW (by rw [(cut_bytes s 1 e hk1 he1).2]; omega)
        clear hX hk hk2 hT he hl hes hTd hpre c1 c2 hDe hc hse ht HY hm
        go_wp2_with (first
          | (go_at_call 45; refine (HS.out _).mono ?_; rintro e w1 ⟨rfl, rfl⟩)
          | (go_at_call 72; refine (HP.out _).mono ?_; rintro e w1 ⟨rfl, rfl⟩)
          | (go_at_call 73; refine (HU.out _ HM.out).mono ?_; rintro e w4 ⟨rfl, b4⟩; obtain ⟨z0, y0, y1, y2, y3, f0, f1, f2, f3, hl, hb⟩ := HR.out _ b4))
        obtain ⟨_, e0, e1, e2, e3⟩ := pc_cells hl.out (.int .i64 6) (.string ⟨(l ++ T).toArray⟩) (.int .i64 (m : Nat)) (.int .i64 0)
        exact bodyPost_ret (v := piece 6 ⟨(l ++ T).toArray⟩ (m : Nat) 0) (by simp [results, Tryd.results50, go_sem, e0, e1, e2, e3]) rfl ⟨hb.out _ _ _ _, fun _ => ⟨_, m, rfl, rfl, hm1.1, hm1.2, rfl⟩, fun h => absurd rfl h⟩
    · have hg : Lx.good s[e] = false := by
        rcases Lx.but_stops (hk2.symm.trans hDe) with h | h
        · exact absurd h hc
        · exact h
      have hb2 : ((s[e].toNat : Int) != 34) = true := bne_iff_ne.2 (by omega)
      rw [hDe, Lx.quo_bad _ hg, ← hDe] at hX
      obtain rfl : Y = (0, [], 50, s.data.toList.drop e) := by rw [HY.out, hX]; rfl
      have HW := Lib.hid fun W => kwrong 50 (e : Nat) W
      clear hX hk hk2 hT he hl hes hDe hc hg HY
      go_wp2_with (first
        | (go_at_call 45; refine (HS.out _).mono ?_; rintro e w1 ⟨rfl, rfl⟩)
        | (go_at_call 56; refine (HW.out _).mono ?_; rintro e w4 ⟨rfl, b4⟩; obtain ⟨z0, y0, y1, y2, y3, f0, f1, f2, f3, hl, hb⟩ := HR.out _ b4))
      obtain ⟨_, e0, e1, e2, e3⟩ := pc_cells hl.out (.int .i64 0) (.string ⟨#[]⟩) (.int .i64 (e : Nat)) (.int .i64 50)
      exact bodyPost_ret (v := piece 0 ⟨#[]⟩ (e : Nat) 50) (by simp [results, Tryd.results50, go_sem, e0, e1, e2, e3]) rfl ⟨hb.out _ _ _ _, fun h => absurd h (by simp), fun _ => ⟨e, rfl, hlt, rfl⟩⟩
end Go.Proofs.YtpjdfogieiokkaaDoor
