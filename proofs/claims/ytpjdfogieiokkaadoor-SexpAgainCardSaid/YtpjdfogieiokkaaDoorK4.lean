/- The code's pieces: keyword, number. -/
import Derived.Test.YtpjdfogieiokkaaDoorK3
namespace Go.Proofs.YtpjdfogieiokkaaDoor
open Go.RowKit Go.Shelf

/-- what a piece's function answers -/
structure PSaid (s : ByteArray) (x : Int × List UInt8 × Int × List UInt8) (w : World) (e : Ending) (w' : World) : Prop where
  below : Below w.heap.size w w'
  ok : x.2.2.1 = 0 → ∃ (T : ByteArray) (b : Nat), e = .returned (piece x.1 T (b : Nat) 0) ∧ T.data.toList = x.2.1 ∧ 0 < b ∧ b ≤ s.size ∧ s.data.toList.drop b = x.2.2.2
  bad : x.2.2.1 ≠ 0 → ∃ p : Nat, e = .returned (piece 0 ⟨#[]⟩ (p : Nat) x.2.2.1) ∧ p < s.size ∧ s.data.toList.drop p = x.2.2.2
theorem PSaid.at_start {s : ByteArray} {E : Int} {w w' : World} (hb : Below w.heap.size w w') (hE : E ≠ 0) (h0 : 0 < s.size) : PSaid s (0, [], E, s.data.toList) w (.returned (piece 0 ⟨#[]⟩ 0 E)) w' :=
  ⟨hb, fun h => absurd h hE, fun _ => ⟨0, rfl, h0, rfl⟩⟩
/-- what is stored in a piece's room behind a call -/
theorem pc_store (w : World) {w4 : World} (b4 : Below (w.alloc (.cells ZP 64)).heap.size (w.alloc (.cells ZP 64)) w4) :
    w.heap.size < w4.heap.size ∧ w4.cell? ⟨w.heap.size, 0, none⟩ = some (.int .i64 0) ∧ w4.cell? ⟨w.heap.size, 1, none⟩ = some (.string ⟨#[]⟩) ∧ w4.cell? ⟨w.heap.size, 2, none⟩ = some (.int .i64 0) ∧ w4.cell? ⟨w.heap.size, 3, none⟩ = some (.int .i64 0) ∧
    w4.frozen? ⟨w.heap.size, 0, none⟩ = false ∧ w4.frozen? ⟨w.heap.size, 1, none⟩ = false ∧ w4.frozen? ⟨w.heap.size, 2, none⟩ = false ∧ w4.frozen? ⟨w.heap.size, 3, none⟩ = false ∧ Hid (Lies w4 w.heap.size 64 ZP) ∧ Hid (∀ x y z u, Below w.heap.size w (set4 w4 w.heap.size x y z u)) := by
  obtain ⟨a0, a1, a2, a3, a4, a5, a6, a7, a8, a9⟩ := pc_room b4 (Lies.new w 64 ZP)
  exact ⟨a0, a1, a2, a3, a4, a5, a6, a7, a8, a9, fun x y z u => pc_below (((Below.refl _ w).alloc (Nat.le_refl _) _).trans (b4.mono (by simp))) (Nat.le_refl _) x y z u⟩

theorem whole_head (s : ByteArray) (h : 0 < s.size) : s.data.toList = s[0] :: s.data.toList.drop 1 := by
  have := drop_at s h
  rw [List.drop_zero] at this
  exact this
set_option maxHeartbeats 800000 in
theorem kkeyword (s : ByteArray) (w : World) (hs : s.size ≤ 1000000) (h0 : 0 < s.size) (h58 : s[0].toNat = 58) :
    Calls Tryd.prog 51 #[.string s] w (PSaid s (Lx.one s.data.toList) w) := by
  obtain ⟨k, hk, hk1, hk2, HS⟩ := span_end _ enter_named _ knamed s 1 (by unfold maxLen; omega) h0
  replace HS := Lib.hid HS
  have hsl := slice_from s 1 (by omega)
  have HR := Lib.hid fun (w4 : World) b4 => pc_store w (w4 := w4) b4
  have hnd : Lx.digit s[0] = false := by simp [Lx.digit]; omega
  have hnn : Lx.name s[0] = false := by simp [Lx.name, hnd, Lx.marks, h58]
  by_cases hk0 : k = 0
  · have hem : ((s.data.toList.drop 1).takeWhile Lx.name).isEmpty = true := by rw [List.isEmpty_iff_length_eq_zero, ← hk]; exact hk0
    have hX : Lx.one s.data.toList = (0, [], 8, s.data.toList) := by
      rw [whole_head s h0]
      simp only [Lx.one, h58, hnd, hnn, hem]
      simp
    rw [hX]
    have HW := Lib.hid fun W => kwrong 8 0 W
    have hki : (1 : Int) + (k : Int) = 1 := by omega
    clear hX hem hk hk2 hnd hnn h58
    go_enter Tryd.func51, Tryd.ntmps51
    go_wp2_with (first
      | (go_at_call 45; refine (HS.out _).mono ?_; rintro e w1 ⟨rfl, rfl⟩)
      | (go_at_call 56; refine (HW.out _).mono ?_; rintro e w4 ⟨rfl, b4⟩; obtain ⟨z0, y0, y1, y2, y3, f0, f1, f2, f3, hl, hb⟩ := HR.out _ b4))
    obtain ⟨_, e0, e1, e2, e3⟩ := pc_cells hl.out (.int .i64 0) (.string ⟨#[]⟩) (.int .i64 0) (.int .i64 8)
    exact bodyPost_ret (v := piece 0 ⟨#[]⟩ 0 8) (by simp [results, Tryd.results51, go_sem, e0, e1, e2, e3]) rfl (PSaid.at_start (hb.out _ _ _ _) (by decide) h0)
  · have hem : ((s.data.toList.drop 1).takeWhile Lx.name).isEmpty = false := by
      cases hq : (s.data.toList.drop 1).takeWhile Lx.name with
      | nil => rw [hq] at hk; exact absurd hk hk0
      | cons _ _ => rfl
    have hX : Lx.one s.data.toList = ((7 : Int), s[0] :: (s.data.toList.drop 1).takeWhile Lx.name, (0 : Int), (s.data.toList.drop 1).dropWhile Lx.name) := by
      conv => lhs; rw [whole_head s h0]
      simp only [Lx.one, h58, hnd, hnn, hem]
      simp
    have hT := Lib.hid (text_of s 0 (1 + k) h0 (by omega) hk1 hk2)
    rw [hX]
    have HU := Lib.hid fun W => kupTo s (1 + k) 7 W hk1
    obtain ⟨n, hn⟩ : ∃ n, 1 + k = n := ⟨_, rfl⟩
    have hki : (1 : Int) + (k : Int) = (n : Int) := by omega
    have hne : ((n : Int) == 1) = false := beq_eq_false_iff_ne.2 (by omega)
    rw [hn] at HU hT hk1 hk2
    have hn0 : 0 < n := by omega
    have H2 := Lib.hid hk2
    clear hX hem hk hk2 hnd hnn h58 hk0 hn
    go_enter Tryd.func51, Tryd.ntmps51
    go_wp2_with (first
      | (go_at_call 45; refine (HS.out _).mono ?_; rintro e w1 ⟨rfl, rfl⟩)
      | (go_at_call 48; refine (HU.out _).mono ?_; rintro e w4 ⟨rfl, b4⟩; obtain ⟨z0, y0, y1, y2, y3, f0, f1, f2, f3, hl, hb⟩ := HR.out _ b4))
    obtain ⟨_, e0, e1, e2, e3⟩ := pc_cells hl.out (.int .i64 7) (.string (s.extract 0 n)) (.int .i64 (n : Nat)) (.int .i64 0)
    exact bodyPost_ret (v := piece 7 (s.extract 0 n) (n : Nat) 0) (by simp [results, Tryd.results51, go_sem, e0, e1, e2, e3]) rfl ⟨hb.out _ _ _ _, fun _ => ⟨_, n, rfl, hT.out, hn0, hk1, H2.out⟩, fun h => absurd rfl h⟩

/-- a number, by where its digits end -/
theorem Lx.number_by (D R : List UInt8) (hD : D.all Lx.digit = true) (h0 : D ≠ []) (hR : ∀ c t, R = c :: t → Lx.digit c = false) :
    Lx.number (D ++ R) = if 1 < D.length ∧ (D.headD 0).toNat = 48 then 0 else if R = [] then 4 else if (R.headD 0).toNat = 46 ∧ R.length ≠ 1 ∧ (R.drop 1).all Lx.digit = true then 5 else 0 := by
  have hnp : D.all Lx.nopt = true := by
    rw [List.all_eq_true] at hD ⊢
    intro c hc
    have := hD c hc
    simp [Lx.digit] at this
    simp [Lx.nopt]
    omega
  have t1 : (D ++ R).takeWhile Lx.nopt = D ++ R.takeWhile Lx.nopt := by
    rw [List.takeWhile_append_of_pos (List.all_eq_true.1 hnp)]
  have t2 : (D ++ R).dropWhile Lx.nopt = R.dropWhile Lx.nopt := by
    rw [List.dropWhile_append_of_pos (List.all_eq_true.1 hnp)]
  have hD0 : 0 < D.length := List.length_pos_iff.2 h0
  have hhd : (D ++ R).headD 0 = D.headD 0 := by
    cases D with
    | nil => exact absurd rfl h0
    | cons _ _ => rfl
  unfold Lx.number
  dsimp only
  rw [t1, t2, hhd]
  cases hR0 : R with
  | nil =>
    have e : Lx.digits (D ++ List.takeWhile Lx.nopt []) = true := by
      rw [List.takeWhile_nil, List.append_nil, Lx.digits, hD]
      cases D with
      | nil => exact absurd rfl h0
      | cons _ _ => rfl
    rw [e]
    simp
  | cons c t =>
    have hc := hR c t hR0
    by_cases h46 : c.toNat = 46
    · have hn : Lx.nopt c = false := by simp [Lx.nopt, h46]
      have e : Lx.digits (D ++ List.takeWhile Lx.nopt (c :: t)) = true := by
        rw [List.takeWhile_cons, hn]
        simp only [Bool.false_eq_true, if_false, List.append_nil]
        rw [Lx.digits, hD]
        cases D with
        | nil => exact absurd rfl h0
        | cons _ _ => rfl
      rw [e, List.takeWhile_cons, List.dropWhile_cons, hn]
      simp only [Bool.false_eq_true, if_false, List.append_nil, Bool.not_true, Bool.false_or, Bool.and_eq_true, decide_eq_true_eq, List.headD_cons, h46, List.length_cons, List.drop_succ_cons, List.drop_zero, true_and]
      have e2 : Lx.digits t = true ↔ (t.length + 1 ≠ 1 ∧ t.all Lx.digit = true) := by
        cases t with
        | nil => simp [Lx.digits]
        | cons _ _ => simp [Lx.digits]
      by_cases hz : 1 < D.length ∧ (D.headD 0).toNat = 48
      · rw [if_pos hz, if_pos hz]
      · rw [if_neg hz, if_neg hz, if_neg (show ¬ c :: t = [] from fun h => by cases h)]
        by_cases hd : Lx.digits t = true
        · rw [if_pos hd, if_pos (e2.1 hd)]
        · rw [if_neg hd, if_neg (fun h => hd (e2.2 h))]
    · have hn : Lx.nopt c = true := by simp [Lx.nopt, h46]
      have e : Lx.digits (D ++ List.takeWhile Lx.nopt (c :: t)) = false := by
        rw [List.takeWhile_cons, hn]
        simp only [if_true]
        rw [Lx.digits, List.all_append, List.all_cons, hc]
        simp
      rw [e]
      simp [h46]

set_option maxHeartbeats 1600000 in
theorem knumber (s : ByteArray) (w : World) (hs : s.size ≤ 1000000) (h0 : 0 < s.size) (hd0 : Lx.digit s[0] = true) :
    Calls Tryd.prog 54 #[.string s] w (PSaid s (Lx.one s.data.toList) w) := by
  have hs1 : s.size ≤ maxLen := by unfold maxLen; omega
  obtain ⟨S, hS⟩ : ∃ S, s.data.toList.takeWhile Lx.name = S := ⟨_, rfl⟩
  have hSc : S = s[0] :: (s.data.toList.drop 1).takeWhile Lx.name := by
    rw [← hS]
    conv => lhs; rw [whole_head s h0]
    rw [List.takeWhile_cons, if_pos (Lx.digit_name hd0)]
  have hdr : s.data.toList.dropWhile Lx.name = (s.data.toList.drop 1).dropWhile Lx.name := by
    conv => lhs; rw [whole_head s h0]
    rw [List.dropWhile_cons, if_pos (Lx.digit_name hd0)]
  obtain ⟨n1, n2⟩ := take_len Lx.name s 0 (Nat.zero_le _)
  rw [List.drop_zero, hS, Nat.zero_add] at n1 n2
  -- where the digits end
  obtain ⟨D, hD⟩ : ∃ D, s.data.toList.takeWhile Lx.digit = D := ⟨_, rfl⟩
  obtain ⟨R, hR⟩ : ∃ R, S.dropWhile Lx.digit = R := ⟨_, rfl⟩
  have hDS : S.takeWhile Lx.digit = D := by
    rw [← hD, ← hS]
    generalize s.data.toList = L
    induction L with
    | nil => rfl
    | cons c L ih =>
      by_cases hc : Lx.digit c = true
      · rw [List.takeWhile_cons, if_pos (Lx.digit_name hc), List.takeWhile_cons, if_pos hc, ih, List.takeWhile_cons, if_pos hc]
      · by_cases hn : Lx.name c = true
        · rw [List.takeWhile_cons, if_pos hn, List.takeWhile_cons, if_neg hc, List.takeWhile_cons, if_neg hc]
        · rw [List.takeWhile_cons, if_neg hn, List.takeWhile_cons, if_neg hc]; rfl
  have hDR : D ++ R = S := by rw [← hDS, ← hR]; exact Lx.take_drop _ _
  have hDa : D.all Lx.digit = true := by rw [← hDS]; exact Lx.take_all _ _
  have hDh : D = s[0] :: D.drop 1 := by
    rw [← hDS, hSc, List.takeWhile_cons, if_pos hd0]
    rfl
  have hDn : D ≠ [] := fun e => by rw [e] at hDh; cases hDh
  have hRc : ∀ c t, R = c :: t → Lx.digit c = false := fun c t e => dropWhile_stops _ _ (hR.trans e)
  have hN := Lx.number_by D R hDa hDn hRc
  have hD0 : (D.headD 0).toNat = s[0].toNat := by rw [hDh]; rfl
  rw [hDR, hD0] at hN
  have hlen := congrArg List.length hDR
  rw [List.length_append] at hlen
  have hDp : 0 < D.length := List.length_pos_iff.2 hDn
  have n40 : s[0].toNat ≠ 40 := by simp [Lx.digit] at hd0; omega
  have n41 : s[0].toNat ≠ 41 := by simp [Lx.digit] at hd0; omega
  have nq : ¬ (s[0].toNat = 124 ∨ s[0].toNat = 34) := by simp [Lx.digit] at hd0; omega
  have hX : Lx.one s.data.toList = if Lx.number S = 0 then (0, [], 8, s.data.toList) else (Lx.number S, S, 0, s.data.toList.dropWhile Lx.name) := by
    rw [hdr, hSc]
    conv => lhs; rw [whole_head s h0]
    simp only [Lx.one, n40, n41, nq, hd0, if_false, if_true]
    rw [← whole_head s h0]
  rw [hX]
  obtain ⟨n, hn⟩ : ∃ n, S.length = n := ⟨_, rfl⟩
  obtain ⟨d, hd⟩ : ∃ d, D.length = d := ⟨_, rfl⟩
  rw [hn] at n1 n2 hlen
  rw [hd] at hlen hDp hN
  have HS := Lib.hid fun W => kspan _ enter_named _ knamed s W hs1
  have HD := Lib.hid fun W => kspan _ enter_digit _ kdigit s W hs1
  rw [hS, hn] at HS
  rw [hD, hd] at HD
  have hT : Hid ((s.extract 0 n).data.toList = S) := by
    show _ = _
    rw [(cut_bytes s 0 n n1 (Nat.zero_le _)).1, List.drop_zero, ← hn, ← hS, Nat.sub_zero]
    have h2 := congrArg (List.take (s.data.toList.takeWhile Lx.name).length) (Lx.take_drop Lx.name s.data.toList)
    rw [List.take_left] at h2
    exact h2.symm
  have HR := Lib.hid fun (w4 : World) b4 => pc_store w (w4 := w4) b4
  have HW := Lib.hid fun W => kwrong 8 0 W
  have H2 := Lib.hid n2
  have hdn : d ≤ n := by omega
  have hn0 : 0 < n := by omega
  -- R stands at d
  have hRd : Hid (s.data.toList.drop d = R ++ s.data.toList.drop n) := by
    show _ = _
    have h2 := Lx.take_drop Lx.name s.data.toList
    rw [hS, ← hDR, ← n2, List.append_assoc] at h2
    have h3 := congrArg (List.drop d) h2
    rw [← hd, List.drop_left] at h3
    rw [← hd]
    exact h3.symm
  clear hX hdr hSc hDR hDh hD0 n40 n41 nq hDS hR hS hD hn hd n2
  by_cases hz : 1 < d ∧ s[0].toNat = 48
  · have hN0 : Lx.number S = 0 := by rw [hN, if_pos hz]
    rw [if_pos hN0]
    have b1 : (1 : Int) < (d : Int) := by omega
    have b2 : ((s[0].toNat : Int) == 48) = true := beq_iff_eq.2 (by omega)
    clear hN hN0 hRc hDa hDn hd0 hz hRd hT
    go_enter Tryd.func54, Tryd.ntmps54
    go_wp2_with (first
      | (go_at_call 45; (with_reducible refine (HS.out _).mono ?_); rintro e w1 ⟨rfl, rfl⟩)
      | (go_at_call 45; (with_reducible refine (HD.out _).mono ?_); rintro e w1 ⟨rfl, rfl⟩)
      | (go_at_call 56; refine (HW.out _).mono ?_; rintro e w4 ⟨rfl, b4⟩; obtain ⟨z0, y0, y1, y2, y3, f0, f1, f2, f3, hl, hb⟩ := HR.out _ b4))
    obtain ⟨_, e0, e1, e2, e3⟩ := pc_cells hl.out (.int .i64 0) (.string ⟨#[]⟩) (.int .i64 0) (.int .i64 8)
    exact bodyPost_ret (v := piece 0 ⟨#[]⟩ 0 8) (by simp [results, Tryd.results54, go_sem, e0, e1, e2, e3]) rfl (PSaid.at_start (hb.out _ _ _ _) (by decide) h0)
  rw [if_neg hz] at hN
  have hzz : ¬ (1 : Int) < (d : Int) ∨ (1 : Int) < (d : Int) ∧ ((s[0].toNat : Int) == 48) = false := by
    by_cases h : 1 < d
    · exact .inr ⟨by omega, beq_eq_false_iff_ne.2 (by omega)⟩
    · exact .inl (by omega)
  clear hz
  by_cases hall : d = n
  · obtain rfl : R = [] := List.eq_nil_of_length_eq_zero (by omega)
    have hN4 : Lx.number S = 4 := by rw [hN, if_pos rfl]
    rw [if_neg (by rw [hN4]; decide), hN4]
    have HU := Lib.hid fun W => kupTo s n 4 W n1
    have b3 : ((d : Int) == (n : Int)) = true := beq_iff_eq.2 (by omega)
    clear hN hN4 hRc hDa hDn hd0 hRd
    rcases hzz with b1 | ⟨b1, b2⟩
    all_goals
      go_enter Tryd.func54, Tryd.ntmps54
      go_wp2_with (first
        | (go_at_call 45; (with_reducible refine (HS.out _).mono ?_); rintro e w1 ⟨rfl, rfl⟩)
        | (go_at_call 45; (with_reducible refine (HD.out _).mono ?_); rintro e w1 ⟨rfl, rfl⟩)
        | (go_at_call 48; refine (HU.out _).mono ?_; rintro e w4 ⟨rfl, b4⟩; obtain ⟨z0, y0, y1, y2, y3, f0, f1, f2, f3, hl, hb⟩ := HR.out _ b4))
      obtain ⟨_, e0, e1, e2, e3⟩ := pc_cells hl.out (.int .i64 4) (.string (s.extract 0 n)) (.int .i64 (n : Nat)) (.int .i64 0)
      exact bodyPost_ret (v := piece 4 (s.extract 0 n) (n : Nat) 0) (by simp [results, Tryd.results54, go_sem, e0, e1, e2, e3]) rfl ⟨hb.out _ _ _ _, fun _ => ⟨_, n, rfl, hT.out, hn0, n1, H2.out⟩, fun h => absurd rfl h⟩
  have b3 : ((d : Int) == (n : Int)) = false := beq_eq_false_iff_ne.2 (by omega)
  have hdlt : d < s.size := by omega
  have hdlt' : (d : Int) < (s.size : Int) := by omega
  have hRh : Hid (R = s[d] :: R.drop 1) := by
    show _ = _
    have := hRd.out
    rw [drop_at s hdlt] at this
    cases R with
    | nil => simp at hlen; omega
    | cons c t => injection this with e1 _; rw [e1]; rfl
  rw [if_neg (fun e => by rw [e] at hlen; simp at hlen; omega), show (R.headD 0).toNat = s[d].toNat by rw [hRh.out]; rfl] at hN
  by_cases h46 : s[d].toNat = 46
  · have b4' : ((s[d].toNat : Int) != 46) = false := by rw [bne, beq_iff_eq.2 (by omega : (s[d].toNat : Int) = 46)]; rfl
    by_cases hlast : d + 1 = n
    · have hN0 : Lx.number S = 0 := by rw [hN, if_neg]; intro h; have := h.2.1; omega
      rw [if_pos hN0]
      have b5 : ((d : Int) + 1 == (n : Int)) = true := beq_iff_eq.2 (by omega)
      clear hN hN0 hRc hDa hDn hd0 hRd hT hRh h46
      rcases hzz with b1 | ⟨b1, b2⟩
      all_goals
        go_enter Tryd.func54, Tryd.ntmps54
        go_wp2_with (first
          | (go_at_call 45; (with_reducible refine (HS.out _).mono ?_); rintro e w1 ⟨rfl, rfl⟩)
          | (go_at_call 45; (with_reducible refine (HD.out _).mono ?_); rintro e w1 ⟨rfl, rfl⟩)
          | (go_at_call 56; refine (HW.out _).mono ?_; rintro e w4 ⟨rfl, b4⟩; obtain ⟨z0, y0, y1, y2, y3, f0, f1, f2, f3, hl, hb⟩ := HR.out _ b4))
        obtain ⟨_, e0, e1, e2, e3⟩ := pc_cells hl.out (.int .i64 0) (.string ⟨#[]⟩) (.int .i64 0) (.int .i64 8)
        exact bodyPost_ret (v := piece 0 ⟨#[]⟩ 0 8) (by simp [results, Tryd.results54, go_sem, e0, e1, e2, e3]) rfl (PSaid.at_start (hb.out _ _ _ _) (by decide) h0)
    · obtain ⟨m, hm⟩ : ∃ m, d + 1 = m := ⟨_, rfl⟩
      have hmi : (d : Int) + 1 = (m : Int) := by omega
      have b5 : ((m : Int) == (n : Int)) = false := beq_eq_false_iff_ne.2 (by omega)
      have hmn : m ≤ n := by omega
      have hsl := slice_both s m n n1 hmn
      obtain ⟨c1, c2⟩ := cut_bytes s m n n1 hmn
      have hc1 : (s.extract m n).data.toList = R.drop 1 := by
        rw [c1]
        have h3 := congrArg (List.drop 1) hRd.out
        rw [List.drop_drop, hm, List.drop_append_of_le_length (by omega)] at h3
        rw [h3, List.take_append_of_le_length (by rw [List.length_drop]; omega), List.take_of_length_le (by rw [List.length_drop]; omega)]
      obtain ⟨a, ha⟩ : ∃ a, (R.drop 1).all Lx.digit = a := ⟨_, rfl⟩
      have HE := Lib.hid fun W => kspan _ enter_digit _ kdigit (s.extract m n) W (by unfold maxLen; omega)
      have hb5 := span_all Lx.digit (s.extract m n) (b := a) (by rw [hc1]; exact ha)
      obtain ⟨v, hv⟩ : ∃ v, ((s.extract m n).data.toList.takeWhile Lx.digit).length = v := ⟨_, rfl⟩
      rw [hv] at HE hb5
      have hsub : (n : Int) - (d : Int) - 1 = ((s.extract m n).size : Int) := by omega
      have hb6 : ((v : Int) != ((s.extract m n).size : Int)) = !a := by rw [bne, hb5]
      have hNa : Lx.number S = if a = true then 5 else 0 := by
        rw [hN, ha]
        cases a with
        | true => rw [if_pos ⟨h46, by omega, rfl⟩]; rfl
        | false => rw [if_neg (fun h => by cases h.2.2)]; rfl
      obtain ⟨V, hV⟩ : ∃ V, s.extract m n = V := ⟨_, rfl⟩
      rw [hV] at hsl HE hb6 hsub
      clear hN hRc hDa hDn hd0 hRd hRh h46 c1 c2 hc1 ha hb5 hv hV hm
      cases a with
      | true =>
        rw [if_pos rfl] at hNa
        rw [if_neg (by rw [hNa]; decide), hNa]
        have HU := Lib.hid fun W => kupTo s n 5 W n1
        simp only [Bool.not_true] at hb6
        clear hNa
        rcases hzz with b1 | ⟨b1, b2⟩
        all_goals
          go_enter Tryd.func54, Tryd.ntmps54
          go_wp2_with (first
            | (go_at_call 45; (with_reducible refine (HS.out _).mono ?_); rintro e w1 ⟨rfl, rfl⟩)
            | (go_at_call 45; (with_reducible refine (HD.out _).mono ?_); rintro e w1 ⟨rfl, rfl⟩)
            | (go_at_call 45; (with_reducible refine (HE.out _).mono ?_); rintro e w1 ⟨rfl, rfl⟩)
            | (go_at_call 48; refine (HU.out _).mono ?_; rintro e w4 ⟨rfl, b4⟩; obtain ⟨z0, y0, y1, y2, y3, f0, f1, f2, f3, hl, hb⟩ := HR.out _ b4))
          obtain ⟨_, e0, e1, e2, e3⟩ := pc_cells hl.out (.int .i64 5) (.string (s.extract 0 n)) (.int .i64 (n : Nat)) (.int .i64 0)
          exact bodyPost_ret (v := piece 5 (s.extract 0 n) (n : Nat) 0) (by simp [results, Tryd.results54, go_sem, e0, e1, e2, e3]) rfl ⟨hb.out _ _ _ _, fun _ => ⟨_, n, rfl, hT.out, hn0, n1, H2.out⟩, fun h => absurd rfl h⟩
      | false =>
        rw [if_neg (by decide)] at hNa
        rw [if_pos hNa]
        simp only [Bool.not_false] at hb6
        clear hNa
        rcases hzz with b1 | ⟨b1, b2⟩
        all_goals
          go_enter Tryd.func54, Tryd.ntmps54
          go_wp2_with (first
            | (go_at_call 45; (with_reducible refine (HS.out _).mono ?_); rintro e w1 ⟨rfl, rfl⟩)
            | (go_at_call 45; (with_reducible refine (HD.out _).mono ?_); rintro e w1 ⟨rfl, rfl⟩)
            | (go_at_call 45; (with_reducible refine (HE.out _).mono ?_); rintro e w1 ⟨rfl, rfl⟩)
            | (go_at_call 56; refine (HW.out _).mono ?_; rintro e w4 ⟨rfl, b4⟩; obtain ⟨z0, y0, y1, y2, y3, f0, f1, f2, f3, hl, hb⟩ := HR.out _ b4))
          obtain ⟨_, e0, e1, e2, e3⟩ := pc_cells hl.out (.int .i64 0) (.string ⟨#[]⟩) (.int .i64 0) (.int .i64 8)
          exact bodyPost_ret (v := piece 0 ⟨#[]⟩ 0 8) (by simp [results, Tryd.results54, go_sem, e0, e1, e2, e3]) rfl (PSaid.at_start (hb.out _ _ _ _) (by decide) h0)
  · have hN0 : Lx.number S = 0 := by rw [hN, if_neg]; intro h; exact h46 h.1
    rw [if_pos hN0]
    have b4' : ((s[d].toNat : Int) != 46) = true := bne_iff_ne.2 (by omega)
    clear hN hN0 hRc hDa hDn hd0 hRd hT hRh h46
    rcases hzz with b1 | ⟨b1, b2⟩
    all_goals
      go_enter Tryd.func54, Tryd.ntmps54
      go_wp2_with (first
        | (go_at_call 45; (with_reducible refine (HS.out _).mono ?_); rintro e w1 ⟨rfl, rfl⟩)
        | (go_at_call 45; (with_reducible refine (HD.out _).mono ?_); rintro e w1 ⟨rfl, rfl⟩)
        | (go_at_call 56; refine (HW.out _).mono ?_; rintro e w4 ⟨rfl, b4⟩; obtain ⟨z0, y0, y1, y2, y3, f0, f1, f2, f3, hl, hb⟩ := HR.out _ b4))
      obtain ⟨_, e0, e1, e2, e3⟩ := pc_cells hl.out (.int .i64 0) (.string ⟨#[]⟩) (.int .i64 0) (.int .i64 8)
      exact bodyPost_ret (v := piece 0 ⟨#[]⟩ 0 8) (by simp [results, Tryd.results54, go_sem, e0, e1, e2, e3]) rfl (PSaid.at_start (hb.out _ _ _ _) (by decide) h0)
end Go.Proofs.YtpjdfogieiokkaaDoor
