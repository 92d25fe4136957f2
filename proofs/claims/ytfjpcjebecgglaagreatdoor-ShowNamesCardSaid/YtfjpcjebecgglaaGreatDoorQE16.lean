/- What the proofs of this claim use, text by text. -/
import Derived.Lib.Replace
import Derived.Test.YtfjpcjebecgglaaGreatDoorQE15
import Derived.BigQuiet
set_option linter.unusedSimpArgs false
set_option linter.unusedVariables false
set_option maxRecDepth 100000
set_option maxHeartbeats 25600000
namespace Go.Proofs.YtfjpcjebecgglaaGreatDoor
def Lx.rep (old new s : List UInt8) : List UInt8 := Lib.replaceK old new (Lib.count s old) s
theorem Lx.rep_all (s old new : List UInt8) (h : (old == new) = false) : Lib.replaceAll s old new = Lx.rep old new s := by
  unfold Lib.replaceAll Lib.replace Lib.replaceNum Lx.rep
  rw [h, if_neg (by decide), if_pos (.inl (by decide))]
theorem Lx.rep_nil (old new : List UInt8) (h : old ≠ []) : Lx.rep old new [] = [] := by
  have hi : Lib.index [] old = -1 := Lib.index_none (fun j _ => by
    unfold Lib.occAt
    cases old with
    | nil => exact absurd rfl h
    | cons c t => simp)
  unfold Lx.rep
  rw [Lib.count_miss hi]
  rfl
theorem Lx.rep_hit (old new s : List UInt8) (h : old ≠ []) (hp : old.isPrefixOf s = true) : Lx.rep old new s = new ++ Lx.rep old new (s.drop old.length) := by
  have hi : Lib.index s old = ((0 : Nat) : Int) := Lib.index_first (Nat.zero_le _) (by simpa [Lib.occAt] using hp) (fun j hj => absurd hj (Nat.not_lt_zero _))
  unfold Lx.rep
  rw [Lib.count_hit h hi, Nat.zero_add, Nat.add_comm, Lib.replaceK_hit old new _ s 0 hi]
  simp
theorem Lx.index_miss (old : List UInt8) (c : UInt8) (t : List UInt8) (hp : old.isPrefixOf (c :: t) = false) : Lib.index (c :: t) old = if Lib.index t old = -1 then -1 else Lib.index t old + 1 := by
  rw [Lib.index, hp]
  simp
theorem Lx.rep_miss (old new : List UInt8) (c : UInt8) (t : List UInt8) (h : old ≠ []) (hp : old.isPrefixOf (c :: t) = false) : Lx.rep old new (c :: t) = c :: Lx.rep old new t := by
  have hi := Lx.index_miss old c t hp
  unfold Lx.rep
  by_cases hm : Lib.index t old = -1
  · rw [if_pos hm] at hi
    rw [Lib.count_miss hi, Lib.count_miss hm]
    rfl
  · rw [if_neg hm] at hi
    obtain ⟨i, hti⟩ : ∃ i : Nat, Lib.index t old = i := ⟨(Lib.index t old).toNat, by have := Lib.index_ge t old; omega⟩
    have hci : Lib.index (c :: t) old = ((i + 1 : Nat) : Int) := by rw [hi, hti]; omega
    have e : (c :: t).drop (i + 1 + old.length) = t.drop (i + old.length) := by rw [show i + 1 + old.length = (i + old.length) + 1 by omega, List.drop_succ_cons]
    rw [Lib.count_hit h hci, Lib.count_hit h hti, e]
    generalize Lib.count (t.drop (i + old.length)) old = k
    rw [Nat.add_comm 1 k, Lib.replaceK_hit old new _ _ _ hci, Lib.replaceK_hit old new _ _ _ hti, e, List.take_succ_cons]
    simp
theorem Lx.no_pre1 {c : UInt8} {t : List UInt8} (hc : ¬ c.toNat = 34) : List.isPrefixOf [34] (c :: t) = false := by
  have : ((34 : UInt8) == c) = false := beq_eq_false_iff_ne.2 fun e => hc (by rw [← e]; rfl)
  rw [List.isPrefixOf, this]
  rfl
theorem Lx.no_pre2 {c : UInt8} {t : List UInt8} (hc : ¬ c.toNat = 34) : List.isPrefixOf [34, 34] (c :: t) = false := by
  have : ((34 : UInt8) == c) = false := beq_eq_false_iff_ne.2 fun e => hc (by rw [← e]; rfl)
  rw [List.isPrefixOf, this]
  rfl
theorem Lx.rep_dbl : ∀ l : List UInt8, Lx.rep [34] [34, 34] l = Lx.dbl l
  | [] => Lx.rep_nil _ _ (by simp)
  | c :: t => by
    rw [Lx.dbl_cons]
    split
    · rename_i hc
      obtain rfl : c = 34 := Lx.byte_eq hc
      rw [Lx.rep_hit [34] [34, 34] (34 :: t) (by simp) (by simp), List.length_singleton, List.drop_succ_cons, List.drop_zero, Lx.rep_dbl t]
      rfl
    · rename_i hc
      rw [Lx.rep_miss [34] [34, 34] c t (by simp) (Lx.no_pre1 hc), Lx.rep_dbl t]
theorem Lx.rep_undbl : ∀ l : List UInt8, Lx.rep [34, 34] [34] (Lx.dbl l) = l
  | [] => Lx.rep_nil _ _ (by simp)
  | c :: t => by
    rw [Lx.dbl_cons]
    split
    · rename_i hc
      obtain rfl : c = 34 := Lx.byte_eq hc
      rw [Lx.rep_hit [34, 34] [34] (34 :: 34 :: Lx.dbl t) (by simp) (by simp)]
      show [34] ++ Lx.rep [34, 34] [34] (Lx.dbl t) = _
      rw [Lx.rep_undbl t]
      rfl
    · rename_i hc
      rw [Lx.rep_miss [34, 34] [34] c (Lx.dbl t) (by simp) (Lx.no_pre2 hc), Lx.rep_undbl t]
theorem Lx.dbl_app : ∀ l m : List UInt8, Lx.dbl (l ++ m) = Lx.dbl l ++ Lx.dbl m
  | [], _ => rfl
  | c :: t, m => by
    rw [List.cons_append, Lx.dbl_cons, Lx.dbl_cons, Lx.dbl_app t m]
    split <;> rfl
theorem Lx.dbl_none : ∀ l : List UInt8, (∀ c ∈ l, c.toNat ≠ 34) → Lx.dbl l = l
  | [], _ => rfl
  | c :: t, h => by
    rw [Lx.dbl_cons, if_neg (h c List.mem_cons_self), Lx.dbl_none t fun d hd => h d (List.mem_cons_of_mem _ hd)]
theorem Lx.quo_plain' {q c : UInt8} (t : List UInt8) (hg : Lx.good c = true) (hc : c ≠ q) : Lx.quo q (c :: t) = (c :: (Lx.quo q t).1, (Lx.quo q t).2) := by
  cases t with
  | nil => simp [Lx.quo, hg, hc]
  | cons d t => rw [Lx.quo, if_pos hg, if_neg hc]
abbrev Lx.but (n : Nat) (c : UInt8) : Bool := !decide (c.toNat = n) && Lx.good c
theorem Lx.quo_span (q : UInt8) : ∀ l : List UInt8, Lx.quo q l = ((l.takeWhile (Lx.but q.toNat)) ++ (Lx.quo q (l.dropWhile (Lx.but q.toNat))).1, (Lx.quo q (l.dropWhile (Lx.but q.toNat))).2)
  | [] => rfl
  | c :: t => by
    by_cases hg : Lx.good c = true
    · by_cases hc : c = q
      · have e : Lx.but q.toNat c = false := by simp [Lx.but, hc]
        rw [List.takeWhile_cons, List.dropWhile_cons, e]
        rfl
      · have hne : c.toNat ≠ q.toNat := fun e => hc (UInt8.toNat_inj.1 e)
        have e : Lx.but q.toNat c = true := by simp [Lx.but, hne, hg]
        rw [List.takeWhile_cons, List.dropWhile_cons, e, Lx.quo_plain' t hg hc, Lx.quo_span q t]
        simp
    · have e : Lx.but q.toNat c = false := by simp [Lx.but, hg]
      rw [List.takeWhile_cons, List.dropWhile_cons, e]
      rfl
theorem Lx.but_stops {n : Nat} {l t : List UInt8} {c : UInt8} (h : l.dropWhile (Lx.but n) = c :: t) : c.toNat = n ∨ Lx.good c = false := by
  induction l with
  | nil => cases h
  | cons d l ih =>
    rw [List.dropWhile_cons] at h
    split at h
    · exact ih h
    · rename_i hd
      injection h with h1 h2
      subst h1
      simp [Lx.but] at hd
      by_cases e : d.toNat = n
      · exact .inl e
      · exact .inr (hd e)
theorem Lx.but_take (n : Nat) (l : List UInt8) : ∀ c ∈ l.takeWhile (Lx.but n), c.toNat ≠ n := fun c hc => by
  have := List.all_eq_true.1 (Lx.take_all (Lx.but n) l) c hc
  simp [Lx.but] at this
  exact this.1
theorem Lx.other_by (a d : UInt8) (y : List UInt8) (hy : y ≠ []) : Lx.other (a :: d :: y) = ((decide (d.toNat = 120) && y.all Lx.hex) || (decide (d.toNat = 98) && y.all Lx.bit)) := by
  have hye : y.isEmpty = false := by
    cases y with
    | nil => exact absurd rfl hy
    | cons _ _ => rfl
  have hb : ∀ c, Lx.bit c = true → Lx.hex c = true := fun c h => by
    simp [Lx.bit] at h
    simp [Lx.hex, Lx.digit]
    omega
  have e : Lx.other (a :: d :: y) = ((decide (d.toNat = 120) || decide (d.toNat = 98)) && !y.isEmpty && y.all fun c => Lx.hex c && (!decide (d.toNat = 98) || Lx.bit c)) := rfl
  rw [e, hye]
  by_cases h1 : d.toNat = 120
  · simp [h1]
  · by_cases h2 : d.toNat = 98
    · simp only [h2, decide_true, Bool.or_true, Bool.not_false, Bool.true_and, Bool.not_true, Bool.false_or]
      have h3 : (y.all fun c => Lx.hex c && Lx.bit c) = y.all Lx.bit := by
        rw [Bool.eq_iff_iff, List.all_eq_true, List.all_eq_true]
        constructor
        · intro h c hc
          have := h c hc
          rw [Bool.and_eq_true] at this
          exact this.2
        · intro h c hc
          rw [h c hc, hb c (h c hc)]
          rfl
      rw [h3]
      simp
    · simp [h1, h2]
theorem Lx.other_short (a : UInt8) (y : List UInt8) (hy : y.length < 2) : Lx.other (a :: y) = false := by
  match y, hy with
  | [], _ => rfl
  | [d], _ => simp [Lx.other]
  | _ :: _ :: _, h => simp at h; omega
theorem Lx.index_any (n : UInt8) : ∀ l : List UInt8, decide (0 ≤ Lib.indexByte l n) = l.any fun d => decide (d.toNat = n.toNat)
  | [] => rfl
  | c :: t => by
    have ih := Lx.index_any n t
    have hg := Lib.indexByte_ge t n
    rw [Lib.indexByte, List.any_cons, ← ih]
    by_cases h : c = n
    · simp [h]
    · have hn : c.toNat ≠ n.toNat := fun e => h (UInt8.toNat_inj.1 e)
      have hb : (c == n) = false := beq_eq_false_iff_ne.2 h
      rw [hb, decide_eq_false hn, Bool.false_or]
      simp only [Bool.false_eq_true, if_false]
      by_cases hm : Lib.indexByte t n = -1
      · simp [hm]
      · have : (Lib.indexByte t n == -1) = false := beq_eq_false_iff_ne.2 hm
        rw [this]
        simp only [Bool.false_eq_true, if_false]
        rw [decide_eq_true (by omega), decide_eq_true (by omega)]
end Go.Proofs.YtfjpcjebecgglaaGreatDoor
namespace Go.Proofs.YtfjpcjebecgglaaGreatDoor
open Go.RowKit Go.Shelf
theorem kother (s : ByteArray) (w : World) (hs : s.size ≤ 1000000) (h0 : 0 < s.size) (h35 : s[0].toNat = 35) :
    Calls Tryz.prog 168 #[.string s] w (PSaid s (Lx.one s.data.toList) w) := by
  obtain ⟨k, hk, hk1, hk2, HS⟩ := span_end _ enter_named _ knamed s 1 (by unfold maxLen; omega) h0
  replace HS := Lib.hid HS
  have hsl := slice_from s 1 (by omega)
  have HR := Lib.hid fun (w4 : World) (q : Nat) (b4 : Below ((w.alloc (.cells ZP 212)).drewN q).heap.size ((w.alloc (.cells ZP 212)).drewN q) w4) =>
    pc_store w (w4 := w4) ((Turn.none_ ((Turn.refl (fun _ => False) (w.alloc (.cells ZP 212))).drewN q) (fun _ => id)).trans b4)
  have HR0 := Lib.hid fun (w4 : World) b4 => pc_store w (w4 := w4) b4
  have hnd : Lx.digit s[0] = false := by simp [Lx.digit]; omega
  have hnn : Lx.name s[0] = false := by simp [Lx.name, hnd, Lx.marks, h35]
  obtain ⟨z, hz⟩ : ∃ z, Lx.other (s[0] :: (s.data.toList.drop 1).takeWhile Lx.name) = z := ⟨_, rfl⟩
  have hX : Lx.one s.data.toList = if z then ((8 : Int), s[0] :: (s.data.toList.drop 1).takeWhile Lx.name, (0 : Int), (s.data.toList.drop 1).dropWhile Lx.name) else (0, [], 8, s.data.toList) := by
    conv => lhs; rw [whole_head s h0]
    simp only [Lx.one, h35, hnd, hnn, hz]
    rw [← whole_head s h0]
    simp
  have hT := Lib.hid (text_of s 0 (1 + k) h0 (by omega) hk1 hk2)
  have HW := Lib.hid fun W => kwrong 8 0 W
  rw [hX]
  by_cases hk3 : k < 2
  · obtain rfl : z = false := by rw [← hz, Lx.other_short _ _ (by omega)]
    rw [if_neg (by decide)]
    obtain ⟨n, hn⟩ : ∃ n, 1 + k = n := ⟨_, rfl⟩
    have hki : (1 : Int) + (k : Int) = (n : Int) := by omega
    have hn3 : (n : Int) < 3 := by omega
    clear hX hz hk hk2 hnd hnn h35 hT HR0
    go_enter Tryz.func168, Tryz.ntmps168
    go_wp2_with (go_at_call 158; refine (HS.out _).mono ?_; rintro e w1 ⟨rfl, rfl⟩)
    go_quiet (fail)
    go_wp2_with (go_at_call 170; refine (HW.out _).mono ?_; rintro e w4 ⟨rfl, b4⟩; obtain ⟨z0, y0, y1, y2, y3, f0, f1, f2, f3, hl, hb⟩ := HR.out _ _ b4)
    obtain ⟨_, e0, e1, e2, e3⟩ := pc_cells hl.out (.int .i64 0) (.string ⟨#[]⟩) (.int .i64 0) (.int .i64 8)
    exact bodyPost_ret (v := piece 0 ⟨#[]⟩ 0 8) (by simp [results, Tryz.results168, go_sem, e0, e1, e2, e3]) rfl (PSaid.at_start (hb.out _ _ _ _) (by decide) h0)
  · obtain ⟨n, hn⟩ : ∃ n, 1 + k = n := ⟨_, rfl⟩
    rw [hn] at hk1 hk2 hT
    have h1 : 1 < s.size := by omega
    have h2n : 2 ≤ n := by omega
    have hn0 : 0 < n := by omega
    have e1 := drop_at s h1
    have hnm : Lx.name s[1] = true := by
      rw [hk, takeWhile_at _ s h1] at hk3
      by_cases h : Lx.name s[1] = true
      · exact h
      · rw [if_neg h] at hk3
        exact absurd (by decide) hk3
    have hy : (s.data.toList.drop 1).takeWhile Lx.name = s[1] :: (s.data.toList.drop 2).takeWhile Lx.name := by rw [takeWhile_at _ s h1, if_pos hnm]
    obtain ⟨c1, c2⟩ := cut_bytes s 2 n hk1 h2n
    have hyc : (s.extract 2 n).data.toList = (s.data.toList.drop 2).takeWhile Lx.name := by
      have hh := Lx.take_drop Lx.name (s.data.toList.drop 2)
      have hl : ((s.data.toList.drop 2).takeWhile Lx.name).length = n - 2 := by
        rw [hk, hy, List.length_cons] at hn
        omega
      rw [c1, ← hl]
      have h3 := congrArg (List.take ((s.data.toList.drop 2).takeWhile Lx.name).length) hh
      rw [List.take_left] at h3
      exact h3.symm
    have hyn : (s.data.toList.drop 2).takeWhile Lx.name ≠ [] := fun e => by
      rw [hk, hy, List.length_cons, e] at hk3
      exact hk3 (by decide)
    rw [hy, Lx.other_by _ _ _ hyn, ← hyc] at hz
    have HD := Lib.hid fun W => kdigits s[1] (s.extract 2 n) W (by unfold maxLen; omega)
    rw [hz] at HD
    have hki : (1 : Int) + (k : Int) = (n : Int) := by omega
    have hn3 : decide ((n : Int) < 3) = false := decide_eq_false (by omega)
    have h1' : (1 : Int) < (s.size : Int) := by omega
    have HU := Lib.hid fun W => kupTo s n 8 W hk1
    have H2 := Lib.hid hk2
    clear hX hz hk hk2 hnd hnn h35 hk3 e1 hnm hy c1 c2 hyc hyn hn HR0
    cases z with
    | true =>
      rw [if_pos rfl]
      go_enter Tryz.func168, Tryz.ntmps168
      go_wp2_with (go_at_call 158; refine (HS.out _).mono ?_; rintro e w1 ⟨rfl, rfl⟩)
      go_quiet ((go_at_call 184; (with_reducible exact Calls.quiet_of_same (HD.out _))))
      go_wp2_with (go_at_call 164; refine (HU.out _).mono ?_; rintro e w4 ⟨rfl, b4⟩; obtain ⟨z0, y0, y1, y2, y3, f0, f1, f2, f3, hl, hb⟩ := HR.out _ _ b4)
      obtain ⟨_, e0, e1, e2, e3⟩ := pc_cells hl.out (.int .i64 8) (.string (s.extract 0 n)) (.int .i64 (n : Nat)) (.int .i64 0)
      exact bodyPost_ret (v := piece 8 (s.extract 0 n) (n : Nat) 0) (by simp [results, Tryz.results168, go_sem, e0, e1, e2, e3]) rfl ⟨hb.out _ _ _ _, fun _ => ⟨_, n, rfl, hT.out, hn0, hk1, H2.out⟩, fun h => absurd rfl h⟩
    | false =>
      rw [if_neg (by decide)]
      go_enter Tryz.func168, Tryz.ntmps168
      go_wp2_with (go_at_call 158; refine (HS.out _).mono ?_; rintro e w1 ⟨rfl, rfl⟩)
      go_quiet ((go_at_call 184; (with_reducible exact Calls.quiet_of_same (HD.out _))))
      go_wp2_with (go_at_call 170; refine (HW.out _).mono ?_; rintro e w4 ⟨rfl, b4⟩; obtain ⟨z0, y0, y1, y2, y3, f0, f1, f2, f3, hl, hb⟩ := HR.out _ _ b4)
      obtain ⟨_, e0, e1, e2, e3⟩ := pc_cells hl.out (.int .i64 0) (.string ⟨#[]⟩) (.int .i64 0) (.int .i64 8)
      exact bodyPost_ret (v := piece 0 ⟨#[]⟩ 0 8) (by simp [results, Tryz.results168, go_sem, e0, e1, e2, e3]) rfl (PSaid.at_start (hb.out _ _ _ _) (by decide) h0)
end Go.Proofs.YtfjpcjebecgglaaGreatDoor
namespace Go.Proofs.YtfjpcjebecgglaaGreatDoor
open Go.RowKit Go.Shelf
theorem kbarred (s : ByteArray) (w : World) (hs : s.size ≤ 1000000) (h0 : 0 < s.size) (h124 : s[0].toNat = 124) :
    Calls Tryz.prog 165 #[.string s] w (PSaid s (Lx.one s.data.toList) w) := by
  obtain ⟨k, hk, hk1, hk2, HS⟩ := span_end _ enter_clos2 (Lx.but 124) kclos2 s 1 (by unfold maxLen; omega) h0
  replace HS := Lib.hid HS
  have hsl := slice_from s 1 (by omega)
  have HR := Lib.hid fun (w4 : World) b4 => pc_store w (w4 := w4) b4
  obtain ⟨T, hT⟩ : ∃ T, (s.data.toList.drop 1).takeWhile (Lx.but 124) = T := ⟨_, rfl⟩
  have hq := Lx.quo_span 124 (s.data.toList.drop 1)
  rw [show (124 : UInt8).toNat = 124 from rfl, ← hk2, hT] at hq
  obtain ⟨e, he⟩ : ∃ e, 1 + k = e := ⟨_, rfl⟩
  rw [he] at hk1 hk2 hq
  have hki : (1 : Int) + (k : Int) = (e : Int) := by omega
  have he1 : 1 ≤ e := by omega
  have hs0 : s[0] = 124 := Lx.byte_eq h124
  have hone : Lx.one s.data.toList = if (Lx.quo 124 (s.data.toList.drop 1)).2.1 = 0 then (if (Lx.quo 124 (s.data.toList.drop 1)).1.any (fun d => decide (d.toNat = 92)) then ((0 : Int), [], (8 : Int), s.data.toList) else (3, (Lx.quo 124 (s.data.toList.drop 1)).1, 0, (Lx.quo 124 (s.data.toList.drop 1)).2.2)) else if (Lx.quo 124 (s.data.toList.drop 1)).2.1 = 50 then (0, [], 50, (Lx.quo 124 (s.data.toList.drop 1)).2.2) else (0, [], 51, s.data.toList) := by
    have hw := whole_head s h0
    rw [hs0] at hw
    generalize s.data.toList.drop 1 = L at hw
    rw [hw]
    rfl
  rw [hq] at hone
  rw [hone]
  clear hone
  by_cases hes : e = s.size
  · rw [hes, drop_end]
    have hX : Lx.quo 124 [] = ([], 51, []) := rfl
    rw [hX]
    have HW := Lib.hid fun W => kwrong 51 0 W
    have hb : ((e : Int) == (s.size : Int)) = true := beq_iff_eq.2 (by omega)
    clear hq hX hk hk2 hT h124 hs0 he
    show Calls _ _ _ _ (PSaid s (0, [], 51, s.data.toList) w)
    go_enter Tryz.func165, Tryz.ntmps165
    go_wp2_with (first
      | (go_at_call 158; refine (HS.out _).mono ?_; rintro e w1 ⟨rfl, rfl⟩)
      | (go_at_call 170; refine (HW.out _).mono ?_; rintro e w4 ⟨rfl, b4⟩; obtain ⟨z0, y0, y1, y2, y3, f0, f1, f2, f3, hl, hb⟩ := HR.out _ b4))
    obtain ⟨_, e0, e1, e2, e3⟩ := pc_cells hl.out (.int .i64 0) (.string ⟨#[]⟩) (.int .i64 0) (.int .i64 51)
    exact bodyPost_ret (v := piece 0 ⟨#[]⟩ 0 51) (by simp [results, Tryz.results165, go_sem, e0, e1, e2, e3]) rfl (PSaid.at_start (hb.out _ _ _ _) (by decide) h0)
  have hlt : e < s.size := by omega
  have hlt' : (e : Int) < (s.size : Int) := by omega
  have hb : ((e : Int) == (s.size : Int)) = false := beq_eq_false_iff_ne.2 (by omega)
  have hDe := drop_at s hlt
  by_cases hc : s[e].toNat = 124
  · have hb2 : ((s[e].toNat : Int) != 124) = false := by rw [bne, beq_iff_eq.2 (by omega : (s[e].toNat : Int) = 124)]; rfl
    have hX : Lx.quo 124 (s.data.toList.drop e) = ([], 0, s.data.toList.drop (e + 1)) := by
      rw [hDe, Lx.byte_eq hc]
      exact Lx.quo_last _ (by decide) (fun h => absurd h.1 (by decide))
    rw [hX, List.append_nil]
    obtain ⟨z, hz⟩ : ∃ z, (T.any fun d => decide (d.toNat = 92)) = z := ⟨_, rfl⟩
    have hTl : T.length = e - 1 := by rw [← hT, ← hk]; omega
    have hcut : (s.extract 1 e).data.toList = T := by
      rw [(cut_bytes s 1 e hk1 he1).1, ← hTl]
      have h3 := congrArg (List.take T.length) (Lx.take_drop (Lx.but 124) (s.data.toList.drop 1))
      rw [hT, List.take_left] at h3
      exact h3.symm
    have HC := Lib.hid fun W => Tryz.strings_Contains_one (s.extract 0 e) 92 W
    have hidx : decide (0 ≤ Lib.indexByte (s.extract 0 e).data.toList 92) = z := by
      rw [Lx.index_any, (cut_bytes s 0 e hk1 (Nat.zero_le _)).1, List.drop_zero, whole_head s h0, show e - 0 = (e - 1) + 1 by omega, List.take_succ_cons, List.any_cons, hs0]
      have h3 := (cut_bytes s 1 e hk1 he1).1
      rw [hcut] at h3
      rw [← h3, ← hz]
      rfl
    rw [hidx] at HC
    have hsl2 := slice_to s e hk1
    obtain ⟨U, hU⟩ : ∃ U, s.extract 0 e = U := ⟨_, rfl⟩
    rw [hU] at HC hsl2
    have HT := Lib.hid hcut
    have HW := Lib.hid fun W => kwrong 8 0 W
    clear hq hX hk hk2 hT h124 hs0 he hTl hidx hDe hc hcut hU hes
    cases z with
    | true =>
      show Calls _ _ _ _ (PSaid s (if (0 : Int) = 0 then (if T.any (fun d => decide (d.toNat = 92)) then ((0 : Int), [], (8 : Int), s.data.toList) else (3, T, 0, s.data.toList.drop (e + 1))) else _) w)
      rw [if_pos rfl, if_pos hz]
      clear hz
      go_enter Tryz.func165, Tryz.ntmps165
      go_wp2_with (first
        | (go_at_call 158; refine (HS.out _).mono ?_; rintro e w1 ⟨rfl, rfl⟩)
        | (go_at_call 182; refine (HC.out _).mono ?_; rintro e w1 ⟨rfl, rfl⟩)
        | (go_at_call 170; refine (HW.out _).mono ?_; rintro e w4 ⟨rfl, b4⟩; obtain ⟨z0, y0, y1, y2, y3, f0, f1, f2, f3, hl, hb⟩ := HR.out _ b4))
      obtain ⟨_, e0, e1, e2, e3⟩ := pc_cells hl.out (.int .i64 0) (.string ⟨#[]⟩) (.int .i64 0) (.int .i64 8)
      exact bodyPost_ret (v := piece 0 ⟨#[]⟩ 0 8) (by simp [results, Tryz.results165, go_sem, e0, e1, e2, e3]) rfl (PSaid.at_start (hb.out _ _ _ _) (by decide) h0)
    | false =>
      show Calls _ _ _ _ (PSaid s (if (0 : Int) = 0 then (if T.any (fun d => decide (d.toNat = 92)) then ((0 : Int), [], (8 : Int), s.data.toList) else (3, T, 0, s.data.toList.drop (e + 1))) else _) w)
      rw [if_pos rfl, if_neg (by rw [hz]; decide)]
      clear hz HW
      obtain ⟨m, hm⟩ : ∃ m, e + 1 = m := ⟨_, rfl⟩
      have hmi : (e : Int) + 1 = (m : Int) := by omega
      have hm1 : 0 < m ∧ m ≤ s.size := by omega
      rw [hm]
      clear hm
      go_enter Tryz.func165, Tryz.ntmps165
      go_wp2_with (first
        | (go_at_call 158; refine (HS.out _).mono ?_; rintro e w1 ⟨rfl, rfl⟩)
        | (go_at_call 182; refine (HC.out _).mono ?_; rintro e w1 ⟨rfl, rfl⟩))
      exact bodyPost_ret (v := piece 3 (s.extract 1 e) (m : Nat) 0) (by simp [results, Tryz.results165, go_sem]) rfl ⟨(Below.refl _ w).alloc (Nat.le_refl _) _, fun _ => ⟨_, m, rfl, HT.out, hm1.1, hm1.2, rfl⟩, fun h => absurd rfl h⟩
  · have hg : Lx.good s[e] = false := by
      rcases Lx.but_stops (hk2.symm.trans hDe) with h | h
      · exact absurd h hc
      · exact h
    have hb2 : ((s[e].toNat : Int) != 124) = true := bne_iff_ne.2 (by omega)
    have hX : Lx.quo 124 (s.data.toList.drop e) = ([], 50, s.data.toList.drop e) := by rw [hDe, Lx.quo_bad _ hg]
    rw [hX]
    have HW := Lib.hid fun W => kwrong 50 (e : Nat) W
    clear hq hX hk hk2 hT h124 hs0 he hDe hc hes hg
    show Calls _ _ _ _ (PSaid s (0, [], 50, s.data.toList.drop e) w)
    go_enter Tryz.func165, Tryz.ntmps165
    go_wp2_with (first
      | (go_at_call 158; refine (HS.out _).mono ?_; rintro e w1 ⟨rfl, rfl⟩)
      | (go_at_call 170; refine (HW.out _).mono ?_; rintro e w4 ⟨rfl, b4⟩; obtain ⟨z0, y0, y1, y2, y3, f0, f1, f2, f3, hl, hb⟩ := HR.out _ b4))
    obtain ⟨_, e0, e1, e2, e3⟩ := pc_cells hl.out (.int .i64 0) (.string ⟨#[]⟩) (.int .i64 (e : Nat)) (.int .i64 50)
    exact bodyPost_ret (v := piece 0 ⟨#[]⟩ (e : Nat) 50) (by simp [results, Tryz.results165, go_sem, e0, e1, e2, e3]) rfl ⟨hb.out _ _ _ _, fun h => absurd h (by simp), fun _ => ⟨e, rfl, hlt, rfl⟩⟩
end Go.Proofs.YtfjpcjebecgglaaGreatDoor
namespace Go.Proofs.YtfjpcjebecgglaaGreatDoor
open Go.RowKit Go.Shelf
def MaxL (w : World) : Prop := ∃ m : Int, w.cell? ⟨3, 0, none⟩ = some (.int .i64 m)
theorem MaxL.below {w w' : World} (h : MaxL w) (hb : Below w.heap.size w w') : MaxL w' := by
  obtain ⟨m, hm⟩ := h
  exact ⟨m, (hb.cell (p := ⟨3, 0, none⟩) (World.block_lt_of_cell? w _ hm)).trans hm⟩
theorem MaxL.alloc {w : World} (h : MaxL w) (o : Obj) : MaxL (w.alloc o) := h.below ((Below.refl _ w).alloc (Nat.le_refl _) o)
theorem count_room (s : ByteArray) (sub : ByteArray) (n : Nat) (hn : n ≤ 2) (hs : s.size ≤ 4000000) : s.size + Lib.countB s sub * n ≤ 140737488355328 := by
  have h : Lib.countB s sub ≤ s.size + 1 := by
    have := Lib.count_le s.data.toList sub.data.toList
    rw [len_bytes] at this
    exact this
  have h2 : Lib.countB s sub * n ≤ (s.size + 1) * 2 := Nat.mul_le_mul h hn
  omega
theorem kdouble (V : ByteArray) (W : World) (hm : MaxL W) (hs : V.size ≤ 4000000) :
    Calls Tryz.prog 150 #[.string V, .string ⟨#[34]⟩, .string ⟨#[34, 34]⟩] W fun e w' => e = .returned (.string ⟨(Lx.dbl V.data.toList).toArray⟩) ∧ Below W.heap.size W w' := by
  obtain ⟨m, hm⟩ := hm
  have := Tryz.strings_ReplaceAll V ⟨#[34]⟩ ⟨#[34, 34]⟩ m W (by omega) hm (by decide) (count_room _ _ _ (by decide) hs)
  rw [show (⟨#[34]⟩ : ByteArray).data.toList = [34] from rfl, show (⟨#[34, 34]⟩ : ByteArray).data.toList = [34, 34] from rfl, Lx.rep_all _ _ _ (by decide), Lx.rep_dbl] at this
  exact this
theorem ksingle (V : ByteArray) (l : List UInt8) (hV : V.data.toList = Lx.dbl l) (W : World) (hm : MaxL W) (hs : V.size ≤ 4000000) :
    Calls Tryz.prog 150 #[.string V, .string ⟨#[34, 34]⟩, .string ⟨#[34]⟩] W fun e w' => e = .returned (.string ⟨l.toArray⟩) ∧ Below W.heap.size W w' := by
  obtain ⟨m, hm⟩ := hm
  have := Tryz.strings_ReplaceAll V ⟨#[34, 34]⟩ ⟨#[34]⟩ m W (by omega) hm (by decide) (count_room _ _ _ (by decide) hs)
  rw [show (⟨#[34]⟩ : ByteArray).data.toList = [34] from rfl, show (⟨#[34, 34]⟩ : ByteArray).data.toList = [34, 34] from rfl, Lx.rep_all _ _ _ (by decide), hV, Lx.rep_undbl] at this
  exact this
theorem khas (V : ByteArray) (W : World) (hs : V.size ≤ 1000000) :
    Calls Tryz.prog 55 #[.string V, .string ⟨#[34, 34]⟩] W fun e w' => e = .returned (.bool (decide (2 ≤ V.size) && (V.data.toList.take 2 == [34, 34]))) ∧ w' = W := by
  have hl : Calls Tryz.prog 93 #[.string V, .string ⟨#[34, 34]⟩] W fun e w' => e = .returned (.bool (decide (2 ≤ V.size) && (V.data.toList.take 2 == [34, 34]))) ∧ w' = W := by
    by_cases h2 : 2 ≤ V.size
    · have h2' : (2 : Int) ≤ (V.size : Int) := by omega
      have hsl := slice_to V 2 h2
      have hc : ((V.extract 0 2).toList == [34, 34]) = (V.data.toList.take 2 == [34, 34]) := by
        rw [ByteArray.toList_eq, (cut_bytes V 0 2 h2 (Nat.zero_le _)).1]
        rfl
      obtain ⟨b, hb⟩ : ∃ b, (V.data.toList.take 2 == [34, 34]) = b := ⟨_, rfl⟩
      rw [hb] at hc
      rw [hb, decide_eq_true h2]
      clear hb h2
      go_enter Tryz.func93, Tryz.ntmps93
      go_wp2
      go_ret
      exact ⟨by cases b <;> rfl, rfl⟩
    · have h2' : ¬ (2 : Int) ≤ (V.size : Int) := by omega
      rw [decide_eq_false h2]
      clear h2
      go_enter Tryz.func93, Tryz.ntmps93
      go_wp2
      go_ret
      exact ⟨rfl, rfl⟩
  have HL := Lib.hid hl
  obtain ⟨b, hb⟩ : ∃ b, (decide (2 ≤ V.size) && (V.data.toList.take 2 == [34, 34])) = b := ⟨_, rfl⟩
  rw [hb] at HL ⊢
  clear hl hb
  go_enter Tryz.func55, Tryz.ntmps55
  go_wp2_with (go_at_call 93; refine HL.out.mono ?_; rintro e w1 ⟨rfl, rfl⟩)
  go_ret
  exact ⟨rfl, rfl⟩
theorem kquoted (s : ByteArray) (w : World) (hs : s.size ≤ 1000000) (h0 : 0 < s.size) (h34 : s[0].toNat = 34) (hm : MaxL w) :
    Calls Tryz.prog 166 #[.string s] w (PSaid s (Lx.one s.data.toList) w) := by
  have HR := Lib.hid fun (w4 : World) b4 => pc_store w (w4 := w4) b4
  have HM := Lib.hid (hm.alloc (.cells ZP 212))
  have hs0 : s[0] = 34 := Lx.byte_eq h34
  obtain ⟨X, hX⟩ : ∃ X, Lx.quo 34 (s.data.toList.drop 1) = X := ⟨_, rfl⟩
  have hone : Lx.one s.data.toList = if X.2.1 = 0 then ((6 : Int), X.1, (0 : Int), X.2.2) else if X.2.1 = 50 then (0, [], 50, X.2.2) else (0, [], 51, s.data.toList) := by
    have hw := whole_head s h0
    rw [hs0] at hw
    rw [← hX]
    generalize s.data.toList.drop 1 = L at hw
    rw [hw]
    rfl
  obtain ⟨Y, hY⟩ : ∃ Y, Y = if X.2.1 = 0 then ((6 : Int), X.1, (0 : Int), X.2.2) else if X.2.1 = 50 then (0, [], 50, X.2.2) else (0, [], 51, s.data.toList) := ⟨_, rfl⟩
  rw [hone, ← hY]
  have HY := Lib.hid hY
  have hX0 : Hid (X = ([] ++ (Lx.quo 34 (s.data.toList.drop 1)).1, (Lx.quo 34 (s.data.toList.drop 1)).2)) := by
    show _ = _
    rw [hX]
    rfl
  clear hone hX hs0 h34 hm hY
  go_enter Tryz.func166, Tryz.ntmps166
  go_wp2
  go_loopw [3] (fun iv wr => ∃ i : Nat, 1 ≤ i ∧ i ≤ s.size ∧ iv = .int .i64 (i : Nat) ∧ wr = w.alloc (.cells ZP 212) ∧
    Hid (∃ l, (s.data.toList.drop 1).take (i - 1) = Lx.dbl l ∧ X = (l ++ (Lx.quo 34 (s.data.toList.drop i)).1, (Lx.quo 34 (s.data.toList.drop i)).2))) (fun iv _ => s.size - (intOf iv).toNat)
  case atStart => exact ⟨1, Nat.le_refl _, h0, by first | rfl | go_num, rfl, ⟨[], by rw [Nat.sub_self, List.take_zero]; rfl, hX0.out⟩⟩
  case round =>
    clear hX0
    obtain ⟨i, hi1, hi, rfl, rfl, HI⟩ := hrel
    obtain ⟨l, hl, hX⟩ := HI.out
    obtain ⟨k, hk, hk1, hk2, HS⟩ := span_end _ enter_clos3 (Lx.but 34) kclos3 s i (by unfold maxLen; omega) hi
    replace HS := Lib.hid HS
    have hsl := slice_from s i hi
    obtain ⟨T, hT⟩ : ∃ T, (s.data.toList.drop i).takeWhile (Lx.but 34) = T := ⟨_, rfl⟩
    have hq := Lx.quo_span 34 (s.data.toList.drop i)
    rw [show (34 : UInt8).toNat = 34 from rfl, ← hk2, hT] at hq
    rw [hq] at hX
    obtain ⟨e, he⟩ : ∃ e, i + k = e := ⟨_, rfl⟩
    rw [he] at hk1 hk2 hX
    have hki : (i : Int) + (k : Int) = (e : Int) := by omega
    have he1 : 1 ≤ e := by omega
    clear HI hq
    by_cases hes : e = s.size
    · rw [hes, drop_end] at hX
      have hX1 : X.2.1 = 51 := by rw [hX]; rfl
      obtain rfl : Y = (0, [], 51, s.data.toList) := by rw [HY.out, hX1, if_neg (by decide), if_neg (by decide)]
      have HW := Lib.hid fun W => kwrong 51 0 W
      have hb : ((e : Int) == (s.size : Int)) = true := beq_iff_eq.2 (by omega)
      clear hX hX1 hk hk2 hT he hl hes HY
      go_wp2_with (first
        | (go_at_call 158; refine (HS.out _).mono ?_; rintro e w1 ⟨rfl, rfl⟩)
        | (go_at_call 170; refine (HW.out _).mono ?_; rintro e w4 ⟨rfl, b4⟩; obtain ⟨z0, y0, y1, y2, y3, f0, f1, f2, f3, hl, hb⟩ := HR.out _ b4))
      obtain ⟨_, e0, e1, e2, e3⟩ := pc_cells hl.out (.int .i64 0) (.string ⟨#[]⟩) (.int .i64 0) (.int .i64 51)
      exact bodyPost_ret (v := piece 0 ⟨#[]⟩ 0 51) (by simp [results, Tryz.results166, go_sem, e0, e1, e2, e3]) rfl (PSaid.at_start (hb.out _ _ _ _) (by decide) h0)
    have hlt : e < s.size := by omega
    have hlt' : (e : Int) < (s.size : Int) := by omega
    have hb : ((e : Int) == (s.size : Int)) = false := beq_eq_false_iff_ne.2 (by omega)
    have hDe := drop_at s hlt
    by_cases hc : s[e].toNat = 34
    · have hb2 : ((s[e].toNat : Int) != 34) = false := by rw [bne, beq_iff_eq.2 (by omega : (s[e].toNat : Int) = 34)]; rfl
      have hse : s[e] = 34 := Lx.byte_eq hc
      have hTd : Lx.dbl (l ++ T) = (s.data.toList.drop 1).take (e - 1) := by
        have hTl : T.length = e - i := by rw [← hT, ← hk]; omega
        have h3 := congrArg (List.take T.length) (Lx.take_drop (Lx.but 34) (s.data.toList.drop i))
        rw [hT, List.take_left, hTl] at h3
        have h4 : s.data.toList.drop i = (s.data.toList.drop 1).drop (i - 1) := by rw [List.drop_drop]; congr 1; omega
        rw [Lx.dbl_app, ← hl, Lx.dbl_none T (by rw [← hT]; exact Lx.but_take 34 _), show e - 1 = (i - 1) + (e - i) by omega, List.take_add, ← h4, ← h3]
      obtain ⟨c1, c2⟩ := cut_bytes s e s.size (Nat.le_refl _) (by omega)
      rw [List.take_of_length_le (by rw [List.length_drop, len_bytes]; exact Nat.le_refl _)] at c1
      have hsl2 := slice_from s e hk1
      have HP := Lib.hid fun W => khas (s.extract e s.size) W (by omega)
      by_cases ht : ∃ u, s.data.toList.drop (e + 1) = 34 :: u
      · obtain ⟨u, hu⟩ := ht
        have he2 : e + 1 < s.size := by
          have := congrArg List.length hu
          rw [List.length_drop, len_bytes, List.length_cons] at this
          omega
        have hu2 : u = s.data.toList.drop (e + 2) := by
          have := drop_at s he2
          rw [hu] at this
          injection this
        have hpre : (decide (2 ≤ (s.extract e s.size).size) && ((s.extract e s.size).data.toList.take 2 == [34, 34])) = true := by
          rw [decide_eq_true (by omega), c1, hDe, hu, hse]
          rfl
        rw [hpre] at HP
        rw [hDe, hse, hu, Lx.quo_twice _ (by decide) (by decide)] at hX
        have HN : Hid (∃ l, (s.data.toList.drop 1).take (e + 2 - 1) = Lx.dbl l ∧ X = (l ++ (Lx.quo 34 (s.data.toList.drop (e + 2))).1, (Lx.quo 34 (s.data.toList.drop (e + 2))).2)) := by
          refine ⟨l ++ T ++ [34], ?_, by rw [hX, ← hu2]; simp⟩
          have h4 : s.data.toList.drop e = (s.data.toList.drop 1).drop (e - 1) := by rw [List.drop_drop]; congr 1; omega
          rw [Lx.dbl_app, hTd, show e + 2 - 1 = (e - 1) + 2 by omega, List.take_add, ← h4, hDe, hu, hse]
          rfl
        clear hX hk hk2 hT he hl hes hTd hpre c1 c2 hDe hc hu hu2 hse HY
        go_wp2_with (first
          | (go_at_call 158; refine (HS.out _).mono ?_; rintro e w1 ⟨rfl, rfl⟩)
          | (go_at_call 55; refine (HP.out _).mono ?_; rintro e w1 ⟨rfl, rfl⟩))
        go_roundw
        case rel => exact ⟨e + 2, by omega, by omega, by go_num, by trivial, HN⟩
        case measure => simp [intOf]; omega
      · have hpre : (decide (2 ≤ (s.extract e s.size).size) && ((s.extract e s.size).data.toList.take 2 == [34, 34])) = false := by
          rw [Bool.and_eq_false_iff]
          refine .inr (beq_eq_false_iff_ne.2 fun h => ht ?_)
          rw [c1, hDe] at h
          cases hr : s.data.toList.drop (e + 1) with
          | nil => rw [hr] at h; simp at h
          | cons d u => rw [hr] at h; simp at h; exact ⟨u, by rw [h.2]⟩
        rw [hpre] at HP
        rw [hDe, hse, Lx.quo_last _ (by decide) (fun h => ht h.2), List.append_nil] at hX
        obtain ⟨m, hm⟩ : ∃ m, e + 1 = m := ⟨_, rfl⟩
        have hmi : (e : Int) + 1 = (m : Int) := by omega
        have hm1 : 0 < m ∧ m ≤ s.size := by omega
        obtain rfl : Y = (6, l ++ T, 0, s.data.toList.drop m) := by rw [HY.out, hX, if_pos rfl, hm]
        have HU := Lib.hid fun W hW => ksingle (s.extract 1 e) (l ++ T) (by rw [(cut_bytes s 1 e hk1 he1).1, hTd]) W hW (by rw [(cut_bytes s 1 e hk1 he1).2]; omega)
        clear hX hk hk2 hT he hl hes hTd hpre c1 c2 hDe hc hse ht HY hm
        go_wp2_with (first
          | (go_at_call 158; refine (HS.out _).mono ?_; rintro e w1 ⟨rfl, rfl⟩)
          | (go_at_call 55; refine (HP.out _).mono ?_; rintro e w1 ⟨rfl, rfl⟩)
          | (go_at_call 150; refine (HU.out _ HM.out).mono ?_; rintro e w4 ⟨rfl, b4⟩; obtain ⟨z0, y0, y1, y2, y3, f0, f1, f2, f3, hl, hb⟩ := HR.out _ b4))
        obtain ⟨_, e0, e1, e2, e3⟩ := pc_cells hl.out (.int .i64 6) (.string ⟨(l ++ T).toArray⟩) (.int .i64 (m : Nat)) (.int .i64 0)
        exact bodyPost_ret (v := piece 6 ⟨(l ++ T).toArray⟩ (m : Nat) 0) (by simp [results, Tryz.results166, go_sem, e0, e1, e2, e3]) rfl ⟨hb.out _ _ _ _, fun _ => ⟨_, m, rfl, rfl, hm1.1, hm1.2, rfl⟩, fun h => absurd rfl h⟩
    · have hg : Lx.good s[e] = false := by
        rcases Lx.but_stops (hk2.symm.trans hDe) with h | h
        · exact absurd h hc
        · exact h
      have hb2 : ((s[e].toNat : Int) != 34) = true := bne_iff_ne.2 (by omega)
      rw [hDe, Lx.quo_bad _ hg, ← hDe] at hX
      obtain rfl : Y = (0, [], 50, s.data.toList.drop e) := by rw [HY.out, hX]; rfl
      have HW := Lib.hid fun W => kwrong 50 (e : Nat) W
      clear hX hk hk2 hT he hl hes hDe hc hg HY
      go_wp2_with (first
        | (go_at_call 158; refine (HS.out _).mono ?_; rintro e w1 ⟨rfl, rfl⟩)
        | (go_at_call 170; refine (HW.out _).mono ?_; rintro e w4 ⟨rfl, b4⟩; obtain ⟨z0, y0, y1, y2, y3, f0, f1, f2, f3, hl, hb⟩ := HR.out _ b4))
      obtain ⟨_, e0, e1, e2, e3⟩ := pc_cells hl.out (.int .i64 0) (.string ⟨#[]⟩) (.int .i64 (e : Nat)) (.int .i64 50)
      exact bodyPost_ret (v := piece 0 ⟨#[]⟩ (e : Nat) 50) (by simp [results, Tryz.results166, go_sem, e0, e1, e2, e3]) rfl ⟨hb.out _ _ _ _, fun h => absurd h (by simp), fun _ => ⟨e, rfl, hlt, rfl⟩⟩
end Go.Proofs.YtfjpcjebecgglaaGreatDoor
