/- The code: Lex. -/
import Derived.Test.YtpjdfogieiokkaaDoorK8
import Derived.Test.YtpjdfogieiokkaaDoorR9
namespace Go.Proofs.YtpjdfogieiokkaaDoor
open Go.RowKit Go.Shelf

theorem Lx.skip_twice : ∀ (l : List UInt8) (r : Bool), Lx.skip false (Lx.skip r l) = Lx.skip r l
  | [], _ => rfl
  | c :: t, r => by
    rw [Lx.skip_cons]
    split
    · rename_i hg
      split
      · rename_i h
        have h' := h
        simp at h'
        exact Lx.skip_stays t h'.2 h'.1.2
      · exact Lx.skip_twice t _
    · rename_i hg
      rw [Lx.skip_cons, if_neg hg]
/-- where the next token would begin, once for all -/
theorem pass_k (s : ByteArray) (a : Nat) (hs : s.size ≤ 1000000) (ha : a ≤ s.size) : ∃ k : Nat, a ≤ k ∧ k ≤ s.size ∧ s.data.toList.drop k = Lx.skip false (s.data.toList.drop a) ∧
    ∀ w, Calls Tryd.prog 33 #[.string s, .int .i64 (a : Nat)] w fun e w' => e = .returned (.int .i64 (k : Nat)) ∧ w' = w := by
  obtain ⟨p, hp⟩ := Lx.skip_end (s.data.toList.drop a) false
  have hl := congrArg List.length hp
  rw [List.length_append, List.length_drop, len_bytes] at hl
  have hk : s.data.toList.drop (a + p.length) = Lx.skip false (s.data.toList.drop a) := by
    rw [← List.drop_drop]
    have := congrArg (List.drop p.length) hp
    rw [List.drop_left] at this
    exact this
  refine ⟨a + p.length, by omega, by omega, hk, fun w => ?_⟩
  refine (kpass s a w (by unfold maxLen; omega) ha).mono ?_
  rintro e w' ⟨k', rfl, rfl, h1, h2, h3⟩
  obtain rfl := drop_inj s h2 (by omega) (h3.trans hk.symm)
  exact ⟨rfl, rfl⟩

set_option maxHeartbeats 3200000 in
theorem klex (s : ByteArray) (w : World) (hs : s.size ≤ 100000000) (hm : MaxL w) :
    Calls Tryd.prog 24 #[.string s] w fun e w' => ∃ A c l E p, e = .returned (.tuple #[.slice A l.length c, .int .i64 E, .int .i64 (p : Nat)]) ∧ LSaid s w A c l E p w' := by
  by_cases hlong : 16384 < s.size
  · have hl' : (16384 : Int) < (s.size : Int) := by omega
    go_enter Tryd.func24, Tryd.ntmps24
    go_wp2
    go_ret3
    exact ⟨none, 0, [], 2, 0, rfl, ⟨OwnL.nil _ _, Below.refl _ _, fun x hx => absurd hx List.not_mem_nil, Nat.zero_le _, by simp, fun _ => ⟨rfl, rfl, rfl⟩, fun h => absurd h (by omega)⟩⟩
  · have hl' : ¬ (16384 : Int) < (s.size : Int) := by omega
    replace hs : s.size ≤ 1000000 := by omega
    obtain ⟨X, HX⟩ : ∃ X, Hid (Lx.lex 4000 s.data.toList = X) := ⟨_, rfl⟩
    have HX0 := Lib.hid HX.out
    obtain ⟨j, hj1, hj2, hj3, HJ⟩ := pass_k s 0 hs (Nat.zero_le _)
    rw [List.drop_zero] at hj3
    replace HJ := Lib.hid HJ
    have HXj : Hid (Lx.skip false (s.data.toList.drop j) = s.data.toList.drop j ∧ X = (Lx.lex 4000 (s.data.toList.drop j))) := ⟨by rw [hj3, Lx.skip_twice], by rw [← HX.out]; exact Lx.lex_skip 4000 (by rw [hj3, Lx.skip_twice])⟩
    have HM := Lib.hid hm
    clear hj1 hj3 hm
    go_enter Tryd.func24, Tryd.ntmps24
    go_wp2_with (go_at_call 33; refine (HJ.out _).mono ?_; rintro e w1 ⟨rfl, rfl⟩)
    go_loopw [5, 6] (fun ov iv wr => ∃ (i m : Nat) (A : Option Addr) (c : Nat) (l : List MTok), i ≤ s.size ∧ m ≤ 4000 ∧ iv = .int .i64 (i : Nat) ∧ ov = .slice A m c ∧ Below w1.heap.size w1 wr ∧
      Hid (Lx.skip false (s.data.toList.drop i) = s.data.toList.drop i ∧ OwnL wr w1.heap.size A c l ∧ l.length = m ∧ (∀ x ∈ l, x.2.2 ≤ s.size) ∧ X = (l.map (pureTok s) ++ (Lx.lex (4000 - m) (s.data.toList.drop i)).1, (Lx.lex (4000 - m) (s.data.toList.drop i)).2))) (fun _ iv _ => s.size - (intOf iv).toNat)
    case atStart => exact ⟨j, 0, none, 0, [], hj2, Nat.zero_le _, rfl, rfl, by first | exact Below.refl _ _ | assumption, ⟨HXj.out.1, OwnL.nil _ _, rfl, fun x hx => absurd hx List.not_mem_nil, by rw [HXj.out.2]; rfl⟩⟩
    case round =>
      clear HX HXj HJ hj2
      obtain ⟨i, m, A, c, l, hi, hm, rfl, rfl, hb, HI⟩ := hrel
      obtain ⟨hsk, ho, hlm, hat, hX⟩ := HI.out
      clear HI
      have HB := Lib.hid hb
      have HO := Lib.hid ho
      have HL := Lib.hid hlm
      have HT := Lib.hid hat
      have hfew : Hid (l.length ≤ 4000) := (by show _ ≤ _; omega)
      have hnl : ¬ 16384 < s.size := hlong
      have end_ : ∀ (E : Int) (p : Nat), p ≤ s.size → X = (l.map (pureTok s), E, s.data.toList.drop p) → Hid (∀ w', Below wr.heap.size wr w' → LSaid s w1 A c l E p w') := fun E p hp hx => Lib.hid fun w' b' =>
        ⟨HO.out.kept b', HB.out.trans (b'.mono HB.out.size), HT.out, hp, hfew.out, fun h => absurd h hnl, fun _ => by rw [HX0.out, hx]; exact ⟨rfl, rfl, rfl⟩⟩
      have HEnd := Lib.hid end_
      by_cases hks : i = s.size
      · subst hks
        rw [drop_end] at hX
        rw [Lx.lex_nil _ (show Lx.skip false [] = [] from rfl)] at hX
        have HZ := Lib.hid (HEnd.out 0 s.size (Nat.le_refl _) (by rw [hX, drop_end]; simp))
        clear hX hsk hb ho hlm hat end_ HEnd
        go_wp2
        go_ret3
        exact ⟨A, c, l, 0, s.size, by rw [HL.out]; rfl, HZ.out.out _ (Below.refl _ _)⟩
      have hklt : i < s.size := by omega
      have hklt' : (i : Int) < (s.size : Int) := by omega
      have hDk := drop_at s hklt
      rw [hDk] at hsk
      have HG := Lib.hid fun W => kscripts s[i] W
      have hwc := rune_c s[i]
      obtain ⟨g, hg⟩ : ∃ g, Lx.good s[i] = g := ⟨_, rfl⟩
      rw [hg] at HG
      rw [hDk] at hX
      cases g with
      | false =>
        rw [Lx.lex_bad _ hsk hg] at hX
        have HZ := Lib.hid (HEnd.out 50 i hi (by rw [hX, hDk]; simp))
        clear hX hb ho hlm hat end_ HEnd hsk hDk hg hks
        go_wp2_with (go_at_call 34; refine (HG.out _).mono ?_; rintro e w5 ⟨rfl, rfl⟩)
        go_ret3
        exact ⟨A, c, l, 50, i, by rw [HL.out]; rfl, HZ.out.out _ (Below.refl _ _)⟩
      | true =>
        by_cases hm4 : m = 4000
        · subst hm4
          rw [Nat.sub_self, Lx.lex_zero hsk hg] at hX
          have HZ := Lib.hid (HEnd.out 2 i hi (by rw [hX, hDk]; simp))
          clear hX hb ho hlm hat end_ HEnd hsk hDk hg hks
          go_wp2_with (go_at_call 34; refine (HG.out _).mono ?_; rintro e w5 ⟨rfl, rfl⟩)
          go_ret3
          exact ⟨A, c, l, 2, i, by rw [HL.out]; rfl, HZ.out.out _ (Below.refl _ _)⟩
        · obtain ⟨r, hr⟩ : ∃ r, 4000 - m = r + 1 := ⟨4000 - m - 1, by omega⟩
          have hr2 : 4000 - (m + 1) = r := by omega
          have hmb : ((m : Int) == 4000) = false := beq_eq_false_iff_ne.2 (by omega)
          rw [hr] at hX
          have hsl := slice_from s i hi
          obtain ⟨c1, c2⟩ := cut_bytes s i s.size (Nat.le_refl _) hi
          rw [List.take_of_length_le (by rw [List.length_drop, len_bytes]; exact Nat.le_refl _)] at c1
          have H1 := Lib.hid fun W hW => kfirst (s.extract i s.size) W (by omega) (by omega) hW
          obtain ⟨Y, hY⟩ : ∃ Y, Lx.one (s.data.toList.drop i) = Y := ⟨_, rfl⟩
          rw [c1, hY] at H1
          rw [hDk] at hY
          have HMr := Lib.hid (HM.out.below HB.out)
          have HC := Lib.hid (And.intro c1 c2)
          by_cases he : Y.2.2.1 = 0
          · rw [Lx.lex_ok r hsk hg (by rw [hY]; exact he), hY] at hX
            have HE := Lib.hid he
            have hm3 : m + 1 ≤ 4000 := by omega
            have HOn : Hid (∀ w2, Below wr.heap.size wr w2 → ∀ o, OwnL (w2.alloc o) w1.heap.size A c l ∧ Below w1.heap.size w1 w2 ∧ w1.heap.size ≤ w2.heap.size) := fun w2 b2 o => ⟨HO.out.kept (b2.alloc b2.size o), HB.out.trans (b2.mono HB.out.size), Nat.le_trans HB.out.size b2.size⟩
            have HXn : Hid (∀ (T : ByteArray) (b k : Nat), T.data.toList = Y.2.1 → s.data.toList.drop b = Y.2.2.2 → s.data.toList.drop k = Lx.skip false (s.data.toList.drop b) → Lx.skip false (s.data.toList.drop k) = s.data.toList.drop k ∧ X = ((l ++ [(Y.1, T, i)]).map (pureTok s) ++ (Lx.lex (4000 - (m + 1)) (s.data.toList.drop k)).1, (Lx.lex (4000 - (m + 1)) (s.data.toList.drop k)).2)) := fun T b k e1 e2 e3 => by
              refine ⟨by rw [e3, Lx.skip_twice], ?_⟩
              rw [hX, ← e2, hr2, List.map_append, Lx.lex_skip r (show Lx.skip false (s.data.toList.drop b) = Lx.skip false (s.data.toList.drop k) by rw [e3, Lx.skip_twice])]
              have : (s[i] :: s.data.toList.drop (i + 1)).length = s.size - i := by rw [← hDk, List.length_drop, len_bytes]
              simp only [List.map_cons, List.map_nil, pureTok, e1, this, List.append_assoc, List.cons_append, List.nil_append]
            have HO2 : Hid (∀ w2 w3 o1 o2, Below w1.heap.size w1 w2 → w1.heap.size ≤ w2.heap.size → ((w2.alloc o1).grownBy w3 (Value.slice A m c).ownBlock) → (Value.slice A m c).ownBlock = o2 → Below w1.heap.size w1 w3) := fun w2 w3 o1 o2 b2 z2 g3 _ =>
              (b2.alloc z2 o1).grown g3 (Nat.le_trans z2 (by simp)) (fun q hq => (HO.out.lt q (by rw [HL.out]; exact hq)).1)
            have HBX : Hid (∀ w2 w3 cs, Below wr.heap.size wr w2 → ((w2.alloc (.cells cs 64)).grownBy w3 (Value.slice A m c).ownBlock) → Lies w3 w2.heap.size 64 cs) := fun w2 w3 cs b2 g3 =>
              (Turn.of_grown (F := fun q => (Value.slice A m c).ownBlock = some q) g3 (fun q hq _ => hq)).lies (Lies.new w2 64 cs) (fun hq => absurd (HO.out.lt _ (by rw [HL.out]; exact hq)).2 (Nat.not_lt.2 b2.size))
            have HPK := Lib.hid fun (b : Nat) (hb : b ≤ s.size) => pass_k s b hs hb
            clear hX hb ho hlm hat end_ HEnd hsk hDk hg hks hY he hr hr2 hm4 c1 HX0
            go_wp2_with (first
              | (go_at_call 34; refine (HG.out _).mono ?_; rintro e w5 ⟨rfl, rfl⟩)
              | (go_at_call 35; refine (H1.out _ HMr.out).mono ?_; rintro e w2 q; obtain ⟨T, b, rfl, hT, hb1, hb2, hb3⟩ := q.ok HE.out; have QT := Lib.hid hT; have QB := Lib.hid hb3; have QW := Lib.hid q.below; clear q hT hb3; obtain ⟨d, hd⟩ : ∃ d, i + b = d := ⟨_, rfl⟩; have hdi : (i : Int) + (b : Int) = (d : Int) := (by omega); obtain ⟨k, hk1, hk2, hk3, hk4⟩ := HPK.out d (by omega); have HK4 := Lib.hid hk4; have HK3 := Lib.hid hk3; clear hk3 hk4)
              | (go_at_call 33; refine (HK4.out _).mono ?_; rintro e w6 ⟨rfl, rfl⟩)
              | (at_builtin; refine appendL _ rfl (.tmp 44) (.tmp 51) rfl w1.heap.size A c l m HL.out (Y.1, T, i) _ (by simp) rfl (HOn.out _ QW.out _).1 rfl (by omega) (Nat.le_trans (HOn.out _ QW.out (.cells #[] 0)).2.2 (by simp)) ?_; intro A3 c3 w3 o3 g3; have O3 := Lib.hid o3; have B3 := Lib.hid (HO2.out _ _ _ _ (HOn.out _ QW.out (.cells #[] 0)).2.1 (HOn.out _ QW.out (.cells #[] 0)).2.2 g3 rfl); have HLi := HBX.out _ _ _ QW.out g3; have z2 := HLi.cell 2; simp at z2; have z3 := HLi.lt; clear o3 g3 HLi))
            go_roundw
            case rel => exact ⟨k, m + 1, A3, c3, l ++ [(Y.1, T, i)], hk2, hm3, rfl, rfl, B3.out, ⟨(HXn.out T d k QT.out (by rw [← hd, ← List.drop_drop, ← HC.out.1]; exact QB.out) HK3.out).1, O3.out, by rw [List.length_append, HL.out]; rfl, fun x hx => (by rcases List.mem_append.1 hx with h | h; exact HT.out x h; rw [List.mem_singleton.1 h]; exact hi), (HXn.out T d k QT.out (by rw [← hd, ← List.drop_drop, ← HC.out.1]; exact QB.out) HK3.out).2⟩⟩
            case measure => simp [intOf]; omega
          · rw [Lx.lex_err r hsk hg (by rw [hY]; exact he), hY] at hX
            have HE := Lib.hid he
            have HZ : Hid (∀ p : Nat, i + p < s.size → (s.extract i s.size).data.toList.drop p = Y.2.2.2 → ∀ w', Below wr.heap.size wr w' → LSaid s w1 A c l Y.2.2.1 (i + p : Nat) w') := fun p hp e2 w' b' =>
              (HEnd.out Y.2.2.1 (i + p) (by omega) (by rw [hX, ← e2, HC.out.1, List.drop_drop]; simp)).out w' b'
            obtain ⟨E, hE⟩ : ∃ E, Y.2.2.1 = E := ⟨_, rfl⟩
            have hEb : (E == 0) = false := by rw [← hE]; exact beq_eq_false_iff_ne.2 he
            have hEn : (E != 0) = true := by rw [bne, hEb]; rfl
            have HEq := Lib.hid hE
            clear hX hb ho hlm hat end_ HEnd hsk hDk hg hks hY he hr hr2 hm4 hE c1 HX0
            go_wp2_with (first
              | (go_at_call 34; refine (HG.out _).mono ?_; rintro e w5 ⟨rfl, rfl⟩)
              | (go_at_call 35; refine (H1.out _ HMr.out).mono ?_; rintro e w2 q; obtain ⟨p, rfl, hp1, hp3⟩ := q.bad HE.out; rw [HEq.out]; have QB := Lib.hid hp3; have QW := Lib.hid q.below; clear q hp3; obtain ⟨d, hd⟩ : ∃ d, i + p = d := ⟨_, rfl⟩; have hdi : (i : Int) + (p : Int) = (d : Int) := (by omega)))
            go_quiet (fail)
            go_wp2
            go_ret3
            exact ⟨A, c, l, Y.2.2.1, d, by rw [HL.out, HEq.out]; rfl, hd ▸ HZ.out p (by omega) QB.out _ (((QW.out.alloc QW.out.size _).trans (Turn.none_ ((Turn.refl (fun _ => False) _).drewN _) (fun _ => id) |>.mono (by simp; exact Nat.le_succ_of_le QW.out.size))))⟩
end Go.Proofs.YtpjdfogieiokkaaDoor
