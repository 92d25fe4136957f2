/- The reference of literals: next, Points. -/
import Derived.Test.YtmdjgjcneegiiaaDoorJ4
namespace Go.Proofs.YtmdjgjcneegiiaaDoor
open Go.RowKit

theorem Lt.seek_short {q : List UInt8} : ∀ (m k : Nat), q.length ≤ k → Lt.seek q m k = none
  | 0, _, _ => rfl
  | m + 1, k, h => by rw [Lt.seek, List.getElem?_eq_none h, if_neg (by simp), Lt.seek_short m (k + 1) (by omega)]
theorem Lt.seek_other {q : List UInt8} {m k : Nat} (h : q[k]? ≠ some 125) : Lt.seek q (m + 1) k = Lt.seek q m (k + 1) := by rw [Lt.seek, if_neg h]
theorem Lt.seek_some {q : List UInt8} {m k n : Nat} (h : q[k]? = some 125) (hn : Lt.num (q.take k) = some n) : Lt.seek q (m + 1) k = some (n, q.drop (k + 1)) := by rw [Lt.seek, if_pos h, hn]
theorem Lt.seek_none {q : List UInt8} {m k : Nat} (h : q[k]? = some 125) (hn : Lt.num (q.take k) = none) : Lt.seek q (m + 1) k = Lt.seek q m (k + 1) := by rw [Lt.seek, if_pos h, hn]
theorem Lt.numI_some {l : List UInt8} {n : Nat} (h : Lt.num l = some n) : Lt.numI l = (n : Int) := by rw [Lt.numI, h]
theorem Lt.numI_none {l : List UInt8} (h : Lt.num l = none) : Lt.numI l = -1 := by rw [Lt.numI, h]
theorem Lt.num_123 (t : List UInt8) : Lt.num (123 :: t) = none := by
  cases e : Lt.num (123 :: t) with
  | none => rfl
  | some n =>
    have := (Lt.num_some.1 e).2.1
    rw [Lt.val_none _ Lt.dig_123] at this
    cases this
/-- what next answers: the code point that comes first, and where what is left begins -/
def NextSaid (s : ByteArray) (a : Nat) (e : Ending) : Prop := ∃ c k : Nat, e = .returned (.tuple #[.int .i64 (c : Nat), .int .i64 (k : Nat)]) ∧ a < k ∧ k ≤ s.size ∧ c ≤ 196607 ∧ Lt.one (s.data.toList.drop a) = (c, s.data.toList.drop k)
theorem NextSaid.of {s : ByteArray} {a c k : Nat} (h1 : a < k) (h2 : k ≤ s.size) (h : Lt.one (s.data.toList.drop a) = (c, s.data.toList.drop k)) : NextSaid s a (.returned (.tuple #[.int .i64 (c : Nat), .int .i64 (k : Nat)])) := by
  refine ⟨c, k, rfl, h1, h2, ?_, h⟩
  have hl : 0 < (s.data.toList.drop a).length := by rw [List.length_drop, Lt.len_bytes]; omega
  cases hd : s.data.toList.drop a with
  | nil => rw [hd] at hl; cases hl
  | cons x t =>
    have := (Lt.one_facts x t).1
    rw [← hd, h] at this
    exact this
theorem Lt.get_drop (s : ByteArray) {a k : Nat} (h : a + k < s.size) : (s.data.toList.drop a)[k]? = some s[a + k] := by
  rw [List.getElem?_drop]
  have h' : a + k < s.data.toList.length := by rw [Lt.len_bytes]; exact h
  rw [List.getElem?_eq_getElem h']
  rfl
theorem Lt.head_drop (s : ByteArray) {a : Nat} (h : a < s.size) : (s.data.toList.drop a).head? = some s[a] := by rw [Lt.drop_at s h]; rfl
theorem Lt.byte_eq {c : UInt8} {n : Nat} (h : c.toNat = n) : c = UInt8.ofNat n := by rw [← h]; simp

set_option maxRecDepth 100000 in
set_option maxHeartbeats 1600000 in
theorem rnext7 (s : ByteArray) (a : Nat) (w : World) (hs : s.size ≤ 100000000) (ha : a < s.size) :
    Calls Tryd.prog 22 #[.string s, .int .i64 (a : Nat)] w fun e w' => NextSaid s a e ∧ w' = w := by
  have hd0 := Lt.drop_at s ha
  have hai : (a : Int) < (s.size : Int) := by omega
  have ha0 : (0 : Int) ≤ (a : Int) := by omega
  have hwr : wrap64 (s[a].toNat : Int) = (s[a].toNat : Int) := by
    have := s[a].toNat_lt
    unfold wrap64
    omega
  obtain ⟨Post, hPost⟩ : ∃ Post : Ending → World → Prop, Post = fun e w' => NextSaid s a e ∧ w' = w := ⟨_, rfl⟩
  rw [← hPost]
  have HP : Hid (∀ c k : Nat, a < k → k ≤ s.size → Lt.one (s.data.toList.drop a) = (c, s.data.toList.drop k) → Post (.returned (.tuple #[.int .i64 (c : Nat), .int .i64 (k : Nat)])) w) := fun c k h1 h2 h3 => by
    rw [hPost]
    exact ⟨NextSaid.of h1 h2 h3, rfl⟩
  clear hPost
  have plain : Lt.one (s.data.toList.drop a) = (s[a].toNat, s.data.toList.drop (a + 1)) → Post (.returned (.tuple #[.int .i64 (s[a].toNat : Nat), .int .i64 ((a : Int) + 1)])) w := fun h => by
    have := HP.out s[a].toNat (a + 1) (by omega) (by omega) h
    exact this
  have HPl := Lib.hid plain
  clear plain
  by_cases h1 : s[a] = 92
  case neg =>
    have hone : Lt.one (s.data.toList.drop a) = (s[a].toNat, s.data.toList.drop (a + 1)) := by
      rw [hd0, Lt.one_plain fun h => h1 h.1]
    have HR := Lib.hid (HPl.out hone)
    have hb : ((s[a].toNat : Int) == 92) = false := beq_eq_false_iff_ne.2 fun e => h1 (Lt.byte_eq (n := 92) (by omega))
    clear hone HP HPl hd0 h1
    go_enter Tryd.func22, Tryd.ntmps22
    go_wp2
    all_goals
      first | exact HR.out | (rw [hwr]; exact HR.out) | exact bodyPost_ret (by simp [results, Tryd.results22, go_sem]) rfl HR.out | (rw [hwr]; exact bodyPost_ret (by simp [results, Tryd.results22, go_sem]) rfl HR.out)
  case pos =>
    have hb : ((s[a].toNat : Int) == 92) = true := by rw [h1]; rfl
    by_cases h2 : a + 1 < s.size
    case neg =>
      have hone : Lt.one (s.data.toList.drop a) = (s[a].toNat, s.data.toList.drop (a + 1)) := by
        rw [hd0, Lt.one_plain fun h => ?_]
        have := h.2
        rw [List.drop_of_length_le (by rw [Lt.len_bytes]; omega)] at this
        cases this
      have HR := Lib.hid (HPl.out hone)
      have q1 : ¬ (a : Int) + 2 < (s.size : Int) := by omega
      have q2 : ¬ (a : Int) + 6 ≤ (s.size : Int) := by omega
      clear hone HP HPl hd0 h1
      go_enter Tryd.func22, Tryd.ntmps22
      go_wp2
      first | exact HR.out | (rw [hwr]; exact HR.out) | exact bodyPost_ret (by simp [results, Tryd.results22, go_sem]) rfl HR.out | (rw [hwr]; exact bodyPost_ret (by simp [results, Tryd.results22, go_sem]) rfl HR.out)
    case pos =>
      have hd1 := Lt.drop_at s h2
      by_cases h3 : s[a + 1] = 117
      case neg =>
        have hone : Lt.one (s.data.toList.drop a) = (s[a].toNat, s.data.toList.drop (a + 1)) := by
          rw [hd0, Lt.one_plain fun h => ?_]
          have := h.2
          rw [hd1] at this
          injection this with this
          exact h3 this
        have HR := Lib.hid (HPl.out hone)
        have hb1 : ((s[a + 1].toNat : Int) == 117) = false := beq_eq_false_iff_ne.2 fun e => h3 (Lt.byte_eq (n := 117) (by omega))
        have hai1 : (a : Int) + 1 < (s.size : Int) := by omega
        clear hone HP HPl hd0 hd1 h1 h3
        go_enter Tryd.func22, Tryd.ntmps22
        go_wp2
        all_goals
          first | exact HR.out | (rw [hwr]; exact HR.out) | exact bodyPost_ret (by simp [results, Tryd.results22, go_sem]) rfl HR.out | (rw [hwr]; exact bodyPost_ret (by simp [results, Tryd.results22, go_sem]) rfl HR.out)
      case pos =>
        have hb1 : ((s[a + 1].toNat : Int) == 117) = true := by rw [h3]; rfl
        have hai1 : (a : Int) + 1 < (s.size : Int) := by omega
        have HO : Hid (Lt.one (s.data.toList.drop a) = (Lt.esc (s.data.toList.drop (a + 2))).getD (92, s.data.toList.drop (a + 1))) := by
          show _ = _
          rw [hd0, hd1, h1, h3, Lt.one_esc]
        have HN : Hid (Lt.esc (s.data.toList.drop (a + 2)) = none → Post (.returned (.tuple #[.int .i64 (s[a].toNat : Nat), .int .i64 ((a : Int) + 1)])) w) := fun h => by
          refine HPl.out ?_
          rw [HO.out, h, h1]
          rfl
        clear hd0 hd1 HPl h3
        by_cases h4 : ∃ h : a + 2 < s.size, s[a + 2] = 123
        · obtain ⟨h4, h5⟩ := h4
          have hb2 : ((s[a + 2].toNat : Int) == 123) = true := by rw [h5]; rfl
          have hai2 : (a : Int) + 2 < (s.size : Int) := by omega
          have hd2 : s.data.toList.drop (a + 2) = 123 :: s.data.toList.drop (a + 3) := by rw [Lt.drop_at s h4, h5]
          obtain ⟨q, hq⟩ : ∃ q, s.data.toList.drop (a + 3) = q := ⟨_, rfl⟩
          have hql : q.length = s.size - (a + 3) := by rw [← hq, List.length_drop, Lt.len_bytes]
          have HE : Hid (Lt.esc (s.data.toList.drop (a + 2)) = Lt.seek q 5 1) := by
            show _ = _
            rw [hd2, Lt.esc_brace, hq, Lt.brace]
          have HQ : Hid (∀ k, a + 3 + k < s.size → ∀ h, q[k]? = some (s[a + 3 + k]'h)) := fun k hk h => by rw [← hq]; exact Lt.get_drop s hk
          have HT : Hid (∀ k, a + 3 + k ≤ s.size → (s.extract (a + 3) (a + 3 + k)).data.toList = q.take k ∧ (s.extract (a + 3) (a + 3 + k)).size = k) := fun k hk => by
            obtain ⟨c1, c2⟩ := Lt.cut_bytes s (a + 3) (a + 3 + k) hk (by omega)
            rw [c1, c2, hq, show a + 3 + k - (a + 3) = k by omega]
            exact ⟨rfl, rfl⟩
          have HX : Hid (∀ k, q.drop k = s.data.toList.drop (a + 3 + k)) := fun k => by rw [← hq, List.drop_drop]
          have H6 : Hid (a + 6 ≤ s.size → ∀ W, Calls Tryd.prog 38 #[.string (s.extract (a + 2) (a + 6))] W fun e w' => e = .returned (.int .i64 (-1)) ∧ w' = W) := fun h W => by
            obtain ⟨c1, c2⟩ := Lt.cut_bytes s (a + 2) (a + 6) h (by omega)
            have := rdigits7 (s.extract (a + 2) (a + 6)) W (by omega)
            rw [c1, hd2, show a + 6 - (a + 2) = 4 by omega, List.take_succ_cons, Lt.numI_none (Lt.num_123 _)] at this
            exact this
          have HS := Lib.hid fun (x y : Nat) hy hx W => Lt.slice_both s x y hy hx W
          have HQL := Lib.hid hql
          clear hd2 hq hql h1 h5
          go_enter Tryd.func22, Tryd.ntmps22
          go_wp2
          go_loopw [6] (fun kv wr => ∃ k : Nat, 1 ≤ k ∧ k ≤ 6 ∧ kv = .int .i64 (k : Nat) ∧ wr = w ∧ Hid (Lt.seek q 5 1 = Lt.seek q (6 - k) k)) (fun kv _ => 6 - (intOf kv).toNat)
          case atStart => exact ⟨1, by omega, by omega, rfl, rfl, rfl⟩
          case round =>
            obtain ⟨k, hk1, hk6, rfl, rfl, HI⟩ := hrel
            by_cases hk : k ≤ 5 ∧ a + 3 + k < s.size
            · obtain ⟨hk5, hks⟩ := hk
              have hk5' : (k : Int) ≤ 5 := by omega
              have hks' : (a : Int) + 3 + (k : Int) < (s.size : Int) := by omega
              have hqk := HQ.out k hks hks
              obtain ⟨m, hm⟩ : ∃ m, 6 - k = m + 1 := ⟨5 - k, by omega⟩
              have hm2 : 6 - (k + 1) = m := by omega
              by_cases hc : s[a + 3 + k] = 125
              · have hb3 : ((s[a + 3 + k].toNat : Int) == 125) = true := by rw [hc]; rfl
                obtain ⟨c1, c2⟩ := HT.out k (by omega)
                have HD := Lib.hid (rdigits7 (s.extract (a + 3) (a + 3 + k)) wr (by omega))
                rw [c1] at HD
                have hsl := HS.out (a + 3) (a + 3 + k) (by omega) (by omega)
                rw [hc] at hqk
                cases hn : Lt.num (q.take k) with
                | none =>
                  rw [Lt.numI_none hn] at HD
                  have HN2 : Hid (Lt.seek q 5 1 = Lt.seek q (6 - (k + 1)) (k + 1)) := by
                    show _ = _
                    rw [HI.out, hm, hm2]
                    exact Lt.seek_none hqk hn
                  clear HI hqk hn hm hm2 c1 c2 hc
                  go_wp2_with (go_at_call 38; refine HD.out.mono ?_; rintro e w1 ⟨rfl, rfl⟩)
                  go_roundw
                  case rel => exact ⟨k + 1, by omega, by omega, by go_num, by first | rfl | trivial, HN2⟩
                  case measure => simp [intOf]; omega
                | some n =>
                  rw [Lt.numI_some hn] at HD
                  have hfin : Post (.returned (.tuple #[.int .i64 (n : Nat), .int .i64 ((a : Int) + 4 + (k : Int))])) wr := by
                    have := HP.out n (a + 4 + k) (by omega) (by omega) ?_
                    · simpa using this
                    · rw [HO.out, HE.out, HI.out, hm, Lt.seek_some hqk hn, HX.out, show a + 3 + (k + 1) = a + 4 + k by omega]
                      rfl
                  have HFi := Lib.hid hfin
                  have hn0 : (0 : Int) ≤ (n : Int) := by omega
                  clear HI hqk hn hm hm2 c1 c2 hc hfin
                  go_wp2_with (go_at_call 38; refine HD.out.mono ?_; rintro e w1 ⟨rfl, rfl⟩)
                  first | exact HFi.out | (rw [hwr]; exact HFi.out) | exact bodyPost_ret (by simp [results, Tryd.results22, go_sem]) rfl HFi.out | (rw [hwr]; exact bodyPost_ret (by simp [results, Tryd.results22, go_sem]) rfl HFi.out)
              · have hb3 : ((s[a + 3 + k].toNat : Int) == 125) = false := beq_eq_false_iff_ne.2 fun e => hc (Lt.byte_eq (n := 125) (by omega))
                have HN2 : Hid (Lt.seek q 5 1 = Lt.seek q (6 - (k + 1)) (k + 1)) := by
                  show _ = _
                  rw [HI.out, hm, hm2]
                  exact Lt.seek_other fun e => hc (Option.some.inj (hqk.symm.trans e))
                clear HI hqk hm hm2 hc
                go_wp2
                go_roundw
                case rel => exact ⟨k + 1, by omega, by omega, by go_num, by first | rfl | trivial, HN2⟩
                case measure => simp [intOf]; omega
            · have hesc : Lt.esc (s.data.toList.drop (a + 2)) = none := by
                rw [HE.out, HI.out]
                by_cases h6 : k = 6
                · subst h6; rfl
                · exact Lt.seek_short _ _ (by have := HQL.out; omega)
              have HF := Lib.hid (HN.out hesc)
              have hnk : ¬ (k : Int) ≤ 5 ∨ (k : Int) ≤ 5 ∧ ¬ (a : Int) + 3 + (k : Int) < (s.size : Int) := by omega
              clear HI hesc hk
              by_cases h6 : a + 6 ≤ s.size
              · have h6' : (a : Int) + 6 ≤ (s.size : Int) := by omega
                have hsl := HS.out (a + 2) (a + 6) (by omega) (by omega)
                have HD := Lib.hid (H6.out h6 wr)
                rcases hnk with g | ⟨g, g'⟩
                all_goals
                  go_wp2_with (go_at_call 38; refine HD.out.mono ?_; rintro e w1 ⟨rfl, rfl⟩)
                  first | exact HF.out | (rw [hwr]; exact HF.out) | exact bodyPost_ret (by simp [results, Tryd.results22, go_sem]) rfl HF.out | (rw [hwr]; exact bodyPost_ret (by simp [results, Tryd.results22, go_sem]) rfl HF.out)
              · have h6' : ¬ (a : Int) + 6 ≤ (s.size : Int) := by omega
                rcases hnk with g | ⟨g, g'⟩
                all_goals
                  go_wp2
                  first | exact HF.out | (rw [hwr]; exact HF.out) | exact bodyPost_ret (by simp [results, Tryd.results22, go_sem]) rfl HF.out | (rw [hwr]; exact bodyPost_ret (by simp [results, Tryd.results22, go_sem]) rfl HF.out)
        · have hh : (s.data.toList.drop (a + 2)).head? ≠ some 123 := by
            by_cases h5 : a + 2 < s.size
            · rw [Lt.head_drop s h5]
              exact fun e => h4 ⟨h5, Option.some.inj e⟩
            · rw [List.drop_of_length_le (by rw [Lt.len_bytes]; omega)]
              simp
          have hw3 : (¬ (a : Int) + 2 < (s.size : Int)) ∨ ∃ h : a + 2 < s.size, (a : Int) + 2 < (s.size : Int) ∧ ((s[a + 2].toNat : Int) == 123) = false := by
            by_cases h5 : a + 2 < s.size
            · exact .inr ⟨h5, by omega, beq_eq_false_iff_ne.2 fun e => h4 ⟨h5, Lt.byte_eq (n := 123) (by omega)⟩⟩
            · exact .inl (by omega)
          have he4 := Lt.esc_four hh
          rw [List.length_drop, Lt.len_bytes] at he4
          by_cases h6 : a + 6 ≤ s.size
          · have h6' : (a : Int) + 6 ≤ (s.size : Int) := by omega
            rw [if_pos (by omega)] at he4
            obtain ⟨c1, c2⟩ := Lt.cut_bytes s (a + 2) (a + 6) h6 (by omega)
            have HD := Lib.hid fun W => rdigits7 (s.extract (a + 2) (a + 6)) W (by omega)
            rw [c1, show a + 6 - (a + 2) = 4 by omega] at HD
            have hsl := fun W => Lt.slice_both s (a + 2) (a + 6) h6 (by omega) W
            cases hn : Lt.num ((s.data.toList.drop (a + 2)).take 4) with
            | none =>
              rw [Lt.numI_none hn] at HD
              rw [hn] at he4
              have HF := Lib.hid (HN.out he4)
              clear he4 hn c1 c2 hh h4 h1 HN HO HP
              obtain ⟨g0, g, g'⟩ : ∃ h : a + 2 < s.size, (a : Int) + 2 < (s.size : Int) ∧ ((s[a + 2].toNat : Int) == 123) = false := by
                rcases hw3 with g | g
                · omega
                · exact g
              all_goals
                go_enter Tryd.func22, Tryd.ntmps22
                go_wp2_with (go_at_call 38; refine (HD.out _).mono ?_; rintro e w1 ⟨rfl, rfl⟩)
                first | exact HF.out | (rw [hwr]; exact HF.out) | exact bodyPost_ret (by simp [results, Tryd.results22, go_sem]) rfl HF.out | (rw [hwr]; exact bodyPost_ret (by simp [results, Tryd.results22, go_sem]) rfl HF.out)
            | some n =>
              rw [Lt.numI_some hn] at HD
              rw [hn] at he4
              have hfin : Post (.returned (.tuple #[.int .i64 (n : Nat), .int .i64 ((a : Int) + 6)])) w := by
                refine HP.out n (a + 6) (by omega) (by omega) ?_
                rw [HO.out, he4, List.drop_drop]
                rfl
              have HF := Lib.hid hfin
              have hn0 : (0 : Int) ≤ (n : Int) := by omega
              clear he4 hn c1 c2 hh h4 h1 HN HO HP hfin
              obtain ⟨g0, g, g'⟩ : ∃ h : a + 2 < s.size, (a : Int) + 2 < (s.size : Int) ∧ ((s[a + 2].toNat : Int) == 123) = false := by
                rcases hw3 with g | g
                · omega
                · exact g
              all_goals
                go_enter Tryd.func22, Tryd.ntmps22
                go_wp2_with (go_at_call 38; refine (HD.out _).mono ?_; rintro e w1 ⟨rfl, rfl⟩)
                first | exact HF.out | (rw [hwr]; exact HF.out) | exact bodyPost_ret (by simp [results, Tryd.results22, go_sem]) rfl HF.out | (rw [hwr]; exact bodyPost_ret (by simp [results, Tryd.results22, go_sem]) rfl HF.out)
          · have h6' : ¬ (a : Int) + 6 ≤ (s.size : Int) := by omega
            rw [if_neg (by omega)] at he4
            have HF := Lib.hid (HN.out he4)
            clear he4 hh h4 h1 HN HO HP
            rcases hw3 with g | ⟨g0, g, g'⟩
            all_goals
              go_enter Tryd.func22, Tryd.ntmps22
              go_wp2
              first | exact HF.out | (rw [hwr]; exact HF.out) | exact bodyPost_ret (by simp [results, Tryd.results22, go_sem]) rfl HF.out | (rw [hwr]; exact bodyPost_ret (by simp [results, Tryd.results22, go_sem]) rfl HF.out)

/-- what Points answers -/
def PtsSaid (w : World) (L : List Int) (e : Ending) (w' : World) : Prop := (∃ A c, e = .returned (.slice A L.length c) ∧ OwnN w' w.heap.size A c L) ∧ Below w.heap.size w w'
theorem PtsSaid.mk {w w' : World} {L l : List Int} {A : Option Addr} {c n : Nat} (hn : l.length = n) (hl : L = l) (h : OwnN w' w.heap.size A c l) (hb : Below w.heap.size w w') : PtsSaid w L (.returned (.slice A n c)) w' := by
  subst hl
  exact ⟨⟨A, c, by rw [hn], h⟩, hb⟩

set_option maxRecDepth 100000 in
theorem rpoints7 (s : ByteArray) (w : World) (hs : s.size ≤ 100000000) :
    Calls Tryd.prog 13 #[.string s] w fun e w' => PtsSaid w (Lt.pts s.data.toList) e w' := by
  obtain ⟨X, HX⟩ : ∃ X, Hid (Lt.pts s.data.toList = X) := ⟨_, rfl⟩
  rw [HX.out]
  obtain ⟨Post, hPost⟩ : ∃ Post : Ending → World → Prop, Post = fun e w' => PtsSaid w X e w' := ⟨_, rfl⟩
  rw [← hPost]
  have HPo := Lib.hid hPost
  clear hPost
  go_enter Tryd.func13, Tryd.ntmps13
  go_wp2
  go_loopw [3, 4] (fun ov iv wr => ∃ (i m : Nat) (A : Option Addr) (c : Nat) (l : List Int), i ≤ s.size ∧ m ≤ i ∧ iv = .int .i64 (i : Nat) ∧ ov = .slice A m c ∧ Hid (Below w.heap.size w wr ∧ OwnN wr w.heap.size A c l ∧ l.length = m ∧ X = l ++ Lt.pts (s.data.toList.drop i))) (fun _ iv _ => s.size - (intOf iv).toNat)
  case atStart => exact ⟨0, 0, none, 0, [], Nat.zero_le _, Nat.le_refl _, rfl, rfl, Below.refl _ _, OwnN.nil _ _, rfl, HX.out.symm⟩
  case round =>
    obtain ⟨i, m, A, c, l, hi, hmi, rfl, rfl, HI⟩ := hrel
    obtain ⟨hI0, hI1, hI2, hI3⟩ := HI.out
    have HB := Lib.hid hI0
    have HO := Lib.hid hI1
    have HM := Lib.hid hI2
    have hbw : w.heap.size ≤ wr.heap.size := hI0.size
    by_cases hlt : i < s.size
    · have HN := Lib.hid (rnext7 s i wr (by omega) hlt)
      have hlt' : (i : Int) < (s.size : Int) := by omega
      have HV := Lib.hid hI3
      have HDr := Lib.hid (Lt.drop_at s hlt)
      clear hI0 hI1 hI2 hI3 HI HX
      go_wp2_with fail
      refine HN.out.mono ?_
      rintro e w1 ⟨⟨x, k, rfl, hk1, hk2, hx, hone⟩, rfl⟩
      have HV2 : Hid (X = (l ++ [(x : Int)]) ++ Lt.pts (s.data.toList.drop k)) := by
        show _ = _
        have hp := Lt.pts_cons s[i] (s.data.toList.drop (i + 1))
        rw [← HDr.out, hone] at hp
        rw [HV.out, hp, List.append_assoc]
        rfl
      clear hone HN HV HDr
      go_wp2_with (at_builtin; refine appendN _ rfl (.tmp 17) (.tmp 19) rfl w.heap.size A c l m HM.out (x : Int) rfl HO.out rfl (by omega) hbw ?_; intro A3 c3 w3 o3 g3; have O3 := Lib.hid o3; have B3 := Lib.hid (HB.out.grown g3 HB.out.size (fun q hq => (HO.out.lt HM.out hq).1)); clear o3 g3)
      go_roundw
      case rel => exact ⟨k, m + 1, A3, c3, l ++ [(x : Int)], hk2, by omega, rfl, rfl, B3.out, O3.out, by rw [List.length_append, HM.out]; rfl, HV2.out⟩
      case measure => simp [intOf]; omega
    · obtain rfl : i = s.size := by omega
      rw [List.drop_of_length_le (by rw [Lt.len_bytes]; exact Nat.le_refl _), Lt.pts_nil, List.append_nil] at hI3
      have HE := Lib.hid (PtsSaid.mk hI2 hI3 hI1 hI0)
      clear hI0 hI1 hI2 hI3 HI HX
      go_wp2
      rw [HPo.out]
      exact HE.out
end Go.Proofs.YtmdjgjcneegiiaaDoor
