/- the reference's Parse: what it answers. -/
import Derived.Test.YtiehkciofggonaaGS
import Derived.Test.YtiehkciofggonaaGF
import Derived.Deep.RegionWith
namespace Go.Proofs.Ytiehkciofggonaa
open Go.RowKit

theorem dv_lt_BB {l : List UInt8} {k : Nat} (h : T.AllD l) (hk : l.length ≤ k) : T.dv l < M.BB ^ k := by
  have h1 := T.dv_lt h
  have h2 : 10 ^ l.length ≤ 10 ^ k := Nat.pow_le_pow_right (by omega) hk
  have h3 : 10 ^ k ≤ M.BB ^ k := Nat.pow_le_pow_left (by rw [M.BB_eq]; omega) _
  exact Nat.lt_of_lt_of_le h1 (Nat.le_trans h2 h3)

set_option maxHeartbeats 4000000 in
theorem rparse_run (s : ByteArray) (w : World) (hs : s.size ≤ 2000) (hp : 0 < s.size) (h0 : ¬ (s[0] = 48 ∧ 1 < s.size)) (R : Ending → World → Prop)
    (hgood : T.AllD s.data.toList → ∀ e w', Parsed w (T.dv s.data.toList) e w' → R e w') (hbad : ¬ T.AllD s.data.toList → ∀ w', Below w.heap.size w w' → R (.returned (.tuple #[.slice none 0 0, .int .i64 8])) w') :
    Calls Try.prog 53 #[.string s] w R := by
  have htl : s.toList = s.data.toList := by rw [ByteArray.toList_eq]
  have hlen := lenL s
  have hl : s.toList.isEmpty = false := by
    rw [htl]; cases h : s.data.toList with
    | nil => rw [h] at hlen; simp at hlen; omega
    | cons _ _ => rfl
  obtain ⟨S, HS⟩ : ∃ S, Hid (s.data.toList = S) := ⟨_, rfl⟩
  have HG : Hid (∀ i (hi : i < s.size), S.getD i 0 = s[i]) := fun i hi => by rw [← HS.out]; exact getL hi
  have HL : Hid (S.length = s.size) := by rw [← HS.out]; exact hlen
  have HGOOD := Lib.hid hgood
  have HBAD := Lib.hid hbad
  rw [HS.out] at HGOOD HBAD
  clear hgood hbad hlen htl
  rcases (show ((s[0].toNat : Int) == 48) = false ∨ (((s[0].toNat : Int) == 48) = true ∧ s.size ≤ 1) from by
    by_cases h : s[0] = 48
    · right
      refine ⟨by rw [h]; rfl, ?_⟩
      rcases Nat.lt_or_ge 1 s.size with h1 | h1
      · exact absurd ⟨h, h1⟩ h0
      · exact h1
    · left
      cases e : ((s[0].toNat : Int) == 48) with
      | false => rfl
      | true =>
        exfalso; apply h
        have h1 : (s[0].toNat : Int) = 48 := by simpa using e
        have h2 : (48 : UInt8).toNat = 48 := rfl
        exact UInt8.toNat_inj.1 (by omega)) with hc0 | ⟨hc0, hc1⟩
  all_goals
    clear h0
    have hb2 : decide ((2000 : Int) < (s.size : Int)) = false := by simp; omega
    go_enter Try.func53, Try.ntmps53
    go_wp2_with fail
    obtain ⟨W0, HW⟩ : ∃ W0, Hid (w.alloc (.cells #[.bool false, .bool true, .bool false, .bool true] 4) = W0) := ⟨_, rfl⟩
    have hb1 : Below w.heap.size w W0 := by rw [← HW.out]; exact (Below.refl _ _).alloc (Nat.le_refl _) _
    have hten : Bts W0 (some ⟨w.heap.size, 0, none⟩) 4 4 [false, true, false, true] := by
      rw [← HW.out]
      have h := World.ownsRow_lit w #[.bool false, .bool true, .bool false, .bool true] 4 (base := w.heap.size) (e := 4) (size := 1) (Nat.le_refl _) (by unfold maxLen; omega) rfl
      obtain ⟨A', c', e, h⟩ := OwnB.bts (l := [false, true, false, true]) h
      injection e with e1 _ e2
      subst e1 e2
      exact h
    rw [HW.out]
    go_loopw [5, 6] (fun lv iv wr => ∃ (i : Nat), i ≤ s.size ∧ iv = .int .i64 i ∧ BNum wr lv (T.dv (S.take i)) ∧ T.AllD (S.take i) ∧ Below W0.heap.size W0 wr) (fun _ iv _ => s.size - (intOf iv).toNat)
    case atStart => exact ⟨0, by omega, rfl, ⟨none, 0, 0, [], rfl, ⟨rfl, by omega, by omega, .inl ⟨rfl, rfl, rfl⟩⟩, Bt.top_nil, rfl⟩, by simp [T.AllD], Below.refl _ _⟩
    case round =>
      obtain ⟨i, hi, rfl, hnum, hall, hbel⟩ := hrel
      have hbelw : Below w.heap.size w wr := hb1.trans (hbel.mono hb1.size)
      have HALL := Lib.hid hall
      obtain ⟨K0, hK0, hlti⟩ : ∃ K0, K0 ≤ 2000 ∧ T.dv (S.take i) < M.BB ^ K0 := ⟨(S.take i).length, by rw [List.length_take]; have := HL.out; omega, dv_lt_BB hall (Nat.le_refl _)⟩
      obtain ⟨A1, n1, c1, l1, rfl, t1, _, e1, q1⟩ := hnum.bts hlti
      have E1 := Lib.hid e1
      clear hall hlti e1 hnum
      by_cases hlt : i < s.size
      · have htake : Hid (S.take (i + 1) = S.take i ++ [s[i]]) := (show S.take (i + 1) = S.take i ++ [s[i]] from by
          have h1 : i < S.length := by rw [HL.out]; exact hlt
          rw [List.take_succ_eq_append_getElem h1, ← HG.out i hlt]
          simp [List.getD_eq_getElem?_getD, h1])
        by_cases hdig : 48 ≤ s[i].toNat ∧ s[i].toNat ≤ 57
        · obtain ⟨d, Hd⟩ : ∃ d, Hid (s[i].toNat - 48 = d) := ⟨s[i].toNat - 48, rfl⟩
          have hde : (s[i].toNat : Int) - 48 = (d : Int) := by have := Hd.out; omega
          have hd9 : d ≤ 9 := by have := Hd.out; omega
          have hdw : IntKind.u8.wrap (d : Int) = (d : Int) := IntWalk.u8_in _ (by omega)
          have hdw2 : IntKind.u32.wrap (d : Int) = (d : Int) := IntWalk.u32_in _ (by omega)
          obtain ⟨V, HV⟩ : ∃ V, Hid (T.dv (S.take i) = V) := ⟨_, rfl⟩
          have HALL2 : Hid (T.AllD (S.take (i + 1))) := by
            rw [htake.out]
            intro c hc
            rcases List.mem_append.1 hc with h | h
            · exact HALL.out c h
            · rw [List.mem_singleton] at h; subst h; exact hdig
          have HVV : Hid (10 * V + d = T.dv (S.take (i + 1))) := (show 10 * V + d = T.dv (S.take (i + 1)) from by
            rw [htake.out, T.dv_snoc, HV.out, Hd.out]
            omega)
          obtain ⟨K1, hK1, HB10⟩ : ∃ K1, K1 ≤ 2001 ∧ Hid (10 * V < M.BB ^ K1) := by
            have h1 := dv_lt_BB HALL2.out (Nat.le_refl _)
            rw [← HVV.out] at h1
            refine ⟨(S.take (i + 1)).length, by rw [List.length_take]; have := HL.out; omega, ?_⟩
            exact Nat.lt_of_le_of_lt (Nat.le_add_right _ _) h1
          have HB1 : Hid (d < M.BB ^ 1) := (show d < M.BB ^ 1 from by rw [Nat.pow_one, M.BB_eq]; omega)
          have HM := Lib.hid fun (W : World) (hW : Below wr.heap.size wr W) => (by
            have h := rmul_any (some ⟨w.heap.size, 0, none⟩) A1 4 n1 4 c1 _ l1 W ((hten.below hbel).below hW) (t1.below hW) (by omega) (by omega)
            rw [E1.out, HV.out] at h
            exact h : Calls Try.prog 70 #[.slice (some ⟨w.heap.size, 0, none⟩) 4 4, .slice A1 n1 c1] W (GivesB W (10 * V)))
          have HBT := Lib.hid fun (W : World) => (bits_num ⟨[d], lims_one W d (by omega), by simp [M.val], by omega, by unfold maxLen; omega, by omega⟩ : Calls Try.prog 62 #[.slice (some ⟨W.heap.size, 0, none⟩) 1 1] (W.alloc (.cells #[.int .u32 (d : Int)] 57)) (GivesB (W.alloc (.cells #[.int .u32 (d : Int)] 57)) d))
          have HBT2 := Lib.hid fun (W : World) (hW : Below (wr.alloc (.cells #[.int .u32 (d : Int)] 57)).heap.size (wr.alloc (.cells #[.int .u32 (d : Int)] 57)) W) => (bits_num ⟨[d], (lims_one wr d (by omega)).below hW, by simp [M.val], by omega, by unfold maxLen; omega, by omega⟩ : Calls Try.prog 62 #[.slice (some ⟨wr.heap.size, 0, none⟩) 1 1] W (GivesB W d))
          clear hdig
          go_wp2_with fail
          go_region_with (first | (go_at_call 70; go_loud (refine (HM.out _ (by first | exact Below.drew (Below.refl _ _) | exact Below.drew ((Below.refl _ _).alloc (Nat.le_refl _) _))).mono ?_); rintro e w2 ⟨v2, rfl, n2, b2⟩; obtain ⟨A2, m2, c2, l2, rfl, t2, _, e2, q2⟩ := n2.bts HB10.out; have E2 := Lib.hid e2; clear e2 n2) | (go_at_call 62; go_loud (first | ((with_reducible refine (HBT.out _).mono ?_)) | (refine (HBT2.out _ (by exact (Below.drew (Below.refl _ _)).trans b2)).mono ?_)); rintro e w3 ⟨v3, rfl, n3, b3⟩; obtain ⟨A3, m3, c3, l3, rfl, t3, _, e3, q3⟩ := n3.bts HB1.out; have E3 := Lib.hid e3; clear e3 n3) | (go_at_call 66; go_loud (refine (radd_any _ _ _ _ _ _ l2 l3 _ (by first | exact t2.below (below_one b3) | exact t2.below b3) (by exact t3) (by omega) (by omega)).mono ?_); rintro e w4 ⟨v4, rfl, n4, b4⟩))
          all_goals
            rw [E2.out, E3.out, HVV.out] at n4
            have bA : Below wr.heap.size wr w2 := by first | exact (Below.drew (Below.refl _ _)).trans b2 | exact (Below.drew ((Below.refl _ _).alloc (Nat.le_refl _) _)).trans (b2.mono (by simp))
            have bB : Below w2.heap.size w2 w3 := by first | exact below_one b3 | exact b3
            have bC : Below wr.heap.size wr w3 := bA.trans (bB.mono bA.size)
            have bD : Below wr.heap.size wr w4 := bC.trans (b4.mono bC.size)
            have bE : Below W0.heap.size W0 w4 := hbel.trans (bD.mono hbel.size)
            clear b2 b3 b4 bA bB bC bD HM HBT HBT2 t1 t2 t3
            go_wp2_with fail
            go_roundw
            case rel => exact ⟨i + 1, by omega, by go_num, n4, HALL2.out, bE⟩
            case measure => simp [intOf]; omega
        · have hno : Hid (¬ T.AllD S) := fun h => hdig (by
            have h1 := h (S.getD i 0) (by
              rw [List.getD_eq_getElem?_getD, List.getElem?_eq_getElem (by rw [HL.out]; exact hlt)]
              exact List.getElem_mem _)
            rw [HG.out i hlt] at h1
            exact h1)
          by_cases hc1 : (s[i].toNat : Int) < 48
          · clear hdig
            go_wp2_with fail
            exact HBAD.out hno.out _ hbelw
          · have hc2 : 57 < (s[i].toNat : Int) := by omega
            clear hdig
            go_wp2_with fail
            exact HBAD.out hno.out _ hbelw
      · have hE : Hid (S.take i = S) := List.take_of_length_le (by rw [HL.out]; omega)
        obtain ⟨V, HV⟩ : ∃ V, Hid (T.dv S = V) := ⟨_, rfl⟩
        have HLM := Lib.hid (limbs_any A1 c1 n1 l1 wr)
        have HL2 : Hid (Calls Try.prog 61 #[.slice A1 n1 c1] wr (Gives wr V)) := by
          have h := limbs_any A1 n1 c1 l1 wr t1 (by omega)
          rw [E1.out, hE.out, HV.out] at h
          exact h
        clear HLM
        go_wp2_with fail
        refine HL2.out.mono ?_
        rintro e w2 ⟨v2, rfl, n2, b2⟩
        go_wp2_with fail
        exact HGOOD.out (by have := HALL.out; rw [hE.out] at this; exact this) _ _ ⟨v2, rfl, by rw [HV.out]; exact n2, hbelw.trans (b2.mono hbelw.size)⟩

theorem rparse_good (s : ByteArray) (w : World) (h : isT s.data.toList = true) : Calls Try.prog 53 #[.string s] w (Parsed w (T.dv s.data.toList)) := by
  obtain ⟨h1, h2, h3, h4⟩ := isT_parts.1 h
  have hlen := lenL s
  have hp : 0 < s.size := by
    rcases Nat.eq_zero_or_pos s.size with e | e
    · rw [e] at hlen; exact absurd (List.eq_nil_of_length_eq_zero hlen) h1
    · exact e
  refine rparse_run s w (by omega) hp ?_ _ (fun _ e w' hh => hh) (fun hn => absurd h4 hn)
  rintro ⟨a, b⟩
  rcases h3 with h3 | h3
  · rw [h3] at hlen; simp at hlen; omega
  · rw [getL hp] at h3; exact h3 a

theorem rparse_bad (s : ByteArray) (w : World) (hs : s.size ≤ maxLen) (h : isT s.data.toList = false) :
    Calls Try.prog 53 #[.string s] w fun e w' => e = .returned (.tuple #[.slice none 0 0, .int .i64 8]) ∧ Below w.heap.size w w' := by
  unfold maxLen at hs
  have hlen := lenL s
  have htl : s.toList = s.data.toList := by rw [ByteArray.toList_eq]
  by_cases h0 : s.size = 0
  · have hnil : s.data.toList = [] := List.eq_nil_of_length_eq_zero (by omega)
    have hl : s.toList = [] := by rw [htl, hnil]
    clear hnil htl h0 hlen h
    go_enter Try.func53, Try.ntmps53
    go_wp2
    go_ret2
    exact ⟨rfl, Below.refl _ _⟩
  have hl : s.toList.isEmpty = false := by
    rw [htl]; cases h : s.data.toList with
    | nil => rw [h] at hlen; simp at hlen; omega
    | cons _ _ => rfl
  by_cases h1 : 2000 < s.size
  · clear htl hlen h
    go_enter Try.func53, Try.ntmps53
    go_wp2
    go_ret2
    exact ⟨rfl, Below.refl _ _⟩
  have hp : 0 < s.size := by omega
  by_cases h2 : s[0] = 48 ∧ 1 < s.size
  · have hc : ((s[0].toNat : Int) == 48) = true := by rw [h2.1]; rfl
    have h3 := h2.2
    clear htl hlen h h2
    go_enter Try.func53, Try.ntmps53
    go_wp2
    go_ret2
    exact ⟨rfl, Below.refl _ _⟩
  · refine rparse_run s w (by omega) hp h2 _ (fun ha => ?_) (fun _ w' hb => ⟨rfl, hb⟩)
    exfalso
    have : isT s.data.toList = true := by
      refine isT_parts.2 ⟨by intro e; rw [e] at hlen; simp at hlen; omega, by omega, ?_, ha⟩
      by_cases a : s[0] = 48
      · left
        have h4 : s.size = 1 := by
          rcases Nat.lt_or_ge 1 s.size with h5 | h5
          · exact absurd ⟨a, h5⟩ h2
          · omega
        have h6 : s.data.toList.length = 1 := by omega
        match hm : s.data.toList, h6 with
        | [x], _ =>
          have := getL hp
          rw [hm, a] at this
          simp at this
          rw [this]
      · right
        rw [getL hp]; exact a
    rw [h] at this
    cases this
end Go.Proofs.Ytiehkciofggonaa
