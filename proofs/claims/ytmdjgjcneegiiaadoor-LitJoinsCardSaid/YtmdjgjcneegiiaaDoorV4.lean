/- The code's first, Points. -/
import Derived.Test.YtmdjgjcneegiiaaDoorV3
namespace Go.Proofs.YtmdjgjcneegiiaaDoor
open Go.RowKit

theorem Lt.num_parse (l : List UInt8) : Lt.num l = (Lt.parse l).bind fun n => if n ≤ 196607 then some n else none := by
  unfold Lt.num Lt.parse
  split <;> rfl
theorem Lt.parse_lt {l : List UInt8} {n : Nat} (h5 : l.length ≤ 5) (h : Lt.parse l = some n) : n < 1048576 := by
  unfold Lt.parse at h
  split at h
  · cases h
  · have h1 := Lt.val_le l 0 n h
    have h2 : 16 ^ l.length ≤ 16 ^ 5 := Nat.pow_le_pow_right (by decide) h5
    omega
/-- what first answers -/
def FirstSaid (c : UInt8) (r : List UInt8) (e : Ending) : Prop := ∃ v k : Nat, e = .returned (.tuple #[.int .i64 (v : Nat), .int .i64 (k : Nat)]) ∧ 0 < k ∧ k ≤ r.length + 1 ∧ Lt.one (c :: r) = (v, (c :: r).drop k)
set_option maxRecDepth 100000 in
set_option maxHeartbeats 1600000 in
theorem kfirst7 (s : ByteArray) (c : UInt8) (r : List UInt8) (hl : s.data.toList = c :: r) (w : World) (hs : s.size ≤ 100000000) (hG : Gl w) :
    Calls Tryd.prog 21 #[.string s] w fun e w' => FirstSaid c r e ∧ Below w.heap.size w w' := by
  have HD := Lib.hid (kdigits7 s c r hl w hs hG)
  have HGl := Lib.hid hG
  have hlen : s.size = r.length + 1 := by rw [← Lt.len_bytes, hl]; rfl
  have hs0 : 0 < s.size := by omega
  have hc0 : s[0] = c := by
    have := Lt.drop_at s hs0
    rw [List.drop_zero, hl] at this
    injection this with this _
    exact this.symm
  obtain ⟨Post, hPost⟩ : ∃ Post : Ending → World → Prop, Post = fun e w' => FirstSaid c r e ∧ Below w.heap.size w w' := ⟨_, rfl⟩
  rw [← hPost]
  have HPlain : Hid (Lt.one (c :: r) = (c.toNat, r) → ∀ w', Below w.heap.size w w' → Post (.returned (.tuple #[.int .i64 (s[0].toNat : Nat), .int .i64 1])) w') := fun h w' hb => by
    rw [hPost, hc0]
    exact ⟨⟨c.toNat, 1, rfl, by decide, by omega, h⟩, hb⟩
  have HOk : Hid (∀ v k : Nat, 0 < k → k ≤ r.length + 1 → Lt.one (c :: r) = (v, (c :: r).drop k) → ∀ w', Below w.heap.size w w' → Post (.returned (.tuple #[.int .i64 (v : Nat), .int .i64 (k : Nat)])) w') := fun v k h1 h2 h3 w' hb => by
    rw [hPost]
    exact ⟨⟨v, k, rfl, h1, h2, h3⟩, hb⟩
  have hwr : wrap64 (s[0].toNat : Int) = (s[0].toNat : Int) := by
    have := s[0].toNat_lt
    unfold wrap64
    omega
  have hs0' : (0 : Int) < (s.size : Int) := by omega
  clear hPost hG hl hc0
  go_enter Tryd.func21, Tryd.ntmps21
  go_wp2_with fail
  refine HD.out.mono ?_
  rintro e w1 ⟨⟨T, k, rfl, hd⟩, hb⟩
  rcases hd with ⟨rfl, ho⟩ | ⟨hk0, hkl, hT, ho⟩
  · have HR := Lib.hid (HPlain.out ho w1 hb)
    clear ho hb HD HGl HPlain HOk hlen
    go_wp2
    all_goals
      first | exact HR.out | (rw [hwr]; exact HR.out) | exact bodyPost_ret (by simp [results, Tryd.results21, go_sem]) rfl HR.out | (rw [hwr]; exact bodyPost_ret (by simp [results, Tryd.results21, go_sem]) rfl HR.out)
  · rw [Lt.len_bytes] at hT
    have HP := Lib.hid (kParseUint7 T w1 hT (HGl.out.below hb))
    have hk0' : (0 : Int) < (k : Int) := by omega
    have HO := Lib.hid ho
    have HB := Lib.hid hb
    have HT : Hid (T.data.toList.length ≤ 5) := by
      show _ ≤ _
      rw [Lt.len_bytes]
      exact hT
    clear ho hb HD HGl hlen hT
    go_wp2_with fail
    refine HP.out.mono ?_
    rintro e w2 ⟨⟨n, v, rfl, hv⟩, hb2⟩
    have HB2 := Lib.hid (HB.out.trans (hb2.mono HB.out.size))
    rcases hv with ⟨rfl, hp⟩ | ⟨⟨t, x, rfl⟩, hp, rfl⟩
    · have hn : n < 1048576 := Lt.parse_lt HT.out hp
      have HPt := Lib.hid (kpoint7 n w2)
      by_cases hle : n ≤ 196607
      · have hpt : Lt.pt (n : Int) = true := decide_eq_true ⟨by omega, by omega⟩
        rw [hpt] at HPt
        have HR := Lib.hid (HOk.out n k hk0 hkl (by rw [HO.out, Lt.num_parse, hp, Option.bind_some, if_pos hle]; rfl) w2 HB2.out)
        have hn' : (n : Int) < 1048576 := by omega
        clear hp hpt hle hkl hk0 HP HPlain HOk hb2 hn
        go_wp2_with (go_at_call 23; refine HPt.out.mono ?_; rintro e w3 ⟨rfl, rfl⟩)
        first | exact HR.out | exact bodyPost_ret (by simp [results, Tryd.results21, go_sem]) rfl HR.out
      · have hpt : Lt.pt (n : Int) = false := decide_eq_false (by omega)
        rw [hpt] at HPt
        have HR := Lib.hid (HPlain.out (by rw [HO.out, Lt.num_parse, hp, Option.bind_some, if_neg hle]; rfl) w2 HB2.out)
        have hn' : (n : Int) < 1048576 := by omega
        clear hp hpt hle hkl hk0 HP HPlain HOk hb2 hn
        go_wp2_with (go_at_call 23; refine HPt.out.mono ?_; rintro e w3 ⟨rfl, rfl⟩)
        all_goals
          first | exact HR.out | (rw [hwr]; exact HR.out) | exact bodyPost_ret (by simp [results, Tryd.results21, go_sem]) rfl HR.out | (rw [hwr]; exact bodyPost_ret (by simp [results, Tryd.results21, go_sem]) rfl HR.out)
    · have HR := Lib.hid (HPlain.out (by rw [HO.out, Lt.num_parse, hp]; rfl) w2 HB2.out)
      clear hp hkl hk0 HP HPlain HOk hb2
      go_wp2
      all_goals
        first | exact HR.out | (rw [hwr]; exact HR.out) | exact bodyPost_ret (by simp [results, Tryd.results21, go_sem]) rfl HR.out | (rw [hwr]; exact bodyPost_ret (by simp [results, Tryd.results21, go_sem]) rfl HR.out)

/-- a text's size -/
def strLen : Value → Nat
  | .string T => T.size
  | _ => 0
set_option maxRecDepth 100000 in
set_option maxHeartbeats 1600000 in
theorem kpoints7 (s : ByteArray) (w : World) (hs : s.size ≤ 100000) (hG : Gl w) :
    Calls Tryd.prog 12 #[.string s] w fun e w' => PtsSaid w (Lt.pts s.data.toList) e w' := by
  obtain ⟨X, HX⟩ : ∃ X, Hid (Lt.pts s.data.toList = X) := ⟨_, rfl⟩
  rw [HX.out]
  obtain ⟨Post, hPost⟩ : ∃ Post : Ending → World → Prop, Post = fun e w' => PtsSaid w X e w' := ⟨_, rfl⟩
  rw [← hPost]
  have HPo := Lib.hid hPost
  have HGl := Lib.hid hG
  clear hPost hG
  go_enter Tryd.func12, Tryd.ntmps12
  go_wp2
  go_loopw [0, 3] (fun sv ov wr => ∃ (T : ByteArray) (m : Nat) (A : Option Addr) (c : Nat) (l : List Int), T.size + m ≤ s.size ∧ sv = .string T ∧ ov = .slice A m c ∧ Hid (Below w.heap.size w wr ∧ OwnN wr w.heap.size A c l ∧ l.length = m ∧ X = l ++ Lt.pts T.data.toList)) (fun sv _ _ => strLen sv)
  case atStart => exact ⟨s, 0, none, 0, [], Nat.le_refl _, rfl, rfl, Below.refl _ _, OwnN.nil _ _, rfl, HX.out.symm⟩
  case round =>
    obtain ⟨T, m, A, c, l, hTm, rfl, rfl, HI⟩ := hrel
    obtain ⟨hI0, hI1, hI2, hI3⟩ := HI.out
    have HB := Lib.hid hI0
    have HO := Lib.hid hI1
    have HM := Lib.hid hI2
    by_cases hlt : 0 < T.size
    · obtain ⟨d, r, hl⟩ : ∃ d r, T.data.toList = d :: r := ⟨_, _, (List.drop_zero (l := T.data.toList)).symm.trans (Lt.drop_at T hlt)⟩
      have hrl : r.length + 1 = T.size := by rw [← Lt.len_bytes, hl]; rfl
      have HN := Lib.hid (kfirst7 T d r hl wr (by omega) (HGl.out.below hI0))
      have hlt' : (0 : Int) < (T.size : Int) := by omega
      have HV := Lib.hid hI3
      have HL := Lib.hid hl
      clear hI0 hI1 hI2 hI3 HI HX hl
      go_wp2_with fail
      refine HN.out.mono ?_
      rintro e w1 ⟨⟨x, k, rfl, hk1, hk2, hone⟩, hb⟩
      have hk3 : k ≤ T.size := by omega
      have HCut : Hid ((T.extract k T.size).data.toList = (d :: r).drop k ∧ (T.extract k T.size).size = T.size - k) := by
        obtain ⟨c1, c2⟩ := Lt.cut_bytes T k T.size (Nat.le_refl _) hk3
        refine ⟨?_, c2⟩
        rw [c1, HL.out, List.take_of_length_le (by rw [List.length_drop, List.length_cons]; omega)]
      have HV2 : Hid (X = (l ++ [(x : Int)]) ++ Lt.pts (T.extract k T.size).data.toList) := by
        show _ = _
        rw [HCut.out.1, HV.out, HL.out, Lt.pts_cons, hone, List.append_assoc]
        rfl
      have hsl := fun W => Lt.slice_from7 T k hk3 W
      have HB1 := Lib.hid (HB.out.trans (hb.mono HB.out.size))
      have HO1 := Lib.hid (HO.out.kept hb)
      have hbw : w.heap.size ≤ w1.heap.size := HB1.out.size
      have hsz := HCut.out.2
      clear hone HN HV HL hb HB HO HCut hrl
      go_wp2_with (at_builtin; refine appendN _ rfl (.tmp 14) (.tmp 16) rfl w.heap.size A c l m HM.out (x : Int) rfl HO1.out rfl (by omega) hbw ?_; intro A3 c3 w3 o3 g3; have O3 := Lib.hid o3; have B3 := Lib.hid (HB1.out.grown g3 HB1.out.size (fun q hq => (HO1.out.lt HM.out hq).1)); clear o3 g3)
      go_roundw
      case rel => exact ⟨T.extract k T.size, m + 1, A3, c3, l ++ [(x : Int)], by omega, rfl, rfl, B3.out, O3.out, by rw [List.length_append, HM.out]; rfl, HV2.out⟩
      case measure =>
        show (T.extract k T.size).size < T.size
        omega
    · have hz : T.size = 0 := by omega
      have he : T.data.toList = [] := List.eq_nil_of_length_eq_zero ((Lt.len_bytes T).trans hz)
      rw [he, Lt.pts_nil, List.append_nil] at hI3
      have HE := Lib.hid (PtsSaid.mk hI2 hI3 hI1 hI0)
      clear hI0 hI1 hI2 hI3 HI HX he
      go_wp2
      rw [HPo.out]
      exact HE.out
end Go.Proofs.YtmdjgjcneegiiaaDoor
