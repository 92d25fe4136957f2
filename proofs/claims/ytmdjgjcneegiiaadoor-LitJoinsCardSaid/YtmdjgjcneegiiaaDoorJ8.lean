/- The reference of runs: List. -/
import Derived.Test.YtmdjgjcneegiiaaDoorJ7
namespace Go.Proofs.YtmdjgjcneegiiaaDoor
open Go.RowKit

/-- what List answers -/
def ListSaid (w : World) (x : Int × List Int) (e : Ending) (w' : World) : Prop := (∃ A c, e = .returned (.tuple #[.slice A x.2.length c, .int .i64 x.1]) ∧ OwnN w' w.heap.size A c x.2) ∧ Below w.heap.size w w'
theorem ListSaid.err {w w' : World} {x : Int × List Int} {k : Int} (h : x = (k, [])) (hb : Below w.heap.size w w') : ListSaid w x (.returned (.tuple #[.slice none 0 0, .int .i64 k])) w' := by
  subst h
  exact ⟨⟨none, 0, rfl, OwnN.nil _ _⟩, hb⟩
theorem ListSaid.ok {w w' : World} {x : Int × List Int} {l : List Int} {A : Option Addr} {c m : Nat} (h : x = (0, l)) (hm : l.length = m) (ho : OwnN w' w.heap.size A c l) (hb : Below w.heap.size w w') : ListSaid w x (.returned (.tuple #[.slice A m c, .int .i64 0])) w' := by
  subst h
  subst hm
  exact ⟨⟨A, c, rfl, ho⟩, hb⟩
theorem Lt.take_total {R : List (Int × Int)} {i : Nat} {x : Int × Int} (h : R[i]? = some x) : Lt.total (R.take (i + 1)) = Lt.total (R.take i) + x.2 := by
  rw [take_one h, Lt.total_app, Lt.total, Lt.total]
  omega
theorem Lt.take_le {R : List (Int × Int)} (i : Nat) (h : ∀ x ∈ R, ¬ x.2 < 1) : Lt.total (R.take i) ≤ Lt.total R := by
  have e : Lt.total (R.take i) + Lt.total (R.drop i) = Lt.total R := by rw [← Lt.total_app, List.take_append_drop]
  have := Lt.total_pos (R := R.drop i) fun x hx => h x (List.mem_of_mem_drop hx)
  omega

set_option maxRecDepth 100000 in
set_option maxHeartbeats 3200000 in
theorem rlist7 (w : World) (A : Option Addr) (n c : Nat) (R : List (Int × Int)) (most : Int) (h : RunS w A n R) (hn : n ≤ 100000) (hmost : most ≤ 1000000) :
    Calls Tryd.prog 20 #[.slice A n c, .int .i64 most] w fun e w' => ListSaid w (Lt.list R most) e w' := by
  obtain ⟨Post, hPost⟩ : ∃ Post : Ending → World → Prop, Post = fun e w' => ListSaid w (Lt.list R most) e w' := ⟨_, rfl⟩
  rw [← hPost]
  have HPo := Lib.hid hPost
  have HH := Lib.hid h
  have HErr : Hid (∀ k, Lt.list R most = (k, []) → ∀ w', Below w.heap.size w w' → Post (.returned (.tuple #[.slice none 0 0, .int .i64 k])) w') := fun k hk w' hb => by
    rw [hPost]
    exact ListSaid.err hk hb
  clear hPost h
  go_enter Tryd.func20, Tryd.ntmps20
  go_wp2
  go_loopw [6] (fun iv wr => ∃ i : Nat, i ≤ n ∧ iv = .int .i64 (i : Nat) ∧ Hid (Below w.heap.size w wr ∧ ∀ x ∈ R.take i, Lt.pt x.1 = true ∧ 1 ≤ x.2)) (fun iv _ => n - (intOf iv).toNat)
  case atStart => exact ⟨0, Nat.zero_le _, rfl, Below.refl _ _, fun _ hx => absurd hx List.not_mem_nil⟩
  case round =>
    obtain ⟨i, hi, rfl, HI⟩ := hrel
    obtain ⟨hI0, hI1⟩ := HI.out
    have HB := Lib.hid hI0
    by_cases hlt : i < n
    · obtain ⟨b, off, ⟨x1, x2⟩, rfl, hx, hmem, _, hc⟩ := HH.out.get hlt
      obtain ⟨q1, q2, q3⟩ := hc wr hI0
      have hlt' : (i : Int) < (n : Int) := by omega
      have h0 : (0 : Int) ≤ (i : Int) := by omega
      have HPt := Lib.hid (rpoint x1 wr)
      by_cases hgood : Lt.pt x1 = true ∧ 1 ≤ x2
      · obtain ⟨hp, h2⟩ := hgood
        have HAll : Hid (∀ x ∈ R.take (i + 1), Lt.pt x.1 = true ∧ 1 ≤ x.2) := by
          intro y hy
          rw [take_one hx] at hy
          rcases List.mem_append.1 hy with hy | hy
          · exact hI1 y hy
          · rw [List.mem_singleton.1 hy]
            exact ⟨hp, h2⟩
        rw [hp] at HPt
        clear hI0 hI1 HI hx hmem hc hp HErr
        go_wp2_with (go_at_call 29; refine HPt.out.mono ?_; rintro e w1 ⟨rfl, rfl⟩)
        go_roundw
        case rel => exact ⟨i + 1, by omega, by go_num, HB.out, HAll.out⟩
        case measure => simp [intOf]; omega
      · have hbad : Lt.bad R = true := by
          refine Lt.bad_true hmem ?_
          by_cases e : Lt.pt x1 = true
          · exact .inr (by simp only; exact Int.not_le.1 fun h => hgood ⟨e, h⟩)
          · exact .inl (Bool.eq_false_iff.2 e)
        have HF := Lib.hid (HErr.out 1 (Lt.list_bad hbad) wr hI0)
        have hways : Lt.pt x1 = false ∨ Lt.pt x1 = true ∧ x2 < 1 := by
          by_cases e : Lt.pt x1 = true
          · exact .inr ⟨e, Int.not_le.1 fun h => hgood ⟨e, h⟩⟩
          · exact .inl (Bool.eq_false_iff.2 e)
        clear hI0 hI1 HI hx hmem hc hbad hgood HErr
        rcases hways with hp | ⟨hp, h2⟩
        all_goals
          rw [hp] at HPt
          clear hp
          go_wp2_with (go_at_call 29; refine HPt.out.mono ?_; rintro e w1 ⟨rfl, rfl⟩)
          first | exact HF.out | exact bodyPost_ret (by simp [results, Tryd.results20, go_sem]) rfl HF.out
    · obtain rfl : i = n := by omega
      rw [List.take_of_length_le (by rw [HH.out.len]; exact Nat.le_refl _)] at hI1
      have hgood : Lt.bad R = false := Lt.bad_false.2 fun x hx => ⟨(hI1 x hx).1, Int.not_lt.2 (hI1 x hx).2⟩
      have HG := Lib.hid hI1
      by_cases hm0 : most < 0
      · have HF := Lib.hid (HErr.out 2 (Lt.list_long hgood (by have := Lt.total_pos (R := R) fun x hx => Int.not_lt.2 (hI1 x hx).2; omega)) wr hI0)
        clear hI0 hI1 HI hgood HErr
        go_wp2
        first | exact HF.out | exact bodyPost_ret (by simp [results, Tryd.results20, go_sem]) rfl HF.out
      · have HBad := Lib.hid hgood
        clear hI0 hI1 HI hgood
        go_wp2
        go_loopw [8, 9] (fun lv iv w1 => ∃ (j : Nat) (left : Int), j ≤ i ∧ iv = .int .i64 (j : Nat) ∧ lv = .int .i64 left ∧ 0 ≤ left ∧ left ≤ most ∧ w1 = wr ∧ Hid (most = left + Lt.total (R.take j))) (fun _ iv _ => i - (intOf iv).toNat)
        case atStart => exact ⟨0, most, Nat.zero_le _, rfl, rfl, by omega, Int.le_refl _, rfl, by show _ = _; rw [List.take_zero, Lt.total]; omega⟩
        case round =>
          obtain ⟨j, left, hj, rfl, rfl, hl0, hlm, rfl, HJ⟩ := hrel
          by_cases hlt2 : j < i
          · obtain ⟨b, off, ⟨x1, x2⟩, rfl, hx, hmem, _, hc⟩ := HH.out.get hlt2
            obtain ⟨q1, q2, q3⟩ := hc _ HB.out
            have hlt' : (j : Int) < (i : Int) := by omega
            have h0 : (0 : Int) ≤ (j : Int) := by omega
            have hx1 : 1 ≤ x2 := (HG.out _ hmem).2
            have ht := Lt.take_total hx
            by_cases hlong : left < x2
            · have HF := Lib.hid (HErr.out 2 (Lt.list_long HBad.out (by have := Lt.take_le (R := R) (j + 1) fun x hx => Int.not_lt.2 (HG.out x hx).2; have := HJ.out; simp only at ht; omega)) _ HB.out)
              clear HJ hx hmem hc ht HErr
              go_wp2
              first | exact HF.out | exact bodyPost_ret (by simp [results, Tryd.results20, go_sem]) rfl HF.out
            · have HN : Hid (most = left - x2 + Lt.total (R.take (j + 1))) := by
                show _ = _
                have := HJ.out
                simp only at ht
                omega
              have hwr : IntKind.i64.wrap (left - x2) = left - x2 := IntWalk.i64_in _ (by omega)
              have hge : 0 ≤ left - x2 := by omega
              have hle : left - x2 ≤ most := by omega
              clear HJ hx hmem hc ht HErr
              go_wp2
              go_roundw
              case rel => exact ⟨j + 1, left - x2, by omega, by go_num, by go_num, hge, hle, by first | rfl | trivial, HN.out⟩
              case measure => simp [intOf]; omega
          · obtain rfl : j = i := by omega
            have hfit : ¬ most < Lt.total R := by
              have := HJ.out
              rw [List.take_of_length_le (by rw [HH.out.len]; exact Nat.le_refl _)] at this
              omega
            have HFit : Hid (Lt.list R most = (0, Lt.expand R) ∧ Lt.total R ≤ 1000000) := ⟨Lt.list_ok HBad.out hfit, by omega⟩
            clear HJ hfit HErr hlt hlt2
            go_wp2
            go_loopw [10, 11] (fun ov iv w2 => ∃ (q m : Nat) (A' : Option Addr) (c' : Nat) (l : List Int), q ≤ j ∧ iv = .int .i64 (q : Nat) ∧ ov = .slice A' m c' ∧ Hid (Below w.heap.size w w2 ∧ OwnN w2 w.heap.size A' c' l ∧ l.length = m ∧ l = Lt.expand (R.take q))) (fun _ iv _ => j - (intOf iv).toNat)
            case atStart => exact ⟨0, 0, none, 0, [], Nat.zero_le _, rfl, rfl, HB.out, OwnN.nil _ _, rfl, rfl⟩
            case round =>
              obtain ⟨q, m, A', c', l, hq, rfl, rfl, HQ⟩ := hrel
              obtain ⟨hQ0, hQ1, hQ2, hQ3⟩ := HQ.out
              by_cases hlt3 : q < j
              · obtain ⟨b, off, ⟨x1, x2⟩, rfl, hx, hmem, _, hc⟩ := HH.out.get hlt3
                have hx1 : 1 ≤ x2 := (HG.out _ hmem).2
                obtain ⟨N, hN⟩ : ∃ N : Nat, x2 = (N : Int) := ⟨x2.toNat, by omega⟩
                subst hN
                have HC := Lib.hid hc
                have hlt' : (q : Int) < (j : Int) := by omega
                have h0 : (0 : Int) ≤ (q : Int) := by omega
                have HBq := Lib.hid hQ0
                have HOq := Lib.hid hQ1
                have HMq := Lib.hid hQ2
                have HLq := Lib.hid hQ3
                have HTot : Hid (m + N ≤ 1000000) := by
                  show _ ≤ _
                  have h1 := Lt.take_le (R := R) (q + 1) fun x hx => Int.not_lt.2 (HG.out x hx).2
                  rw [Lt.take_total hx] at h1
                  have h2 := Lt.expand_len (R := R.take q) fun x hx => Int.not_lt.2 (HG.out x (List.mem_of_mem_take hx)).2
                  rw [← hQ3, hQ2] at h2
                  have h3 := HFit.out.2
                  simp only at h1
                  omega
                have hmN := HTot.out
                have HNx : Hid (Lt.expand (R.take (q + 1)) = l ++ List.replicate N x1) := by
                  show _ = _
                  rw [take_one hx, Lt.expand_app, Lt.expand_one, ← hQ3]
                  simp
                clear hQ0 hQ1 hQ2 hQ3 HQ hx hmem hc hlt3 HFit
                go_wp2
                go_loopw [10, 12] (fun ov kv w3 => ∃ (k : Nat) (A' : Option Addr) (c' : Nat) (l' : List Int), k ≤ N ∧ kv = .int .i64 (k : Nat) ∧ ov = .slice A' (m + k) c' ∧ Hid (Below w.heap.size w w3 ∧ OwnN w3 w.heap.size A' c' l' ∧ l'.length = m + k ∧ l' = l ++ List.replicate k x1)) (fun _ kv _ => N - (intOf kv).toNat)
                case atStart => exact ⟨0, A', c', l, Nat.zero_le _, rfl, rfl, HBq.out, HOq.out, HMq.out, by simp⟩
                case round =>
                  obtain ⟨k, A3, c3, l3, hk, rfl, rfl, HK⟩ := hrel
                  obtain ⟨hK0, hK1, hK2, hK3⟩ := HK.out
                  obtain ⟨r1, r2, r3⟩ := HC.out _ hK0
                  by_cases hlt4 : k < N
                  · have hlt4' : (k : Int) < (N : Int) := by omega
                    have HB3 := Lib.hid hK0
                    have HO3 := Lib.hid hK1
                    have HM3 := Lib.hid hK2
                    have HL3 : Hid (l3 ++ [x1] = l ++ List.replicate (k + 1) x1) := by
                      show _ = _
                      rw [hK3, List.replicate_succ', List.append_assoc]
                    have hmk : m + k ≤ 1000000000 := by omega
                    have hbw := hK0.size
                    clear hK0 hK1 hK2 hK3 HK
                    go_wp2_with (at_builtin; refine appendN _ rfl (.tmp 73) (.tmp 79) rfl w.heap.size A3 c3 l3 (m + k) HM3.out x1 rfl HO3.out rfl hmk hbw ?_; intro A5 c5 w5 o5 g5; have O5 := Lib.hid o5; have B5 := Lib.hid (HB3.out.grown g5 HB3.out.size (fun q hq => (HO3.out.lt HM3.out hq).1)); clear o5 g5)
                    go_roundw
                    case rel => exact ⟨k + 1, A5, c5, l3 ++ [x1], by omega, by go_num, rfl, B5.out, O5.out, by rw [List.length_append, HM3.out]; rfl, HL3.out⟩
                    case measure => simp [intOf]; omega
                  · obtain rfl : k = N := by omega
                    have HE : Hid (Below w.heap.size w wr ∧ OwnN wr w.heap.size A3 c3 l3 ∧ l3.length = m + k ∧ l3 = Lt.expand (R.take (q + 1))) := ⟨hK0, hK1, hK2, by rw [HNx.out]; exact hK3⟩
                    clear hK0 hK1 hK2 hK3 HK hlt4
                    go_wp2
                    go_roundw
                    case rel => exact ⟨q + 1, m + k, A3, c3, l3, by omega, by go_num, rfl, HE.out⟩
                    case measure => simp [intOf]; omega
              · obtain rfl : q = j := by omega
                rw [List.take_of_length_le (by rw [HH.out.len]; exact Nat.le_refl _)] at hQ3
                have HF := Lib.hid (ListSaid.ok (HFit.out.1.trans (by rw [hQ3])) hQ2 hQ1 hQ0)
                clear hQ0 hQ1 hQ2 hQ3 HQ hlt3
                go_wp2
                first
                  | (rw [HPo.out]; exact HF.out)
                  | exact bodyPost_ret (by simp [results, Tryd.results20, go_sem]) rfl (by rw [HPo.out]; exact HF.out)
end Go.Proofs.YtmdjgjcneegiiaaDoor
