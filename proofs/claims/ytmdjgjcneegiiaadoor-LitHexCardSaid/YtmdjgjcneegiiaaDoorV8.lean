/- The code's Runs. -/
import Derived.Test.YtmdjgjcneegiiaaDoorV1
import Derived.Test.YtmdjgjcneegiiaaDoorJ7
namespace Go.Proofs.YtmdjgjcneegiiaaDoor
open Go.RowKit

theorem Lt.any_all (l : List Int) : (l.any fun z => !Lt.pt z) = !(l.all Lt.pt) := by
  rw [List.not_all_eq_any_not]

set_option maxRecDepth 100000 in
set_option maxHeartbeats 1600000 in
theorem kindexI (w : World) (A : Option Addr) (n c : Nat) (l : List Int) (h : NumS w A n l) (hn : n ≤ 1000000000) :
    Calls Tryd.prog 41 #[.slice A n c, .func (.func 32) #[] #[]] w fun e w' => (∃ r : Int, e = .returned (.int .i64 r) ∧ decide (0 ≤ r) = !(l.all Lt.pt)) ∧ w' = w := by
  have HH := Lib.hid h
  obtain ⟨X, HX⟩ : ∃ X, Hid (l.all Lt.pt = X) := ⟨_, rfl⟩
  rw [HX.out]
  clear h
  go_enter Tryd.func41, Tryd.ntmps41
  go_wp2
  go_loopw [8] (fun iv wr => ∃ i : Nat, i ≤ n ∧ iv = .int .i64 (i : Nat) ∧ wr = w ∧ Hid (∀ z ∈ l.take i, Lt.pt z = true)) (fun iv _ => n - (intOf iv).toNat)
  case atStart => exact ⟨0, Nat.zero_le _, rfl, rfl, fun _ hz => absurd hz List.not_mem_nil⟩
  case round =>
    obtain ⟨i, hi, rfl, rfl, HI⟩ := hrel
    by_cases hlt : i < n
    · obtain ⟨b, off, z, rfl, hz, hmem, _, hc⟩ := HH.out.get hlt
      obtain ⟨q1, q2⟩ := hc wr (Below.refl _ _)
      have hlt' : (i : Int) < (n : Int) := by omega
      have h0 : (0 : Int) ≤ (i : Int) := by omega
      have HPt := Lib.hid (kruns1 z wr)
      cases hp : Lt.pt z with
      | false =>
        obtain rfl : X = false := by rw [← HX.out]; exact List.all_eq_false.2 ⟨z, hmem, by rw [hp]; decide⟩
        rw [hp] at HPt
        clear HI hz hmem hc hp HX
        go_wp2_with fail
        refine HPt.out.mono ?_
        rintro e w1 ⟨rfl, rfl⟩
        go_wp2
        go_ret
        exact ⟨⟨_, rfl, by simp⟩, by trivial⟩
      | true =>
        rw [hp] at HPt
        have HAll : Hid (∀ y ∈ l.take (i + 1), Lt.pt y = true) := by
          intro y hy
          rw [take_one hz] at hy
          rcases List.mem_append.1 hy with hy | hy
          · exact HI.out y hy
          · rw [List.mem_singleton.1 hy]
            exact hp
        clear HI hz hmem hc hp HX
        go_wp2_with fail
        refine HPt.out.mono ?_
        rintro e w1 ⟨rfl, rfl⟩
        go_wp2
        go_roundw
        case rel => exact ⟨i + 1, by omega, by go_num, by trivial, HAll.out⟩
        case measure => simp [intOf]; omega
    · obtain rfl : i = n := by omega
      obtain rfl : X = true := by
        rw [← HX.out]
        have := HI.out
        rw [List.take_of_length_le (by rw [HH.out.len]; exact Nat.le_refl _)] at this
        exact List.all_eq_true.2 this
      clear HI HX
      go_wp2
      go_ret
      exact ⟨⟨_, rfl, by decide⟩, by trivial⟩
theorem kcontI (w : World) (A : Option Addr) (n c : Nat) (l : List Int) (h : NumS w A n l) (hn : n ≤ 1000000000) :
    Calls Tryd.prog 31 #[.slice A n c, .func (.func 32) #[] #[]] w fun e w' => e = .returned (.bool (!(l.all Lt.pt))) ∧ w' = w := by
  have HI := Lib.hid (kindexI w A n c l h hn)
  generalize (!(l.all Lt.pt)) = X at HI
  clear h
  go_enter Tryd.func31, Tryd.ntmps31
  go_wp2_with (go_at_call 41; refine HI.out.mono ?_; rintro e w1 ⟨⟨r, rfl, hr⟩, rfl⟩)
  go_ret
  exact ⟨by first | rfl | rw [hr], rfl⟩
set_option maxRecDepth 100000 in
set_option maxHeartbeats 3200000 in
theorem kruns7 (w : World) (A : Option Addr) (n c : Nat) (l : List Int) (h : NumS w A n l) (hn : n ≤ 65536) :
    Calls Tryd.prog 16 #[.slice A n c] w fun e w' => RunsSaid w (Lt.runsOf l) e w' := by
  obtain ⟨Post, hPost⟩ : ∃ Post : Ending → World → Prop, Post = fun e w' => RunsSaid w (Lt.runsOf l) e w' := ⟨_, rfl⟩
  rw [← hPost]
  have HPo := Lib.hid hPost
  have HH := Lib.hid h
  have HC := Lib.hid (kcontI w A n c l h (by omega))
  clear hPost h
  cases hall : l.all Lt.pt with
  | false =>
    rw [hall] at HC
    have HF := Lib.hid (RunsSaid.bad hall (Below.refl w.heap.size w))
    clear hall HH
    go_enter Tryd.func16, Tryd.ntmps16
    go_wp2_with (go_at_call 31; refine HC.out.mono ?_; rintro e w1 ⟨rfl, hw1⟩; rw [hw1]; clear hw1 w1)
    first
      | (rw [HPo.out]; exact HF.out)
      | exact bodyPost_ret (by simp [results, Tryd.results16, go_sem]) rfl (by rw [HPo.out]; exact HF.out)
  | true =>
    rw [hall] at HC
    have HAll := Lib.hid hall
    clear hall
    go_enter Tryd.func16, Tryd.ntmps16
    go_wp2_with (go_at_call 31; refine HC.out.mono ?_; rintro e w1 ⟨rfl, hw1⟩; rw [hw1]; clear hw1 w1)
    go_loopw [4, 11] (fun ov iv wr => ∃ (i m : Nat) (A' : Option Addr) (c' : Nat) (R : List (Int × Int)), i ≤ n ∧ m ≤ i ∧ iv = .int .i64 (i : Nat) ∧ ov = .slice A' m c' ∧ Hid (Below w.heap.size w wr ∧ OwnR wr w.heap.size A' c' R ∧ R.length = m ∧ R = Lt.runs (l.take i))) (fun _ iv _ => n - (intOf iv).toNat)
    case atStart => exact ⟨0, 0, none, 0, [], Nat.zero_le _, Nat.le_refl _, rfl, rfl, Below.refl _ _, OwnR.nil _ _, rfl, rfl⟩
    case round =>
      obtain ⟨i, m, A', c', R, hi, hmi, rfl, rfl, HI⟩ := hrel
      obtain ⟨hI0, hI1, hI2, hI3⟩ := HI.out
      have HB := Lib.hid hI0
      have HO := Lib.hid hI1
      have HM := Lib.hid hI2
      have hbw : w.heap.size ≤ wr.heap.size := hI0.size
      by_cases hlt : i < n
      · obtain ⟨b, off, z, rfl, hz, hmem, _, hc⟩ := HH.out.get hlt
        obtain ⟨q1, q2⟩ := hc wr hI0
        have hlt' : (i : Int) < (n : Int) := by omega
        have h0 : (0 : Int) ≤ (i : Int) := by omega
        have hsn : Lt.runs (l.take (i + 1)) = Lt.addRun (Lt.runs (l.take i)) z := by rw [take_one hz, Lt.runs_snoc]
        have hm6 : ((m : Int) == 65536) = false := beq_eq_false_iff_ne.2 (by omega)
        by_cases hi0 : i = 0
        · have hR : R = [] := by rw [hI3, hi0]; rfl
          subst hR
          obtain rfl : m = 0 := hI2.symm
          have hz0 : ¬ 0 < i := by omega
          have HR2 : Hid ([] ++ [(z, (1 : Int))] = Lt.runs (l.take (i + 1))) := by
            show _ = _
            rw [hsn, ← hI3]
            rfl
          clear hI0 hI1 hI2 hI3 HI hz hmem hc hsn hi0 HC hm6
          go_wp2_with (at_builtin; refine appendR _ rfl (.tmp 40) (.tmp 43) rfl w.heap.size A' c' [] 0 rfl z 1 _ (by simp) rfl HO.out rfl (by omega) HB.out.size ?_; intro A3 c3 w3 o3 g3; have O3 := Lib.hid o3; have B3 := Lib.hid (HB.out.grown g3 HB.out.size (fun q hq => (HO.out.lt rfl hq).1)); clear o3 g3)
          go_roundw
          case rel => exact ⟨i + 1, 1, A3, c3, [] ++ [(z, 1)], by omega, by omega, by go_num, rfl, B3.out, O3.out, rfl, HR2.out⟩
          case measure => simp [intOf]; omega
        · obtain ⟨j, hj⟩ : ∃ j, i = j + 1 := ⟨i - 1, by omega⟩
          obtain ⟨b', off', y, e, hy, _, _, hc'⟩ := HH.out.get (i := j) (by omega)
          injection e with e
          injection e with e1 e2
          subst e1
          subst e2
          obtain ⟨_, q3⟩ := hc' wr hI0
          obtain ⟨S, k, hS, hSi, hk1, hk2⟩ := Lt.runs_last hy
          rw [hj, hS] at hI3
          subst hI3
          have hSl : S.length + 1 = m := by simpa using hI2
          have hi1 : (i : Int) - 1 = (j : Int) := by omega
          have hi2 : 0 < i := by omega
          have hji : (j : Int) < (n : Int) := by omega
          have hj0 : (0 : Int) ≤ (j : Int) := by omega
          obtain ⟨sl, hsl⟩ : ∃ sl, S.length = sl := ⟨_, rfl⟩
          have HSl := Lib.hid hsl
          obtain ⟨g, hg, hgB, hglt, c0, c1, cf, hcap, hput⟩ := OwnR.last hsl hI1
          subst hg
          have hm1 : (m : Int) - 1 = (sl : Int) := by omega
          have hms : sl + 1 = m := by omega
          subst hms
          by_cases hyz : y = z
          · subst hyz
            have HR2 : Hid (S ++ [(y, k + 1)] = Lt.runs (l.take (i + 1))) := by
              show _ = _
              rw [hsn, hj, hS, Lt.addRun_same]
            have HLp : Hid (∀ k', OwnR (wr.setCell ⟨g, sl * 2 + 1, none⟩ (.int .i64 k')) w.heap.size (some ⟨g, 0, none⟩) c' (S ++ [(y, k')]) ∧ Below w.heap.size w (wr.setCell ⟨g, sl * 2 + 1, none⟩ (.int .i64 k'))) := fun k' => by
              obtain ⟨g', e', hgB', _, _, _, _, _, hp'⟩ := OwnR.last HSl.out HO.out
              injection e' with e'
              injection e' with e' _
              subst e'
              exact ⟨(hp' k').1, HB.out.grown (hp' k').2 HB.out.size (fun q hq => by injection hq with hq; omega)⟩
            have HLen : Hid ((S ++ [(y, k + 1)]).length = sl + 1) := by
              show _ = _
              rw [← hsl]
              simp
            clear hI0 hI1 hI2 HI hz hmem hc hsn hi0 hy hc' hS hSi hput hj HO HM hSl hsl HB HC hm6
            go_wp2
            go_roundw
            case rel => exact ⟨i + 1, sl + 1, some ⟨g, 0, none⟩, c', S ++ [(y, k + 1)], by omega, by omega, by go_num, rfl, (HLp.out _).2, (HLp.out _).1, HLen.out, HR2.out⟩
            case measure => simp [intOf]; omega
          · have hne : (z == y) = false := beq_eq_false_iff_ne.2 fun e => hyz e.symm
            have HR2 : Hid (S ++ [(y, k)] ++ [(z, 1)] = Lt.runs (l.take (i + 1))) := by
              show _ = _
              rw [hsn, hj, hS, Lt.addRun_new S k hyz]
            clear hI0 hI1 hI2 HI hz hmem hc hsn hi0 hy hc' hS hSi hput hj HSl hSl hsl c0 c1 cf HC
            go_wp2_with (at_builtin; refine appendR _ rfl (.tmp 40) (.tmp 43) rfl w.heap.size (some ⟨g, 0, none⟩) c' (S ++ [(y, k)]) (sl + 1) HM.out z 1 _ (by simp) rfl HO.out rfl (by omega) HB.out.size ?_; intro A3 c3 w3 o3 g3; have O3 := Lib.hid o3; have B3 := Lib.hid (HB.out.grown g3 HB.out.size (fun q hq => (HO.out.lt HM.out hq).1)); clear o3 g3)
            go_roundw
            case rel => exact ⟨i + 1, sl + 2, A3, c3, S ++ [(y, k)] ++ [(z, 1)], by omega, by omega, by go_num, rfl, B3.out, O3.out, by rw [List.length_append, HM.out]; rfl, HR2.out⟩
            case measure => simp [intOf]; omega
      · obtain rfl : i = n := by omega
        have htk : l.take i = l := List.take_of_length_le (by rw [HH.out.len]; exact Nat.le_refl _)
        rw [htk] at hI3
        have HF := Lib.hid (RunsSaid.good HAll.out hI3 hI2 hI1 hI0)
        clear hI0 hI1 hI2 hI3 HI htk HO HC
        go_wp2
        first
          | (rw [HPo.out]; exact HF.out)
          | exact bodyPost_ret (by simp [results, Tryd.results16, go_sem]) rfl (by rw [HPo.out]; exact HF.out)
end Go.Proofs.YtmdjgjcneegiiaaDoor
