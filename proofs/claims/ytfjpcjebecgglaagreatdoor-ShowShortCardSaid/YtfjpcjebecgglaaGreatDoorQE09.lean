/- What the proofs of this claim use, text by text. -/
import Derived.Test.YtfjpcjebecgglaaGreatDoorQE08
import Derived.Laws.MakeOwn
import Derived.Lib.MinMax
set_option linter.unusedSimpArgs false
set_option linter.unusedVariables false
set_option maxRecDepth 100000
set_option maxHeartbeats 25600000
namespace Go.Proofs.YtfjpcjebecgglaaGreatDoor
open Go.RowKit
theorem kindexR (w : World) (A : Option Addr) (n c : Nat) (R : List (Int × Int)) (h : RunS w A n R) (hn : n ≤ 1000000000) :
    Calls Tryz.prog 155 #[.slice A n c, .func (.func 141) #[] #[]] w fun e w' => (∃ r : Int, e = .returned (.int .i64 r) ∧ decide (0 ≤ r) = Lt.bad R) ∧ Below w.heap.size w w' := by
  have HH := Lib.hid h
  obtain ⟨X, HX⟩ : ∃ X, Hid (Lt.bad R = X) := ⟨_, rfl⟩
  rw [HX.out]
  clear h
  go_enter Tryz.func155, Tryz.ntmps155
  go_wp2
  go_loopw [8] (fun iv wr => ∃ i : Nat, i ≤ n ∧ iv = .int .i64 (i : Nat) ∧ Hid (Below w.heap.size w wr ∧ ∀ x ∈ R.take i, Lt.off x = false)) (fun iv _ => n - (intOf iv).toNat)
  case atStart => exact ⟨0, Nat.zero_le _, rfl, Below.refl _ _, fun _ hz => absurd hz List.not_mem_nil⟩
  case round =>
    obtain ⟨i, hi, rfl, HI⟩ := hrel
    obtain ⟨hI0, hI1⟩ := HI.out
    by_cases hlt : i < n
    · obtain ⟨b, off, ⟨x, y⟩, rfl, hx, hmem, _, hc⟩ := HH.out.get hlt
      obtain ⟨q1, q2, q3⟩ := hc wr hI0
      have hlt' : (i : Int) < (n : Int) := by omega
      have h0 : (0 : Int) ≤ (i : Int) := by omega
      have HPt := Lib.hid (klist1 x y wr)
      have HB := Lib.hid hI0
      cases hp : Lt.off (x, y) with
      | true =>
        obtain rfl : X = true := by
          rw [← HX.out]
          exact List.any_eq_true.2 ⟨_, hmem, hp⟩
        rw [hp] at HPt
        clear HI hI0 hI1 hx hmem hc hp HX
        go_wp2_with fail
        refine HPt.out.mono ?_
        rintro e w1 ⟨rfl, b1⟩
        have HB1 := Lib.hid (HB.out.trans (b1.mono HB.out.size))
        clear b1
        go_wp2
        go_ret
        exact ⟨⟨_, rfl, by simp⟩, HB1.out⟩
      | false =>
        rw [hp] at HPt
        have HAll : Hid (∀ y ∈ R.take (i + 1), Lt.off y = false) := by
          intro u hu
          rw [take_one hx] at hu
          rcases List.mem_append.1 hu with hu | hu
          · exact hI1 u hu
          · rw [List.mem_singleton.1 hu]
            exact hp
        clear HI hI0 hI1 hx hmem hc hp HX
        go_wp2_with fail
        refine HPt.out.mono ?_
        rintro e w1 ⟨rfl, b1⟩
        have HB1 := Lib.hid (HB.out.trans (b1.mono HB.out.size))
        clear b1
        go_wp2
        go_roundw
        case rel => exact ⟨i + 1, by omega, by go_num, HB1.out, HAll.out⟩
        case measure => simp [intOf]; omega
    · obtain rfl : i = n := by omega
      obtain rfl : X = false := by
        rw [← HX.out]
        rw [List.take_of_length_le (by rw [HH.out.len]; exact Nat.le_refl _)] at hI1
        exact List.any_eq_false.2 fun x hx => by rw [show (!Lt.pt x.1 || decide (x.2 < 1)) = false from hI1 x hx]; decide
      have HB := Lib.hid hI0
      clear HI HX hI0 hI1
      go_wp2
      go_ret
      exact ⟨⟨_, rfl, by decide⟩, HB.out⟩
theorem kcontR (w : World) (A : Option Addr) (n c : Nat) (R : List (Int × Int)) (h : RunS w A n R) (hn : n ≤ 1000000000) :
    Calls Tryz.prog 140 #[.slice A n c, .func (.func 141) #[] #[]] w fun e w' => e = .returned (.bool (Lt.bad R)) ∧ Below w.heap.size w w' := by
  have HI := Lib.hid (kindexR w A n c R h hn)
  generalize Lt.bad R = X at HI
  clear h
  go_enter Tryz.func140, Tryz.ntmps140
  go_wp2_with (go_at_call 155; refine HI.out.mono ?_; rintro e w1 ⟨⟨r, rfl, hr⟩, b1⟩)
  go_ret
  exact ⟨by first | rfl | rw [hr], b1⟩
def Lt.totOf (R : List (Int × Int)) (most : Int) : Int × Bool := if most < Lt.total R then (0, false) else (Lt.total R, true)
theorem Lt.tot_long {R : List (Int × Int)} {most : Int} (h : most < Lt.total R) : Lt.totOf R most = (0, false) := by rw [Lt.totOf, if_pos h]
theorem Lt.tot_ok {R : List (Int × Int)} {most : Int} (h : ¬ most < Lt.total R) : Lt.totOf R most = (Lt.total R, true) := by rw [Lt.totOf, if_neg h]
theorem ktotal7 (w : World) (A : Option Addr) (n c : Nat) (R : List (Int × Int)) (most : Int) (h : RunS w A n R) (hn : n ≤ 100000) (hmost : most ≤ 1000000) (hR : ∀ x ∈ R, ¬ x.2 < 1) :
    Calls Tryz.prog 143 #[.slice A n c, .int .i64 most] w fun e w' => e = .returned (.tuple #[.int .i64 (Lt.totOf R most).1, .bool (Lt.totOf R most).2]) ∧ Below w.heap.size w w' := by
  obtain ⟨Post, hPost⟩ : ∃ Post : Ending → World → Prop, Post = fun e w' => e = .returned (.tuple #[.int .i64 (Lt.totOf R most).1, .bool (Lt.totOf R most).2]) ∧ Below w.heap.size w w' := ⟨_, rfl⟩
  rw [← hPost]
  have HLong : Hid (most < Lt.total R → ∀ w', Below w.heap.size w w' → Post (.returned (.tuple #[.int .i64 0, .bool false])) w') := fun h w' hb => by
    rw [hPost, Lt.tot_long h]
    exact ⟨rfl, hb⟩
  have HOk : Hid (¬ most < Lt.total R → ∀ m : Nat, Lt.total R = (m : Int) → ∀ w', Below w.heap.size w w' → Post (.returned (.tuple #[.int .i64 (m : Nat), .bool true])) w') := fun h m hm w' hb => by
    rw [hPost, Lt.tot_ok h, hm]
    exact ⟨rfl, hb⟩
  have HH := Lib.hid h
  have HG : Hid (∀ x ∈ R, 1 ≤ x.2) := fun x hx => Int.not_lt.1 (hR x hx)
  clear hPost h
  by_cases hm0 : most < 0
  · have HF := Lib.hid (HLong.out (by have := Lt.total_pos hR; omega) w (Below.refl _ _))
    clear HLong HOk hR
    go_enter Tryz.func143, Tryz.ntmps143
    go_wp2
    first | exact HF.out | exact bodyPost_ret (by simp [results, Tryz.results143, go_sem]) rfl HF.out
  · clear hR
    go_enter Tryz.func143, Tryz.ntmps143
    go_wp2
    go_loopw [6, 13] (fun mv iv wr => ∃ (i m : Nat), i ≤ n ∧ iv = .int .i64 (i : Nat) ∧ mv = .int .i64 (m : Nat) ∧ (m : Int) ≤ most ∧ Hid (Below w.heap.size w wr ∧ Lt.total (R.take i) = (m : Int))) (fun _ iv _ => n - (intOf iv).toNat)
    case atStart => exact ⟨0, 0, Nat.zero_le _, rfl, rfl, by omega, Below.refl _ _, rfl⟩
    case round =>
      obtain ⟨i, m, hi, rfl, rfl, hmm, HI⟩ := hrel
      obtain ⟨hI0, hI1⟩ := HI.out
      by_cases hlt : i < n
      · obtain ⟨b, off, ⟨x, y⟩, rfl, hx, hmem, _, hc⟩ := HH.out.get hlt
        obtain ⟨q1, q2, q3⟩ := hc wr hI0
        have hy1 : 1 ≤ y := HG.out _ hmem
        have hlt' : (i : Int) < (n : Int) := by omega
        have h0 : (0 : Int) ≤ (i : Int) := by omega
        have ht := Lt.take_total hx
        simp only at ht
        have hb2 : Below w.heap.size w ((wr.alloc (.cells #[.int .i64 x, .int .i64 y] 70))) := hI0.alloc hI0.size _
        by_cases hlong : most - (m : Int) < y
        · have HF := Lib.hid (HLong.out (by have := Lt.take_le (R := R) (i + 1) fun x hx => Int.not_lt.2 (HG.out x hx); omega))
          have HB := Lib.hid hI0
          clear HI hI0 hI1 hx hmem hc ht HLong HOk hb2
          go_wp2
          first | exact HF.out _ (HB.out.alloc HB.out.size _) | exact bodyPost_ret (by simp [results, Tryz.results143, go_sem]) rfl (HF.out _ (HB.out.alloc HB.out.size _))
        · obtain ⟨m2, hm2⟩ : ∃ m2 : Nat, (m : Int) + y = (m2 : Int) := ⟨((m : Int) + y).toNat, by omega⟩
          have HN : Hid (Lt.total (R.take (i + 1)) = (m2 : Int)) := by show _ = _; omega
          have HB := Lib.hid hI0
          have hle : (m2 : Int) ≤ most := by omega
          clear HI hI0 hI1 hx hmem hc ht HLong HOk hb2
          go_wp2
          go_roundw
          case rel => exact ⟨i + 1, m2, by omega, by go_num, by first | rfl | (congr 1; omega), hle, HB.out.alloc HB.out.size _, HN.out⟩
          case measure => simp [intOf]; omega
      · obtain rfl : i = n := by omega
        rw [List.take_of_length_le (by rw [HH.out.len]; exact Nat.le_refl _)] at hI1
        have HF := Lib.hid (HOk.out (by omega) m hI1 wr hI0)
        clear HI hI0 hI1 HLong HOk
        go_wp2
        first | exact HF.out | exact bodyPost_ret (by simp [results, Tryz.results143, go_sem]) rfl HF.out
abbrev roomN (n : Nat) : Obj := .cells (madeCells #[.int .i64 0] (n * 1)) 3
theorem make_room (n : Nat) (hn : n ≤ 100000000) (W : World) : (Instr.makeSlice 36 (.int .i64 0) (.int .i64 (n : Int))).run Tryz.prog W = .ok (.slice (some ⟨W.heap.size, 0, none⟩) 0 n) (W.alloc (roomN n)) := by
  obtain ⟨i0, hi, hz0, hz1, hz2⟩ := info_parts infoJ
  have h := run_make (P := Tryz.prog) W 36 3 i0 (.int .i64 0) Tryz.underlying36 hi hz0 .i64 .i64 0 (n : Int) (Int.le_refl _) (by omega) (by rw [hz2]; omega) (by omega)
  rw [h, hz1]
  rfl
theorem OwnN.room (n : Nat) (hn : n ≤ 100000000) (W : World) (B : Nat) (hB : B ≤ W.heap.size) : OwnN (W.alloc (roomN n)) B (some ⟨W.heap.size, 0, none⟩) n [] :=
  World.ownsRow_made W _ n hB (by unfold maxLen; omega) (size_madeCells _ _)
theorem klist7 (w : World) (A : Option Addr) (n c : Nat) (R : List (Int × Int)) (most : Int) (h : RunS w A n R) (hn : n ≤ 100000) (hmost : most ≤ 1000000) :
    Calls Tryz.prog 126 #[.slice A n c, .int .i64 most] w fun e w' => ListSaid w (Lt.list R most) e w' := by
  obtain ⟨Post, hPost⟩ : ∃ Post : Ending → World → Prop, Post = fun e w' => ListSaid w (Lt.list R most) e w' := ⟨_, rfl⟩
  rw [← hPost]
  have HPo := Lib.hid hPost
  have HH := Lib.hid h
  have HC := Lib.hid (kcontR w A n c R h (by omega))
  have HErr : Hid (∀ k, Lt.list R most = (k, []) → ∀ w', Below w.heap.size w w' → Post (.returned (.tuple #[.slice none 0 0, .int .i64 k])) w') := fun k hk w' hb => by
    rw [hPost]
    exact ListSaid.err hk hb
  have hmin : min most 2147483647 = most := by omega
  clear hPost h
  cases hbad : Lt.bad R with
  | true =>
    rw [hbad] at HC
    have HF := Lib.hid (HErr.out 1 (Lt.list_bad hbad))
    clear hbad HH HErr
    go_enter Tryz.func126, Tryz.ntmps126
    go_wp2_with (go_at_call 140; refine HC.out.mono ?_; rintro e w1 ⟨rfl, b1⟩; have HF1 := Lib.hid (HF.out _ b1); clear b1)
    first | exact HF1.out | exact bodyPost_ret (by simp [results, Tryz.results126, go_sem]) rfl HF1.out
  | false =>
    rw [hbad] at HC
    have hG : ∀ x ∈ R, 1 ≤ x.2 := fun x hx => Int.not_lt.1 (Lt.bad_false.1 hbad x hx).2
    have HG := Lib.hid hG
    have HT := Lib.hid fun W (hW : Below w.heap.size w W) => ktotal7 W A n c R most (HH.out.below hW) hn hmost fun x hx => Int.not_lt.2 (hG x hx)
    by_cases hlong : most < Lt.total R
    · have HF := Lib.hid (HErr.out 2 (Lt.list_long hbad hlong))
      rw [Lt.tot_long hlong] at HT
      clear hbad HH HErr hlong hG HG
      go_enter Tryz.func126, Tryz.ntmps126
      go_wp2_with (first
        | (go_at_call 140; refine HC.out.mono ?_; rintro e w1 ⟨rfl, b1⟩; have HB1 := Lib.hid b1; clear b1)
        | (go_at_call 143; refine (HT.out _ HB1.out).mono ?_; rintro e w2 ⟨rfl, b2⟩; have HF2 := Lib.hid (HF.out _ (HB1.out.trans (b2.mono HB1.out.size))); clear b2))
      first | exact HF2.out | exact bodyPost_ret (by simp [results, Tryz.results126, go_sem]) rfl HF2.out
    · obtain ⟨tot, htot⟩ : ∃ tot : Nat, Lt.total R = (tot : Int) := ⟨(Lt.total R).toNat, by have := Lt.total_pos fun x hx => Int.not_lt.2 (hG x hx); omega⟩
      have HFit : Hid (Lt.list R most = (0, Lt.expand R)) := Lt.list_ok hbad hlong
      have HTot := Lib.hid htot
      have ht6 : tot ≤ 1000000 := by omega
      rw [Lt.tot_ok hlong, htot] at HT
      have hmk := make_room tot (by omega)
      have HRoom := Lib.hid fun W B hB => OwnN.room tot (by omega) W B hB
      clear hbad HErr hlong hG htot
      go_enter Tryz.func126, Tryz.ntmps126
      go_wp2_with (first
        | (go_at_call 140; refine HC.out.mono ?_; rintro e w1 ⟨rfl, b1⟩; have HB1 := Lib.hid b1; clear b1)
        | (go_at_call 143; refine (HT.out _ HB1.out).mono ?_; rintro e w2 ⟨rfl, b2⟩; have HB2 := Lib.hid (HB1.out.trans (b2.mono HB1.out.size)); clear b2))
      have HB2r := Lib.hid (HB2.out.alloc HB2.out.size (roomN tot))
      have HO2 := Lib.hid (HRoom.out w2 w.heap.size HB2.out.size)
      go_loopw [8, 26] (fun ov iv wr => ∃ (q m : Nat) (A' : Option Addr) (c' : Nat) (l : List Int), q ≤ n ∧ iv = .int .i64 (q : Nat) ∧ ov = .slice A' m c' ∧ Hid (Below w.heap.size w wr ∧ OwnN wr w.heap.size A' c' l ∧ l.length = m ∧ l = Lt.expand (R.take q))) (fun _ iv _ => n - (intOf iv).toNat)
      case atStart => exact ⟨0, 0, _, tot, [], Nat.zero_le _, rfl, rfl, HB2r.out, HO2.out, rfl, rfl⟩
      case round =>
        obtain ⟨wo, rfl⟩ : ∃ wo, wo = wr := ⟨_, rfl⟩
        obtain ⟨q, m, A', c', l, hq, rfl, rfl, HQ⟩ := hrel
        obtain ⟨hQ0, hQ1, hQ2, hQ3⟩ := HQ.out
        by_cases hlt3 : q < n
        · obtain ⟨b, off, ⟨x1, x2⟩, rfl, hx, hmem, _, hc⟩ := HH.out.get hlt3
          have hx1 : 1 ≤ x2 := HG.out _ hmem
          obtain ⟨N, hN⟩ : ∃ N : Nat, x2 = (N : Int) := ⟨x2.toNat, by omega⟩
          subst hN
          obtain ⟨q1, q2, q3⟩ := hc wo hQ0
          have hlt' : (q : Int) < (n : Int) := by omega
          have h0 : (0 : Int) ≤ (q : Int) := by omega
          have HBq := Lib.hid (hQ0.alloc hQ0.size (.cells #[.int .i64 x1, .int .i64 (N : Int)] 70))
          have HOq := Lib.hid (hQ1.kept ((Below.refl _ wo).alloc (Nat.le_refl _) (.cells #[.int .i64 x1, .int .i64 (N : Int)] 70)))
          have HLq := Lib.hid (Lies.new wo 70 #[.int .i64 x1, .int .i64 (N : Int)])
          have HMq := Lib.hid hQ2
          have HTt : Hid (m + N ≤ 1000000) := by
            show _ ≤ _
            have h1 := Lt.take_le (R := R) (q + 1) fun x hx => Int.not_lt.2 (HG.out x hx)
            rw [Lt.take_total hx] at h1
            have h2 := Lt.expand_len (R := R.take q) fun x hx => Int.not_lt.2 (HG.out x (List.mem_of_mem_take hx))
            rw [← hQ3, hQ2] at h2
            have h3 := HTot.out
            simp only at h1
            omega
          have hmN := HTt.out
          have HNx : Hid (Lt.expand (R.take (q + 1)) = l ++ List.replicate N x1) := by
            show _ = _
            rw [take_one hx, Lt.expand_app, Lt.expand_one, ← hQ3]
            simp
          clear hQ0 hQ1 hQ2 hQ3 HQ hx hmem hc hlt3 HFit hmk
          go_wp2
          go_loopw [8, 32] (fun ov kv w3 => ∃ (k : Nat) (A' : Option Addr) (c' : Nat) (l' : List Int), k ≤ N ∧ kv = .int .i64 (k : Nat) ∧ ov = .slice A' (m + k) c' ∧ Hid (Below w.heap.size w w3 ∧ OwnN w3 w.heap.size A' c' l' ∧ l'.length = m + k ∧ l' = l ++ List.replicate k x1 ∧ Lies w3 wo.heap.size 70 #[.int .i64 x1, .int .i64 (N : Int)])) (fun _ kv _ => N - (intOf kv).toNat)
          case atStart => exact ⟨0, A', c', l, Nat.zero_le _, rfl, rfl, HBq.out, HOq.out, HMq.out, by simp, HLq.out⟩
          case round =>
            obtain ⟨k, A3, c3, l3, hk, rfl, rfl, HK⟩ := hrel
            obtain ⟨hK0, hK1, hK2, hK3, hK4⟩ := HK.out
            by_cases hlt4 : k < N
            · have hlt4' : (k : Int) < (N : Int) := by omega
              have HB3 := Lib.hid hK0
              have HO3 := Lib.hid hK1
              have HM3 := Lib.hid hK2
              have HLi3 := Lib.hid hK4
              have r1 := hK4.lt
              have r2 := hK4.cell 0
              simp at r2
              have HL3 : Hid (l3 ++ [x1] = l ++ List.replicate (k + 1) x1) := by
                show _ = _
                rw [hK3, List.replicate_succ', List.append_assoc]
              have HNe : Hid ((Value.slice A3 (m + k) c3).ownBlock ≠ some wo.heap.size) := by
                have := own_not_lies hK1 hK4 (by decide)
                rwa [hK2] at this
              have hmk3 : m + k ≤ 1000000000 := by omega
              have hbw := hK0.size
              clear hK0 hK1 hK2 hK3 hK4 HK
              go_wp2_with (at_builtin; refine appendN _ rfl (.tmp 34) (.tmp 37) rfl w.heap.size A3 c3 l3 (m + k) HM3.out x1 rfl HO3.out rfl hmk3 hbw ?_; intro A5 c5 w5 o5 g5; have O5 := Lib.hid o5; have B5 := Lib.hid (HB3.out.grown g5 HB3.out.size (fun q hq => (HO3.out.lt HM3.out hq).1)); have L5 := Lib.hid ((Turn.of_grown (F := fun q => (Value.slice A3 (m + k) c3).ownBlock = some q) g5 (fun q hq _ => hq)).lies HLi3.out HNe.out); clear o5 g5)
              go_roundw
              case rel => exact ⟨k + 1, A5, c5, l3 ++ [x1], by omega, by go_num, rfl, B5.out, O5.out, by rw [List.length_append, HM3.out]; rfl, HL3.out, L5.out⟩
              case measure => simp [intOf]; omega
            · obtain rfl : k = N := by omega
              have HE : Hid (Below w.heap.size w wr ∧ OwnN wr w.heap.size A3 c3 l3 ∧ l3.length = m + k ∧ l3 = Lt.expand (R.take (q + 1))) := ⟨hK0, hK1, hK2, by rw [HNx.out]; exact hK3⟩
              clear hK0 hK1 hK2 hK3 hK4 HK hlt4
              go_wp2
              go_roundw
              case rel => exact ⟨q + 1, m + k, A3, c3, l3, by omega, by go_num, rfl, HE.out⟩
              case measure => simp [intOf]; omega
        · obtain rfl : q = n := by omega
          rw [List.take_of_length_le (by rw [HH.out.len]; exact Nat.le_refl _)] at hQ3
          have HF := Lib.hid (ListSaid.ok (HFit.out.trans (by rw [hQ3])) hQ2 hQ1 hQ0)
          clear hQ0 hQ1 hQ2 hQ3 HQ hlt3
          go_wp2
          first
            | (rw [HPo.out]; exact HF.out)
            | exact bodyPost_ret (by simp [results, Tryz.results126, go_sem]) rfl (by rw [HPo.out]; exact HF.out)
end Go.Proofs.YtfjpcjebecgglaaGreatDoor
