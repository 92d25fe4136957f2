/- TableBack: what was added is found by its number, and its number by it. -/
import Derived.Test.YtgijagdnhajkhaaT17
namespace Go.Proofs.Ytgijagdnhajkhaa
open Go.RowKit

theorem mem_take_step {zs : List Int} {k : Nat} {x y : Int} (h : zs[k]? = some y) : x ∈ zs.take (k + 1) ↔ x ∈ zs.take k ∨ x = y := by
  rw [take_one h]
  simp

set_option maxRecDepth 100000 in
set_option maxHeartbeats 6400000 in
theorem tableBack_walk (A : Option Addr) (n c : Nat) (zs : List Int) (w : World) (h : ArgI w A n c zs) :
    Calls Try.prog 5 #[.slice A n c] w fun e w' => e = .returned (.bool true) ∧ Below w.heap.size w w' := by
  have HA := Lib.hid (awake3 w)
  have HG := Lib.hid h
  have HZ := Lib.hid h.len
  clear h
  by_cases hn : 200 < n
  · have hn' : (200 : Int) < (n : Int) := by omega
    go_enter Try.func5, Try.ntmps5
    go_wp2_with (go_at_call 9; refine HA.out.mono ?_; rintro e w1 ⟨rfl, b1⟩)
    go_ret
    exact ⟨rfl, b1⟩
  · have hn' : ¬ (200 : Int) < (n : Int) := by omega
    have hdn : decide (200 < n) = false := decide_eq_false hn
    go_enter Try.func5, Try.ntmps5
    go_wp2_with (go_at_call 9; refine HA.out.mono ?_; rintro e w1 ⟨rfl, b1⟩; have HN := Lib.hid (OwnTi.new b1); clear b1)
    go_loopw [5] (fun iv wr => ∃ i : Nat, i ≤ n ∧ iv = .int .i64 (i : Nat) ∧ OwnTi w wr w1.heap.size (ded (zs.take i))) (fun iv _ => n - (intOf iv).toNat)
    case atStart => exact ⟨0, Nat.zero_le _, rfl, HN.out⟩
    case round =>
      obtain ⟨i, hi, rfl, ho⟩ := hrel
      by_cases hlt : i < n
      · obtain ⟨b, off, x, rfl, hb, hx, hwx, hc⟩ := HG.out.cell ho.below hlt
        have HX := Lib.hid (take_one hx)
        have HWX := Lib.hid hwx
        obtain ⟨ks, HKS⟩ : ∃ ks, Hid (ks = ded (zs.take i)) := ⟨_, rfl⟩
        rw [← HKS.out] at ho
        have hkl : ks.length ≤ 200 := by rw [HKS.out]; have := ded_length (zs.take i); rw [List.length_take] at this; omega
        have HO := Lib.hid ho
        obtain ⟨wo, hwo⟩ : ∃ wo : World, wo = wr := ⟨_, rfl⟩
        subst hwo
        clear ho hx hwx hb hc
        go_wp2_with fail
        go_loopw [6, 7] (fun hv kv wr => ∃ (k : Nat) (bv : Bool), k ≤ i ∧ kv = .int .i64 (k : Nat) ∧ hv = .bool bv ∧ Hid (bv = decide (x ∈ zs.take k)) ∧ OwnTi w wr w1.heap.size ks) (fun _ kv _ => i - (intOf kv).toNat)
        case atStart => exact ⟨0, false, Nat.zero_le _, rfl, rfl, (by show false = decide (x ∈ zs.take 0); simp), HO.out⟩
        case round =>
          obtain ⟨k, bv, hk, rfl, rfl, hbv, ho⟩ := hrel
          obtain ⟨b', off', x', e1, hb, hx', hwx, hc⟩ := HG.out.cell ho.below hlt
          obtain ⟨rfl, rfl⟩ : b' = b ∧ off' = off := by injection e1 with e1; injection e1 with e1 e2; exact ⟨e1.symm, e2.symm⟩
          obtain rfl : x' = x := by have := HX.out; rw [take_one hx'] at this; simpa using this
          by_cases hlk : k < i
          · obtain ⟨b2, off2, y, e2, _, hy, _, hcy⟩ := HG.out.cell ho.below (i := k) (by omega)
            obtain ⟨rfl, rfl⟩ : b2 = b' ∧ off2 = off' := by injection e2 with e2; injection e2 with e2 e3; exact ⟨e2.symm, e3.symm⟩
            have HY := Lib.hid (mem_take_step (x := x') hy)
            have HO2 := Lib.hid ho
            have hlk' : (k : Int) < (i : Int) := by omega
            have hi0 : (0 : Int) ≤ (i : Int) := by omega
            have hk0 : (0 : Int) ≤ (k : Int) := by omega
            have hin : (i : Int) < (n : Int) := by omega
            have hkn : (k : Int) < (n : Int) := by omega
            clear ho hx' hy e1 e2 hwx
            cases bv with
            | true =>
              go_wp2
              go_quiet (fail)
              go_wp2
              go_roundw
              case rel => exact ⟨k + 1, true, by omega, by go_num, rfl, (by show true = decide (x' ∈ zs.take (k + 1)); have := hbv.out; exact (decide_eq_true (HY.out.2 (.inl (of_decide_eq_true this.symm)))).symm), HO2.out.step (Turn.none_ ((Turn.refl (fun _ => False) _).drewN _) (fun _ => id))⟩
              case measure => simp [intOf]; omega
            | false =>
              have hno : x' ∉ zs.take k := of_decide_eq_false hbv.out.symm
              by_cases hxy : y = x'
              · have h1 : (y == x') = true := by simp [hxy]
                have HB : Hid (true = decide (x' ∈ zs.take (k + 1))) := (decide_eq_true (HY.out.2 (.inr hxy.symm))).symm
                have HN2 : Hid (x' ∉ zs.take k) := hno
                clear hno hbv
                subst hxy
                go_wp2
                go_quiet (fail)
                go_wp2
                go_roundw
                case rel => exact ⟨k + 1, true, by omega, by go_num, rfl, HB, HO2.out.step (Turn.none_ ((Turn.refl (fun _ => False) _).drewN _) (fun _ => id))⟩
                case measure => simp [intOf]; omega
              · have h1 : (y == x') = false := by simp [hxy]
                have h2 : decide (y = x') = false := decide_eq_false hxy
                have HB : Hid (false = decide (x' ∈ zs.take (k + 1))) := (decide_eq_false (fun e => (HY.out.1 e).elim hno (fun e => hxy e.symm))).symm
                clear hno hbv
                go_wp2
                go_quiet (fail)
                go_wp2
                go_roundw
                case rel => exact ⟨k + 1, false, by omega, by go_num, rfl, HB, HO2.out.step (Turn.none_ ((Turn.refl (fun _ => False) _).drewN _) (fun _ => id))⟩
                case measure => simp [intOf]; omega
          · have hki : k = i := by omega
            subst hki
            have HCx : Hid (∀ W, Below w.heap.size w W → b' < W.heap.size ∧ W.cell? ⟨b', off' + k, none⟩ = some (.int .i64 x')) := fun W hW => by
              obtain ⟨b2, off2, y, e2, h1, hy, _, h2⟩ := HG.out.cell hW hlt
              injection e2 with e2
              injection e2 with e2 e3
              subst e2
              subst e3
              rw [hx'] at hy
              rw [Option.some.inj hy]
              exact ⟨h1, h2⟩
            have hmem : x' ∈ ks ↔ x' ∈ zs.take k := by rw [HKS.out]; exact mem_ded _ _
            have HO2 := Lib.hid ho
            clear hx' e1 hwx ho
            by_cases hm : x' ∈ ks
            · obtain rfl : bv = true := by rw [hbv.out]; exact decide_eq_true (hmem.1 hm)
              obtain ⟨p, HP⟩ : ∃ p, Hid (p = ks.idxOf x') := ⟨_, rfl⟩
              have HAd := Lib.hid (HO2.out.old x' hm)
              have HAt := Lib.hid fun (W : World) (q : OwnTi w W w1.heap.size ks) => q.hit (ks.idxOf x') x' (idx_get hm)
              have HFi := Lib.hid fun (W : World) (q : OwnTi w W w1.heap.size ks) => q.find x' (ks.idxOf x' : Nat) true ⟨decide_eq_true hm, by rw [if_pos hm]⟩ HWX.out
              rw [← HP.out] at HAd HAt HFi
              have HM := Lib.hid hm
              clear hm hmem hbv
              go_wp2_with fail
              refine HAd.out.mono ?_
              rintro e w2 ⟨rfl, q2⟩
              have hc2 := (HCx.out _ q2.below).2
              have hb2 := (HCx.out _ q2.below).1
              have Q2 := Lib.hid q2
              clear q2
              go_wp2_with fail
              refine (HAt.out _ Q2.out).mono ?_
              rintro e w3 ⟨rfl, rfl⟩
              go_wp2_with fail
              refine (HFi.out _ Q2.out).mono ?_
              rintro e w4 ⟨rfl, q4⟩
              have hc4 := (HCx.out _ q4.below).2
              have hb4 := (HCx.out _ q4.below).1
              have Q4 := Lib.hid q4
              clear q4
              go_wp2_with (go_frame)
              go_roundw
              case rel => exact ⟨k + 1, by omega, by go_num, by rw [HX.out, ded_snoc, ← HKS.out, addk, if_pos HM.out]; exact Q4.out⟩
              case measure => simp [intOf]; omega
            · obtain rfl : bv = false := by rw [hbv.out]; exact decide_eq_false (fun e => hm (hmem.2 e))
              obtain ⟨p, HP⟩ : ∃ p, Hid (p = ks.length) := ⟨_, rfl⟩
              have HAd := Lib.hid (HO2.out.add x' hm HWX.out (by omega))
              have HAt := Lib.hid fun (W : World) (q : OwnTi w W w1.heap.size (ks ++ [x'])) => q.hit ks.length x' (by simp)
              have HFi := Lib.hid fun (W : World) (q : OwnTi w W w1.heap.size (ks ++ [x'])) => q.find x' (ks.length : Nat) true ⟨decide_eq_true (by simp), by rw [if_pos (by simp), idx_snoc_new hm]⟩ HWX.out
              rw [← HP.out] at HAd HAt HFi
              have HM := Lib.hid hm
              clear hm hmem hbv
              go_wp2_with fail
              refine HAd.out.mono ?_
              rintro e w2 ⟨rfl, q2⟩
              have hc2 := (HCx.out _ q2.below).2
              have hb2 := (HCx.out _ q2.below).1
              have Q2 := Lib.hid q2
              clear q2
              go_wp2_with fail
              refine (HAt.out _ Q2.out).mono ?_
              rintro e w3 ⟨rfl, rfl⟩
              go_wp2_with fail
              refine (HFi.out _ Q2.out).mono ?_
              rintro e w4 ⟨rfl, q4⟩
              have hc4 := (HCx.out _ q4.below).2
              have hb4 := (HCx.out _ q4.below).1
              have Q4 := Lib.hid q4
              clear q4
              go_wp2_with (go_frame)
              go_roundw
              case rel => exact ⟨k + 1, by omega, by go_num, by rw [HX.out, ded_snoc, ← HKS.out, addk, if_neg HM.out]; exact Q4.out⟩
              case measure => simp [intOf]; omega
      · have hki : i = n := by omega
        subst hki
        rw [List.take_of_length_le (by rw [HZ.out]; exact Nat.le_refl _)] at ho
        have hql : (ded zs).length ≤ i := by have := ded_length zs; rw [HZ.out] at this; exact this
        have hmm : ∀ x, x ∈ zs → x ∈ ded zs := fun x hx => (mem_ded zs x).2 hx
        have HMM := Lib.hid hmm
        obtain ⟨ks, HKS⟩ : ∃ ks, Hid (ks = ded zs) := ⟨_, rfl⟩
        rw [← HKS.out] at ho hql HMM
        have HO := Lib.hid ho
        clear ho hmm
        go_wp2_with fail
        go_loopw [14] (fun jv wr => ∃ j : Nat, j ≤ i ∧ jv = .int .i64 (j : Nat) ∧ OwnTi w wr w1.heap.size ks) (fun jv _ => i - (intOf jv).toNat)
        case atStart => exact ⟨0, Nat.zero_le _, rfl, HO.out⟩
        case round =>
          obtain ⟨j, hj, rfl, ho⟩ := hrel
          by_cases hlj : j < i
          · obtain ⟨b, off, x, rfl, hb, hx, hwx, hc⟩ := HG.out.cell ho.below hlj
            have HX := Lib.hid hx
            have HWX := Lib.hid hwx
            have HCx : Hid (∀ W, Below w.heap.size w W → b < W.heap.size ∧ W.cell? ⟨b, off + j, none⟩ = some (.int .i64 x)) := fun W hW => by
              obtain ⟨b2, off2, y, e2, h1, hy, _, h2⟩ := HG.out.cell hW hlj
              injection e2 with e2
              injection e2 with e2 e3
              subst e2
              subst e3
              rw [hx] at hy
              rw [Option.some.inj hy]
              exact ⟨h1, h2⟩
            have HO2 := Lib.hid ho
            obtain ⟨wo, hwo⟩ : ∃ wo : World, wo = wr := ⟨_, rfl⟩
            subst hwo
            clear ho hx hwx hb hc
            go_wp2_with fail
            go_loopw [15] (fun kv wr => ∃ k : Nat, k ≤ j ∧ kv = .int .i64 (k : Nat) ∧ OwnTi w wr w1.heap.size ks) (fun kv _ => j - (intOf kv).toNat)
            case atStart => exact ⟨0, Nat.zero_le _, rfl, HO2.out⟩
            case round =>
              obtain ⟨k, hk, rfl, ho⟩ := hrel
              by_cases hlk : k < j
              · obtain ⟨b2, off2, y, e2, _, hy, hwy, hcy⟩ := HG.out.cell ho.below (i := k) (by omega)
                obtain ⟨rfl, rfl⟩ : b = b2 ∧ off = off2 := by injection e2 with e2; injection e2 with e2 e3; exact ⟨e2, e3⟩
                have HCy : Hid (∀ W, Below w.heap.size w W → W.cell? ⟨b, off + k, none⟩ = some (.int .i64 y)) := fun W hW => by
                  obtain ⟨b2, off2, y', e2, h1, hy', _, h2⟩ := HG.out.cell (i := k) hW (by omega)
                  injection e2 with e2
                  injection e2 with e2 e3
                  subst e2
                  subst e3
                  rw [hy] at hy'
                  rw [Option.some.inj hy']
                  exact h2
                have hmx := HMM.out x (List.mem_of_getElem? HX.out)
                have hmy := HMM.out y (List.mem_of_getElem? hy)
                obtain ⟨p, HP⟩ : ∃ p, Hid (p = ks.idxOf x) := ⟨_, rfl⟩
                obtain ⟨q, HQ⟩ : ∃ q, Hid (q = ks.idxOf y) := ⟨_, rfl⟩
                have HFx := Lib.hid fun (W : World) (r : OwnTi w W w1.heap.size ks) => r.find x (ks.idxOf x : Nat) true ⟨decide_eq_true hmx, by rw [if_pos hmx]⟩ HWX.out
                have HFy := Lib.hid fun (W : World) (r : OwnTi w W w1.heap.size ks) => r.find y (ks.idxOf y : Nat) true ⟨decide_eq_true hmy, by rw [if_pos hmy]⟩ hwy
                rw [← HP.out] at HFx
                rw [← HQ.out] at HFy
                have HO3 := Lib.hid ho
                obtain ⟨hbx, hcx⟩ := HCx.out _ ho.below
                have hpq : x ≠ y → p ≠ q := fun e e' => e (by
                  rw [HP.out, HQ.out] at e'
                  have h1 := idx_get hmx
                  have h2 := idx_get hmy
                  rw [e', h2] at h1
                  exact (Option.some.inj h1).symm)
                have hlk' : (k : Int) < (j : Int) := by omega
                have hj0 : (0 : Int) ≤ (j : Int) := by omega
                have hk0 : (0 : Int) ≤ (k : Int) := by omega
                have hji : (j : Int) < (i : Int) := by omega
                have hki : (k : Int) < (i : Int) := by omega
                clear ho hy hwy e2 hmx hmy
                by_cases hxy : x = y
                · subst hxy
                  obtain rfl : p = q := by rw [HP.out, HQ.out]
                  clear hpq
                  go_wp2_with fail
                  refine (HFx.out _ HO3.out).mono ?_
                  rintro e w2 ⟨rfl, q2⟩
                  obtain ⟨hb2, hc2⟩ := HCx.out _ q2.below
                  have hd2 := HCy.out _ q2.below
                  have Q2 := Lib.hid q2
                  clear q2
                  go_wp2_with fail
                  refine (HFy.out _ Q2.out).mono ?_
                  rintro e w3 ⟨rfl, q3⟩
                  obtain ⟨hb3, hc3⟩ := HCx.out _ q3.below
                  have hd3 := HCy.out _ q3.below
                  have Q3 := Lib.hid q3
                  clear q3
                  go_wp2_with fail
                  go_quiet (fail)
                  go_wp2
                  go_roundw
                  case rel => exact ⟨k + 1, by omega, by go_num, Q3.out.step (Turn.none_ ((Turn.refl (fun _ => False) _).drewN _) (fun _ => id))⟩
                  case measure => simp [intOf]; omega
                · have hne := hpq hxy
                  have t1 : (x == y) = false := by simp [hxy]
                  have t2 : decide (x = y) = false := decide_eq_false hxy
                  have t3 : (p == q) = false := by simp [hne]
                  have t4 : decide (p = q) = false := decide_eq_false hne
                  have t5 : ((p : Int) == (q : Int)) = false := by simp; omega
                  clear hpq hxy hne
                  go_wp2_with fail
                  refine (HFx.out _ HO3.out).mono ?_
                  rintro e w2 ⟨rfl, q2⟩
                  obtain ⟨hb2, hc2⟩ := HCx.out _ q2.below
                  have hd2 := HCy.out _ q2.below
                  have Q2 := Lib.hid q2
                  clear q2
                  go_wp2_with fail
                  refine (HFy.out _ Q2.out).mono ?_
                  rintro e w3 ⟨rfl, q3⟩
                  obtain ⟨hb3, hc3⟩ := HCx.out _ q3.below
                  have hd3 := HCy.out _ q3.below
                  have Q3 := Lib.hid q3
                  clear q3
                  go_wp2_with fail
                  go_quiet (fail)
                  go_wp2
                  go_roundw
                  case rel => exact ⟨k + 1, by omega, by go_num, Q3.out.step (Turn.none_ ((Turn.refl (fun _ => False) _).drewN _) (fun _ => id))⟩
                  case measure => simp [intOf]; omega
              · have hkj : k = j := by omega
                subst hkj
                have HO3 := Lib.hid ho
                clear ho
                go_wp2_with (go_frame)
                go_roundw
                case rel => exact ⟨k + 1, by omega, by go_num, HO3.out⟩
                case measure => simp [intOf]; omega
          · have HO3 := Lib.hid ho
            have HL := Lib.hid ho.len
            obtain ⟨q, HQ⟩ : ∃ q, Hid (q = ks.length) := ⟨_, rfl⟩
            rw [← HQ.out] at HL hql
            have hqi : (q : Int) ≤ (i : Int) := by omega
            have Q := Lib.hid ho.below
            clear ho
            go_wp2_with (go_at_call 34; refine HL.out.mono ?_; rintro e w5 ⟨rfl, rfl⟩)
            go_ret
            exact ⟨rfl, Q.out⟩
end Go.Proofs.Ytgijagdnhajkhaa
