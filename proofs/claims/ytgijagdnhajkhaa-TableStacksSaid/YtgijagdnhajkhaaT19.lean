/- TableMarks: Back leaves what was there when the mark was set. -/
import Derived.Test.YtgijagdnhajkhaaT17
import Derived.Deep.LoopGhost
namespace Go.Proofs.Ytgijagdnhajkhaa
open Go.RowKit

theorem ArgP.cell {w W : World} {A : Option Addr} {n c i : Nat} {ps : List (Int × Int)} (h : ArgP w A n c ps) (hb : Below w.heap.size w W) (hi : i < n) :
    ∃ b off x y, A = some ⟨b, off, none⟩ ∧ b < W.heap.size ∧ ps[i]? = some (x, y) ∧ W.cell? ⟨b, off + i * 2, none⟩ = some (.int .i64 x) ∧ W.cell? ⟨b, off + i * 2 + 1, none⟩ = some (.int .i64 y) := by
  obtain ⟨b, off, e, hlt, hc⟩ := h.at_ (by omega)
  have hl := h.len
  have hg : ps[i]? = some (ps[i]'(by omega)) := List.getElem?_eq_getElem (by omega)
  obtain ⟨h1, h2⟩ := hc i _ hg
  exact ⟨b, off, ps[i].1, ps[i].2, e, Nat.lt_of_lt_of_le hlt hb.size, hg, (hb.cell (p := ⟨b, off + i * 2, none⟩) hlt).trans h1, (hb.cell (p := ⟨b, off + i * 2 + 1, none⟩) hlt).trans h2⟩

/-- behind the mark: the levels above zs, and the one on top; at most k things and marks came -/
def Above (w W : World) (sb : Nat) (zs : List Int) (k : Nat) (ds : List (List Int)) (top : List Int) : Prop :=
  OwnK w W sb (zs :: ds) top ∧ ds.length ≤ k ∧ ((zs :: ds).flatten ++ top).length ≤ zs.length + k
theorem Above.push {w W W' : World} {sb k : Nat} {zs top : List Int} {ds : List (List Int)} {x : Int} (h : Above w W sb zs k ds top) (q : OwnK w W' sb (zs :: ds) (top ++ [x])) : Above w W' sb zs (k + 1) ds (top ++ [x]) := by
  obtain ⟨_, h2, h3⟩ := h
  refine ⟨q, by omega, ?_⟩
  rw [← List.append_assoc, List.length_append, List.length_singleton]
  omega
theorem Above.mark {w W W' : World} {sb k : Nat} {zs top : List Int} {ds : List (List Int)} (h : Above w W sb zs k ds top) (q : OwnK w W' sb (zs :: ds ++ [top]) []) : Above w W' sb zs (k + 1) (ds ++ [top]) [] := by
  obtain ⟨_, h2, h3⟩ := h
  refine ⟨q, by simp; omega, ?_⟩
  have e : (zs :: (ds ++ [top])).flatten ++ [] = (zs :: ds).flatten ++ top := by simp
  rw [e]
  omega
theorem Above.pop {w W W' : World} {sb k : Nat} {zs t : List Int} {x : Int} {ds : List (List Int)} (h : Above w W sb zs k ds (t ++ [x])) (q : OwnK w W' sb (zs :: ds) t) : Above w W' sb zs (k + 1) ds t := by
  obtain ⟨_, h2, h3⟩ := h
  refine ⟨q, by omega, ?_⟩
  rw [← List.append_assoc, List.length_append, List.length_singleton] at h3
  omega
theorem Above.same {w W W' : World} {sb k : Nat} {zs top : List Int} {ds : List (List Int)} (h : Above w W sb zs k ds top) (q : OwnK w W' sb (zs :: ds) top) : Above w W' sb zs (k + 1) ds top := by
  obtain ⟨_, h2, h3⟩ := h
  exact ⟨q, by omega, by omega⟩

set_option maxRecDepth 100000 in
set_option maxHeartbeats 6400000 in
theorem tableMarks_walk (A : Option Addr) (n c : Nat) (zs : List Int) (B : Option Addr) (m e : Nat) (ps : List (Int × Int)) (w : World) (h : ArgI w A n c zs) (k : ArgP w B m e ps) :
    Calls Try.prog 7 #[.slice A n c, .slice B m e] w fun e w' => e = .returned (.bool true) ∧ Below w.heap.size w w' := by
  have HA := Lib.hid (awake3 w)
  have HG := Lib.hid h
  have HP := Lib.hid k
  have HZ := Lib.hid h.len
  clear h k
  by_cases hn : 200 < n
  · have hn' : (200 : Int) < (n : Int) := by omega
    go_enter Try.func7, Try.ntmps7
    go_wp2_with (go_at_call 9; refine HA.out.mono ?_; rintro e w1 ⟨rfl, b1⟩)
    go_ret
    exact ⟨rfl, b1⟩
  · have hn' : ¬ (200 : Int) < (n : Int) := by omega
    have hdn : decide (200 < n) = false := decide_eq_false hn
    by_cases hm : 200 < m
    · have hm' : (200 : Int) < (m : Int) := by omega
      go_enter Try.func7, Try.ntmps7
      go_wp2_with (go_at_call 9; refine HA.out.mono ?_; rintro e w1 ⟨rfl, b1⟩)
      go_ret
      exact ⟨rfl, b1⟩
    · have hm' : ¬ (200 : Int) < (m : Int) := by omega
      have hdm : decide (200 < m) = false := decide_eq_false hm
      go_enter Try.func7, Try.ntmps7
      go_wp2_with (go_at_call 9; refine HA.out.mono ?_; rintro e w1 ⟨rfl, b1⟩; have HN := Lib.hid (OwnK.new b1); clear b1)
      go_loopw [7] (fun iv wr => ∃ i : Nat, i ≤ n ∧ iv = .int .i64 (i : Nat) ∧ OwnK w wr w1.heap.size [] (zs.take i)) (fun iv _ => n - (intOf iv).toNat)
      case atStart => exact ⟨0, Nat.zero_le _, rfl, HN.out⟩
      case round =>
        obtain ⟨i, hi, rfl, ho⟩ := hrel
        by_cases hlt : i < n
        · obtain ⟨b, off, x, rfl, hb, hx, hwx, hc⟩ := HG.out.cell ho.below hlt
          have HX := Lib.hid (take_one hx)
          have HC := Lib.hid (ho.push x (by simp; omega))
          clear ho hx hwx
          go_wp2_with (go_at_call 19; refine HC.out.mono ?_; rintro e w2 ⟨rfl, q⟩; have Q := Lib.hid q; clear q; go_frame)
          go_roundw
          case rel => exact ⟨i + 1, by omega, by go_num, by rw [HX.out]; exact Q.out⟩
          case measure => simp [intOf]; omega
        · have hin : i = n := by omega
          subst hin
          rw [List.take_of_length_le (by rw [HZ.out]; exact Nat.le_refl _)] at ho
          have HM := Lib.hid (ho.mark (by simp))
          clear ho
          go_wp2_with (go_at_call 23; refine HM.out.mono ?_; rintro e w2 ⟨rfl, q⟩; have Q := Lib.hid q; clear q)
          go_loopw [8] (fun jv wr => ∃ (j : Nat) (ds : List (List Int)) (top : List Int), j ≤ m ∧ jv = .int .i64 (j : Nat) ∧ Above w wr w1.heap.size zs j ds top) (fun jv _ => m - (intOf jv).toNat)
          case atStart => exact ⟨0, [], [], Nat.zero_le _, rfl, Q.out, Nat.le_refl _, by simp⟩
          case round =>
            obtain ⟨j, ds, top, hj, rfl, ho⟩ := hrel
            have HO := Lib.hid ho
            by_cases hlj : j < m
            · obtain ⟨b, off, kd, x, rfl, hb, _, hc1, hc2⟩ := HP.out.cell ho.1.below hlj
              have hsz : ((zs :: ds).flatten ++ top).length < 1000000 := by have := ho.2.2; rw [HZ.out] at this; omega
              have hdl : (zs :: ds).length < 1000000 := by have := ho.2.1; simp; omega
              have HPu := Lib.hid (ho.1.push x hsz)
              have HMa := Lib.hid (ho.1.mark hdl)
              clear ho hsz hdl
              have hji : (j : Int) < (m : Int) := by omega
              have hj0 : (0 : Int) ≤ (j : Int) := by omega
              by_cases hk0 : kd = 0
              · subst hk0
                go_wp2_with (go_at_call 19; refine HPu.out.mono ?_; rintro e w3 ⟨rfl, q⟩; have Q3 := Lib.hid q; clear q; go_frame)
                go_roundw
                case rel => exact ⟨j + 1, ds, top ++ [x], by omega, by go_num, HO.out.push Q3.out⟩
                case measure => simp [intOf]; omega
              · have e0 : (kd == 0) = false := by simp [hk0]
                by_cases hk1 : kd = 1
                · subst hk1
                  rcases List.eq_nil_or_concat top with htop | ⟨t, y, htop⟩
                  · subst htop
                    have HPo := Lib.hid (OwnK.pop0 HO.out.1)
                    go_wp2_with (go_at_call 21; refine HPo.out.mono ?_; rintro e w3 ⟨rfl, q⟩; have Q3 := Lib.hid q; clear q; go_frame)
                    go_roundw
                    case rel => exact ⟨j + 1, ds, [], by omega, by go_num, HO.out.same Q3.out⟩
                    case measure => simp [intOf]; omega
                  · rw [List.concat_eq_append] at htop
                    subst htop
                    have HPo := Lib.hid (OwnK.pop HO.out.1)
                    go_wp2_with (go_at_call 21; refine HPo.out.mono ?_; rintro e w3 ⟨rfl, q⟩; have Q3 := Lib.hid q; clear q; go_frame)
                    go_roundw
                    case rel => exact ⟨j + 1, ds, t, by omega, by go_num, HO.out.pop Q3.out⟩
                    case measure => simp [intOf]; omega
                · have e1 : (kd == 1) = false := by simp [hk1]
                  by_cases hk2 : kd = 2
                  · subst hk2
                    go_wp2_with (go_at_call 23; refine HMa.out.mono ?_; rintro e w3 ⟨rfl, q⟩; have Q3 := Lib.hid q; clear q; go_frame)
                    go_roundw
                    case rel => exact ⟨j + 1, ds ++ [top], [], by omega, by go_num, HO.out.mark Q3.out⟩
                    case measure => simp [intOf]; omega
                  · have e2 : (kd == 2) = false := by simp [hk2]
                    go_wp2
                    go_roundw
                    case rel => exact ⟨j + 1, ds, top, by omega, by go_num, HO.out.same HO.out.1⟩
                    case measure => simp [intOf]; omega
            · have hjm : j = m := by omega
              subst hjm
              have hdl : ds.length ≤ 200 := by have := ho.2.1; omega
              clear ho
              go_wp2_with fail
              go_loopg [9] (ds.length) (fun gk _ wr => ∃ (d : List (List Int)) (tp : List Int), d.length = gk ∧ gk ≤ 200 ∧ OwnK w wr w1.heap.size (zs :: d) tp)
              case atStart => exact ⟨ds, top, rfl, hdl, HO.out.1⟩
              case round =>
                obtain ⟨d, tp, hgk, hg2, ho⟩ := hrel
                rcases List.eq_nil_or_concat d with hd | ⟨d', l, hd⟩
                · subst hd
                  have HM1 : Hid (Calls Try.prog 30 #[.pointer (some ⟨w1.heap.size, 0, none⟩)] wr fun e w' => e = .returned (.int .i64 1) ∧ w' = wr) := ho.marks
                  have HB := Lib.hid (OwnK.back (d := []) ho)
                  have HZ2 := Lib.hid fun (W : World) (q : OwnK w W w1.heap.size [] zs) => q.back0
                  have HAl := Lib.hid fun (W : World) (q : OwnK w W w1.heap.size [] zs) => q.all
                  have HM0 : Hid (∀ W, OwnK w W w1.heap.size [] zs → Calls Try.prog 30 #[.pointer (some ⟨w1.heap.size, 0, none⟩)] W fun e w' => e = .returned (.int .i64 0) ∧ w' = W) := fun W q => q.marks
                  have HAk := Lib.hid fun (W : World) (A2 : Option Addr) (n2 c2 : Nat) (hb : Below w.heap.size w W) (hr : Rd W (fun _ => True) A2 n2 c2 (i64s zs)) => alike_any W _ _ A2 A n2 c2 i c zs (by have := hr.len; rw [List.length_map, HZ.out] at this; omega) hr (HG.out.1.below hb)
                  clear ho hgk
                  go_wp2_with (go_at_call 30; refine HM1.out.mono ?_; rintro e w4 ⟨rfl, rfl⟩)
                  refine HB.out.mono ?_
                  rintro e w5 ⟨rfl, q5⟩
                  have Q5 := Lib.hid q5
                  clear q5
                  go_wp2_with fail
                  refine (HZ2.out _ Q5.out).mono ?_
                  rintro e w6 ⟨rfl, rfl⟩
                  go_wp2_with fail
                  refine (HAl.out _ Q5.out).mono ?_
                  rintro e w7 ⟨A2, c2, rfl, r7, q7⟩
                  have Q7 := Lib.hid q7
                  have HI := Lib.hid (HAk.out _ _ _ _ q7.below r7)
                  clear q7 r7
                  go_wp2_with fail
                  refine HI.out.mono ?_
                  rintro e w8 ⟨rfl, q, rfl⟩
                  have Q8 := Lib.hid (Q7.out.step (Turn.none_ ((Turn.refl (fun _ => False) _).drewN q) (fun _ => id)))
                  go_wp2_with (go_at_call 30; refine (HM0.out _ Q8.out).mono ?_; rintro e w9 ⟨rfl, rfl⟩)
                  go_ret
                  exact ⟨rfl, Q8.out.below⟩
                · rw [List.concat_eq_append] at hd
                  subst hd
                  obtain ⟨p, HPp⟩ : ∃ p, Hid (p = d'.length) := ⟨_, rfl⟩
                  have hpl : p ≤ 200 := by have := HPp.out; simp at hgk; omega
                  have HM2 : Hid (Calls Try.prog 30 #[.pointer (some ⟨w1.heap.size, 0, none⟩)] wr fun e w' => e = .returned (.int .i64 ((p : Int) + 2)) ∧ w' = wr) := by
                    have := ho.marks
                    rw [show ((zs :: (d' ++ [l])).length : Int) = (p : Int) + 2 by have := HPp.out; simp; omega] at this
                    exact this
                  have HB := Lib.hid (OwnK.back (d := zs :: d') (l := l) ho)
                  have HM3 : Hid (∀ W, OwnK w W w1.heap.size (zs :: d') l → Calls Try.prog 30 #[.pointer (some ⟨w1.heap.size, 0, none⟩)] W fun e w' => e = .returned (.int .i64 ((p : Int) + 1)) ∧ w' = W) := fun W q => by
                    have := q.marks
                    rw [show ((zs :: d').length : Int) = (p : Int) + 1 by have := HPp.out; simp; omega] at this
                    exact this
                  have hp1 : (1 : Int) < (p : Int) + 2 := by omega
                  have hp2 : (p : Int) + 2 - 1 = (p : Int) + 1 := by omega
                  have hgp : p < gk := by have := HPp.out; simp at hgk; omega
                  clear ho hgk
                  go_wp2_with (go_at_call 30; refine HM2.out.mono ?_; rintro e w4 ⟨rfl, rfl⟩)
                  refine HB.out.mono ?_
                  rintro e w5 ⟨rfl, q5⟩
                  have Q5 := Lib.hid q5
                  clear q5
                  go_wp2_with (first | (go_at_call 30; refine (HM3.out _ Q5.out).mono ?_; rintro e w6 ⟨rfl, rfl⟩))
                  go_roundg p
                  case measure => omega
                  case rel => exact ⟨d', l, HPp.out.symm, hpl, Q5.out⟩
end Go.Proofs.Ytgijagdnhajkhaa
