/- TableStacks: any calls of a stack answer what the document says. -/
import Derived.Test.YtgijagdnhajkhaaT21
import Derived.Deep.LoopGhost
import Derived.Deep.DeepCutAuto
import Derived.Deep.CutBlock
import Derived.IntWalk
namespace Go.Proofs.Ytgijagdnhajkhaa
open Go.RowKit

/-- how much is there behind i calls -/
def Few (d : List (List Int)) (top : List Int) (i : Nat) : Prop := (d.flatten ++ top).length ≤ i ∧ d.length ≤ i
/-- what the region that holds the two lists keeps -/
theorem keepTwo {w0 W W1 : World} {sb rb c n : Nat} {d ls : List (List Int)} {top : List Int} {A : Option Addr} (hb : Below W.heap.size W W1) (h : W.cell? ⟨rb, 0, none⟩ = some (.slice A n c) ∧ rb < W.heap.size ∧ TwoK w0 W sb d top rb A c ls) :
    W1.cell? ⟨rb, 0, none⟩ = some (.slice A n c) ∧ rb < W1.heap.size ∧ TwoK w0 W1 sb d top rb A c ls :=
  ⟨(hb.cell (p := ⟨rb, 0, none⟩) h.2.1).trans h.1, Nat.lt_of_lt_of_le h.2.1 hb.size, h.2.2.step hb⟩
theorem ArgP.get {w : World} {A : Option Addr} {n c i : Nat} {ps : List (Int × Int)} (h : ArgP w A n c ps) (hi : i < n) :
    ∃ b off x y, A = some ⟨b, off, none⟩ ∧ ∀ W, Below w.heap.size w W → b < W.heap.size ∧ W.cell? ⟨b, off + i * 2, none⟩ = some (.int .i64 x) ∧ W.cell? ⟨b, off + i * 2 + 1, none⟩ = some (.int .i64 y) := by
  obtain ⟨b, off, e, hlt, hc⟩ := h.at_ (by omega)
  have hl := h.len
  have hg : ps[i]? = some (ps[i]'(by omega)) := List.getElem?_eq_getElem (by omega)
  obtain ⟨h1, h2⟩ := hc i _ hg
  exact ⟨b, off, ps[i].1, ps[i].2, e, fun W hb => ⟨Nat.lt_of_lt_of_le hlt hb.size, (hb.cell (p := ⟨b, off + i * 2, none⟩) hlt).trans h1, (hb.cell (p := ⟨b, off + i * 2 + 1, none⟩) hlt).trans h2⟩⟩
/-- behind i calls -/
def After (w W : World) (sb rb i : Nat) : Prop := ∃ (d : List (List Int)) (top : List Int) (A : Option Addr) (c : Nat), Few d top i ∧ TwoK w W sb d top rb A c (d ++ [top])
/-- the contracts of the end of a round -/
theorem ends {w0 : World} {sb rb c j : Nat} {d : List (List Int)} {top : List Int} {A : Option Addr} (hf : Few d top j) (hj : j ≤ 1000) :
    ∃ (q p : Nat) (zs : List Int), q ≤ 1000 ∧ p ≤ 1000 ∧ Hid (q = zs.length) ∧ Hid ((d ++ [top]).length = p + 1) ∧
      Hid (∀ W, TwoK w0 W sb d top rb A c (d ++ [top]) → Calls Try.prog 28 #[.pointer (some ⟨sb, 0, none⟩)] W fun e w' => ∃ B b, e = .returned (.slice B q b) ∧ Rd w' (fun _ => True) B q b (i64s zs) ∧ Below W.heap.size W w') ∧
      Hid (∀ W, TwoK w0 W sb d top rb A c (d ++ [top]) → Calls Try.prog 29 #[.agg #[.slice A (p + 1) c]] W fun e w' => ∃ B b, e = .returned (.slice B q b) ∧ Rd w' (fun _ => True) B q b (i64s zs) ∧ Below W.heap.size W w') ∧
      Hid (∀ W B1 b1 B2 b2, Rd W (fun _ => True) B1 q b1 (i64s zs) → Rd W (fun _ => True) B2 q b2 (i64s zs) → Calls Try.prog 27 #[.slice B1 q b1, .slice B2 q b2] W fun e w' => e = .returned (.bool true) ∧ ∃ n, w' = W.drewN n) ∧
      Hid (∀ W, TwoK w0 W sb d top rb A c (d ++ [top]) → Calls Try.prog 30 #[.pointer (some ⟨sb, 0, none⟩)] W fun e w' => e = .returned (.int .i64 (p : Nat)) ∧ w' = W) := by
  have e1 : (d ++ [top]).length = d.length + 1 := by simp
  have e2 : (d ++ [top]).flatten = d.flatten ++ top := by simp
  have h1 := hf.1
  have h2 := hf.2
  refine ⟨(d.flatten ++ top).length, d.length, d.flatten ++ top, by omega, by omega, rfl, e1, fun W h => h.all, fun W h => ?_, fun W B1 b1 B2 b2 r1 r2 => alike_any W _ _ B1 B2 _ b1 _ b2 _ (by omega) r1 r2, fun W h => h.own.marks⟩
  have := h.allR (by omega) (by rw [e2]; omega)
  rw [e1, e2] at this
  exact this

set_option maxRecDepth 100000 in
set_option maxHeartbeats 25600000 in
theorem tableStacks_walk (B : Option Addr) (m e : Nat) (ps : List (Int × Int)) (w : World) (k : ArgP w B m e ps) :
    Calls Try.prog 4 #[.slice B m e] w fun e w' => e = .returned (.bool true) ∧ Below w.heap.size w w' := by
  have HA := Lib.hid (awake3 w)
  have HP := Lib.hid k
  clear k
  by_cases hm : 200 < m
  · have hm' : (200 : Int) < (m : Int) := by omega
    go_enter Try.func4, Try.ntmps4
    go_wp2_with (go_at_call 9; refine HA.out.mono ?_; rintro e w1 ⟨rfl, b1⟩)
    go_ret
    exact ⟨rfl, b1⟩
  · have hm' : ¬ (200 : Int) < (m : Int) := by omega
    have hdm : decide (200 < m) = false := decide_eq_false hm
    have HNw := Lib.hid fun (W : World) => new_ref W (fun _ => False)
    go_enter Try.func4, Try.ntmps4
    go_wp2_with (go_at_call 9; refine HA.out.mono ?_; rintro e w1 ⟨rfl, b1⟩; have HB1 := Lib.hid b1; clear b1)
    refine (HNw.out _).mono ?_
    rintro e w2 ⟨v, rfl, q2⟩
    obtain ⟨A0, c0, rfl, q3⟩ := TwoK.new HB1.out q2
    have HT := Lib.hid q3
    clear q2 q3
    go_wp2_with fail
    go_loopg [6] m (fun gk jv wr => ∃ j : Nat, j + gk = m ∧ jv = .int .i64 (j : Nat) ∧ After w wr w1.heap.size w2.heap.size j)
    case atStart => exact ⟨0, by omega, rfl, [], [], A0, c0, ⟨Nat.le_refl _, Nat.le_refl _⟩, HT.out⟩
    case round =>
      obtain ⟨j, hj, rfl, d, top, A, c, hf, ho⟩ := hrel
      by_cases hlj : j < m
      · obtain ⟨b, off, kd, x, rfl, hcell⟩ := HP.out.get hlj
        have HC := Lib.hid hcell
        obtain ⟨z0, z1, z2⟩ := hcell _ ho.own.below
        have hf1 := hf.1
        have hf2 := hf.2
        have htl : top.length ≤ 200 := by rw [List.length_append] at hf1; omega
        have HFw := Lib.hid hf
        have HO := Lib.hid ho
        obtain ⟨p0, hp0⟩ : ∃ p0, Hid ((d ++ [top]).length = p0 + 1) := ⟨d.length, (by show (d ++ [top]).length = d.length + 1; simp)⟩
        obtain ⟨r0, r1, r2⟩ := ho.room
        rw [hp0.out] at r1
        have hji : (j : Int) < (m : Int) := by omega
        have hj0 : (0 : Int) ≤ (j : Int) := by omega
        have hsz : (d.flatten ++ top).length < 1000000 := by omega
        have hdl : d.length ≤ 200 := by omega
        clear ho hf hcell
        go_upto_block 2 with fail
        go_cut [7, 8, 9, 10, 11, 12, 13, 14] (fun _ _ _ _ _ _ _ _ W => After w W w1.heap.size w2.heap.size (j + 1))
        case first =>
          by_cases hk0 : kd = 0
          · subst hk0
            have C1 := Lib.hid (HO.out.push x hsz)
            have C2 := Lib.hid fun (W : World) (q : TwoK w W w1.heap.size d (top ++ [x]) w2.heap.size A c (d ++ [top])) => q.pushR x (by omega) (by omega)
            have hf3 : Few d (top ++ [x]) (j + 1) := ⟨by rw [← List.append_assoc, List.length_append, List.length_singleton]; omega, by omega⟩
            have hp3 : Hid ((d ++ [top ++ [x]]).length = p0 + 1) := (by show (d ++ [top ++ [x]]).length = p0 + 1; rw [← hp0.out]; simp)
            rw [hp0.out, hp3.out] at C2
            have HF3 := Lib.hid hf3
            clear hf1 hf2 hf3 htl hsz hdl
            go_wp2_with fail
            refine C1.out.mono ?_
            rintro e w3 ⟨rfl, q3⟩
            have Q3 := Lib.hid (q3.step (Below.refl _ _).drew)
            obtain ⟨s0, s1, s2⟩ := q3.room
            rw [hp0.out] at s1
            obtain ⟨y0, y1, y2⟩ := HC.out _ q3.own.below
            clear q3 z0 z1 z2 r0 r1 r2
            go_wp2_with fail
            go_region_with (go_at_call 20; refine (C2.out _ Q3.out).mono ?_; rintro e w4 ⟨A4, c4, rfl, q4⟩; obtain ⟨t0, t1, t2⟩ := q4.room; have Q4 := Lib.hid q4.put; clear q4)
            all_goals
              rw [hp3.out] at Q4
              go_wp2_with fail
              go_meet
              exact ⟨d, (top ++ [x]), _, _, HF3.out, Q4.out⟩
          · have e0 : (kd == 0) = false := by simp [hk0]
            by_cases hk1 : kd = 1
            · subst hk1
              rcases List.eq_nil_or_concat top with htop | ⟨t, y, htop⟩
              · subst htop
                have C1 := Lib.hid (TwoK.pop0 HO.out)
                have C2 := Lib.hid fun (W : World) (q : TwoK w W w1.heap.size d [] w2.heap.size A c (d ++ [[]])) => q.popR0 (by omega)
                rw [hp0.out] at C2
                have HF3 : Hid (Few d [] (j + 1)) := ⟨by omega, by omega⟩
                clear hf1 hf2 htl hsz hdl
                have hp3 := hp0
                go_wp2_with fail
                refine C1.out.mono ?_
                rintro e w3 ⟨rfl, q3⟩
                have Q3 := Lib.hid q3
                obtain ⟨s0, s1, s2⟩ := q3.room
                rw [hp0.out] at s1
                clear q3 z0 z1 z2 r0 r1 r2
                go_wp2_with fail
                refine (C2.out _ Q3.out).mono ?_
                rintro e w4 ⟨A4, c4, rfl, q4⟩
                obtain ⟨t0, t1, t2⟩ := q4.room
                have q5 := q4.put
                rw [hp3.out] at q5
                have Q4 := Lib.hid (q5.step ((Below.refl _ _).alloc (Nat.le_refl _) (.cells #[.slice A4 (p0 + 1) c4] 49)))
                rw [hp0.out] at t1
                clear q4 q5
                go_wp2_with fail
                go_meet
                exact ⟨d, [], _, _, HF3.out, Q4.out⟩
              · rw [List.concat_eq_append] at htop
                subst htop
                have C1 := Lib.hid (TwoK.pop HO.out)
                have C2 := Lib.hid fun (W : World) (q : TwoK w W w1.heap.size d t w2.heap.size A c (d ++ [t ++ [y]])) => q.popR (by omega) (by have := htl; rw [List.length_append] at this; omega)
                have hp3 : Hid ((d ++ [t]).length = p0 + 1) := (by show (d ++ [t]).length = p0 + 1; rw [← hp0.out]; simp)
                rw [hp0.out, hp3.out] at C2
                have HF3 : Hid (Few d t (j + 1)) := ⟨by rw [← List.append_assoc, List.length_append] at hf1; omega, by omega⟩
                clear hf1 hf2 htl hsz hdl
                go_wp2_with fail
                refine C1.out.mono ?_
                rintro e w3 ⟨rfl, q3⟩
                have Q3 := Lib.hid q3
                obtain ⟨s0, s1, s2⟩ := q3.room
                rw [hp0.out] at s1
                clear q3 z0 z1 z2 r0 r1 r2
                go_wp2_with fail
                refine (C2.out _ Q3.out).mono ?_
                rintro e w4 ⟨A4, c4, rfl, q4⟩
                obtain ⟨t0, t1, t2⟩ := q4.room
                have q5 := q4.put
                rw [hp3.out] at q5
                have Q4 := Lib.hid (q5.step ((Below.refl _ _).alloc (Nat.le_refl _) (.cells #[.slice A4 (p0 + 1) c4] 49)))
                rw [hp0.out] at t1
                clear q4 q5
                go_wp2_with fail
                go_meet
                exact ⟨d, t, _, _, HF3.out, Q4.out⟩
            · have e1 : (kd == 1) = false := by simp [hk1]
              by_cases hk2 : kd = 2
              · subst hk2
                have C1 := Lib.hid (HO.out.mark (by omega))
                have C2 := Lib.hid fun (W : World) (q : TwoK w W w1.heap.size (d ++ [top]) [] w2.heap.size A c (d ++ [top])) => q.markR (by rw [List.length_append, List.length_singleton]; omega)
                have hp3 : Hid ((d ++ [top] ++ [[]]).length = p0 + 2) := (by show (d ++ [top] ++ [[]]).length = p0 + 2; have := hp0.out; rw [List.length_append, this]; rfl)
                rw [hp0.out, hp3.out] at C2
                have HF3 : Hid (Few (d ++ [top]) [] (j + 1)) := ⟨by have : (d ++ [top]).flatten ++ [] = d.flatten ++ top := by simp
                                                                    rw [this]; omega, by rw [List.length_append, List.length_singleton]; omega⟩
                clear hf1 hf2 htl hsz hdl
                go_wp2_with fail
                refine C1.out.mono ?_
                rintro e w3 ⟨rfl, q3⟩
                have Q3 := Lib.hid q3
                obtain ⟨s0, s1, s2⟩ := q3.room
                rw [hp0.out] at s1
                clear q3 z0 z1 z2 r0 r1 r2
                go_wp2_with fail
                refine (C2.out _ Q3.out).mono ?_
                rintro e w4 ⟨A4, c4, rfl, q4⟩
                obtain ⟨t0, t1, t2⟩ := q4.room
                have Q4 := Lib.hid q4.put
                rw [hp3.out] at Q4
                clear q4
                go_wp2_with fail
                go_meet
                exact ⟨(d ++ [top]), [], _, _, HF3.out, Q4.out⟩
              · have e2 : (kd == 2) = false := by simp [hk2]
                by_cases hk3 : kd = 3
                · subst hk3
                  rcases List.eq_nil_or_concat d with hd | ⟨d', l, hd⟩
                  · subst hd
                    obtain rfl : p0 = 0 := by have := hp0.out; simpa using this.symm
                    have C1 := Lib.hid HO.out.own.back0
                    have C2 : Hid (∀ W, TwoK w W w1.heap.size [] top w2.heap.size A c ([] ++ [top]) → Calls Try.prog 26 #[.agg #[.slice A 1 c]] W fun e w' => ∃ A' c', e = .returned (.tuple #[.agg #[.slice A' 1 c'], .bool false]) ∧ Pend w w' w1.heap.size [] top w2.heap.size A c [top] A' c' [top]) := fun W q => q.backR0
                    have HF3 : Hid (Few [] top (j + 1)) := ⟨by omega, by omega⟩
                    clear hf1 hf2 htl hsz hdl
                    go_wp2_with fail
                    refine C1.out.mono ?_
                    rintro e w3 ⟨rfl, rfl⟩
                    go_wp2_with fail
                    refine (C2.out _ HO.out).mono ?_
                    rintro e w4 ⟨A4, c4, rfl, q4⟩
                    have hp3 : Hid ([top].length = 1) := rfl
                    have hp0 : Hid ([top].length = 1) := rfl
                    obtain ⟨t0, t1, t2⟩ := q4.room
                    have q5 := q4.put
                    rw [hp3.out] at q5
                    have Q4 := Lib.hid (q5.step ((Below.refl _ _).alloc (Nat.le_refl _) (.cells #[.slice A4 (1) c4] 49)))
                    rw [hp0.out] at t1
                    clear q4 q5
                    go_wp2_with fail
                    go_meet
                    exact ⟨[], top, _, _, HF3.out, Q4.out⟩
                  · rw [List.concat_eq_append] at hd
                    subst hd
                    obtain ⟨p1, rfl⟩ : ∃ p1, p0 = p1 + 1 := ⟨d'.length, by have := hp0.out; simp at this; omega⟩
                    have C1 := Lib.hid (TwoK.back HO.out)
                    have C2 := Lib.hid fun (W : World) (q : TwoK w W w1.heap.size d' l w2.heap.size A c (d' ++ [l] ++ [top])) => q.backR (by rw [List.length_append] at hdl; omega)
                    have hp3 : Hid ((d' ++ [l]).length = p1 + 1) := (by show (d' ++ [l]).length = p1 + 1; have := hp0.out; rw [List.length_append] at this; exact Nat.add_right_cancel this)
                    rw [hp0.out, hp3.out] at C2
                    have HF3 : Hid (Few d' l (j + 1)) := ⟨by rw [List.flatten_append, List.flatten_cons, List.flatten_nil, List.append_nil, List.length_append] at hf1; omega, by rw [List.length_append] at hf2; omega⟩
                    clear hf1 hf2 htl hsz hdl
                    go_wp2_with fail
                    refine C1.out.mono ?_
                    rintro e w3 ⟨rfl, q3⟩
                    have Q3 := Lib.hid q3
                    obtain ⟨s0, s1, s2⟩ := q3.room
                    rw [hp0.out] at s1
                    clear q3 z0 z1 z2 r0 r1 r2
                    go_wp2_with fail
                    refine (C2.out _ Q3.out).mono ?_
                    rintro e w4 ⟨A4, c4, rfl, q4⟩
                    obtain ⟨t0, t1, t2⟩ := q4.room
                    have q5 := q4.put
                    rw [hp3.out] at q5
                    have Q4 := Lib.hid (q5.step ((Below.refl _ _).alloc (Nat.le_refl _) (.cells #[.slice A4 (p1 + 1) c4] 49)))
                    rw [hp0.out] at t1
                    clear q4 q5
                    go_wp2_with fail
                    go_meet
                    exact ⟨d', l, _, _, HF3.out, Q4.out⟩
                · have e3 : (kd == 3) = false := by simp [hk3]
                  have HF3 : Hid (Few d top (j + 1)) := ⟨by omega, by omega⟩
                  clear hf1 hf2 htl hsz hdl
                  go_wp2_with fail
                  go_meet
                  exact ⟨d, top, _, _, HF3.out, HO.out⟩
        case rest =>
          obtain ⟨d', top', A', c', hf, ho⟩ := hcut
          obtain ⟨q, p, zs, hq, hp, HQ, HPp, KA, KR, KI, KM⟩ := ends (w0 := w) (sb := w1.heap.size) (rb := w2.heap.size) (c := c') (A := A') hf (by omega)
          have HFw' := Lib.hid hf
          have HO' := Lib.hid ho
          obtain ⟨g0, g1, g2⟩ := ho.room
          rw [HPp.out] at g1
          have HS : Hid (wc.drew.cell? ⟨w2.heap.size, 0, none⟩ = some (.slice A' (p + 1) c') ∧ w2.heap.size < wc.drew.heap.size ∧ TwoK w wc.drew w1.heap.size d' top' w2.heap.size A' c' (d' ++ [top'])) := ⟨g1, g0, ho.step (Below.refl _ _).drew⟩
          clear ho hf HO HFw z0 z1 z2 r0 r1 r2 hsz hdl htl hf1 hf2
          go_wp2_with fail
          have KA2 := Lib.hid fun (W : World) (q : W.cell? ⟨w2.heap.size, 0, none⟩ = some (.slice A' (p + 1) c') ∧ w2.heap.size < W.heap.size ∧ TwoK w W w1.heap.size d' top' w2.heap.size A' c' (d' ++ [top'])) => KA.out W q.2.2
          have KR2 := Lib.hid fun (W : World) (q : W.cell? ⟨w2.heap.size, 0, none⟩ = some (.slice A' (p + 1) c') ∧ w2.heap.size < W.heap.size ∧ TwoK w W w1.heap.size d' top' w2.heap.size A' c' (d' ++ [top'])) => KR.out W q.2.2
          go_cut [15] (fun s W => s = .bool true ∧ TwoK w W w1.heap.size d' top' w2.heap.size A' c' (d' ++ [top']))
          case first =>
            go_region_held3 (fun W' => W'.cell? ⟨w2.heap.size, 0, none⟩ = some (.slice A' (p + 1) c') ∧ w2.heap.size < W'.heap.size ∧ TwoK w W' w1.heap.size d' top' w2.heap.size A' c' (d' ++ [top']))
              (first | (with_reducible exact HS.out) | exact keepTwo b5 (by assumption) | exact keepTwo b6 (by assumption) | exact keepTwo (Turn.none_ ((Turn.refl (fun _ => False) _).drewN _) (fun _ => id)) (by assumption))
              (first | (go_at_call 28; (with_reducible refine (KA2.out _ ?_).mono ?_); assumption; rintro e w5 ⟨B5, e5, rfl, r5, b5⟩) | (go_at_call 29; (with_reducible refine (KR2.out _ ?_).mono ?_); assumption; rintro e w6 ⟨B6, e6, rfl, r6, b6⟩) | (go_at_call 27; (with_reducible refine (KI.out _ _ _ _ _ (r5.below b6) r6).mono ?_); rintro e w7 ⟨rfl, nq, rfl⟩) | (go_at_call 27; (with_reducible refine (KI.out _ _ _ _ _ r5 (r6.below b5)).mono ?_); rintro e w7 ⟨rfl, nq, rfl⟩))
            all_goals
              rename_i hh
              go_wp2_with fail
              go_meet
              exact ⟨rfl, hh.2.2⟩
          case rest =>
            obtain ⟨rfl, ho⟩ := hcut
            rename_i wd
            obtain ⟨h0, h1, h2⟩ := ho.room
            rw [HPp.out] at h1
            have HO3 := Lib.hid ho
            have HSt := Lib.hid fun (n : Nat) => ho.step (Turn.none_ ((Turn.refl (fun _ => False) _).drewN n) (fun _ => id))
            have hwp : IntKind.i64.wrap (p : Int) = p := IntWalk.i64_in _ (by omega)
            clear ho HS KA KR KI KA2 KR2 g0 g1 g2
            go_wp2_with fail
            go_quiet ((go_at_call 30; exact Calls.quiet_of_same (KM.out _ (HSt.out _))))
            clear hwp
            go_wp2_with fail
            go_roundg (gk - 1)
            case measure => omega
            case rel => exact ⟨j + 1, by omega, by go_num, d', top', A', c', HFw'.out, HSt.out _⟩
      · have hjm : j = m := by omega
        subst hjm
        have HB := Lib.hid ho.own.below
        clear ho hf
        go_wp2_with fail
        go_ret
        exact ⟨rfl, HB.out⟩
end Go.Proofs.Ytgijagdnhajkhaa
