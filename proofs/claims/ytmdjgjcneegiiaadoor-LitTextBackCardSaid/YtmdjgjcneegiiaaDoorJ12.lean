/- The laws LitTextBack, LitJoins. -/
import Derived.Test.YtmdjgjcneegiiaaDoorJ11
namespace Go.Proofs.YtmdjgjcneegiiaaDoor
open Go.RowKit

set_option maxRecDepth 100000 in
set_option maxHeartbeats 400000 in
theorem litTextBack_walk (w : World) (A : Option Addr) (n c : Nat) (l : List Int) (h : ArgI w A n c l) (hG : Gl w) :
    Calls Tryd.prog 7 #[.slice A n c] w fun e w' => e = .returned (.bool true) ∧ Below w.heap.size w w' := by
  have HA := Lib.hid (kawake7 w hG)
  have HGl := Lib.hid hG
  clear hG
  have hS := NumS.of_arg h
  have hw := h.2
  clear h
  by_cases hl : 2000 < n
  · have hl' : (2000 : Int) < (n : Int) := by omega
    clear hl hS hw
    go_enter Tryd.func7, Tryd.ntmps7
    go_wp2_with (go_at_call 10; refine HA.out.mono ?_; rintro e w1 ⟨rfl, b1⟩)
    go_ret
    exact ⟨rfl, b1⟩
  have hl' : ¬ (2000 : Int) < (n : Int) := by omega
  have h1 := fun W (hW : Below w.heap.size w W) => kruns7 W A n c l (hS.below hW) (by omega)
  have HS := Lib.hid hS
  cases hp : l.all Lt.pt with
  | false =>
    have H1 : Hid (∀ W, Below w.heap.size w W → Calls Tryd.prog 16 #[.slice A n c] W fun e w' => (∃ A c, e = .returned (.tuple #[.slice A 0 c, .int .i64 1])) ∧ Below W.heap.size W w') := fun W hW =>
      (h1 W hW).mono fun e w' ⟨⟨A', c', k1, _⟩, k2⟩ => ⟨⟨A', c', by rw [k1, Lt.runsOf_bad hp]; rfl⟩, k2⟩
    clear hl hS hw h1 hp HS
    go_enter Tryd.func7, Tryd.ntmps7
    go_wp2_with fail
    refine HA.out.mono ?_
    rintro e w1 ⟨rfl, b1⟩
    have B1 := Lib.hid b1
    clear b1
    go_wp2_with (go_at_call 16; refine (H1.out _ B1.out).mono ?_; rintro e w2 ⟨⟨A2, c2, rfl⟩, b2⟩)
    go_ret
    exact ⟨rfl, B1.out.trans (b2.mono B1.out.size)⟩
  | true =>
    have hall := List.all_eq_true.1 hp
    have hr := Lt.runs_of l
    obtain ⟨back1, back2⟩ := Lt.runs_back hall
    rw [hS.len] at back1 back2
    generalize hR : Lt.runs l = R at hr back1 back2
    obtain ⟨m, hm⟩ : ∃ m, R.length = m := ⟨_, rfl⟩
    have hmn : m ≤ n := by
      have := hr.len
      rw [hm, hS.len] at this
      exact this
    have hwR : ∀ x ∈ R, (Lit.int .i64 x.1).wf = true ∧ (Lit.int .i64 x.2).wf = true := fun x hx => by
      have hx' := hr.pos x hx
      have ht := Lt.total_le hx fun y hy => (hr.pos y hy).1
      rw [hr.sum, hS.len] at ht
      exact ⟨wf_pt (hall _ hx'.2), WalkArith.wf_i64 (by omega)⟩
    have H1 : Hid (∀ W, Below w.heap.size w W → Calls Tryd.prog 16 #[.slice A n c] W fun e w' => (∃ A c, e = .returned (.tuple #[.slice A m c, .int .i64 0]) ∧ RunS w' A m R) ∧ Below W.heap.size W w') := fun W hW =>
      (h1 W hW).mono fun e w' ⟨⟨A', c', k1, k3⟩, k2⟩ => by
        rw [Lt.runsOf_ok hp, hR] at k1 k3
        exact ⟨⟨A', c', by rw [k1, ← hm], OwnR.runs k3 hm⟩, k2⟩
    have H2 : Hid (∀ W A' c', RunS W A' m R → Calls Tryd.prog 19 #[.slice A' m c', .int .i64 (n : Int)] W fun e w' => (∃ A c, e = .returned (.tuple #[.slice A n c, .int .i64 0]) ∧ NumS w' A n l) ∧ Below W.heap.size W w') := fun W A' c' hW =>
      (klist7 W A' m c' R (n : Int) hW (by omega) (by omega)).mono fun e w' ⟨⟨A3, c3, k1, k3⟩, k2⟩ => by
        rw [back1] at k1 k3
        exact ⟨⟨A3, c3, by rw [k1]; simp only; rw [hS.len], OwnN.nums k3 hS.len⟩, k2⟩
    have H3 : Hid (∀ W A' c', RunS W A' m R → Calls Tryd.prog 19 #[.slice A' m c', .int .i64 ((n : Int) - 1)] W fun e w' => (∃ A c, e = .returned (.tuple #[.slice A 0 c, .int .i64 2])) ∧ Below W.heap.size W w') := fun W A' c' hW =>
      (klist7 W A' m c' R ((n : Int) - 1) hW (by omega) (by omega)).mono fun e w' ⟨⟨A3, c3, k1, _⟩, k2⟩ => by
        rw [back2] at k1
        exact ⟨⟨A3, c3, k1⟩, k2⟩
    have HP : Hid (∀ x ∈ R, 1 ≤ x.2) := fun x hx => (hr.pos x hx).1
    have HJ := Lib.hid hr.adj
    have hn20 : n ≤ 2000 := by omega
    clear hl hS hw h1 hp hall hr back1 back2 hR hm hwR
    go_enter Tryd.func7, Tryd.ntmps7
    go_wp2_with fail
    refine HA.out.mono ?_
    rintro e w1 ⟨rfl, b1⟩
    have B1 := Lib.hid b1
    clear b1
    go_wp2_with fail
    refine (H1.out _ B1.out).mono ?_
    rintro e w2 ⟨⟨A2, c2, rfl, r2⟩, b2⟩
    have B2 := Lib.hid (B1.out.trans (b2.mono B1.out.size))
    have R2 := Lib.hid r2
    clear b2 r2 H1
    go_wp2
    go_loopw [6] (fun iv wr => ∃ i : Nat, i ≤ m ∧ iv = .int .i64 (i : Nat) ∧ Hid (Below w2.heap.size w2 wr)) (fun iv _ => m - (intOf iv).toNat)
    case atStart => exact ⟨0, Nat.zero_le _, rfl, Below.refl _ _⟩
    case round =>
      obtain ⟨i, hi, rfl, HI⟩ := hrel
      by_cases hlt : i < m
      · obtain ⟨b, off, ⟨x1, x2⟩, rfl, hx, hmem, _, hc⟩ := R2.out.get hlt
        obtain ⟨q1, q2, q3⟩ := hc wr HI.out
        have hx1 : ¬ x2 < 1 := by have := HP.out _ hmem; simp only at this; omega
        have hlt' : (i : Int) < (m : Int) := by omega
        have h0 : (0 : Int) ≤ (i : Int) := by omega
        have HBn : Hid (∀ k, Below w2.heap.size w2 (wr.drewN k)) := fun k => HI.out.trans ((Turn.none_ ((Turn.refl (fun _ => False) wr).drewN k) (fun _ => id)).mono HI.out.size)
        by_cases hi0 : i = 0
        · have hz0 : ¬ 0 < i := by omega
          clear hx hmem hc HI hi0 H2 H3 HA HS HJ HP R2 B1 B2
          go_wp2
          have hdx : decide (x2 < 1) = false := decide_eq_false (by omega)
          have hdx' : ¬ x2 < 1 := by omega
          go_quiet (fail)
          go_wp2
          go_roundw
          case rel => exact ⟨i + 1, by omega, by go_num, HBn.out _⟩
          case measure => simp [intOf]; omega
        · obtain ⟨j, hj⟩ : ∃ j, i = j + 1 := ⟨i - 1, by omega⟩
          obtain ⟨b', off', ⟨y1, y2⟩, e, hy, _, _, hc'⟩ := R2.out.get (i := j) (by omega)
          injection e with e
          injection e with e1 e2
          subst e1
          subst e2
          obtain ⟨_, q4, q5⟩ := hc' wr HI.out
          have hi1 : (i : Int) - 1 = (j : Int) := by omega
          have hi2 : 0 < i := by omega
          have hji : (j : Int) < (m : Int) := by omega
          have hj0 : (0 : Int) ≤ (j : Int) := by omega
          have hne : (x1 == y1) = false := beq_eq_false_iff_ne.2 fun e => HJ.out j (y1, y2) (x1, x2) hy (by rw [← hj]; exact hx) e.symm
          clear hx hmem hc HI hi0 hy hc' hj H2 H3 HA HS HJ HP R2 B1 B2
          go_wp2
          have hdx : decide (x2 < 1) = false := decide_eq_false (by omega)
          have hdx' : ¬ x2 < 1 := by omega
          go_quiet (fail)
          go_wp2
          go_roundw
          case rel => exact ⟨i + 1, by omega, by go_num, HBn.out _⟩
          case measure => simp [intOf]; omega
      · obtain rfl : i = m := by omega
        have B3 := Lib.hid (B2.out.trans (HI.out.mono B2.out.size))
        have R3 := Lib.hid (R2.out.below HI.out)
        clear HI R2
        go_wp2_with fail
        refine (H2.out _ _ _ R3.out).mono ?_
        rintro e w4 ⟨⟨A4, c4, rfl, o4⟩, b4⟩
        have B4 := Lib.hid (B3.out.trans (b4.mono B3.out.size))
        have R4 := Lib.hid (R3.out.below b4)
        have O4 := Lib.hid o4
        clear b4 o4 R3 H2
        go_wp2_with fail
        refine (H3.out _ _ _ R4.out).mono ?_
        rintro e w5 ⟨⟨A5, c5, rfl⟩, b5⟩
        have B5 := Lib.hid (B4.out.trans (b5.mono B4.out.size))
        have HIn := Lib.hid (rints w5 A n c l A4 n c4 l (HS.out.below B5.out) (O4.out.below b5) (by omega))
        rw [sameN_self] at HIn
        clear b5 R4 H3 O4
        go_wp2_with (go_at_call 11; refine HIn.out.mono ?_; rintro e w6 ⟨rfl, b6⟩)
        go_ret
        exact ⟨rfl, B5.out.trans (b6.mono B5.out.size)⟩

set_option maxRecDepth 100000 in
set_option maxHeartbeats 1600000 in
theorem litJoins_walk (w : World) (A : Option Addr) (n c : Nat) (l : List Int) (B : Option Addr) (m d : Nat) (k : List Int) (h : ArgI w A n c l) (h' : ArgI w B m d k) (hG : Gl w) :
    Calls Tryd.prog 8 #[.slice A n c, .slice B m d] w fun e w' => e = .returned (.bool true) ∧ Below w.heap.size w w' := by
  have HA := Lib.hid (kawake7 w hG)
  have HGl := Lib.hid hG
  clear hG
  have hS := NumS.of_arg h
  have hS' := NumS.of_arg h'
  by_cases hl : 1000 < n
  · have hl' : (1000 : Int) < (n : Int) := by omega
    clear hl hS hS' h h'
    go_enter Tryd.func8, Tryd.ntmps8
    go_wp2_with (go_at_call 10; refine HA.out.mono ?_; rintro e w1 ⟨rfl, b1⟩)
    go_ret
    exact ⟨rfl, b1⟩
  have hl' : ¬ (1000 : Int) < (n : Int) := by omega
  by_cases hl2 : 1000 < m
  · have hl2' : (1000 : Int) < (m : Int) := by omega
    clear hl hl2 hS hS' h h'
    go_enter Tryd.func8, Tryd.ntmps8
    go_wp2_with (go_at_call 10; refine HA.out.mono ?_; rintro e w1 ⟨rfl, b1⟩)
    go_ret
    exact ⟨rfl, b1⟩
  have hl2' : ¬ (1000 : Int) < (m : Int) := by omega
  have H1 := Lib.hid fun W (hW : Below w.heap.size w W) => kescape7 W A n c l (hS.below hW) (by omega) (HGl.out.below hW)
  have H2 := Lib.hid fun W (hW : Below w.heap.size w W) => kescape7 W B m d k (hS'.below hW) (by omega) (HGl.out.below hW)
  have hln := hS.len
  have hkm := hS'.len
  clear hS hS' hl hl2
  unfold EscSaid at H1 H2
  cases hp : l.all Lt.pt with
  | false =>
    rw [Lt.escOf_bad hp] at H1
    generalize Lt.escOf k = X at H2
    obtain ⟨x1, x2⟩ := X
    simp only at H2
    clear hp h h' hln hkm
    go_enter Tryd.func8, Tryd.ntmps8
    go_wp2_with fail
    refine HA.out.mono ?_
    rintro e w1 ⟨rfl, b1⟩
    have B1 := Lib.hid b1
    clear b1
    go_wp2_with fail
    refine (H1.out _ B1.out).mono ?_
    rintro e w2 ⟨rfl, b2⟩
    have B2 := Lib.hid (B1.out.trans (b2.mono B1.out.size))
    clear b2
    go_wp2_with (go_at_call 14; refine (H2.out _ B2.out).mono ?_; rintro e w3 ⟨rfl, b3⟩)
    go_ret
    exact ⟨rfl, B2.out.trans (b3.mono B2.out.size)⟩
  | true =>
    cases hq : k.all Lt.pt with
    | false =>
      rw [Lt.escOf_ok hp] at H1
      rw [Lt.escOf_bad hq] at H2
      simp only at H1
      clear hp hq h h' hln hkm
      go_enter Tryd.func8, Tryd.ntmps8
      go_wp2_with fail
      refine HA.out.mono ?_
      rintro e w1 ⟨rfl, b1⟩
      have B1 := Lib.hid b1
      clear b1
      go_wp2_with fail
      refine (H1.out _ B1.out).mono ?_
      rintro e w2 ⟨rfl, b2⟩
      have B2 := Lib.hid (B1.out.trans (b2.mono B1.out.size))
      clear b2
      go_wp2_with (go_at_call 14; refine (H2.out _ B2.out).mono ?_; rintro e w3 ⟨rfl, b3⟩)
      go_ret
      exact ⟨rfl, B2.out.trans (b3.mono B2.out.size)⟩
    | true =>
      rw [Lt.escOf_ok hp] at H1
      rw [Lt.escOf_ok hq] at H2
      simp only at H1 H2
      have hall := List.all_eq_true.1 hp
      have hall' := List.all_eq_true.1 hq
      have s1 := (Lt.escape_bytes hall).1
      have s2 := (Lt.escape_bytes hall').1
      have z1 : (⟨(Lt.escape l).toArray⟩ : ByteArray).size = (Lt.escape l).length := List.size_toArray
      have z2 : (⟨(Lt.escape k).toArray⟩ : ByteArray).size = (Lt.escape k).length := List.size_toArray
      obtain ⟨y1, y2⟩ := Lt.app_bytes ⟨(Lt.escape l).toArray⟩ ⟨(Lt.escape k).toArray⟩
      have hadd : ∀ W, (Op.stringOp .add ⟨(Lt.escape l).toArray⟩ ⟨(Lt.escape k).toArray⟩).run Tryd.prog W = .ok (.string (⟨(Lt.escape l).toArray⟩ ++ ⟨(Lt.escape k).toArray⟩)) W := fun W => run_string_add W _ _ (by omega) (by omega)
      have H3 := Lib.hid fun W (hW : Below w.heap.size w W) => kpoints7 (⟨(Lt.escape l).toArray⟩ ++ ⟨(Lt.escape k).toArray⟩) W (by omega) (HGl.out.below hW)
      have hpts : Lt.pts ((⟨(Lt.escape l).toArray⟩ : ByteArray) ++ ⟨(Lt.escape k).toArray⟩).data.toList = l ++ k := by
        rw [y1]
        show Lt.pts (Lt.escape l ++ Lt.escape k) = _
        rw [Lt.pts_escape l _ hall, Lt.back hall']
      rw [hpts] at H3
      unfold PtsSaid at H3
      generalize (⟨(Lt.escape l).toArray⟩ : ByteArray) ++ ⟨(Lt.escape k).toArray⟩ = V at H3 hadd
      generalize (⟨(Lt.escape l).toArray⟩ : ByteArray) = S at H1 hadd
      generalize (⟨(Lt.escape k).toArray⟩ : ByteArray) = T at H2 hadd
      have hlk : (l ++ k).length = n + m := by rw [List.length_append, hln, hkm]
      rw [hlk] at H3
      have HLK := Lib.hid hlk
      have HRd := Lib.hid (And.intro h.1 h'.1)
      obtain ⟨i0, hi, hz0, hz1, hz2⟩ := info_parts infoJ
      have m1 : 0 + n ≤ maxLen := by unfold maxLen; omega
      have m2 : (0 + n) * 8 ≤ 140737488355328 := by omega
      have m3 : n + m ≤ maxLen := by unfold maxLen; omega
      have m4 : (n + m) * 8 ≤ 140737488355328 := by omega
      have m5 : n + m ≤ 1000000000 := by omega
      have HMs := Lib.hid (And.intro m1 (And.intro m2 (And.intro m3 (And.intro m4 m5))))
      have HOl : Hid ((∀ u ∈ i64s l, u.oneCell' = true) ∧ ∀ u ∈ i64s k, u.oneCell' = true) := ⟨i64s_one, i64s_one⟩
      clear hp hq hall hall' s1 s2 z1 z2 y1 y2 hpts hlk h h' hln hkm m1 m2 m3 m4 m5
      go_enter Tryd.func8, Tryd.ntmps8
      go_wp2_with fail
      refine HA.out.mono ?_
      rintro e w1 ⟨rfl, b1⟩
      have B1 := Lib.hid b1
      clear b1
      go_wp2_with fail
      refine (H1.out _ B1.out).mono ?_
      rintro e w2 ⟨rfl, b2⟩
      have B2 := Lib.hid (B1.out.trans (b2.mono B1.out.size))
      clear b2 H1
      go_wp2_with fail
      refine (H2.out _ B2.out).mono ?_
      rintro e w3 ⟨rfl, b3⟩
      have B3 := Lib.hid (B2.out.trans (b3.mono B2.out.size))
      have hbs := B3.out.size
      clear b3 H2
      go_wp2_with (first
        | (at_builtin; refine append_any _ rfl (.const (.slice none 0 0)) (.tmp 41) 24 rfl w.heap.size 3 i0 (.int .i64 0) 8 Tryd.underlying24 hi hz0 hz1 hz2 rfl (.slice none 0 0) 0 [] rfl (World.ownsRow_nil _ _ _ _) _ A n c _ rfl (HRd.out.1.below B3.out) HOl.out.1 HMs.out.1 HMs.out.2.1 hbs ?_; intro A4 c4 w4 o4 g4 _; simp only [Nat.zero_add, List.nil_append] at o4 ⊢; have O4 := Lib.hid o4; have B4 := Lib.hid (B3.out.grown g4 hbs (fun q hq => by cases hq)); clear o4 g4)
        | fail)
      refine (H3.out _ B4.out).mono ?_
      rintro e w5 ⟨⟨A5, c5, rfl, o5⟩, b5⟩
      have B5 := Lib.hid (B4.out.trans (b5.mono B4.out.size))
      have O5 := Lib.hid ((Turn.of_below (F := fun _ => False) b5).own O4.out (fun _ _ => id))
      have HOut : Hid (∀ A6 c6 w6, w6.ownsRow w.heap.size 3 1 (.slice A6 (n + m) c6) (n + m) (i64s l ++ i64s k) → w5.grownBy w6 (Value.slice A4 n c4).ownBlock →
          Calls Tryd.prog 11 #[.slice A5 (n + m) c5, .slice A6 (n + m) c6] w6 fun e w' => e = .returned (.bool true) ∧ Below w.heap.size w w') := fun A6 c6 w6 o6 g6 => by
        have k1 : OwnN w6 w4.heap.size A5 c5 (l ++ k) := World.ownsRow.kept o5 g6 (by
          cases e : (Value.slice A5 (l ++ k).length c5).ownBlock with
          | none => exact .inl rfl
          | some q =>
            refine .inr fun e2 => ?_
            have h1 := (World.ownsRow.lt o5 q e).1
            have h2 := (World.ownsRow.lt O4.out q e2.symm).2
            omega)
        have k2 : OwnN w6 w.heap.size A6 c6 (l ++ k) := by
          unfold OwnN
          rw [HLK.out, i64s, List.map_append]
          exact o6
        have bel := B5.out.grown g6 B5.out.size (fun q hq => (World.ownsRow.lt O4.out q hq).1)
        have hr := rints w6 A5 (n + m) c5 (l ++ k) A6 (n + m) c6 (l ++ k) (k1.nums HLK.out) (k2.nums HLK.out) HMs.out.2.2.2.2
        rw [sameN_self] at hr
        exact hr.mono fun e w' ⟨q1, q2⟩ => ⟨q1, bel.trans (q2.mono bel.size)⟩
      have hbs5 := B5.out.size
      clear b5 o5 H3 O4
      go_wp2_with (first
        | (at_builtin; refine append_any _ rfl (.tmp 47) (.tmp 48) 24 rfl w.heap.size 3 i0 (.int .i64 0) 8 Tryd.underlying24 hi hz0 hz1 hz2 rfl (.slice A4 n c4) n (i64s l) rfl O5.out _ B m d _ rfl (HRd.out.2.below B5.out) HOl.out.2 HMs.out.2.2.1 HMs.out.2.2.2.1 hbs5 ?_; intro A6 c6 w6 o6 g6 _; have HI := Lib.hid (HOut.out A6 c6 w6 o6 g6); clear o6 g6)
        | (go_at_call 11; refine HI.out.mono ?_; rintro e w7 ⟨rfl, b7⟩))
      go_ret
      exact ⟨rfl, b7⟩
end Go.Proofs.YtmdjgjcneegiiaaDoor
