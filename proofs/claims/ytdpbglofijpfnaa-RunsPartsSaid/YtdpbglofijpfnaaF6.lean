/- The reference of runs: Substr, Concat. -/
import Derived.Test.YtdpbglofijpfnaaF5
namespace Go.Proofs.Ytdpbglofijpfnaa
open Go.RowKit

theorem Tx.sub_step {L : List Int} {k : Nat} {x : Int} (hx : L[k]? = some x) (i n : Int) :
    Tx.sub (L.take (k + 1)) i n = if 0 ≤ i ∧ i ≤ (k : Int) ∧ (k : Int) - i < n then Tx.sub (L.take k) i n ++ [x] else Tx.sub (L.take k) i n := by
  have hk := (List.getElem?_eq_some_iff.1 hx).1
  have hl : (L.take k).length = k := by rw [List.length_take]; omega
  by_cases h : 0 ≤ i ∧ 0 < n
  · obtain ⟨a, rfl⟩ : ∃ a : Nat, i = (a : Int) := ⟨i.toNat, by omega⟩
    obtain ⟨b, rfl⟩ : ∃ b : Nat, n = (b : Int) := ⟨n.toNat, by omega⟩
    rw [Tx.sub_nat, Tx.sub_nat, take_one hx, List.drop_append, hl]
    by_cases ha : a ≤ k
    · rw [show a - k = 0 by omega, List.drop_zero, List.take_append, List.length_drop, hl]
      by_cases hb : k - a < b
      · rw [if_pos ⟨by omega, by omega, by omega⟩, List.take_of_length_le (l := List.drop a (L.take k)) (by rw [List.length_drop, hl]; omega), List.take_of_length_le (l := [x]) (by simp; omega)]
      · rw [if_neg (by omega), show b - (k - a) = 0 by omega, List.take_zero, List.append_nil]
    · rw [if_neg (by omega), List.drop_of_length_le (l := [x]) (by simp; omega), List.append_nil]
  · have e : ∀ l : List Int, Tx.sub l i n = [] := fun l => by unfold Tx.sub; rw [if_neg h]
    rw [e, e, if_neg (by omega)]
theorem Tx.sub_none (i n : Int) : Tx.sub [] i n = [] := by unfold Tx.sub; split <;> simp
/-- a piece of a text -/
noncomputable def Tx.subR (R : List (Int × Int)) (i n : Int) : List (Int × Int) := if Tx.mayB R = true then Lt.runs (Tx.sub (Lt.expand R) i n) else []
set_option maxRecDepth 100000 in
set_option maxHeartbeats 1600000 in
theorem rsubstr8 (w : World) (A : Option Addr) (n c : Nat) (s : List (Int × Int)) (i k : Int) (h : Sml w A n s) :
    Calls Try.prog 14 #[.slice A n c, .int .i64 i, .int .i64 k] w fun e w' => RSaid w (Tx.subR s i k) e w' := by
  have H1 := Lib.hid (rmay8 w A n c s h.runs)
  by_cases hs : Tx.May s
  case neg =>
    rw [Tx.mayB_false hs] at H1
    have hX : Tx.subR s i k = [] := by unfold Tx.subR; rw [if_neg (by rw [Tx.mayB_false hs]; decide)]
    rw [hX]
    clear h hs hX
    go_enter Try.func14, Try.ntmps14
    go_wp2_with (go_at_call 17; refine H1.out.mono ?_; rintro e w1 ⟨rfl, b1⟩)
    go_ret
    exact ⟨⟨none, 0, rfl, OwnR.nil _ _⟩, b1⟩
  case pos =>
    rw [Tx.mayB_true hs] at H1
    have hX : Tx.subR s i k = Lt.runs (Tx.sub (Lt.expand s) i k) := by unfold Tx.subR; rw [if_pos (Tx.mayB_true hs)]
    rw [hX]
    have H3 := Lib.hid (h.pts hs c)
    have hls := h.len hs
    have hpts := hs.own.pts
    generalize Lt.expand s = K at H3 hls hpts hX ⊢
    obtain ⟨kl, hK⟩ : ∃ n, K.length = n := ⟨_, rfl⟩
    have HLs := Lib.hid hK
    unfold NSaid at H3
    rw [hK] at H3 hls
    obtain ⟨Z, hZ⟩ : ∃ Z, Tx.sub K i k = Z := ⟨_, rfl⟩
    rw [hZ]
    have HZ := Lib.hid hZ
    have hZp : ∀ z ∈ Z, Lt.pt z = true := by rw [← hZ]; exact Tx.sub_pts hpts
    have hZl : Z.length ≤ kl := by rw [← hZ, ← hK]; exact Tx.sub_len _ _ _
    have H4 := Lib.hid fun W A' c' (h1 : NumS W A' Z.length Z) => rtext8 W A' Z.length c' Z h1 hZp (by omega)
    unfold RSaid at H4
    obtain ⟨Post, hPost⟩ : ∃ Post : Ending → World → Prop, Post = fun e w' => RSaid w (Lt.runs Z) e w' := ⟨_, rfl⟩
    rw [← hPost]
    have HPo := Lib.hid hPost
    have HSt := Lib.hid fun (q : Nat) (x : Int) (hx : K[q]? = some x) => Tx.sub_step hx i k
    clear h hs hX hPost hZp hpts hZ
    go_enter Try.func14, Try.ntmps14
    go_wp2_with fail
    refine H1.out.mono ?_
    rintro e w1 ⟨rfl, b1⟩
    have B1 := Lib.hid b1
    clear b1 H1
    go_wp2_with fail
    refine (H3.out _ B1.out).mono ?_
    rintro e w2 ⟨⟨A3, c3, rfl, o3⟩, b3⟩
    have B2 := Lib.hid (B1.out.trans (b3.mono B1.out.size))
    have O3 := Lib.hid (o3.nums HLs.out)
    clear b3 o3 H3
    go_wp2
    go_loopw [9, 10] (fun ov qv wr => ∃ (q m : Nat) (A' : Option Addr) (c' : Nat) (l : List Int), q ≤ kl ∧ m ≤ q ∧ qv = .int .i64 (q : Nat) ∧ ov = .slice A' m c' ∧ Hid (Below w2.heap.size w2 wr ∧ OwnN wr w2.heap.size A' c' l ∧ l.length = m ∧ l = Tx.sub (K.take q) i k)) (fun _ qv _ => kl - (intOf qv).toNat)
    case atStart => exact ⟨0, 0, none, 0, [], Nat.zero_le _, Nat.le_refl _, rfl, rfl, Below.refl _ _, OwnN.nil _ _, rfl, by rw [List.take_zero, Tx.sub_none]⟩
    case round =>
      obtain ⟨q, m, A', c', l, hq, hmq, rfl, rfl, HI⟩ := hrel
      obtain ⟨hI0, hI1, hI2, hI3⟩ := HI.out
      have HB := Lib.hid hI0
      have HO := Lib.hid hI1
      have HM := Lib.hid hI2
      by_cases hlt : q < kl
      · obtain ⟨b, off, x, rfl, hx, _, _, hc⟩ := O3.out.get hlt
        obtain ⟨q1, q2⟩ := hc wr hI0
        have hst := HSt.out q x hx
        rw [← hI3] at hst
        have hlt' : (q : Int) < (kl : Int) := by omega
        have h0 : (0 : Int) ≤ (q : Int) := by omega
        have hbw := hI0.size
        by_cases hcond : 0 ≤ i ∧ i ≤ (q : Int) ∧ (q : Int) - i < k
        · rw [if_pos hcond] at hst
          have HN := Lib.hid hst
          obtain ⟨g1, g2, g3⟩ := hcond
          have hw1 : IntKind.i64.wrap ((q : Int) - i) = (q : Int) - i := IntWalk.i64_in _ (by omega)
          clear hI0 hI1 hI2 hI3 HI hx hc hst HSt
          go_wp2_with (at_builtin; refine appendN _ rfl (.tmp 37) (.tmp 42) rfl w2.heap.size A' c' l m HM.out x rfl HO.out rfl (by omega) hbw ?_; intro A5 c5 w5 o5 g5; have O5 := Lib.hid o5; have B5 := Lib.hid (HB.out.grown g5 HB.out.size (fun q hq => (HO.out.lt HM.out hq).1)); clear o5 g5)
          go_roundw
          case rel => exact ⟨q + 1, m + 1, A5, c5, l ++ [x], by omega, by omega, by go_num, rfl, B5.out, O5.out, by rw [List.length_append, HM.out]; rfl, HN.out.symm⟩
          case measure => simp [intOf]; omega
        · rw [if_neg hcond] at hst
          have HN := Lib.hid hst
          have hways : i < 0 ∨ 0 ≤ i ∧ (q : Int) < i ∨ 0 ≤ i ∧ i ≤ (q : Int) ∧ k ≤ (q : Int) - i := by omega
          clear hI0 hI1 hI2 hI3 HI hx hc hst HSt hcond
          rcases hways with g1 | ⟨g1, g2⟩ | ⟨g1, g2, g3⟩
          all_goals
            try have hw1 : IntKind.i64.wrap ((q : Int) - i) = (q : Int) - i := IntWalk.i64_in _ (by omega)
            go_wp2
            go_roundw
            case rel => exact ⟨q + 1, m, A', c', l, by omega, by omega, by go_num, rfl, HB.out, HO.out, HM.out, HN.out.symm⟩
            case measure => simp [intOf]; omega
      · obtain rfl : q = kl := by omega
        rw [List.take_of_length_le (by rw [HLs.out]; exact Nat.le_refl _), HZ.out] at hI3
        subst hI3
        have H5 := Lib.hid (H4.out _ A' c' (hI1.nums rfl))
        have B4 := Lib.hid (B2.out.trans (hI0.mono B2.out.size))
        rw [hI2] at H5
        clear hI0 hI1 HI H4 HSt HZ hlt hI2 hZl
        go_wp2_with fail
        refine H5.out.mono ?_
        rintro e w5 ⟨⟨A5, c5, rfl, o5⟩, b5⟩
        have HE : Hid (RSaid w (Lt.runs l) (.returned (.slice A5 (Lt.runs l).length c5)) w5) := ⟨⟨A5, c5, rfl, by
          refine ⟨o5.1, ?_⟩
          rcases o5.2 with q | ⟨g, cap, cur, q1, q2, q3⟩
          · exact .inl q
          · exact .inr ⟨g, cap, cur, q1, Nat.le_trans B4.out.size q2, q3⟩⟩, B4.out.trans (b5.mono B4.out.size)⟩
        clear o5 b5 H5
        go_wp2
        rw [HPo.out]
        exact HE.out
end Go.Proofs.Ytdpbglofijpfnaa
