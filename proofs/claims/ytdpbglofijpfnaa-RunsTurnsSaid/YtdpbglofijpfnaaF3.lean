/- The reference of runs: Len, Small, points, text. -/
import Derived.Test.YtdpbglofijpfnaaF2
namespace Go.Proofs.Ytdpbglofijpfnaa
open Go.RowKit

noncomputable def Tx.lenI (R : List (Int × Int)) : Int := if Tx.mayB R = true then Lt.total R else 0
theorem Tx.lenI_may {R : List (Int × Int)} (h : Tx.May R) : Tx.lenI R = Lt.total R := by rw [Tx.lenI, if_pos (Tx.mayB_true h)]
theorem Tx.lenI_not {R : List (Int × Int)} (h : ¬ Tx.May R) : Tx.lenI R = 0 := by rw [Tx.lenI, if_neg (by rw [Tx.mayB_false h]; decide)]

set_option maxRecDepth 100000 in
theorem rlen8 (w : World) (A : Option Addr) (n c : Nat) (R : List (Int × Int)) (h : RunS w A n R) :
    Calls Try.prog 19 #[.slice A n c] w fun e w' => e = .returned (.int .i64 (Tx.lenI R)) ∧ Below w.heap.size w w' := by
  have HM := Lib.hid (rmay8 w A n c R h)
  have HH := Lib.hid h
  have HLen : Hid (R.length = n) := h.len
  clear h
  by_cases hm : Tx.May R
  case neg =>
    rw [Tx.lenI_not hm]
    rw [Tx.mayB_false hm] at HM
    clear hm HLen HH
    go_enter Try.func19, Try.ntmps19
    go_wp2_with (go_at_call 17; refine HM.out.mono ?_; rintro e w1 ⟨rfl, b1⟩)
    go_ret
    exact ⟨rfl, b1⟩
  case pos =>
    rw [Tx.lenI_may hm]
    rw [Tx.mayB_true hm] at HM
    obtain ⟨X, HX⟩ : ∃ X, Hid (Lt.total R = X) := ⟨_, rfl⟩
    rw [HX.out]
    have HMy := Lib.hid hm
    have hnf : n ≤ 65536 := by have := hm.few; have := HLen.out; omega
    clear hm
    go_enter Try.func19, Try.ntmps19
    go_wp2_with fail
    refine HM.out.mono ?_
    rintro e w1 ⟨rfl, b1⟩
    have B1 := Lib.hid b1
    clear b1 HM
    go_wp2
    go_loopw [4, 5] (fun sv iv wr => ∃ (i : Nat) (s : Int), i ≤ n ∧ iv = .int .i64 (i : Nat) ∧ sv = .int .i64 s ∧ 0 ≤ s ∧ s ≤ 1099511627776 ∧ wr = w1 ∧ Hid (Lt.total (R.take i) = s)) (fun _ iv _ => n - (intOf iv).toNat)
    case atStart => exact ⟨0, 0, Nat.zero_le _, rfl, rfl, Int.le_refl _, by decide, rfl, rfl⟩
    case round =>
      obtain ⟨i, s, hi, rfl, rfl, hs0, hs1, rfl, HI⟩ := hrel
      by_cases hlt : i < n
      · obtain ⟨b, off, ⟨x1, x2⟩, rfl, hx, hmem, _, hc⟩ := HH.out.get hlt
        obtain ⟨q1, q2, q3⟩ := hc _ B1.out
        have hlt' : (i : Int) < (n : Int) := by omega
        have h0 : (0 : Int) ≤ (i : Int) := by omega
        have ht := Tx.take_tot hx
        rw [HI.out] at ht
        have hp := (HMy.out.own.pos _ hmem).2
        have hpart := HMy.out.part (i + 1)
        simp only at ht hp
        have hs2 : 0 ≤ s + x2 := by omega
        have hs3 : s + x2 ≤ 1099511627776 := by omega
        have hadd : IntKind.i64.wrap (s + x2) = s + x2 := IntWalk.i64_in _ (by omega)
        have HN := Lib.hid ht
        clear hx hmem hc ht hp hpart HI
        go_wp2
        go_roundw
        case rel => exact ⟨i + 1, s + x2, by omega, by go_num, by go_num, hs2, hs3, by first | rfl | trivial, HN.out⟩
        case measure => simp [intOf]; omega
      · obtain rfl : i = n := by omega
        have hs : s = X := by
          have := HI.out
          rw [List.take_of_length_le (by rw [HLen.out]; exact Nat.le_refl _)] at this
          rw [← this, HX.out]
        subst hs
        clear HI HX HMy HH HLen
        go_wp2
        go_ret
        exact ⟨rfl, B1.out⟩

theorem rsmall8 (w : World) (A : Option Addr) (n c : Nat) (R : List (Int × Int)) (most : Int) (h : RunS w A n R) :
    Calls Try.prog 32 #[.slice A n c, .int .i64 most] w fun e w' => e = .returned (.bool (decide ((n : Int) ≤ most) && decide (Tx.lenI R ≤ most))) ∧ Below w.heap.size w w' := by
  have HL := Lib.hid (rlen8 w A n c R h)
  generalize Tx.lenI R = X at HL
  clear h
  by_cases h1 : (n : Int) ≤ most
  · rw [decide_eq_true h1, Bool.true_and]
    go_enter Try.func32, Try.ntmps32
    go_wp2_with (go_at_call 19; refine HL.out.mono ?_; rintro e w1 ⟨rfl, b1⟩)
    go_ret
    exact ⟨rfl, b1⟩
  · rw [decide_eq_false h1, Bool.false_and]
    clear HL
    go_enter Try.func32, Try.ntmps32
    go_wp2
    go_ret
    exact ⟨rfl, Below.refl _ w⟩

/-- what points answers: the code points, in a row of its own -/
def NSaid (w : World) (L : List Int) (e : Ending) (w' : World) : Prop := (∃ A c, e = .returned (.slice A L.length c) ∧ OwnN w' w.heap.size A c L) ∧ Below w.heap.size w w'
theorem NSaid.mk {w w' : World} {L l : List Int} {A : Option Addr} {c n : Nat} (hn : l.length = n) (hl : L = l) (h : OwnN w' w.heap.size A c l) (hb : Below w.heap.size w w') : NSaid w L (.returned (.slice A n c)) w' := by
  subst hl
  exact ⟨⟨A, c, by rw [hn], h⟩, hb⟩
set_option maxRecDepth 100000 in
set_option maxHeartbeats 1600000 in
theorem rpts8 (w : World) (A : Option Addr) (n c : Nat) (R : List (Int × Int)) (h : RunS w A n R) (ho : Tx.Own R) (hn : n ≤ 100000) (ht : Lt.total R ≤ 1000000) :
    Calls Try.prog 34 #[.slice A n c] w fun e w' => NSaid w (Lt.expand R) e w' := by
  obtain ⟨X, HX⟩ : ∃ X, Hid (Lt.expand R = X) := ⟨_, rfl⟩
  rw [HX.out]
  obtain ⟨Post, hPost⟩ : ∃ Post : Ending → World → Prop, Post = fun e w' => NSaid w X e w' := ⟨_, rfl⟩
  rw [← hPost]
  have HPo := Lib.hid hPost
  have HH := Lib.hid h
  have HG : Hid (∀ x ∈ R, 1 ≤ x.2) := fun x hx => (ho.pos x hx).2
  have HFit := Lib.hid ht
  clear hPost h ho ht
  go_enter Try.func34, Try.ntmps34
  go_wp2
  go_loopw [3, 4] (fun ov iv wr => ∃ (q m : Nat) (A' : Option Addr) (c' : Nat) (l : List Int), q ≤ n ∧ iv = .int .i64 (q : Nat) ∧ ov = .slice A' m c' ∧ Hid (Below w.heap.size w wr ∧ OwnN wr w.heap.size A' c' l ∧ l.length = m ∧ l = Lt.expand (R.take q))) (fun _ iv _ => n - (intOf iv).toNat)
  case atStart => exact ⟨0, 0, none, 0, [], Nat.zero_le _, rfl, rfl, Below.refl _ _, OwnN.nil _ _, rfl, rfl⟩
  case round =>
    obtain ⟨q, m, A', c', l, hq, rfl, rfl, HQ⟩ := hrel
    obtain ⟨hQ0, hQ1, hQ2, hQ3⟩ := HQ.out
    by_cases hlt3 : q < n
    · obtain ⟨b, off, ⟨x1, x2⟩, rfl, hx, hmem, _, hc⟩ := HH.out.get hlt3
      have hx1 : 1 ≤ x2 := HG.out _ hmem
      obtain ⟨N, hN⟩ : ∃ N : Nat, x2 = (N : Int) := ⟨x2.toNat, by omega⟩
      subst hN
      have HC := Lib.hid hc
      have hlt' : (q : Int) < (n : Int) := by omega
      have h0 : (0 : Int) ≤ (q : Int) := by omega
      have HBq := Lib.hid hQ0
      have HOq := Lib.hid hQ1
      have HMq := Lib.hid hQ2
      have HTot : Hid (m + N ≤ 1000000) := by
        show _ ≤ _
        have e : Lt.total (R.take (q + 1)) + Lt.total (R.drop (q + 1)) = Lt.total R := by rw [← Lt.total_app, List.take_append_drop]
        have h1 := Lt.total_pos (R := R.drop (q + 1)) fun x hx => Int.not_lt.2 (HG.out x (List.mem_of_mem_drop hx))
        rw [Tx.take_tot hx] at e
        have h2 := Lt.expand_len (R := R.take q) fun x hx => Int.not_lt.2 (HG.out x (List.mem_of_mem_take hx))
        rw [← hQ3, hQ2] at h2
        have h3 := HFit.out
        simp only at e
        omega
      have hmN := HTot.out
      have HNx : Hid (Lt.expand (R.take (q + 1)) = l ++ List.replicate N x1) := by
        show _ = _
        rw [take_one hx, Lt.expand_app, Lt.expand_one, ← hQ3]
        simp
      clear hQ0 hQ1 hQ2 hQ3 HQ hx hmem hc hlt3 HFit HX
      go_wp2
      go_loopw [3, 5] (fun ov kv w3 => ∃ (k : Nat) (A' : Option Addr) (c' : Nat) (l' : List Int), k ≤ N ∧ kv = .int .i64 (k : Nat) ∧ ov = .slice A' (m + k) c' ∧ Hid (Below w.heap.size w w3 ∧ OwnN w3 w.heap.size A' c' l' ∧ l'.length = m + k ∧ l' = l ++ List.replicate k x1)) (fun _ kv _ => N - (intOf kv).toNat)
      case atStart => exact ⟨0, A', c', l, Nat.zero_le _, rfl, rfl, HBq.out, HOq.out, HMq.out, by simp⟩
      case round =>
        obtain ⟨k, A3, c3, l3, hk, rfl, rfl, HK⟩ := hrel
        obtain ⟨hK0, hK1, hK2, hK3⟩ := HK.out
        obtain ⟨r1, r2, r3⟩ := HC.out _ hK0
        by_cases hlt4 : k < N
        · have hlt4' : (k : Int) < (N : Int) := by omega
          have HB3 := Lib.hid hK0
          have HO3 := Lib.hid hK1
          have HM3 := Lib.hid hK2
          have HL3 : Hid (l3 ++ [x1] = l ++ List.replicate (k + 1) x1) := by
            show _ = _
            rw [hK3, List.replicate_succ', List.append_assoc]
          have hmk : m + k ≤ 1000000000 := by omega
          have hbw := hK0.size
          clear hK0 hK1 hK2 hK3 HK
          go_wp2_with (at_builtin; refine appendN _ rfl (.tmp 21) (.tmp 27) rfl w.heap.size A3 c3 l3 (m + k) HM3.out x1 rfl HO3.out rfl hmk hbw ?_; intro A5 c5 w5 o5 g5; have O5 := Lib.hid o5; have B5 := Lib.hid (HB3.out.grown g5 HB3.out.size (fun q hq => (HO3.out.lt HM3.out hq).1)); clear o5 g5)
          go_roundw
          case rel => exact ⟨k + 1, A5, c5, l3 ++ [x1], by omega, by go_num, rfl, B5.out, O5.out, by rw [List.length_append, HM3.out]; rfl, HL3.out⟩
          case measure => simp [intOf]; omega
        · obtain rfl : k = N := by omega
          have HE : Hid (Below w.heap.size w wr ∧ OwnN wr w.heap.size A3 c3 l3 ∧ l3.length = m + k ∧ l3 = Lt.expand (R.take (q + 1))) := ⟨hK0, hK1, hK2, by rw [HNx.out]; exact hK3⟩
          clear hK0 hK1 hK2 hK3 HK hlt4
          go_wp2
          go_roundw
          case rel => exact ⟨q + 1, m + k, A3, c3, l3, by omega, by go_num, rfl, HE.out⟩
          case measure => simp [intOf]; omega
    · obtain rfl : q = n := by omega
      rw [List.take_of_length_le (by rw [HH.out.len]; exact Nat.le_refl _), HX.out] at hQ3
      have HF := Lib.hid (NSaid.mk hQ2 hQ3.symm hQ1 hQ0)
      clear hQ0 hQ1 hQ2 hQ3 HQ hlt3 HX
      go_wp2
      rw [HPo.out]
      exact HF.out

/-- what text answers: the runs, in a row of its own -/
def RSaid (w : World) (R : List (Int × Int)) (e : Ending) (w' : World) : Prop := (∃ A c, e = .returned (.slice A R.length c) ∧ OwnR w' w.heap.size A c R) ∧ Below w.heap.size w w'
set_option maxRecDepth 100000 in
theorem rtext8 (w : World) (A : Option Addr) (n c : Nat) (l : List Int) (h : NumS w A n l) (hp : ∀ z ∈ l, Lt.pt z = true) (hn : n ≤ 65536) :
    Calls Try.prog 35 #[.slice A n c] w fun e w' => RSaid w (Lt.runs l) e w' := by
  have HR := Lib.hid (rruns7 w A n c l h hn)
  unfold RunsSaid at HR
  rw [Lt.runsOf, if_pos (List.all_eq_true.2 hp)] at HR
  generalize Lt.runs l = R at HR
  obtain ⟨Post, hPost⟩ : ∃ Post : Ending → World → Prop, Post = fun e w' => RSaid w R e w' := ⟨_, rfl⟩
  rw [← hPost]
  have HPo := Lib.hid hPost
  clear hPost h hp
  go_enter Try.func35, Try.ntmps35
  go_wp2_with fail
  refine HR.out.mono ?_
  rintro e w1 ⟨⟨A1, c1, rfl, o1⟩, b1⟩
  have HE : Hid (RSaid w R (.returned (.slice A1 R.length c1)) w1) := ⟨⟨A1, c1, rfl, o1⟩, b1⟩
  clear o1 b1 HR
  go_wp2
  rw [HPo.out]
  exact HE.out
end Go.Proofs.Ytdpbglofijpfnaa
