/- nat: Norm, Cmp: what each answers. -/
import Derived.Test.YtefkkmnhnldcbaaA2
namespace Go.Proofs.Ytefkkmnhnldcbaa
open Go.RowKit

/-- Norm's answer: nil, or a row of its own -/
def Normed (W : World) (N n : Nat) (e : Ending) (w' : World) : Prop :=
  ∃ l : List Nat, M.Fit l ∧ M.Top l ∧ M.val l = N ∧ l.length ≤ n ∧ Below W.heap.size W w' ∧
    ((l = [] ∧ e = .returned (.slice none 0 0)) ∨ (e = .returned (.slice (some ⟨W.heap.size, 0, none⟩) l.length l.length) ∧ Row w' W.heap.size l))

theorem norm_row (A : Option Addr) (n c : Nat) (l : List Nat) (w : World) (h : Lims w A n l) (hn : n ≤ c) (hc : c ≤ maxLen) (hs : n ≤ 1000000) :
    Calls Try.prog 14 #[.slice A n c] w (Normed w (M.val l) n) := by
  go_enter Try.func14, Try.ntmps14
  go_wp2_with fail
  refine (trim_any _ _ _ _ _ h hn hc).mono ?_
  rintro e w1 ⟨A', n', c', rfl, h1, h2, h3, h4, h5, h6, rfl⟩
  have hl := h.1
  have HL := Lib.hid hl
  clear hl
  have hn' : n' ≤ 1000000 := by have := HL.out; omega
  have hnn : n' ≤ n := by have := HL.out; omega
  have H3 := Lib.hid h3
  have H1 := Lib.hid h1.1
  have H2 := Lib.hid h2
  clear h3 h2
  by_cases h0 : n' = 0
  · subst h0
    go_wp2_with fail
    go_ret
    exact ⟨[], M.Fit.nil, M.Top.nil, by rw [← H3.out]; rfl, by simp, Below.refl _ _, .inl ⟨rfl, rfl⟩⟩
  · have h0' : ((n' : Int) == 0) = false := by simp; omega
    clear h0
    have hmk := make_any n' (by omega)
    go_wp2_with (refine copy_any rfl (.tmp 12) (.tmp 13) rfl rfl rfl (Row.zeros_ _ _) (h1.below ((Below.refl _ _).alloc (Nat.le_refl _) _)) (Nat.le_refl _) ((Below.refl _ _).alloc (Nat.le_refl _) _) ?_; intro w2 hrow hbel)
    go_ret
    simp only [Nat.sub_self, List.replicate_zero, List.append_nil] at hrow
    exact ⟨_, h1.2.1, H2.out, H3.out, by rw [H1.out]; exact hnn, hbel, .inr ⟨by rw [H1.out]; rfl, hrow⟩⟩

theorem Normed.gives {W : World} {N n : Nat} {e : Ending} {w' : World} (h : Normed W N n e w') (hn : n ≤ maxLen) : Gives W N e w' := by
  obtain ⟨l, h1, h2, h3, h4, h5, h6⟩ := h
  rcases h6 with ⟨rfl, rfl⟩ | ⟨rfl, hr⟩
  · exact ⟨_, rfl, ⟨none, 0, 0, [], rfl, Lims.nil_ _ _, h2, h3, by omega, by omega⟩, h5⟩
  · exact ⟨_, rfl, ⟨_, _, _, l, rfl, hr.lims h1 rfl, h2, h3, Nat.le_refl _, by omega⟩, h5⟩
theorem norm_any (A : Option Addr) (n c : Nat) (l : List Nat) (w : World) (h : Lims w A n l) (hn : n ≤ c) (hc : c ≤ maxLen) (hs : n ≤ 1000000) :
    Calls Try.prog 14 #[.slice A n c] w (Gives w (M.val l)) :=
  (norm_row A n c l w h hn hc hs).mono fun _ _ hh => hh.gives (by omega)

theorem sign_q (b : Bool) (w : World) (n : Int) (hn : n = if b then -1 else 1) : Calls Try.prog 45 #[.bool b] w fun e w' => e = .returned (.int .i64 n) ∧ w' = w :=
  (sign_any b w).mono fun _ _ ⟨h1, h2⟩ => ⟨by rw [h1, hn], h2.symm⟩

theorem cmp_any (A B : Option Addr) (n m c d : Nat) (k l : List Nat) (w : World) (hk : Lims w A n k) (hl : Lims w B m l) (hn : n ≤ c) (hm : m ≤ d) (hc : c ≤ maxLen) (hd : d ≤ maxLen) :
    Calls Try.prog 22 #[.slice A n c, .slice B m d] w fun e w' => e = .returned (.int .i64 (M.cmpI (M.val k) (M.val l))) ∧ ∃ j, w' = w.drewN j := by
  go_enter Try.func22, Try.ntmps22
  go_wp2_with fail
  refine (trim_any _ _ _ _ _ hk hn hc).mono ?_
  rintro e w1 ⟨A', n', c', rfl, h1, h2, h3, h4, h5, h6, rfl⟩
  go_wp2_with fail
  refine (trim_any _ _ _ _ _ hl hm hd).mono ?_
  rintro e w1 ⟨B', m', d', rfl, g1, g2, g3, g4, g5, g6, rfl⟩
  generalize k.take n' = k' at *
  generalize l.take m' = l' at *
  have hr : Hid (M.cmpI (M.val k) (M.val l) = M.cmpI (M.val k') (M.val l')) := by rw [h3, g3]; exact rfl
  clear h3 g3
  have H2 := Lib.hid h2
  have G2 := Lib.hid g2
  clear h2 g2
  unfold maxLen at hc hd
  by_cases hlt : n' < m'
  · have hne : ((n' : Int) == (m' : Int)) = false := by simp; omega
    have hb : decide ((n' : Int) < (m' : Int)) = true := by simp; omega
    go_wp2_with fail
    refine (sign_q true _ _ rfl).mono ?_
    rintro e w1 ⟨rfl, rfl⟩
    go_wp2_with fail
    go_ret
    refine ⟨ret_int ?_, 0, rfl⟩
    rw [hr.out, M.cmpI_lt (M.lt_of_shorter h1.2.1 G2.out (by rw [h1.1, g1.1]; exact hlt))]
  by_cases hgt : m' < n'
  · have hne : ((n' : Int) == (m' : Int)) = false := by simp; omega
    have hb : decide ((n' : Int) < (m' : Int)) = false := by simp; omega
    go_wp2_with fail
    refine (sign_q false _ _ rfl).mono ?_
    rintro e w1 ⟨rfl, rfl⟩
    go_wp2_with fail
    go_ret
    refine ⟨ret_int ?_, 0, rfl⟩
    rw [hr.out, M.cmpI_gt (M.lt_of_shorter g1.2.1 H2.out (by rw [h1.1, g1.1]; exact hgt))]
  obtain rfl : n' = m' := by omega
  clear hlt hgt
  have hlen : Hid (k'.length = l'.length) := h1.1.trans g1.1.symm
  go_wp2_with fail
  go_loopw [24] (fun i wr => ∃ j : Nat, j ≤ n' ∧ i = .int .i64 j ∧ Hid (∀ q, n' - j ≤ q → k'.getD q 0 = l'.getD q 0) ∧ ∃ q, wr = w.drewN q) (fun i _ => n' - (intOf i).toNat)
  case atStart => exact ⟨0, Nat.zero_le _, rfl, fun q hq => by rw [M.getD_ge (by rw [h1.1]; exact hq), M.getD_ge (by rw [g1.1]; exact hq)], 0, rfl⟩
  case round =>
    obtain ⟨j, hj, rfl, HZ, q, rfl⟩ := hrel
    by_cases hlt : j < n'
    · obtain ⟨i, hi⟩ : ∃ i : Nat, Hid (n' - 1 - j = i) := ⟨_, rfl⟩
      have hi1 : i < n' := by have := hi.out; omega
      have hi2 : j < n' := hlt
      have he : (n' : Int) - 1 - (j : Int) = (i : Int) := by have := hi.out; omega
      obtain ⟨b, off, rfl, _, hc1⟩ := h1.at_ (by omega)
      obtain ⟨x, HX, hx, hcx⟩ := hc1 (i) (by omega)
      obtain ⟨b', off', rfl, _, hc2⟩ := g1.at_ (by omega)
      obtain ⟨y, HY, hy, hcy⟩ := hc2 (i) (by omega)
      clear hc1 hc2
      have HZ' : Hid (∀ q, i + 1 ≤ q → k'.getD q 0 = l'.getD q 0) := fun q hq => HZ.out q (by have := hi.out; omega)
      by_cases hxy : x = y
      · subst hxy
        go_wp2_with fail
        go_quiet (fail)
        go_wp2_with fail
        go_roundw
        case rel => exact ⟨j + 1, by omega, by go_num, fun q hq => by
          by_cases e : q = i
          · subst e; rw [← HX.out, ← HY.out]
          · exact HZ.out q (by have := hi.out; omega), _, rfl⟩
        case measure => simp [intOf]; omega
      · have hxy' : ((x : Int) == (y : Int)) = false := by simp; omega
        by_cases hlt2 : x < y
        · have hb : decide ((x : Int) < (y : Int)) = true := by simp; omega
          have hv : Hid (M.cmpI (M.val k) (M.val l) = -1) := by
            rw [hr.out]
            exact M.cmpI_lt (M.lt_of_top (i) hlen.out (by rw [h1.1]; omega) h1.2.1 HZ'.out (by rw [← HX.out, ← HY.out]; exact hlt2))
          clear hxy
          go_wp2_with fail
          go_quiet (fail)
          rw [World.drewN_drewN]
          generalize q + nq = q2
          go_wp2_with fail
          go_quiet ((go_at_call 45; exact quiet_add (sign_q true _ _ rfl)))
          go_wp2_with fail
          go_ret
          first | exact ⟨ret_int (by rw [hv.out]), _, rfl⟩ | exact ⟨ret_int (by rw [hv.out]), _, World.drewN_drewN _ _ _⟩
        · have hb : decide ((x : Int) < (y : Int)) = false := by simp; omega
          have hv : Hid (M.cmpI (M.val k) (M.val l) = 1) := by
            rw [hr.out]
            exact M.cmpI_gt (M.lt_of_top (i) hlen.out.symm (by rw [g1.1]; omega) g1.2.1 (fun q hq => (HZ'.out q hq).symm) (by rw [← HX.out, ← HY.out]; omega))
          clear hxy
          go_wp2_with fail
          go_quiet (fail)
          rw [World.drewN_drewN]
          generalize q + nq = q2
          go_wp2_with fail
          go_quiet ((go_at_call 45; exact quiet_add (sign_q false _ _ rfl)))
          go_wp2_with fail
          go_ret
          first | exact ⟨ret_int (by rw [hv.out]), _, rfl⟩ | exact ⟨ret_int (by rw [hv.out]), _, World.drewN_drewN _ _ _⟩
    · have hv : Hid (M.cmpI (M.val k) (M.val l) = 0) := by
        rw [hr.out, M.eq_of_all hlen.out (fun q _ => HZ.out q (by omega))]
        exact M.cmpI_eq _
      go_wp2_with fail
      go_ret
      exact ⟨ret_int (by rw [hv.out]), _, rfl⟩

end Go.Proofs.Ytefkkmnhnldcbaa
