/- MeterWithin. -/
import Derived.Test.YtfgefamippjelaaQ4
namespace Go.Proofs.Ytfgefamippjelaa
open Go.RowKit

theorem does_cases (b s n : Int) (o : Bool) : ∃ (a o' : Bool) (t : Int), mdoes b s n o = (a, t, o') ∧
    (o = true ∧ a = false ∧ t = s ∧ o' = true ∨ o = false ∧ 0 < b ∧ b - s < max n 0 ∧ a = false ∧ t = s ∧ o' = true ∨ o = false ∧ ¬ (0 < b ∧ b - s < max n 0) ∧ a = true ∧ t = s + min (max n 0) (4611686018427387904 - s) ∧ o' = false) := by
  cases o with
  | true => exact ⟨_, _, _, rfl, .inl ⟨rfl, rfl, rfl, rfl⟩⟩
  | false =>
    by_cases h : 0 < b ∧ b - s < max n 0
    · exact ⟨false, true, s, by simp [mdoes, mspends, h], .inr (.inl ⟨rfl, h.1, h.2, rfl, rfl, rfl⟩)⟩
    · exact ⟨true, false, _, by simp [mdoes, mspends, h], .inr (.inr ⟨rfl, h, rfl, rfl, rfl⟩)⟩

set_option maxRecDepth 100000 in
set_option maxHeartbeats 3200000 in
theorem meterWithin_walk (b : Int) (A : Option Addr) (n c : Nat) (zs : List Int) (w : World) (hb : (Lit.int .i64 b).wf = true) (h : ArgI w A n c zs) :
    Calls Try.prog 4 #[.int .i64 b, .slice A n c] w fun e w' => e = .returned (.bool true) ∧ Below w.heap.size w w' := by
  have HA := Lib.hid (awake4 w)
  have HG := Lib.hid h
  have HN := Lib.hid fun W (hW : Below w.heap.size w W) => OwnM.new (b := b) hW hb
  clear h hb
  by_cases hn : 300 < n
  · have hn' : (300 : Int) < (n : Int) := by omega
    go_enter Try.func4, Try.ntmps4
    go_wp2_with (first
      | (go_at_call 8; refine HA.out.mono ?_; rintro e w1 ⟨rfl, b1⟩; have Q := Lib.hid (HN.out _ b1).below; clear b1)
      | (go_at_call 9; refine (new_meter _ _).mono ?_; rintro e w2 ⟨rfl, rfl⟩))
    go_ret
    exact ⟨rfl, Q.out⟩
  · have hn' : ¬ (300 : Int) < (n : Int) := by omega
    have hdn : decide (300 < n) = false := decide_eq_false hn
    go_enter Try.func4, Try.ntmps4
    go_wp2_with (first
      | (go_at_call 8; refine HA.out.mono ?_; rintro e w1 ⟨rfl, b1⟩; have QN := Lib.hid (HN.out _ b1); clear b1)
      | (go_at_call 9; refine (new_meter _ _).mono ?_; rintro e w2 ⟨rfl, rfl⟩))
    go_loopw [7] (fun iv wr => ∃ i : Nat, i ≤ n ∧ iv = .int .i64 (i : Nat) ∧ ∃ s o, OwnM w wr w1.heap.size b s o ∧ (b < 1 → o = false)) (fun iv _ => n - (intOf iv).toNat)
    case atStart => exact ⟨0, Nat.zero_le _, rfl, 0, false, QN.out, fun _ => rfl⟩
    case round =>
      clear HN QN HA
      obtain ⟨i, hi, rfl, s, o, hq, hbo⟩ := hrel
      by_cases hlt : i < n
      · obtain ⟨bl, off, x, rfl, hbl, hx, hwx, hc⟩ := HG.out.cell hq.below hlt
        obtain ⟨a, o', t, hd, hways⟩ := does_cases b s x o
        have HS := Lib.hid (hq.spend x t a o' hd)
        have HQ := Lib.hid hq
        have f1 := hq.fits.s62
        have f2 := hq.fits.s0
        have f3 := hq.fits.sb
        have HT := Lib.hid fun W (q : OwnM w W w1.heap.size b t o') => q.fits.sb
        have hts : decide (t < s) = false := decide_eq_false (by rcases hways with q | q | q <;> omega)
        clear hq hd hx hwx
        have hbo' : b < 1 → o' = false := fun hb1 => by
          rcases hways with ⟨q, _⟩ | ⟨_, q, _⟩ | ⟨_, _, _, _, q⟩
          · rw [hbo hb1] at q; cases q
          · omega
          · exact q
        by_cases hb1 : b < 1
        · have hd1 : decide (b < 1) = true := decide_eq_true hb1
          have hd2 : decide (1 ≤ b) = false := decide_eq_false (by omega)
          obtain rfl := hbo hb1
          obtain rfl := hbo' hb1
          obtain rfl : a = true := by
            rcases hways with ⟨q, _⟩ | ⟨_, q, _⟩ | ⟨_, _, q, _⟩
            · cases q
            · omega
            · exact q
          clear hways hbo hbo' HT f1 f2 f3 hb1
          go_wp2_with (first
            | (go_at_call 10; refine HS.out.mono ?_; rintro e w2 ⟨rfl, q, _⟩; clear HS HQ; have HQ := Lib.hid q; clear q)
            | (go_at_call 12; refine HQ.out.over.mono ?_; rintro e w2 ⟨rfl, rfl⟩)
            | (go_at_call 13; refine HQ.out.spent.mono ?_; rintro e w2 ⟨rfl, rfl⟩))
          go_roundw
          case rel => exact ⟨i + 1, by omega, by go_num, t, false, HQ.out, fun _ => rfl⟩
          case measure => simp [intOf]; omega
        · have hd1 : decide (b < 1) = false := decide_eq_false hb1
          have hd2 : decide (1 ≤ b) = true := decide_eq_true (by omega)
          have hbt : decide (b < t) = false := decide_eq_false (by
            have h4 := f3 (by omega)
            rcases hways with q | q | q <;> omega)
          rcases hways with ⟨rfl, rfl, rfl, rfl⟩ | ⟨rfl, e1, e2, rfl, rfl, rfl⟩ | ⟨rfl, e1, rfl, e2, rfl⟩ <;> try clear e1 e2
          all_goals
            have hrel : ∀ o : Bool, b < 1 → o = false := fun _ h => absurd h hb1
            have HR := Lib.hid hrel
            clear hbo hbo' HT f1 f2 f3 hb1 hrel
            go_wp2_with (first
              | (go_at_call 10; refine HS.out.mono ?_; rintro e w2 ⟨rfl, q, _⟩; clear HS HQ; have HQ := Lib.hid q; clear q)
              | (go_at_call 12; refine HQ.out.over.mono ?_; rintro e w2 ⟨rfl, rfl⟩)
              | (go_at_call 13; refine HQ.out.spent.mono ?_; rintro e w2 ⟨rfl, rfl⟩))
            go_roundw
            case rel => exact ⟨i + 1, by omega, by go_num, _, _, HQ.out, HR.out _⟩
            case measure => simp [intOf]; omega
      · obtain rfl : i = n := by omega
        go_wp2
        go_ret
        exact ⟨rfl, hq.below⟩
end Go.Proofs.Ytfgefamippjelaa
