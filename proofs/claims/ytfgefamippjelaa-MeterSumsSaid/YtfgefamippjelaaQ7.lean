/- MeterSums. -/
import Derived.Test.YtfgefamippjelaaQ6
namespace Go.Proofs.Ytfgefamippjelaa
open Go.RowKit

set_option maxRecDepth 100000 in
set_option maxHeartbeats 3200000 in
theorem meterSums_walk (b : Int) (A : Option Addr) (n c : Nat) (zs : List Int) (w : World) (hb : (Lit.int .i64 b).wf = true) (h : ArgI w A n c zs) :
    Calls Try.prog 7 #[.int .i64 b, .slice A n c] w fun e w' => e = .returned (.bool true) ∧ Below w.heap.size w w' := by
  have HA := Lib.hid (awake4 w)
  have HG := Lib.hid h
  have HN := Lib.hid fun W (hW : Below w.heap.size w W) => OwnM.new (b := b) hW hb
  clear h hb
  by_cases hn : 300 < n
  · have hn' : (300 : Int) < (n : Int) := by omega
    go_enter Try.func7, Try.ntmps7
    go_wp2_with (first
      | (go_at_call 8; refine HA.out.mono ?_; rintro e w1 ⟨rfl, b1⟩; have Q := Lib.hid (HN.out _ b1).below; clear b1)
      | (go_at_call 9; refine (new_meter _ _).mono ?_; rintro e w2 ⟨rfl, rfl⟩))
    go_ret
    exact ⟨rfl, Q.out⟩
  · have hn' : ¬ (300 : Int) < (n : Int) := by omega
    have hdn : decide (300 < n) = false := decide_eq_false hn
    go_enter Try.func7, Try.ntmps7
    go_wp2_with (first
      | (go_at_call 8; refine HA.out.mono ?_; rintro e w1 ⟨rfl, b1⟩; have QN := Lib.hid (HN.out _ b1); clear b1)
      | (go_at_call 9; refine (new_meter _ _).mono ?_; rintro e w2 ⟨rfl, rfl⟩))
    go_loopw [7, 8] (fun sv iv wr => ∃ (i : Nat) (s : Int) (o : Bool), i ≤ n ∧ sv = .int .i64 s ∧ iv = .int .i64 (i : Nat) ∧ OwnM w wr w1.heap.size b s o ∧ Hid ((b < 1 → o = false) ∧ s ≤ (i : Int) * 1125899906842624)) (fun _ iv _ => n - (intOf iv).toNat)
    case atStart => exact ⟨0, 0, false, Nat.zero_le _, rfl, rfl, QN.out, (show (b < 1 → false = false) ∧ (0 : Int) ≤ ((0 : Nat) : Int) * 1125899906842624 from ⟨fun _ => rfl, by omega⟩)⟩
    case round =>
      clear HN QN HA
      obtain ⟨i, s, o, hi, rfl, rfl, hq, hbo⟩ := hrel
      by_cases hlt : i < n
      · obtain ⟨bl, off, x, rfl, hx, hwx, hcell⟩ := HG.out.get hlt
        have HC := Lib.hid fun W (q : Below w.heap.size w W) => hcell W q
        obtain ⟨hbl, hc⟩ := hcell _ hq.below
        clear hx hwx hcell
        by_cases hx50 : 1125899906842624 < x
        · have hd0 : decide (1125899906842624 < x) = true := decide_eq_true hx50
          have HQ := Lib.hid hq.below
          clear hx50 hq hbo
          go_wp2
          go_ret
          exact ⟨rfl, HQ.out⟩
        have hd0 : decide (1125899906842624 < x) = false := decide_eq_false hx50
        obtain ⟨a, o', t, hd, hways⟩ := does_cases b s x o
        have HS := Lib.hid (hq.spend x t a o' hd)
        have f2 := hq.fits.s0
        have f3 := hq.fits.sb
        have hbb := hbo.out
        have HR : Hid (∀ s' : Int, s' = s ∨ s' = s + x → s' ≤ ((i + 1 : Nat) : Int) * 1125899906842624) := fun s' hs' => by
          have := hbb.2
          rcases hs' with rfl | rfl <;> omega
        have hwt : s + x ≤ 9223372036854775807 := by have := hbb.2; omega
        rcases hways with ⟨rfl, rfl, rfl, rfl⟩ | ⟨rfl, e1, e2, rfl, rfl, rfl⟩ | ⟨rfl, e1, rfl, e2, rfl⟩
        · have hb1 : ¬ b < 1 := fun e => by have := hbb.1 e; cases this
          have hd1 : decide (b < 1) = false := decide_eq_false hb1
          have HB := Lib.hid hb1
          clear hbo hbb f2 f3 hwt hq hd hb1 hx50
          by_cases hx0 : 0 ≤ x
          · have hd2 : decide (0 ≤ x) = true := decide_eq_true hx0
            clear hx0
            go_wp2_with (first
              | (go_at_call 10; refine HS.out.mono ?_; rintro e w2 ⟨rfl, q, _⟩; clear HS; obtain ⟨zb, yc⟩ := HC.out _ q.below; have HQ := Lib.hid q; clear q)
              | (go_at_call 12; refine HQ.out.over.mono ?_; rintro e w2 ⟨rfl, rfl⟩)
              | (go_at_call 13; refine HQ.out.spent.mono ?_; rintro e w2 ⟨rfl, rfl⟩))
            go_roundw
            case rel => exact ⟨i + 1, _, _, by omega, rfl, by go_num, HQ.out, (show (b < 1 → true = false) ∧ _ from ⟨fun h => absurd h (by have := HB.out; omega), HR.out _ (.inl rfl)⟩)⟩
            case measure => simp [intOf]; omega
          · have hd2 : decide (0 ≤ x) = false := decide_eq_false hx0
            clear hx0
            go_wp2_with (first
              | (go_at_call 10; refine HS.out.mono ?_; rintro e w2 ⟨rfl, q, _⟩; clear HS; obtain ⟨zb, yc⟩ := HC.out _ q.below; have HQ := Lib.hid q; clear q)
              | (go_at_call 12; refine HQ.out.over.mono ?_; rintro e w2 ⟨rfl, rfl⟩)
              | (go_at_call 13; refine HQ.out.spent.mono ?_; rintro e w2 ⟨rfl, rfl⟩))
            go_roundw
            case rel => exact ⟨i + 1, _, _, by omega, rfl, by go_num, HQ.out, (show (b < 1 → true = false) ∧ _ from ⟨fun h => absurd h (by have := HB.out; omega), HR.out _ (.inl rfl)⟩)⟩
            case measure => simp [intOf]; omega
        · have hb1 : ¬ b < 1 := by omega
          have hd1 : decide (b < 1) = false := decide_eq_false hb1
          have HB := Lib.hid hb1
          have hd2 : decide (0 ≤ x) = true := decide_eq_true (by have := f3 e1; omega)
          clear hbo hbb f2 f3 hwt hq hd hb1 hx50 e1 e2
          go_wp2_with (first
            | (go_at_call 10; refine HS.out.mono ?_; rintro e w2 ⟨rfl, q, _⟩; clear HS; obtain ⟨zb, yc⟩ := HC.out _ q.below; have HQ := Lib.hid q; clear q)
            | (go_at_call 12; refine HQ.out.over.mono ?_; rintro e w2 ⟨rfl, rfl⟩)
            | (go_at_call 13; refine HQ.out.spent.mono ?_; rintro e w2 ⟨rfl, rfl⟩))
          go_roundw
          case rel => exact ⟨i + 1, _, _, by omega, rfl, by go_num, HQ.out, (show (b < 1 → true = false) ∧ _ from ⟨fun h => absurd h (by have := HB.out; omega), HR.out _ (.inl rfl)⟩)⟩
          case measure => simp [intOf]; omega
        · by_cases hx0 : 0 < x
          · have hd2 : decide (0 < x) = true := decide_eq_true hx0
            have et : t = s + x := by have := hbb.2; omega
            have hw : IntKind.i64.wrap (s + x) = t := (IntWalk.i64_in _ (by omega)).trans et.symm
            have HRT := Lib.hid (HR.out t (.inr et))
            clear hbo hbb f2 f3 hwt hq hd hx50 e1 e2 et hx0 HR
            go_wp2_with (first
              | (go_at_call 10; refine HS.out.mono ?_; rintro e w2 ⟨rfl, q, _⟩; clear HS; obtain ⟨zb, yc⟩ := HC.out _ q.below; have HQ := Lib.hid q; clear q)
              | (go_at_call 13; refine HQ.out.spent.mono ?_; rintro e w2 ⟨rfl, rfl⟩))
            go_roundw
            case rel => exact ⟨i + 1, _, _, by omega, rfl, by go_num, HQ.out, (show (b < 1 → false = false) ∧ _ from ⟨fun _ => rfl, HRT.out⟩)⟩
            case measure => simp [intOf]; omega
          · have hd2 : decide (0 < x) = false := decide_eq_false hx0
            obtain rfl : t = s := by have := hbb.2; omega
            have HRT := Lib.hid (HR.out t (.inl rfl))
            clear hbo hbb f2 f3 hwt hq hd hx50 e1 e2 hx0 HR
            go_wp2_with (first
              | (go_at_call 10; refine HS.out.mono ?_; rintro e w2 ⟨rfl, q, _⟩; clear HS; obtain ⟨zb, yc⟩ := HC.out _ q.below; have HQ := Lib.hid q; clear q)
              | (go_at_call 13; refine HQ.out.spent.mono ?_; rintro e w2 ⟨rfl, rfl⟩))
            go_roundw
            case rel => exact ⟨i + 1, _, _, by omega, rfl, by go_num, HQ.out, (show (b < 1 → false = false) ∧ _ from ⟨fun _ => rfl, HRT.out⟩)⟩
            case measure => simp [intOf]; omega
      · obtain rfl : i = n := by omega
        have HQ := Lib.hid hq
        clear hbo hq
        go_wp2_with (go_at_call 13; refine HQ.out.spent.mono ?_; rintro e w2 ⟨rfl, rfl⟩)
        go_ret
        exact ⟨rfl, HQ.out.below⟩
end Go.Proofs.Ytfgefamippjelaa
