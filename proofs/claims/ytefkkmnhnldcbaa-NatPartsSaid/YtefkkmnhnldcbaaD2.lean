/- the reference's Bits: what it answers. -/
import Derived.Test.YtefkkmnhnldcbaaD1
namespace Go.Proofs.Ytefkkmnhnldcbaa
open Go.RowKit

def lenOfB : Value → Nat | .slice _ n _ => n | _ => 0

set_option maxHeartbeats 1000000 in
theorem bits_any (A : Option Addr) (n c : Nat) (l : List Nat) (w : World) (h : Lims w A n l) (hs : n ≤ 1000000) :
    Calls Try.prog 38 #[.slice A n c] w (GivesB w (M.val l)) := by
  have hN : Hid (M.val l = M.val (l.take n)) := by rw [List.take_of_length_le (by rw [h.1]; exact Nat.le_refl _)]; exact rfl
  go_enter Try.func38, Try.ntmps38
  go_wp2_with fail
  go_loopw [3, 4] (fun dv iv wr => ∃ (i : Nat) (ds : List Bool), i ≤ n ∧ iv = .int .i64 i ∧ Bt.Bitting l ds i ∧ OwnB wr w.heap.size dv ds ∧ Below w.heap.size w wr) (fun _ iv _ => n - (intOf iv).toNat)
  case atStart => exact ⟨0, [], by omega, rfl, Bt.Bitting.start l, OwnB.nil_ _ _, Below.refl _ _⟩
  case round =>
    obtain ⟨i, ds, hi, rfl, hbt, hown, hbel⟩ := hrel
    have hdl := hbt.len
    have HDL := Lib.hid hdl
    clear hdl
    by_cases hlt : i < n
    · obtain ⟨b, off, rfl, hb, hcs⟩ := h.at_ (by omega)
      obtain ⟨x, HX, hx, hcell⟩ := hcs i hlt
      have hcell' : wr.cell? ⟨b, off + i, none⟩ = some (.int .u32 (x : Int)) := (hbel.cell hb).trans hcell
      clear hcs hcell
      obtain ⟨wo, rfl⟩ : ∃ wo : World, wo = wr := ⟨_, rfl⟩
      go_wp2_with fail
      go_loopw [3, 5, 6] (fun dv cv jv wi => ∃ (j cc : Nat) (es : List Bool), j ≤ 32 ∧ cc ≤ 4294967295 ∧ jv = .int .i64 j ∧ cv = .int .u32 cc ∧ Bt.Chunk ds es x j cc ∧ OwnB wi w.heap.size dv es ∧ Below w.heap.size w wi) (fun _ _ jv _ => 32 - (intOf jv).toNat)
      case atStart => exact ⟨0, x, ds, by omega, hx, rfl, rfl, Bt.Chunk.start (by omega), hown, hbel⟩
      case round =>
        obtain ⟨j, cc, es, hj, hcc, rfl, rfl, hch, hown2, hbel2⟩ := hrel
        have hel := hch.len
        have hel2 : es.length ≤ 33000000 := by have := HDL.out; omega
        clear hel
        by_cases hj32 : j < 32
        · have hch' := hch.step hj32
          obtain ⟨bb, HB⟩ : ∃ bb, Hid (decide (cc % 2 = 1) = bb) := ⟨_, rfl⟩
          rw [HB.out] at hch'
          have hbb : ((cc : Int) % 2 == 1) = bb := by
            rw [← HB.out]
            cases e : decide (cc % 2 = 1) with
            | true => have := of_decide_eq_true e; simp; omega
            | false => have := of_decide_eq_false e; simp; omega
          have hbo := fun W : World => (OwnB.lit W (B := W.heap.size) bb (Nat.le_refl _)).bts
          have HBO : Hid (∀ W : World, Bts (W.alloc (.cells #[.bool bb] 4)) (some ⟨W.heap.size, 0, none⟩) 1 1 [bb]) := fun W => by
            obtain ⟨A', c', e, h⟩ := hbo W
            injection e with e1 _ e2
            subst e1 e2
            exact h
          clear hbo
          go_wp2_with (refine appendB rfl (.tmp 21) (.tmp 25) rfl (N := 33000001) rfl (hown2.alloc _) rfl (HBO.out _) (by omega) (by omega) (by simp; have := hbel2.size; omega) ?_; intro v4 w4 ho4 hg4)
          have hbel4 := (hbel2.alloc hbel2.size (.cells #[.bool bb] 4)).grown hg4 (by simp; have := hbel2.size; omega) (hown2.own_ge (Nat.le_refl _))
          go_roundw
          case rel => exact ⟨j + 1, cc / 2, _, by omega, by omega, by go_num, by go_num, hch', ho4, hbel4⟩
          case measure => simp [intOf]; omega
        · obtain rfl : j = 32 := by omega
          have hbt' := hbt.step HX.out hch
          go_wp2_with fail
          go_roundw
          case rel => exact ⟨i + 1, es, by omega, by go_num, hbt', hown2, hbel2⟩
          case measure => simp [intOf]; omega
    · obtain rfl : i = n := by omega
      obtain ⟨A', c', rfl, hb⟩ := hown.bts
      have hd : ds.length ≤ 100000000 := by have := HDL.out; omega
      have HS := Lib.hid (hbt.sum.trans hN.out.symm)
      go_wp2_with fail
      refine (rtrim_any _ _ _ _ _ hb hd).mono ?_
      rintro e w2 ⟨v, rfl, hv, hb2⟩
      rw [HS.out] at hv
      go_wp2_with fail
      go_ret
      exact ⟨v, rfl, hv, hbel.trans (hb2.mono hbel.size)⟩
end Go.Proofs.Ytefkkmnhnldcbaa
