/- The code's falls. -/
import Derived.Test.YtdpbglofijpfnaaUD
import Derived.Deep.RegionHeld3
namespace Go.Proofs.Ytdpbglofijpfnaa
open Go.RowKit

theorem make_ints8 (n : Nat) (hn : n ≤ 1000000) : ∀ W : World, (Instr.makeSlice 41 (.int .i64 (n : Nat)) (.int .i64 (n : Nat))).run Try.prog W = .ok (.slice (some ⟨W.heap.size, 0, none⟩) n n) (W.alloc (.cells (i64s (List.replicate n 0)).toArray 3)) := fun W => by
  obtain ⟨i0, hi, hz0, hz1, hz2⟩ := info_parts infoJ
  have := run_makeSlice (P := Try.prog) W 41 3 i0 (.int .i64 0) Try.underlying41 hi hz0 .i64 .i64 (n : Nat) (n : Nat) (by omega) (Int.le_refl _) (by rw [hz1]; simp; omega) (by rw [hz2]; omega) (by omega)
  simp only [Int.toNat_natCast] at this
  have e : madeCells (Value.int .i64 0).cells (n * i0.size) = (i64s (List.replicate n 0)).toArray := by
    rw [hz1, Nat.mul_one]
    refine Array.ext' ?_
    simp [madeCells, Value.cells, Nat.mod_one]
    refine List.ext_getElem (by simp) fun i h1 h2 => ?_
    simp
  rw [e] at this
  exact this
theorem Lies.nums {w : World} {g n : Nat} {F : List Int} (h : Lies w g 3 (i64s F).toArray) (hn : F.length = n) : NumS w (some ⟨g, 0, none⟩) n F :=
  ⟨hn, fun _ => ⟨g, 0, rfl, h.lt, fun i x hx => by rw [h.cell, Nat.zero_add]; simp [hx]⟩⟩
theorem Lies.setI {w : World} {g : Nat} {F : List Int} (h : Lies w g 3 (i64s F).toArray) (i : Nat) (z : Int) : Lies (w.setCell ⟨g, i, none⟩ (.int .i64 z)) g 3 (i64s (F.set i z)).toArray := by
  have := h.put i (.int .i64 z)
  rwa [show (i64s F).toArray.setIfInBounds i (.int .i64 z) = (i64s (F.set i z)).toArray by simp [List.map_set]] at this
/-- what falls answers -/
def FallsAt (L : List (Int × Int)) (F : List Int) (i : Nat) : Prop := ∀ j, j < i → ∃ p : Nat, F[j]? = some (p : Int) ∧ Tx.IsK L ((L.take (j + 1)).drop 1) p

set_option maxRecDepth 100000 in
set_option maxHeartbeats 4000000 in
theorem kfalls8 (w : World) (A : Option Addr) (n c : Nat) (L : List (Int × Int)) (h : RunS w A n L) (hn : n ≤ 1000000) :
    Calls Try.prog 50 #[.slice A n c] w fun e w' => ∃ F : List Int, e = .returned (.slice (some ⟨w.heap.size, 0, none⟩) n n) ∧ F.length = n ∧ Lies w' w.heap.size 3 (i64s F).toArray ∧ FallsAt L F n ∧ Below w.heap.size w w' := by
  have hmk := make_ints8 n hn
  have HL := Lib.hid h
  obtain ⟨cs, hcs⟩ : ∃ cs, (i64s (List.replicate n 0)).toArray = cs := ⟨_, rfl⟩
  rw [hcs] at hmk
  have HCs := Lib.hid hcs
  clear h hcs
  go_enter Try.func50, Try.ntmps50
  go_wp2
  go_loopw [4] (fun iv wr => ∃ i : Nat, iv = .int .i64 (i : Nat) ∧ 1 ≤ i ∧ i ≤ n + 1 ∧ ∃ F : List Int, Hid (F.length = n ∧ Lies wr w.heap.size 3 (i64s F).toArray ∧ (∀ j, j < i → j < n → ∃ p : Nat, F[j]? = some (p : Int) ∧ Tx.IsK L ((L.take (j + 1)).drop 1) p) ∧ Below w.heap.size w wr)) (fun iv _ => n + 1 - (intOf iv).toNat)
  case atStart =>
    refine ⟨1, rfl, Nat.le_refl _, by omega, List.replicate n 0, by simp, by rw [HCs.out]; exact Lies.new w _ _, fun j hj hjn => ⟨0, ?_, ?_⟩, (Below.refl _ w).alloc (Nat.le_refl _) _⟩
    · obtain rfl : j = 0 := by omega
      rw [List.getElem?_replicate, if_pos hjn]
      rfl
    · obtain rfl : j = 0 := by omega
      rw [show ((L.take (0 + 1)).drop 1) = [] from List.drop_of_length_le (by rw [List.length_take]; omega)]
      exact Tx.IsK.nil L
  case round =>
    obtain ⟨i, rfl, hi1, hin, F, HI⟩ := hrel
    by_cases hlt : i < n
    · obtain ⟨r, rfl⟩ : ∃ r, i = r + 1 := ⟨i - 1, by omega⟩
      obtain ⟨hFl, hLF, hgood, hB⟩ := HI.out
      obtain ⟨p, hp, hpK⟩ := hgood r (by omega) (by omega)
      obtain ⟨b, off, ⟨x1, x2⟩, rfl, hx, _, _, hc⟩ := HL.out.get hlt
      have hpr : p ≤ r := by
        have := hpK.end_.length_le
        rw [List.length_take, List.length_drop, List.length_take] at this
        have := hpK.le
        omega
      have HStep : Hid (∀ W, Below wr.heap.size wr W → Calls Try.prog 51 #[.slice (some ⟨b, off, none⟩) n c, .slice (some ⟨w.heap.size, 0, none⟩) n n, .int .i64 (p : Nat), .agg #[.int .i64 x1, .int .i64 x2]] W fun e w' => (∃ q : Nat, e = .returned (.int .i64 q) ∧ Tx.IsK L ((L.take (r + 1 + 1)).drop 1) q) ∧ Below W.heap.size W w') := fun W hW => by
        have hk := kstep8 W (some ⟨b, off, none⟩) n c L (some ⟨w.heap.size, 0, none⟩) n n F p x1 x2 ((L.take (r + 1)).drop 1) (HL.out.below (hB.trans (hW.mono hB.size))) (Lies.nums (show Lies W w.heap.size _ _ from (hW.block _ hLF.lt).trans hLF) hFl) hn (Nat.le_refl _) hpK (fun j hj => hgood j (by omega) (by omega))
        have e : (L.take (r + 1)).drop 1 ++ [(x1, x2)] = (L.take (r + 1 + 1)).drop 1 := by
          rw [take_one hx, List.drop_append_of_le_length (by rw [List.length_take]; have := HL.out.len; omega)]
        rwa [e] at hk
      have HC : Hid (∀ W, Below wr.heap.size wr W → (W.cell? ⟨w.heap.size, r, none⟩ = some (.int .i64 p)) ∧ W.cell? ⟨b, off + (r + 1) * 2, none⟩ = some (.int .i64 x1) ∧ W.cell? ⟨b, off + (r + 1) * 2 + 1, none⟩ = some (.int .i64 x2)) := fun W hW => by
        obtain ⟨_, k1, k2⟩ := hc W (hB.trans (hW.mono hB.size))
        refine ⟨?_, k1, k2⟩
        have hl : Lies W w.heap.size 3 (i64s F).toArray := (hW.block _ hLF.lt).trans hLF
        rw [hl.cell]
        simp [hp]
      have HC2 : Hid (∀ W v, Below wr.heap.size wr W → ((W.setCell ⟨w.heap.size, r + 1, none⟩ v).cell? ⟨w.heap.size, r, none⟩ = some (.int .i64 p)) ∧ (W.setCell ⟨w.heap.size, r + 1, none⟩ v).cell? ⟨b, off + (r + 1) * 2, none⟩ = some (.int .i64 x1) ∧ (W.setCell ⟨w.heap.size, r + 1, none⟩ v).cell? ⟨b, off + (r + 1) * 2 + 1, none⟩ = some (.int .i64 x2)) := fun W v hW => by
        obtain ⟨k0, k1, k2⟩ := hc W (hB.trans (hW.mono hB.size))
        obtain ⟨kb, _, _⟩ := hc w (Below.refl _ w)
        have hl : Lies W w.heap.size 3 (i64s F).toArray := (hW.block _ hLF.lt).trans hLF
        have hT : Turn (fun k => k = w.heap.size) W (W.setCell ⟨w.heap.size, r + 1, none⟩ v) := (Turn.refl (fun k => k = w.heap.size) W).put (p := ⟨w.heap.size, r + 1, none⟩) (.inl rfl) _
        refine ⟨?_, (hT.cell (p := ⟨b, off + (r + 1) * 2, none⟩) k0 (Nat.ne_of_lt kb)).trans k1, (hT.cell (p := ⟨b, off + (r + 1) * 2 + 1, none⟩) k0 (Nat.ne_of_lt kb)).trans k2⟩
        rw [(hl.put (r + 1) v).cell, Array.getElem?_setIfInBounds_ne (by omega)]
        simp [hp]
      have HN : Hid (∀ W (q : Nat), Below wr.heap.size wr W → Tx.IsK L ((L.take (r + 1 + 1)).drop 1) q → (∃ u, W.cell? ⟨w.heap.size, r + 1, none⟩ = some u) ∧ W.frozen? ⟨w.heap.size, r + 1, none⟩ = false ∧ ∃ F' : List Int, Hid (F'.length = n ∧ Lies (W.setCell ⟨w.heap.size, r + 1, none⟩ (.int .i64 q)) w.heap.size 3 (i64s F').toArray ∧ (∀ j, j < r + 1 + 1 → j < n → ∃ p : Nat, F'[j]? = some (p : Int) ∧ Tx.IsK L ((L.take (j + 1)).drop 1) p) ∧ Below w.heap.size w (W.setCell ⟨w.heap.size, r + 1, none⟩ (.int .i64 q)))) := fun W q hW hq => by
        have hl : Lies W w.heap.size 3 (i64s F).toArray := (hW.block _ hLF.lt).trans hLF
        refine ⟨⟨.int .i64 (F[r + 1]'(by omega)), by rw [hl.cell]; simp [hFl, hlt]⟩, hl.free _, F.set (r + 1) q, by rw [List.length_set]; exact hFl, hl.setI _ _, fun j hj hjn => ?_, (hB.trans (hW.mono hB.size)).setCell (p := ⟨w.heap.size, r + 1, none⟩) (Nat.le_refl _) _⟩
        by_cases e : j = r + 1
        · subst e
          exact ⟨q, by rw [List.getElem?_set_self (by omega)], hq⟩
        · obtain ⟨p', h1, h2⟩ := hgood j (by omega) hjn
          exact ⟨p', by rw [List.getElem?_set_ne (by omega)]; exact h1, h2⟩
      have hrr : (r : Int) + 1 < (n : Int) := by omega
      have hr0 : (0 : Int) ≤ (r : Int) := by omega
      have hr1 : (r : Int) < (n : Int) := by omega
      have hr2 : (0 : Int) ≤ (r : Int) + 1 := by omega
      have hr3 : ((r : Int) + 1).toNat = r + 1 := by omega
      have hrw : IntKind.i64.wrap (r : Int) = (r : Int) := IntWalk.i64_in _ (by omega)
      have HDw : Hid (Below wr.heap.size wr wr.drew) := Below.drew_ wr _
      clear HI hFl hLF hgood hB hpK hp hx hc hlt hpr
      go_wp2
      have HS := Lib.hid (HC.out _ HDw.out)
      go_region_held3 (fun W' => (W'.cell? ⟨w.heap.size, r, none⟩ = some (.int .i64 p)) ∧ W'.cell? ⟨b, off + (r + 1) * 2, none⟩ = some (.int .i64 x1) ∧ W'.cell? ⟨b, off + (r + 1) * 2 + 1, none⟩ = some (.int .i64 x2))
        (first | (with_reducible exact HS.out) | (with_reducible exact HC.out _ HB3.out) | (with_reducible exact HC2.out _ _ HB3.out))
        ((go_at_call 51; (with_reducible refine (HStep.out _ ?_).mono ?_); (with_reducible exact HDw.out); rintro e w3 ⟨⟨q, rfl, hq⟩, b3⟩; have HB3 : Hid (Below wr.heap.size wr w3) := HDw.out.trans (b3.mono HDw.out.size); obtain ⟨⟨u, hu⟩, hf, F', HF'⟩ := HN.out w3 q HB3.out hq; clear b3 hq))
      go_wp2
      go_roundw
      case rel => exact ⟨r + 1 + 1, by go_num, by omega, by omega, F', HF'⟩
      case measure => simp [intOf]; omega
    · have hnn : ¬ (i : Int) < (n : Int) := by omega
      have HE : Hid (F.length = n ∧ Lies wr w.heap.size 3 (i64s F).toArray ∧ FallsAt L F n ∧ Below w.heap.size w wr) := ⟨HI.out.1, HI.out.2.1, fun j hj => HI.out.2.2.1 j (by omega) hj, HI.out.2.2.2⟩
      clear HI
      go_wp2
      go_ret
      exact ⟨rfl, F, HE.out⟩
end Go.Proofs.Ytdpbglofijpfnaa
