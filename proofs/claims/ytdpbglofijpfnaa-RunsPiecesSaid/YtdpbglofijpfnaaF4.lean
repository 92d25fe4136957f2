/- The reference of runs: stands, Prefix, Suffix, Index. -/
import Derived.Test.YtdpbglofijpfnaaF3
namespace Go.Proofs.Ytdpbglofijpfnaa
open Go.RowKit

noncomputable def Tx.standsB (l m : List Int) (z : Int) : Bool := @decide (0 ≤ z ∧ Tx.Stands l m z.toNat) (Classical.propDecidable _)
theorem Tx.standsB_true {l m : List Int} {z : Int} (h : 0 ≤ z ∧ Tx.Stands l m z.toNat) : Tx.standsB l m z = true := @decide_eq_true _ (Classical.propDecidable _) h
theorem Tx.standsB_false {l m : List Int} {z : Int} (h : ¬ (0 ≤ z ∧ Tx.Stands l m z.toNat)) : Tx.standsB l m z = false := @decide_eq_false _ (Classical.propDecidable _) h
theorem Tx.standsB_iff {l m : List Int} {z : Int} : Tx.standsB l m z = true ↔ 0 ≤ z ∧ Tx.Stands l m z.toNat := by unfold Tx.standsB; exact @decide_eq_true_iff _ (Classical.propDecidable _)

set_option maxRecDepth 100000 in
set_option maxHeartbeats 1600000 in
theorem rstands8 (w : World) (A : Option Addr) (n c : Nat) (l : List Int) (B : Option Addr) (m d : Nat) (k : List Int) (z : Int) (h : NumS w A n l) (h' : NumS w B m k) (hn : n ≤ 1000000) (hm : m ≤ 1000000) (hz : -1000000 ≤ z ∧ z ≤ 1000000) :
    Calls Try.prog 41 #[.slice A n c, .slice B m d, .int .i64 z] w fun e w' => e = .returned (.bool (Tx.standsB l k z)) ∧ Below w.heap.size w w' := by
  have hl := h.len
  have hk := h'.len
  obtain ⟨hz0, hz1⟩ := hz
  have hadd : IntKind.i64.wrap (z + (m : Int)) = z + (m : Int) := IntWalk.i64_in _ (by omega)
  by_cases hneg : z < 0
  · rw [Tx.standsB_false fun h => by omega]
    clear h h' hl hk
    go_enter Try.func41, Try.ntmps41
    go_wp2
    go_ret
    exact ⟨rfl, Below.refl _ w⟩
  by_cases hfar : (n : Int) < z + (m : Int)
  · rw [Tx.standsB_false fun h => by have := (Tx.stands_iff.1 h.2).1; omega]
    clear h h' hl hk
    go_enter Try.func41, Try.ntmps41
    go_wp2
    go_ret
    exact ⟨rfl, Below.refl _ w⟩
  obtain ⟨a, rfl⟩ : ∃ a : Nat, z = (a : Int) := ⟨z.toNat, by omega⟩
  have HH := Lib.hid h
  have HK := Lib.hid h'
  have ham : a + m ≤ n := by omega
  obtain ⟨X, HX⟩ : ∃ X, Hid (Tx.standsB l k (a : Int) = X) := ⟨_, rfl⟩
  rw [HX.out]
  have HT : Hid ((∀ i, i < m → l[a + i]? = k[i]?) → X = true) := fun h => HX.out ▸ Tx.standsB_true ⟨by omega, Tx.stands_get.2 ⟨by rw [Int.toNat_natCast, hk, hl]; exact ham, fun i hi => by rw [Int.toNat_natCast]; exact h i (by rw [← hk]; exact hi)⟩⟩
  have HF : Hid (∀ i, i < m → l[a + i]? ≠ k[i]? → X = false) := fun i hi hne => HX.out ▸ Tx.standsB_false fun h => by
    have := (Tx.stands_get.1 h.2).2 i (by rw [hk]; exact hi)
    rw [Int.toNat_natCast] at this
    exact hne this
  clear h h' hl hk HX
  go_enter Try.func41, Try.ntmps41
  go_wp2
  go_loopw [7] (fun iv wr => ∃ i : Nat, i ≤ m ∧ iv = .int .i64 (i : Nat) ∧ Hid (Below w.heap.size w wr ∧ ∀ j, j < i → l[a + j]? = k[j]?)) (fun iv _ => m - (intOf iv).toNat)
  case atStart => exact ⟨0, Nat.zero_le _, rfl, Below.refl _ _, fun j hj => absurd hj (Nat.not_lt_zero _)⟩
  case round =>
    obtain ⟨i, hi, rfl, HI⟩ := hrel
    by_cases hlt : i < m
    · obtain ⟨p, hap⟩ : ∃ p, a + i = p := ⟨_, rfl⟩
      obtain ⟨b, off, x, rfl, hx, _, _, hc⟩ := HH.out.get (i := p) (by omega)
      obtain ⟨b', off', y, rfl, hy, _, _, hc'⟩ := HK.out.get hlt
      obtain ⟨q1, q2⟩ := hc wr HI.out.1
      obtain ⟨q3, q4⟩ := hc' wr HI.out.1
      have HBn : Hid (∀ k, Below w.heap.size w (wr.drewN k)) := fun k => HI.out.1.trans ((Turn.none_ ((Turn.refl (fun _ => False) wr).drewN k) (fun _ => id)).mono HI.out.1.size)
      have hlt' : (i : Int) < (m : Int) := by omega
      have h0 : (0 : Int) ≤ (i : Int) := by omega
      have hai : (a : Int) + (i : Int) = (p : Int) := by omega
      have hai2 : IntKind.i64.wrap (p : Int) = (p : Int) := IntWalk.i64_in _ (by omega)
      have hain : (p : Int) < (n : Int) := by omega
      have hai0 : (0 : Int) ≤ (p : Int) := by omega
      by_cases hxy : x = y
      · subst hxy
        have HN : Hid (∀ j, j < i + 1 → l[a + j]? = k[j]?) := fun j hj => by
          by_cases hji : j < i
          · exact HI.out.2 j hji
          · obtain rfl : j = i := by omega
            rw [hap, hx, hy]
        clear hx hy hc hc' HI HT HF HH HK hap
        go_wp2
        go_quiet (fail)
        go_wp2
        go_roundw
        case rel => exact ⟨i + 1, by omega, by go_num, HBn.out _, HN.out⟩
        case measure => simp [intOf]; omega
      · have hX := HF.out i hlt (by rw [hap, hx, hy]; exact fun e => hxy (Option.some.inj e))
        subst hX
        have hne : (x != y) = true := bne_iff_ne.2 hxy
        clear hx hy hc hc' HI HT HF HH HK hxy hap
        go_wp2
        go_quiet (fail)
        go_wp2
        go_ret
        exact ⟨rfl, HBn.out _⟩
    · obtain rfl : i = m := by omega
      have hX := HT.out HI.out.2
      subst hX
      have HB := Lib.hid HI.out.1
      clear HI HT HF HH HK
      go_wp2
      go_ret
      exact ⟨rfl, HB.out⟩
end Go.Proofs.Ytdpbglofijpfnaa
