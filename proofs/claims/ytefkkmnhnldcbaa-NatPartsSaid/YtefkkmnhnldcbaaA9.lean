/- nat: Mul: what it answers. -/
import Derived.Test.YtefkkmnhnldcbaaA8
import Derived.Deep.RegionWith
namespace Go.Proofs.Ytefkkmnhnldcbaa
open Go.RowKit

set_option maxHeartbeats 2000000 in
theorem mul_any (A B : Option Addr) (n m c d : Nat) (k l : List Nat) (w : World) (hk : Lims w A n k) (hl : Lims w B m l) (hn : n ≤ c) (hm : m ≤ d) (hc : c ≤ maxLen) (hd : d ≤ maxLen) (hs : n ≤ 1000000) (ht : m ≤ 1000000) :
    Calls Try.prog 18 #[.slice A n c, .slice B m d] w (Gives w (M.val k * M.val l)) := by
  go_enter Try.func18, Try.ntmps18
  go_wp2_with fail
  refine (trim_any _ _ _ _ _ hk hn hc).mono ?_
  rintro e w1 ⟨A', n', c', rfl, h1, h2, h3, h4, h5, h6, rfl⟩
  go_wp2_with fail
  refine (trim_any _ _ _ _ _ hl hm hd).mono ?_
  rintro e w1 ⟨B', m', d', rfl, g1, g2, g3, g4, g5, g6, rfl⟩
  have hs' : n' ≤ 1000000 := by have := hk.1; omega
  have ht' : m' ≤ 1000000 := by have := hl.1; omega
  generalize k.take n' = a at *
  generalize l.take m' = b at *
  have hv : Hid (M.val k * M.val l = M.val a * M.val b) := by rw [h3, g3]; exact rfl
  clear h3 g3 h2 g2 h4 g4 hk hl hn hm hs ht
  unfold maxLen at hc hd
  by_cases hn0 : n' = 0
  · subst hn0
    have hz : Hid (M.val k * M.val l = 0) := by rw [hv.out, List.eq_nil_of_length_eq_zero h1.1]; exact (Nat.zero_mul _)
    go_wp2_with fail
    go_ret
    exact ⟨_, rfl, by rw [hz.out]; exact ⟨none, 0, 0, [], rfl, Lims.nil_ _ _, M.Top.nil, rfl, by omega, by omega⟩, Below.refl _ _⟩
  by_cases hm0 : m' = 0
  · subst hm0
    have hn1 : ((n' : Int) == 0) = false := by simp; omega
    have hz : Hid (M.val k * M.val l = 0) := by rw [hv.out, List.eq_nil_of_length_eq_zero g1.1]; exact (Nat.mul_zero _)
    clear hn0
    go_wp2_with fail
    go_ret
    exact ⟨_, rfl, by rw [hz.out]; exact ⟨none, 0, 0, [], rfl, Lims.nil_ _ _, M.Top.nil, rfl, by omega, by omega⟩, Below.refl _ _⟩
  have hn1 : ((n' : Int) == 0) = false := by simp; omega
  have hm1 : ((m' : Int) == 0) = false := by simp; omega
  have hnp : 0 < n' := by omega
  have hmp : 0 < m' := by omega
  clear hn0 hm0
  obtain ⟨p, hp⟩ : ∃ p, Hid (n' + m' = p) := ⟨_, rfl⟩
  have hpe : (n' : Int) + (m' : Int) = (p : Int) := by have := hp.out; omega
  have hp2 : p ≤ 2000000 := by have := hp.out; omega
  have hmk := make_any p (by omega)
  have hrow0 := Row.zeros_ w p
  have HB0 : Hid (Below w.heap.size w (w.alloc (.cells (zeros p) 43))) := (Below.refl _ _).alloc (Nat.le_refl _) _
  have HST : Hid (M.MulInv a b (List.replicate p 0) n' m' 0) := by rw [← hp.out]; exact M.MulInv.start a b n' m'
  have HA1 : Hid (a.length = n') := h1.1
  have HB1 : Hid (b.length = m') := g1.1
  go_wp2_with fail
  go_loopw [27] (fun iv wr => ∃ (i : Nat) (L : List Nat), i ≤ n' ∧ iv = .int .i64 i ∧ Row wr w.heap.size L ∧ M.MulInv a b L n' m' i ∧ Below w.heap.size w wr) (fun iv _ => n' - (intOf iv).toNat)
  case atStart => exact ⟨0, _, by omega, rfl, hrow0, HST.out, HB0.out⟩
  case round =>
    obtain ⟨i, L, hi, rfl, hrow, hinv, hbel⟩ := hrel
    have hll := hinv.len
    have HLL := Lib.hid (hll.trans hp.out)
    clear hll
    by_cases hlt : i < n'
    · obtain ⟨ab, ao, rfl, hab, hcs⟩ := h1.at_ (by omega)
      obtain ⟨x, HX, hx, hcx⟩ := hcs i hlt
      have hcx' : wr.cell? ⟨ab, ao + i, none⟩ = some (.int .u32 (x : Int)) := (hbel.cell hab).trans hcx
      clear hcs hcx
      obtain ⟨j, hj⟩ : ∃ j, Hid (i + m' = j) := ⟨_, rfl⟩
      have hje : (i : Int) + (m' : Int) = (j : Int) := by have := hj.out; omega
      have hij : i ≤ j := by have := hj.out; omega
      have hjp : j < p := by have := hj.out; have := hp.out; omega
      have hjw : IntKind.i64.wrap (j : Int) = (j : Int) := IntWalk.i64_in _ (by omega)
      have hip : ¬ p = i := by omega
      have hjl : j ≤ p := by omega
      have hxw : IntKind.u64.wrap (x : Int) = (x : Int) := IntWalk.u64_in _ (by omega)
      have hb2 := g1.below hbel
      have HC := Lib.hid fun (W : World) (nn cc : Nat) (q1 : Row W w.heap.size L) (q2 : Lims W B' m' b) (hnn : m' ≤ nn) => addTimes_any w.heap.size i m' nn cc d' x B' b L W q1 hinv.fit q2 (by
        intro b1 o1 e
        obtain ⟨b2, o2, e2, h2, _⟩ := g1.2.2 hmp
        rw [e2] at e
        injection e with e
        injection e with e
        omega) (by rw [HLL.out, hj.out]; omega) hnn (by rw [HLL.out]; omega) hx
      go_wp2_with fail
      go_region_with (go_at_call 41; go_loud (refine (HC.out _ _ _ (by exact hrow) (by exact hb2) (by have := hj.out; omega)).mono ?_); rintro e w2 ⟨L2, cy, rfl, r2, g2, t2⟩; obtain ⟨old, hst⟩ : ∃ old : Nat, w2.cell? ⟨w.heap.size, j, none⟩ = some (.int .u32 (old : Int)) := ⟨_, r2.cell (by rw [t2.len, HLL.out]; exact hjp)⟩; have hfr := r2.frozen j)
      all_goals
        have HR : Hid (Row (w2.setCell ⟨w.heap.size, j, none⟩ (.int .u32 (cy : Int))) w.heap.size (L2.set (i + m') cy)) := by rw [hj.out]; exact r2.set_ j cy
        have HB : Hid (Below w.heap.size w (w2.setCell ⟨w.heap.size, j, none⟩ (.int .u32 (cy : Int)))) := ((Below.drew hbel).grown g2 (by exact hbel.size) (by intro q hq; injection hq with hq; omega)).setCell (Nat.le_refl _) _
        have hinv2 := hinv.step hlt HB1.out HX.out t2
        clear r2 g2 t2 hst hfr HC hinv hrow
        go_wp2_with fail
        go_roundw
        case rel => exact ⟨i + 1, _, by omega, by go_num, by exact HR.out, hinv2, by first | exact HB.out | exact HB.out.drew | exact below_drewN HB.out _⟩
        case measure => simp [intOf]; omega
    · obtain rfl : i = n' := by omega
      have hs2 : Hid (M.val L = M.val k * M.val l) := by
        have := hinv.sum
        rw [List.take_of_length_le (by rw [HA1.out]; exact Nat.le_refl _)] at this
        exact this.trans hv.out.symm
      have HT2 := Lib.hid (trim_any (some ⟨w.heap.size, 0, none⟩) p p L wr (hrow.lims hinv.fit HLL.out) (Nat.le_refl _) (by unfold maxLen; omega))
      clear hinv
      go_wp2_with fail
      refine HT2.out.mono ?_
      rintro e w2 hT
      obtain ⟨A3, n3, c3, rfl, hT⟩ := hT
      go_wp2_with fail
      go_ret
      have := Trimmed.gives (W := w) ⟨A3, n3, c3, rfl, hT⟩ (by unfold maxLen; omega) hbel
      rw [hs2.out] at this
      exact this
end Go.Proofs.Ytefkkmnhnldcbaa
