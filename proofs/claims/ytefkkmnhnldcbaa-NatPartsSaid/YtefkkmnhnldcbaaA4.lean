/- nat: Add: what it answers. -/
import Derived.Test.YtefkkmnhnldcbaaA3
import Derived.Deep.DeepCutAuto
namespace Go.Proofs.Ytefkkmnhnldcbaa
open Go.RowKit

theorem limb_q {A : Option Addr} {n c i x : Nat} {l : List Nat} {w : World} (h : Lims w A n l) (hc : n ≤ maxLen) (hi : i ≤ maxLen) (hx : Hid (x = l.getD i 0)) :
    Calls Try.prog 39 #[.slice A n c, .int .i64 i] w fun e w' => e = .returned (.int .u64 (x : Nat)) ∧ w' = w :=
  (limb_at h hc hi hx).mono fun _ _ ⟨h1, h2⟩ => ⟨h1, h2.symm⟩

theorem fit_of {l : List Nat} (h : M.Fit l) (i : Nat) : l.getD i 0 ≤ 4294967295 := by have := h i; rw [M.BB_eq] at this; omega

set_option maxHeartbeats 1000000 in
theorem add_any (A B : Option Addr) (n m c d : Nat) (k l : List Nat) (w : World) (hk : Lims w A n k) (hl : Lims w B m l) (hn : n ≤ c) (hm : m ≤ d) (hc : c ≤ maxLen) (hd : d ≤ maxLen) (hs : n ≤ 1000000) (ht : m ≤ 1000000) :
    Calls Try.prog 16 #[.slice A n c, .slice B m d] w (Gives w (M.val k + M.val l)) := by
  go_enter Try.func16, Try.ntmps16
  go_wp2_with fail
  refine (trim_any _ _ _ _ _ hk hn hc).mono ?_
  rintro e w1 ⟨A', n', c', rfl, h1, h2, h3, h4, h5, h6, rfl⟩
  go_wp2_with fail
  refine (trim_any _ _ _ _ _ hl hm hd).mono ?_
  rintro e w1 ⟨B', m', d', rfl, g1, g2, g3, g4, g5, g6, rfl⟩
  have hs' : n' ≤ 1000000 := by have := hk.1; omega
  have ht' : m' ≤ 1000000 := by have := hl.1; omega
  generalize k.take n' = k' at *
  generalize l.take m' = l' at *
  have hr : Hid (M.val k + M.val l = M.val k' + M.val l') := by rw [h3, g3]; exact rfl
  clear h3 g3 h2 g2 h4 g4 hk hl hn hm hs ht
  unfold maxLen at hc hd
  go_upto_if 17 with (fail)
  go_cut [0, 1] (fun s0 s1 wc => wc = w ∧ ∃ (A : Option Addr) (n c : Nat) (a : List Nat) (B : Option Addr) (m d : Nat) (b : List Nat), s0 = .slice A n c ∧ s1 = .slice B m d ∧ Lims w A n a ∧ Lims w B m b ∧ n ≤ c ∧ m ≤ d ∧ c ≤ maxLen ∧ d ≤ maxLen ∧ n ≤ 1000000 ∧ m ≤ n ∧ Hid (M.val k' + M.val l' = M.val a + M.val b))
  case first =>
    by_cases hlt : n' < m'
    · go_wp2_with fail
      go_meet
      exact ⟨rfl, _, _, _, _, _, _, _, _, rfl, rfl, g1, h1, g5, h5, by unfold maxLen; omega, by unfold maxLen; omega, ht', by omega, Nat.add_comm _ _⟩
    · go_wp2_with fail
      go_meet
      exact ⟨rfl, _, _, _, _, _, _, _, _, rfl, rfl, h1, g1, h5, g5, by unfold maxLen; omega, by unfold maxLen; omega, hs', by omega, rfl⟩
  case rest =>
    clear h1 g1 h5 g5 h6 g6 hs' ht' hc hd
    obtain ⟨rfl, A, n, c, a, B, m, d, b, rfl, rfl, h1, g1, h5, g5, hc, hd, hs, hmn, hv⟩ := hcut
    have hv : Hid (M.val k + M.val l = M.val a + M.val b) := hr.out.trans hv.out
    clear hr
    unfold maxLen at hc hd
    have hm1 : ((n : Nat) : Int) + 1 = ((n + 1 : Nat) : Int) := by omega
    have hmk : ∀ W : World, (Instr.makeSlice 22 (.int .i64 ((n : Int) + 1)) (.int .i64 ((n : Int) + 1))).run Try.prog W = .ok (.slice (some ⟨W.heap.size, 0, none⟩) (n + 1) (n + 1)) (W.alloc (.cells (zeros (n + 1)) 43)) := by
      intro W; rw [hm1]; exact make_any (n + 1) (by omega) W
    clear hm1
    go_wp2_with (refine copy_any rfl (.tmp 24) (.tmp 25) rfl rfl rfl (Row.zeros_ _ _) (h1.below ((Below.refl _ _).alloc (Nat.le_refl _) _)) (Nat.le_succ _) ((Below.refl _ _).alloc (Nat.le_refl _) _) ?_; intro w2 hrow hbel)
    have ha : Hid (a.length = n) := h1.1
    have hb : Hid (b.length = m) := g1.1
    have hrow : Row w2 wc.heap.size (a ++ [0]) := by rw [show n + 1 - n = 1 from by omega] at hrow; exact hrow
    go_loopw [6, 29] (fun cv iv wr => ∃ (i cy : Nat) (L : List Nat), i ≤ n ∧ cy ≤ 1 ∧ iv = .int .i64 i ∧ cv = .int .u64 cy ∧ Row wr wc.heap.size L ∧ M.AddInv a b L n i cy ∧ Below wc.heap.size wc wr) (fun _ iv _ => n - (intOf iv).toNat)
    case atStart => exact ⟨0, 0, _, by omega, by omega, rfl, rfl, hrow, M.AddInv.start ha.out h1.2.1, hbel⟩
    case round =>
      obtain ⟨i, cy, L, hi, hcy, rfl, rfl, hrow, hinv, hbel⟩ := hrel
      by_cases hlt : i < n
      · have hmx : m ≤ 9223372036854775807 := by omega
        rcases (show (m ≤ i ∧ cy ≤ 0) ∨ i < m ∨ (m ≤ i ∧ 1 ≤ cy) from by omega) with ⟨hbr, hz⟩ | hbr
        · have HE := Lib.hid (hinv.end_ ha.out (by rw [hb.out]; omega) hi (.inr ⟨by rw [hb.out]; exact hbr, by omega⟩))
          have hst : wr.cell? ⟨wc.heap.size, n, none⟩ = some (.int .u32 ((L.getD n 0 : Nat) : Int)) := hrow.cell (by rw [hinv.len]; omega)
          have hfr := hrow.frozen n
          generalize L.getD n 0 = old at hst
          have HT := Lib.hid (trim_any (some ⟨wc.heap.size, 0, none⟩) (n + 1) (n + 1) (L.set n cy) (wr.setCell ⟨wc.heap.size, n, none⟩ (.int .u32 (cy : Int))) ((hrow.set_ n cy).lims (hinv.fit.set _ _ (by rw [M.BB_eq]; omega)) (by simp [hinv.len])) (Nat.le_refl _) (by unfold maxLen; omega))
          have HB := Lib.hid (hbel.setCell (p := ⟨wc.heap.size, n, none⟩) (Nat.le_refl _) (.int .u32 (cy : Int)))
          clear hinv hrow hbel
          go_wp2_with fail
          refine HT.out.mono ?_
          rintro e w3 hT
          obtain ⟨A3, n3, c3, rfl, hT⟩ := hT
          go_wp2_with fail
          go_ret
          have := Trimmed.gives (W := wc) ⟨A3, n3, c3, rfl, hT⟩ (by unfold maxLen; omega) HB.out
          rw [HE.out, ← hv.out] at this
          exact this
        · obtain ⟨ab, ao, rfl, hab, hc1⟩ := h1.at_ (by omega)
          obtain ⟨x, HX, hx, hcx⟩ := hc1 i hlt
          obtain ⟨y, HY⟩ : ∃ y, Hid (y = b.getD i 0) := ⟨_, rfl⟩
          have hy : y ≤ 4294967295 := by rw [HY.out]; exact fit_of g1.2.1 i
          have hcx' : wr.cell? ⟨ab, ao + i, none⟩ = some (.int .u32 (x : Int)) := (hbel.cell hab).trans hcx
          clear hc1 hcx
          have hst : wr.cell? ⟨wc.heap.size, i, none⟩ = some (.int .u32 ((L.getD i 0 : Nat) : Int)) := hrow.cell (by rw [hinv.len]; omega)
          have hfr := hrow.frozen i
          generalize L.getD i 0 = old at hst
          have hr2 : ∀ q, Row ((wr.drewN q).setCell ⟨wc.heap.size, i, none⟩ (.int .u32 (((x : Int) + y + cy) % 4294967296))) wc.heap.size (L.set i ((x + y + cy) % M.BB)) := fun q => (hrow.drewN q).set_' i _ (by rw [M.BB_eq]; omega)
          have hbel2 : ∀ (q : Nat) (v : Value), Below wc.heap.size wc ((wr.drewN q).setCell ⟨wc.heap.size, i, none⟩ v) := fun q v => (below_drewN hbel q).setCell (Nat.le_refl _) v
          have hinv2 := hinv.step (t := x + y + cy) hlt HX.out HY.out (by rw [M.BB_eq]; omega) (by rw [M.BB_eq]; omega) rfl
          have hcy2 := hinv2.carry
          have HR := Lib.hid hr2
          have HB := Lib.hid hbel2
          have hcr : Hid ((((x + y + cy) / M.BB : Nat) : Int) = ((x : Int) + y + cy) / 4294967296) := by rw [M.BB_eq]; exact (show _ = _ from by omega)
          clear hr2 hbel2
          rcases hbr with hbr | ⟨hbr, hb1⟩
          all_goals
            go_wp2_with fail
            go_quiet ((go_at_call 39; exact Calls.quiet_of_same (limb_q ((g1.below hbel).drewN _) (by unfold maxLen; omega) (by unfold maxLen; omega) HY)))
            go_wp2_with fail
            go_roundw
            case rel => exact ⟨i + 1, _, _, by omega, hcy2, by go_num, by rw [hcr.out], HR.out _, hinv2, HB.out _ _⟩
            case measure => simp [intOf]; omega
      · have HE := Lib.hid (hinv.end_ ha.out (by rw [hb.out]; omega) hi (.inl (by omega)))
        have hst : wr.cell? ⟨wc.heap.size, n, none⟩ = some (.int .u32 ((L.getD n 0 : Nat) : Int)) := hrow.cell (by rw [hinv.len]; omega)
        have hfr := hrow.frozen n
        generalize L.getD n 0 = old at hst
        have HT := Lib.hid (trim_any (some ⟨wc.heap.size, 0, none⟩) (n + 1) (n + 1) (L.set n cy) (wr.setCell ⟨wc.heap.size, n, none⟩ (.int .u32 (cy : Int))) ((hrow.set_ n cy).lims (hinv.fit.set _ _ (by rw [M.BB_eq]; omega)) (by simp [hinv.len])) (Nat.le_refl _) (by unfold maxLen; omega))
        have HB := Lib.hid (hbel.setCell (p := ⟨wc.heap.size, n, none⟩) (Nat.le_refl _) (.int .u32 (cy : Int)))
        clear hinv hrow hbel
        go_wp2_with fail
        refine HT.out.mono ?_
        rintro e w3 hT
        obtain ⟨A3, n3, c3, rfl, hT⟩ := hT
        go_wp2_with fail
        go_ret
        have := Trimmed.gives (W := wc) ⟨A3, n3, c3, rfl, hT⟩ (by unfold maxLen; omega) HB.out
        rw [HE.out, ← hv.out] at this
        exact this

end Go.Proofs.Ytefkkmnhnldcbaa
