/- nat: Sub: what it answers. -/
import Derived.Test.YtefkkmnhnldcbaaA4
namespace Go.Proofs.Ytefkkmnhnldcbaa
open Go.RowKit

/-- a number, and no error -/
def Gives1 (W : World) (N : Nat) (e : Ending) (w' : World) : Prop := ∃ v, e = .returned (.tuple #[v, .int .i64 0]) ∧ Num w' v N ∧ Below W.heap.size W w'

theorem cmp_lt {A B : Option Addr} {n m c d : Nat} {k l : List Nat} {w : World} (hk : Lims w A n k) (hl : Lims w B m l) (hn : n ≤ c) (hm : m ≤ d) (hc : c ≤ maxLen) (hd : d ≤ maxLen) (h : M.val k < M.val l) :
    Calls Try.prog 22 #[.slice A n c, .slice B m d] w fun e w' => e = .returned (.int .i64 (-1)) ∧ ∃ j, w' = w.drewN j := by
  have := cmp_any A B n m c d k l w hk hl hn hm hc hd
  rw [M.cmpI_lt h] at this
  exact this
theorem cmp_ge {A B : Option Addr} {n m c d : Nat} {k l : List Nat} {w : World} (hk : Lims w A n k) (hl : Lims w B m l) (hn : n ≤ c) (hm : m ≤ d) (hc : c ≤ maxLen) (hd : d ≤ maxLen) (h : M.val l ≤ M.val k) :
    ∃ z : Nat, Calls Try.prog 22 #[.slice A n c, .slice B m d] w fun e w' => e = .returned (.int .i64 (z : Int)) ∧ ∃ j, w' = w.drewN j := by
  have := cmp_any A B n m c d k l w hk hl hn hm hc hd
  rcases Nat.lt_or_ge (M.val l) (M.val k) with h1 | h1
  · rw [M.cmpI_gt h1] at this
    exact ⟨1, this⟩
  · obtain e : M.val k = M.val l := by omega
    rw [e, M.cmpI_eq] at this
    exact ⟨0, this⟩

theorem sub_err (A B : Option Addr) (n m c d : Nat) (k l : List Nat) (w : World) (hk : Lims w A n k) (hl : Lims w B m l) (hn : n ≤ c) (hm : m ≤ d) (hc : c ≤ maxLen) (hd : d ≤ maxLen) (hlt : M.val k < M.val l) :
    Calls Try.prog 20 #[.slice A n c, .slice B m d] w fun e w' => e = .returned (.tuple #[.slice none 0 0, .int .i64 6]) ∧ ∃ j, w' = w.drewN j := by
  go_enter Try.func20, Try.ntmps20
  go_wp2_with fail
  refine (trim_any _ _ _ _ _ hk hn hc).mono ?_
  rintro e w1 ⟨A', n', c', rfl, h1, h2, h3, h4, h5, h6, rfl⟩
  go_wp2_with fail
  refine (trim_any _ _ _ _ _ hl hm hd).mono ?_
  rintro e w1 ⟨B', m', d', rfl, g1, g2, g3, g4, g5, g6, rfl⟩
  have HC := Lib.hid (cmp_lt h1 g1 h5 g5 (by omega) (by omega) (by rw [h3, g3]; exact hlt))
  clear h3 g3 h2 g2 hlt
  go_wp2_with fail
  refine HC.out.mono ?_
  rintro e w1 ⟨rfl, j, rfl⟩
  go_wp2_with fail
  go_ret2
  exact ⟨rfl, j, rfl⟩

/-- one limb's difference, as Go reckons it -/
theorem sub_word (x y c : Nat) (hx : x ≤ 4294967295) (hy : y ≤ 4294967295) (hc : c ≤ 1) :
    ∃ u t v c' : Nat, IntKind.u64.wrap ((x : Int) - (y : Int)) = (u : Int) ∧ IntKind.u64.wrap ((u : Int) - (c : Int)) = (t : Int) ∧ (t : Int) % 4294967296 = (v : Int) ∧ (t : Int) / 9223372036854775808 = (c' : Int) ∧
      v ≤ 4294967295 ∧ c' ≤ 1 ∧ v + y + c = x + 4294967296 * c' := by
  rw [IntKind.wrap_u64]
  refine ⟨(x + 18446744073709551616 - y) % 18446744073709551616, ((x + 18446744073709551616 - y) % 18446744073709551616 + 18446744073709551616 - c) % 18446744073709551616,
    (((x + 18446744073709551616 - y) % 18446744073709551616 + 18446744073709551616 - c) % 18446744073709551616) % 4294967296,
    (((x + 18446744073709551616 - y) % 18446744073709551616 + 18446744073709551616 - c) % 18446744073709551616) / 9223372036854775808, ?_, ?_, ?_, ?_, ?_, ?_, ?_⟩
  · omega
  · rw [IntKind.wrap_u64]; omega
  · omega
  · omega
  · omega
  · omega
  · omega

set_option maxHeartbeats 2000000 in
theorem sub_ok (A B : Option Addr) (n m c d : Nat) (k l : List Nat) (w : World) (hk : Lims w A n k) (hl : Lims w B m l) (hn : n ≤ c) (hm : m ≤ d) (hc : c ≤ maxLen) (hd : d ≤ maxLen) (hs : n ≤ 1000000) (hle : M.val l ≤ M.val k) :
    Calls Try.prog 20 #[.slice A n c, .slice B m d] w (Gives1 w (M.val k - M.val l)) := by
  go_enter Try.func20, Try.ntmps20
  go_wp2_with fail
  refine (trim_any _ _ _ _ _ hk hn hc).mono ?_
  rintro e w1 ⟨A', n', c', rfl, h1, h2, h3, h4, h5, h6, rfl⟩
  go_wp2_with fail
  refine (trim_any _ _ _ _ _ hl hm hd).mono ?_
  rintro e w1 ⟨B', m', d', rfl, g1, g2, g3, g4, g5, g6, rfl⟩
  have hs' : n' ≤ 1000000 := by have := hk.1; omega
  obtain ⟨z, HC⟩ := cmp_ge h1 g1 h5 g5 (by omega) (by omega) (by rw [h3, g3]; exact hle)
  have HC := Lib.hid HC
  generalize k.take n' = a at *
  generalize l.take m' = b at *
  have hv : Hid (M.val k - M.val l = M.val a - M.val b) := by rw [h3, g3]; exact rfl
  have hle' : Hid (M.val b ≤ M.val a) := by rw [h3, g3]; exact hle
  have hmn : m' ≤ n' := by
    rcases Nat.lt_or_ge n' m' with h | h
    · have := M.lt_of_shorter h1.2.1 g2 (by rw [h1.1, g1.1]; exact h)
      have := hle'.out
      omega
    · exact h
  have ha : Hid (a.length = n') := h1.1
  have hb : Hid (b.length = m') := g1.1
  clear h3 g3 h2 g2 h4 g4 hk hl hn hm hs hle
  unfold maxLen at hc hd
  go_wp2_with fail
  refine HC.out.mono ?_
  rintro e w1 ⟨rfl, j0, rfl⟩
  have h1 := h1.drewN j0
  have g1 := g1.drewN j0
  have hb0 : Hid (Below w.heap.size w (w.drewN j0)) := below_drewN (Below.refl _ _) j0
  generalize w.drewN j0 = W at *
  have hmk := make_any n' (by omega)
  go_wp2_with (refine copy_any rfl (.tmp 21) (.tmp 22) rfl rfl rfl (Row.zeros_ _ _) (h1.below ((Below.refl _ _).alloc (Nat.le_refl _) _)) (Nat.le_refl _) ((Below.refl _ _).alloc (Nat.le_refl _) _) ?_; intro w2 hrow hbel)
  have hrow : Row w2 W.heap.size a := by rw [Nat.sub_self, List.replicate_zero, List.append_nil] at hrow; exact hrow
  go_loopw [7, 26] (fun cv iv wr => ∃ (i cy : Nat) (L : List Nat), i ≤ n' ∧ cy ≤ 1 ∧ iv = .int .i64 i ∧ cv = .int .u64 cy ∧ Row wr W.heap.size L ∧ M.SubInv a b L n' i cy ∧ Below W.heap.size W wr) (fun _ iv _ => n' - (intOf iv).toNat)
  case atStart => exact ⟨0, 0, _, by omega, by omega, rfl, rfl, hrow, M.SubInv.start ha.out h1.2.1, hbel⟩
  case round =>
    obtain ⟨i, cy, L, hi, hcy, rfl, rfl, hrow, hinv, hbel⟩ := hrel
    by_cases hlt : i < n'
    · have hmx : m' ≤ 9223372036854775807 := by omega
      rcases (show (m' ≤ i ∧ cy ≤ 0) ∨ i < m' ∨ (m' ≤ i ∧ 1 ≤ cy) from by omega) with ⟨hbr, hz⟩ | hbr
      · have HE := Lib.hid (hinv.end_ ha.out (by rw [hb.out]; omega) hi (.inr ⟨by rw [hb.out]; exact hbr, by omega⟩) hle'.out)
        have hll := hinv.len
        have HT := Lib.hid (trim_any (some ⟨W.heap.size, 0, none⟩) n' n' L wr (hrow.lims hinv.fit hll) (Nat.le_refl _) (by unfold maxLen; omega))
        clear hinv hrow hll
        go_wp2_with fail
        refine HT.out.mono ?_
        rintro e w3 hT
        obtain ⟨A3, n3, c3, rfl, t1, t2, t3, t4, t5, t6, rfl⟩ := hT
        have T2 := Lib.hid t2
        have T3 := Lib.hid (t3.trans (HE.out.trans hv.out.symm))
        clear t2 t3
        go_wp2_with fail
        go_ret2
        exact ⟨_, rfl, ⟨A3, n3, c3, _, rfl, t1, T2.out, T3.out, t5, by unfold maxLen; omega⟩, hb0.out.trans (hbel.mono hb0.out.size)⟩
      · obtain ⟨ab, ao, rfl, hab, hc1⟩ := h1.at_ (by omega)
        obtain ⟨x, HX, hx, hcx⟩ := hc1 i hlt
        obtain ⟨y, HY⟩ : ∃ y, Hid (y = b.getD i 0) := ⟨_, rfl⟩
        have hy : y ≤ 4294967295 := by rw [HY.out]; exact fit_of g1.2.1 i
        have hcx' : wr.cell? ⟨ab, ao + i, none⟩ = some (.int .u32 (x : Int)) := (hbel.cell hab).trans hcx
        clear hc1 hcx
        have hst : wr.cell? ⟨W.heap.size, i, none⟩ = some (.int .u32 ((L.getD i 0 : Nat) : Int)) := hrow.cell (by rw [hinv.len]; omega)
        have hfr := hrow.frozen i
        generalize L.getD i 0 = old at hst
        obtain ⟨u, t, v, c', hu, ht, hv1, hv2, hvb, hcb, hve⟩ := sub_word x y cy hx hy hcy
        have hinv2 := hinv.step (v := v) (c' := c') hlt HX.out HY.out (by rw [M.BB_eq]; omega) hcb (by rw [M.BB_eq]; exact hve)
        have HR := Lib.hid fun q => (hrow.drewN q).set_ i v
        have HB : Hid (∀ (q : Nat) (v : Value), Below W.heap.size W ((wr.drewN q).setCell ⟨W.heap.size, i, none⟩ v)) := fun q v => (below_drewN hbel q).setCell (Nat.le_refl _) v
        have HV2 := Lib.hid hv2
        clear hv2 hve hinv
        rcases hbr with hbr | ⟨hbr, hb1⟩
        all_goals
          go_wp2_with fail
          go_quiet ((go_at_call 39; exact Calls.quiet_of_same (limb_q ((g1.below hbel).drewN _) (by unfold maxLen; omega) (by unfold maxLen; omega) HY)))
          go_wp2_with fail
          go_roundw
          case rel => exact ⟨i + 1, c', _, by omega, hcb, by go_num, by rw [HV2.out], HR.out _, hinv2, HB.out _ _⟩
          case measure => simp [intOf]; omega
    · have HE := Lib.hid (hinv.end_ ha.out (by rw [hb.out]; omega) hi (.inl (by omega)) hle'.out)
      have hll := hinv.len
      have HT := Lib.hid (trim_any (some ⟨W.heap.size, 0, none⟩) n' n' L wr (hrow.lims hinv.fit hll) (Nat.le_refl _) (by unfold maxLen; omega))
      clear hinv hrow hll
      go_wp2_with fail
      refine HT.out.mono ?_
      rintro e w3 hT
      obtain ⟨A3, n3, c3, rfl, t1, t2, t3, t4, t5, t6, rfl⟩ := hT
      have T2 := Lib.hid t2
      have T3 := Lib.hid (t3.trans (HE.out.trans hv.out.symm))
      clear t2 t3
      go_wp2_with fail
      go_ret2
      exact ⟨_, rfl, ⟨A3, n3, c3, _, rfl, t1, T2.out, T3.out, t5, by unfold maxLen; omega⟩, hb0.out.trans (hbel.mono hb0.out.size)⟩
end Go.Proofs.Ytefkkmnhnldcbaa
