/- The code's step, falls. -/
import Derived.Test.YtdpbglofijpfnaaUC
namespace Go.Proofs.Ytdpbglofijpfnaa
open Go.RowKit

set_option maxRecDepth 100000 in
set_option maxHeartbeats 4000000 in
theorem kstep8 (w : World) (A : Option Addr) (n c : Nat) (L : List (Int × Int)) (B : Option Addr) (m d : Nat) (F : List Int) (q0 : Nat) (x1 x2 : Int) (Wl : List (Int × Int)) (h : RunS w A n L) (hF : NumS w B m F) (hn : n ≤ 1000000) (hnm : n ≤ m)
    (hk : Tx.IsK L Wl q0) (hgood : ∀ j, j < q0 → ∃ p : Nat, F[j]? = some (p : Int) ∧ Tx.IsK L ((L.take (j + 1)).drop 1) p) :
    Calls Try.prog 51 #[.slice A n c, .slice B m d, .int .i64 q0, .agg #[.int .i64 x1, .int .i64 x2]] w fun e w' => (∃ q : Nat, e = .returned (.int .i64 q) ∧ Tx.IsK L (Wl ++ [(x1, x2)]) q) ∧ Below w.heap.size w w' := by
  have hlen := h.len
  have hq0 : q0 ≤ n := by have := hk.le; omega
  have HK := Lib.hid (hk.can (x1, x2))
  have HG := Lib.hid hgood
  have HL := Lib.hid h
  have HF := Lib.hid hF
  have HLen := Lib.hid hlen
  clear hk hgood h hF hlen
  go_enter Try.func51, Try.ntmps51
  go_wp2
  obtain ⟨w1, hw1⟩ : ∃ w1, w.alloc (.cells #[.int .i64 x1, .int .i64 x2] 38) = w1 := ⟨_, rfl⟩
  have hb1 : Below w.heap.size w w1 := by rw [← hw1]; exact (Below.refl _ w).alloc (Nat.le_refl _) _
  have HX : Hid (Lies w1 w.heap.size 38 #[.int .i64 x1, .int .i64 x2]) := by rw [← hw1]; exact Lies.new w _ _
  rw [hw1]
  have HB1 := Lib.hid hb1
  clear hw1 hb1
  go_loopw [2] (fun kv wr => ∃ q : Nat, kv = .int .i64 (q : Nat) ∧ q ≤ q0 ∧ Hid (Tx.Can L Wl (x1, x2) q ∧ Below w1.heap.size w1 wr)) (fun kv _ => (intOf kv).toNat)
  case atStart => exact ⟨q0, rfl, Nat.le_refl _, HK.out, Below.refl _ _⟩
  case round =>
    obtain ⟨q, rfl, hq, HI⟩ := hrel
    have hbw : Below w.heap.size w wr := HB1.out.trans (HI.out.2.mono HB1.out.size)
    have lX : Lies wr w.heap.size 38 #[.int .i64 x1, .int .i64 x2] := (HI.out.2.block _ HX.out.lt).trans HX.out
    have cx1 : wr.cell? ⟨w.heap.size, 0, none⟩ = some (.int .i64 x1) := by rw [lX.cell]; rfl
    have cx2 : wr.cell? ⟨w.heap.size, 1, none⟩ = some (.int .i64 x2) := by rw [lX.cell]; rfl
    have HBd : Hid (∀ k, Below w.heap.size w (wr.drewN k) ∧ Below w1.heap.size w1 (wr.drewN k)) := fun k => by
      have hbd : Below wr.heap.size wr (wr.drewN k) := Turn.none_ ((Turn.refl (fun _ => False) wr).drewN k) (fun _ => id)
      exact ⟨hbw.trans (hbd.mono hbw.size), HI.out.2.trans (hbd.mono HI.out.2.size)⟩
    have hq1 : (0 : Int) ≤ (q : Int) := by omega
    by_cases hqn : q < n
    · obtain ⟨b, off, ⟨y1, y2⟩, rfl, hy, _, _, hc⟩ := HL.out.get hqn
      obtain ⟨_, cy1, cy2⟩ := hc wr hbw
      have hqn' : (q : Int) < (n : Int) := by omega
      have hqd : decide ((q : Int) < (n : Int)) = true := decide_eq_true hqn'
      have hqe : ((q : Int) == (n : Int)) = false := beq_eq_false_iff_ne.2 (by omega)
      by_cases hxy : y1 = x1 ∧ y2 = x2
      · -- the next one is r
        obtain ⟨rfl, rfl⟩ := hxy
        have HN := Lib.hid (HI.out.1.next hy)
        clear hc HI hbw lX hy HG
        rcases Nat.eq_zero_or_pos q with e | e
        · have hg : decide ((0 : Int) < (q : Int)) = false := decide_eq_false (by omega)
          have hgN : decide (0 < q) = false := decide_eq_false (by omega)
          clear e
          go_wp2
          go_quiet (fail)
          go_wp2
          obtain ⟨n1, hn1⟩ : ∃ n1, nq = n1 := ⟨_, rfl⟩
          rw [hn1]
          go_quiet (fail)
          go_wp2
          go_ret
          exact ⟨⟨q + 1, by go_num, HN.out⟩, by first | exact (HBd.out _).1 | (rw [World.drewN_drewN]; exact (HBd.out _).1)⟩
        · have hg : decide ((0 : Int) < (q : Int)) = true := decide_eq_true (by omega)
          go_wp2
          go_quiet (fail)
          go_wp2
          obtain ⟨n1, hn1⟩ : ∃ n1, nq = n1 := ⟨_, rfl⟩
          rw [hn1]
          go_quiet (fail)
          go_wp2
          go_ret
          exact ⟨⟨q + 1, by go_num, HN.out⟩, by first | exact (HBd.out _).1 | (rw [World.drewN_drewN]; exact (HBd.out _).1)⟩
      · have HNE : Hid (L[q]? ≠ some (x1, x2)) := fun e => hxy (by rw [hy] at e; cases e; exact ⟨rfl, rfl⟩)
        rcases Nat.eq_zero_or_pos q with e | e
        · subst e
          have HN := Lib.hid (HI.out.1.stop HNE.out)
          simp only [Nat.zero_mul, Nat.add_zero] at cy1 cy2
          clear hc HI hbw lX hy HG HNE
          rcases Classical.em (y1 = x1) with h1 | h1
          · have h2 : ¬ y2 = x2 := fun e => hxy ⟨h1, e⟩
            subst h1
            clear hxy
            go_wp2
            go_quiet (fail)
            go_wp2
            obtain ⟨n1, hn1⟩ : ∃ n1, nq = n1 := ⟨_, rfl⟩
            rw [hn1]
            go_quiet (fail)
            go_wp2
            go_ret
            exact ⟨⟨0, rfl, HN.out⟩, by first | exact (HBd.out _).1 | (rw [World.drewN_drewN]; exact (HBd.out _).1)⟩
          · clear hxy
            go_wp2
            go_quiet (fail)
            go_wp2
            obtain ⟨n1, hn1⟩ : ∃ n1, nq = n1 := ⟨_, rfl⟩
            rw [hn1]
            go_quiet (fail)
            go_wp2
            go_ret
            exact ⟨⟨0, rfl, HN.out⟩, by first | exact (HBd.out _).1 | (rw [World.drewN_drewN]; exact (HBd.out _).1)⟩
        · have hg : decide ((0 : Int) < (q : Int)) = true := decide_eq_true (by omega)
          have hq9 : (0 : Int) ≤ (q : Int) - 1 := by omega
          obtain ⟨p, hp, hpK⟩ := HG.out (q - 1) (by omega)
          rw [show q - 1 + 1 = q by omega] at hpK
          have HCn := Lib.hid (HI.out.1.back HNE.out hpK)
          have hpq : p ≤ q0 := by
            have := hpK.end_.length_le
            rw [List.length_take, List.length_drop, List.length_take] at this
            have := hpK.le
            omega
          have hpq' : p < q := by
            have := hpK.end_.length_le
            rw [List.length_take, List.length_drop, List.length_take] at this
            have := hpK.le
            omega
          obtain ⟨bB, oB, z, rfl, hz, _, _, hcB⟩ := HF.out.get (i := q - 1) (by omega)
          rw [hp] at hz
          cases hz
          obtain ⟨_, cz⟩ := hcB wr hbw
          obtain ⟨r, hr⟩ : ∃ r, q - 1 = r := ⟨_, rfl⟩
          rw [hr] at cz
          have hri : (q : Int) - 1 = (r : Int) := by omega
          have hr0 : (0 : Int) ≤ (r : Int) := by omega
          have hrm : (r : Int) < (m : Int) := by omega
          have hrw : IntKind.i64.wrap (r : Int) = (r : Int) := IntWalk.i64_in _ (by omega)
          clear HI hbw lX HG hp hpK hcB hc hy HNE
          rcases Classical.em (y1 = x1) with h1 | h1
          · have h2 : ¬ y2 = x2 := fun e => hxy ⟨h1, e⟩
            subst h1
            clear hxy
            go_wp2
            go_quiet (fail)
            go_wp2
            go_roundw
            case rel => exact ⟨p, rfl, hpq, HCn.out, (HBd.out _).2⟩
            case measure => simp [intOf]; omega
          · clear hxy
            go_wp2
            go_quiet (fail)
            go_wp2
            go_roundw
            case rel => exact ⟨p, rfl, hpq, HCn.out, (HBd.out _).2⟩
            case measure => simp [intOf]; omega
    · obtain rfl : q = n := by omega
      have HNE : Hid (L[q]? ≠ some (x1, x2)) := fun e => by
        have := (List.getElem?_eq_some_iff.1 e).1
        rw [HLen.out] at this
        omega
      have hqe : ((q : Int) == (q : Int)) = true := beq_self_eq_true _
      have hqn' : decide ((q : Int) < (q : Int)) = false := decide_eq_false (by omega)
      rcases Nat.eq_zero_or_pos q with e | e
      · subst e
        have HN := Lib.hid (HI.out.1.stop HNE.out)
        clear HI hbw lX HG HNE
        go_wp2
        go_quiet (fail)
        go_wp2
        obtain ⟨n1, hn1⟩ : ∃ n1, nq = n1 := ⟨_, rfl⟩
        rw [hn1]
        go_quiet (fail)
        go_wp2
        go_ret
        exact ⟨⟨0, rfl, HN.out⟩, by first | exact (HBd.out _).1 | (rw [World.drewN_drewN]; exact (HBd.out _).1)⟩
      · have hg : decide ((0 : Int) < (q : Int)) = true := decide_eq_true (by omega)
        have hq9 : (0 : Int) ≤ (q : Int) - 1 := by omega
        obtain ⟨p, hp, hpK⟩ := HG.out (q - 1) (by omega)
        rw [show q - 1 + 1 = q by omega] at hpK
        have HCn := Lib.hid (HI.out.1.back HNE.out hpK)
        have hpq : p ≤ q0 := by
          have := hpK.end_.length_le
          rw [List.length_take, List.length_drop, List.length_take] at this
          have := hpK.le
          omega
        have hpq' : p < q := by
          have := hpK.end_.length_le
          rw [List.length_take, List.length_drop, List.length_take] at this
          have := hpK.le
          omega
        obtain ⟨bB, oB, z, rfl, hz, _, _, hcB⟩ := HF.out.get (i := q - 1) (by omega)
        rw [hp] at hz
        cases hz
        obtain ⟨_, cz⟩ := hcB wr hbw
        obtain ⟨r, hr⟩ : ∃ r, q - 1 = r := ⟨_, rfl⟩
        rw [hr] at cz
        have hri : (q : Int) - 1 = (r : Int) := by omega
        have hr0 : (0 : Int) ≤ (r : Int) := by omega
        have hrm : (r : Int) < (m : Int) := by omega
        have hrw : IntKind.i64.wrap (r : Int) = (r : Int) := IntWalk.i64_in _ (by omega)
        clear HI hbw lX HG hp hpK hcB HNE
        go_wp2
        go_quiet (fail)
        go_wp2
        go_roundw
        case rel => exact ⟨p, rfl, hpq, HCn.out, (HBd.out _).2⟩
        case measure => simp [intOf]; omega
end Go.Proofs.Ytdpbglofijpfnaa
