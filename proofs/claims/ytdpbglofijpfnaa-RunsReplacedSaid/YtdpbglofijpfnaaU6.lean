/- Pieces of slices of runs; the code's Prefix, Suffix. -/
import Derived.Test.YtdpbglofijpfnaaU5
import Derived.Deep.RegionHeld3
namespace Go.Proofs.Ytdpbglofijpfnaa
open Go.RowKit

theorem rcut_size (W : World) : (sizeOf (Try.prog.elem 22)).run Try.prog W = .ok 2 W := by kernel_rfl
theorem rcut_h {b off n c k : Nat} (W : World) (hk : k ≤ c) : (Instr.slice 22 (.slice (some ⟨b, off, none⟩) n c) none (some (.int .i64 (k : Nat))) none).run Try.prog W = .ok (.slice (some ⟨b, off, none⟩) k c) W := by
  rw [run_slice_h W 22 _ n c (by kernel_rfl) .i64 (k : Nat) (by omega) (by omega), rcut_size]
  simp only [Result.andThen, sliced]
  split
  · simp
  · simp [addr_add]
theorem rcut_l {A : Option Addr} {n c k : Nat} (W : World) (hk : k ≤ n) : (Instr.slice 22 (.slice A n c) (some (.int .i64 (k : Nat))) none none).run Try.prog W = .ok (.slice (if c = k then A else A.map (·.add (k * 2))) (n - k) (c - k)) W := by
  rw [run_slice_l W 22 A n c (by kernel_rfl) .i64 (k : Nat) (by omega) (by omega), rcut_size]
  simp only [Result.andThen, sliced, Int.toNat_natCast]
theorem rcut_lh {A : Option Addr} {n c k m : Nat} (W : World) (hk : k ≤ m) (hm : m ≤ c) : (Instr.slice 22 (.slice A n c) (some (.int .i64 (k : Nat))) (some (.int .i64 (m : Nat))) none).run Try.prog W = .ok (.slice (if c = k then A else A.map (·.add (k * 2))) (m - k) (c - k)) W := by
  rw [run_slice_lh W 22 A n c (by kernel_rfl) .i64 .i64 (k : Nat) (m : Nat) (by omega) (by omega) (by omega), rcut_size]
  simp only [Result.andThen, sliced, Int.toNat_natCast]
theorem RunS.take {w : World} {A : Option Addr} {n k : Nat} {R : List (Int × Int)} (h : RunS w A n R) (hk : k ≤ n) : RunS w A k (R.take k) :=
  ⟨by rw [List.length_take, h.len]; omega, fun h0 => by
    obtain ⟨b, off, e, hlt, hc⟩ := h.at_ (by omega)
    refine ⟨b, off, e, hlt, fun i x hx => hc i x ?_⟩
    rw [List.getElem?_take] at hx
    split at hx
    · exact hx
    · cases hx⟩
theorem RunS.drop {w : World} {A : Option Addr} {n c k : Nat} {R : List (Int × Int)} (h : RunS w A n R) (hk : k ≤ n) (hc : n ≤ c) : RunS w (if c = k then A else A.map (·.add (k * 2))) (n - k) (R.drop k) :=
  ⟨by rw [List.length_drop, h.len], fun h0 => by
    obtain ⟨b, off, e, hlt, hq⟩ := h.at_ (by omega)
    rw [if_neg (by omega), e]
    refine ⟨b, off + k * 2, by simp [addr_add], hlt, fun i x hx => ?_⟩
    rw [List.getElem?_drop] at hx
    have := hq (k + i) x hx
    rw [show off + (k + i) * 2 = off + k * 2 + i * 2 by omega] at this
    exact this⟩
theorem RunS.two {w : World} {A : Option Addr} {n i : Nat} {R : List (Int × Int)} (h : RunS w A n R) (hi : i < n) : ∃ x : Int × Int, R[i]? = some x := by
  obtain ⟨_, _, x, _, hx, _⟩ := h.get hi
  exact ⟨x, hx⟩
theorem Below.drew_ (w : World) (B : Nat) : Below B w w.drew := ⟨rfl, rfl, rfl, Nat.le_refl _, fun _ _ => rfl⟩

set_option maxRecDepth 100000 in
set_option maxHeartbeats 4000000 in
theorem kprefix8 (w : World) (A : Option Addr) (n c : Nat) (R : List (Int × Int)) (B : Option Addr) (m d : Nat) (S : List (Int × Int)) (h : Txt w A n R) (h' : Txt w B m S) (hc : n ≤ c) (hd : m ≤ d) :
    Calls Try.prog 20 #[.slice A n c, .slice B m d] w fun e w' => e = .returned (.bool (Tx.prefB R S)) ∧ Below w.heap.size w w' := by
  have hn := h.few
  have hm := h'.few
  have H1 := Lib.hid (kmayr w A n c R h.runs (by omega))
  have H2 := Lib.hid fun W (hW : Below w.heap.size w W) => kmayr W B m d S (h'.below hW).runs (by omega)
  by_cases hok : Tx.May R ∧ Tx.May S
  case neg =>
    have hand : (Tx.mayB R && Tx.mayB S) = false := by
      by_cases ha : Tx.May R
      · rw [Tx.mayB_false fun hs => hok ⟨ha, hs⟩, Bool.and_false]
      · rw [Tx.mayB_false ha]; rfl
    have hX : Tx.prefB R S = false := by unfold Tx.prefB; rw [hand]; rfl
    rw [hX]
    generalize Tx.mayB R = x at H1 hand
    generalize Tx.mayB S = y at H2 hand
    have hxy : x = false ∨ x = true ∧ y = false := by cases x <;> cases y <;> simp at hand ⊢
    clear h h' hok hX hand
    rcases hxy with rfl | ⟨rfl, rfl⟩
    all_goals
      go_enter Try.func20, Try.ntmps20
      go_wp2_with fail
      refine H1.out.mono ?_
      rintro e w1 ⟨rfl, b1⟩
      have B1 := Lib.hid b1
      clear b1
      go_wp2_with (go_at_call 16; refine (H2.out _ B1.out).mono ?_; rintro e w2 ⟨rfl, b2⟩)
      go_ret
      first
        | exact ⟨rfl, B1.out.trans (b2.mono B1.out.size)⟩
        | exact ⟨rfl, B1.out⟩
  case pos =>
    obtain ⟨ha, hs⟩ := hok
    have hX : Tx.prefB R S = Tx.pre R S := by
      unfold Tx.prefB
      rw [Tx.mayB_true ha, Tx.mayB_true hs, Bool.true_and, Bool.true_and, Bool.eq_iff_iff, Tx.stands_zero, Tx.pre_iff R S ha.own hs.own]
    rw [hX]
    rw [Tx.mayB_true ha] at H1
    rw [Tx.mayB_true hs] at H2
    by_cases hnm : m < n
    · have hP : Tx.pre R S = false := by
        rw [Bool.eq_false_iff]
        intro e
        rcases (Tx.pre_form R S).1 e with rfl | ⟨a, x, y, U, h1, h2, _⟩
        · have := h.runs.len
          simp at this
          omega
        · have e1 := h.runs.len
          have e2 := h'.runs.len
          rw [h1] at e1
          rw [h2] at e2
          simp at e1 e2
          omega
      rw [hP]
      clear h h' ha hs hX hP
      go_enter Try.func20, Try.ntmps20
      go_wp2_with fail
      refine H1.out.mono ?_
      rintro e w1 ⟨rfl, b1⟩
      have B1 := Lib.hid b1
      clear b1 H1
      go_wp2_with fail
      refine (H2.out _ B1.out).mono ?_
      rintro e w2 ⟨rfl, b2⟩
      have B2 := Lib.hid (B1.out.trans (b2.mono B1.out.size))
      clear b2 H2 B1
      go_wp2
      go_ret
      exact ⟨rfl, B2.out⟩
    have hmn : n ≤ m := by omega
    clear hnm
    cases n with
    | zero =>
      have hP : Tx.pre R S = true := by
        obtain rfl := List.eq_nil_of_length_eq_zero h.runs.len
        rfl
      rw [hP]
      clear h h' ha hs hX hP
      go_enter Try.func20, Try.ntmps20
      go_wp2_with fail
      refine H1.out.mono ?_
      rintro e w1 ⟨rfl, b1⟩
      have B1 := Lib.hid b1
      clear b1 H1
      go_wp2_with fail
      refine (H2.out _ B1.out).mono ?_
      rintro e w2 ⟨rfl, b2⟩
      have B2 := Lib.hid (B1.out.trans (b2.mono B1.out.size))
      clear b2 H2 B1
      go_wp2
      go_quiet (fail)
      go_wp2
      go_ret
      exact ⟨rfl, B2.out.trans ((Turn.none_ ((Turn.refl (fun _ => False) w2).drewN _) (fun _ => id)).mono B2.out.size)⟩
    | succ k =>
      obtain ⟨bA, oA, ⟨x1, x2⟩, rfl, hx, _, _, hcx⟩ := h.runs.get (i := k) (by omega)
      obtain ⟨bB, oB, ⟨y1, y2⟩, rfl, hy, _, _, hcy⟩ := h'.runs.get (i := k) (by omega)
      have HP : Hid (Tx.pre R S = (sameR (R.take k) (S.take k) && Tx.wi (x1, x2) (y1, y2))) := Tx.pre_code h.runs.len hx hy
      rw [HP.out]
      have HE := Lib.hid fun W (hW : Below w.heap.size w W) => kequalq W _ k c (R.take k) _ k d (S.take k) ((h.runs.below hW).take (by omega)) ((h'.runs.below hW).take (by omega)) (by omega)
      have HC : Hid (∀ W, Below w.heap.size w W → (W.cell? ⟨bA, oA + k * 2, none⟩ = some (.int .i64 x1) ∧ W.cell? ⟨bA, oA + k * 2 + 1, none⟩ = some (.int .i64 x2)) ∧ W.cell? ⟨bB, oB + k * 2, none⟩ = some (.int .i64 y1) ∧ W.cell? ⟨bB, oB + k * 2 + 1, none⟩ = some (.int .i64 y2)) := fun W hW => ⟨(hcx W hW).2, (hcy W hW).2⟩
      have HW := Lib.hid fun W => kwithin8 W x1 x2 y1 y2
      have HS1 := Lib.hid fun W => rcut_h (b := bA) (off := oA) (n := k + 1) (c := c) (k := k) W (by omega)
      have HS2 := Lib.hid fun W => rcut_h (b := bB) (off := oB) (n := m) (c := d) (k := k) W (by omega)
      generalize sameR (R.take k) (S.take k) = u at HE ⊢
      generalize Tx.wi (x1, x2) (y1, y2) = v at HW ⊢
      clear h h' ha hs hX HP hx hy hcx hcy
      cases u
      case false =>
        rw [Bool.false_and]
        clear HW
        go_enter Try.func20, Try.ntmps20
        go_wp2_with fail
        refine H1.out.mono ?_
        rintro e w1 ⟨rfl, b1⟩
        have B1 := Lib.hid b1
        clear b1 H1
        go_wp2_with fail
        refine (H2.out _ B1.out).mono ?_
        rintro e w2 ⟨rfl, b2⟩
        have B2 := Lib.hid (B1.out.trans (b2.mono B1.out.size))
        have B2d := Lib.hid (B2.out.trans (Below.drew_ w2 w.heap.size))
        clear b2 H2 B1
        have hk0 : decide ((k : Int) < 0) = false := decide_eq_false (by omega)
        have s1 := HS1.out
        have s2 := HS2.out
        go_wp2
        have HQ := Lib.hid fun q => HE.out (w2.drewN q) (B2.out.trans ((Turn.none_ ((Turn.refl (fun _ => False) w2).drewN q) (fun _ => id)).mono B2.out.size))
        clear HE HC B2d
        go_quiet ((go_at_call 39; refine Calls.quiet_of (HQ.out _)))
        go_wp2
        go_ret
        exact ⟨rfl, B2.out.trans ((Turn.none_ ((Turn.refl (fun _ => False) w2).drewN _) (fun _ => id)).mono B2.out.size)⟩
      case true =>
        rw [Bool.true_and]
        have HE := Lib.hid fun W (hW : Below w.heap.size w W) => (HE.out W hW).mono (R' := fun e w' => e = .returned (.bool true) ∧ Below W.heap.size W w') fun e w' ⟨h1, q, h2⟩ => ⟨h1, by rw [h2]; exact Turn.none_ ((Turn.refl (fun _ => False) W).drewN q) (fun _ => id)⟩
        go_enter Try.func20, Try.ntmps20
        go_wp2_with fail
        refine H1.out.mono ?_
        rintro e w1 ⟨rfl, b1⟩
        have B1 := Lib.hid b1
        clear b1 H1
        go_wp2_with fail
        refine (H2.out _ B1.out).mono ?_
        rintro e w2 ⟨rfl, b2⟩
        have B2 := Lib.hid (B1.out.trans (b2.mono B1.out.size))
        have B2d := Lib.hid (B2.out.trans (Below.drew_ w2 w.heap.size))
        clear b2 H2 B1
        have hk0 : decide ((k : Int) < 0) = false := decide_eq_false (by omega)
        have hk1 : (0 : Int) ≤ (k : Int) := by omega
        have hk2 : (k : Int) < (k : Int) + 1 := by omega
        have hk3 : (k : Int) < (m : Int) := by omega
        have s1 := HS1.out
        have s2 := HS2.out
        go_wp2
        have HS := Lib.hid (HC.out _ B2d.out)
        go_region_held3 (fun W' => (W'.cell? ⟨bA, oA + k * 2, none⟩ = some (.int .i64 x1) ∧ W'.cell? ⟨bA, oA + k * 2 + 1, none⟩ = some (.int .i64 x2)) ∧ W'.cell? ⟨bB, oB + k * 2, none⟩ = some (.int .i64 y1) ∧ W'.cell? ⟨bB, oB + k * 2 + 1, none⟩ = some (.int .i64 y2))
          (first | (with_reducible exact HS.out) | (with_reducible exact HC.out _ B3.out) | (with_reducible exact HC.out _ B4.out))
          (first
            | (go_at_call 39; (with_reducible refine (HE.out _ ?_).mono ?_); (with_reducible exact B2d.out); rintro e w3 ⟨rfl, b3⟩; have B3 := Lib.hid (B2d.out.trans (b3.mono B2d.out.size)); clear b3)
            | (go_at_call 40; (with_reducible refine (HW.out _).mono ?_); rintro e w4 ⟨rfl, b4⟩; have B4 := Lib.hid (B3.out.trans (b4.mono B3.out.size)); clear b4))
        all_goals
          go_wp2
          go_ret
          exact ⟨rfl, B4.out⟩
end Go.Proofs.Ytdpbglofijpfnaa
