/- The code's Suffix. -/
import Derived.Test.YtdpbglofijpfnaaU6
import Derived.Test.YtdpbglofijpfnaaU0
namespace Go.Proofs.Ytdpbglofijpfnaa
open Go.RowKit

theorem Tx.suf_code {a s : List (Int × Int)} {k : Nat} {x y : Int × Int} (hk : a.length = k + 1) (hs : k + 1 ≤ s.length) (hx : a[0]? = some x) (hy : s[s.length - (k + 1)]? = some y) : Tx.pre a.reverse s.reverse = (Tx.wi x y && sameR (a.drop 1) (s.drop (s.length - k))) := by
  rw [Tx.pre_code (k := k) (x := x) (y := y) (by rw [List.length_reverse, hk]) (by rw [List.getElem?_reverse (by omega), ← hx]; congr 1; omega) (by rw [List.getElem?_reverse (by omega), ← hy]; congr 1; omega), Bool.and_comm]
  congr 1
  rw [List.take_reverse, List.take_reverse, hk, show k + 1 - k = 1 by omega]
  unfold sameR
  refine decide_eq_decide.2 ⟨fun e => ?_, fun e => by rw [e]⟩
  exact List.reverse_inj.1 e

set_option maxRecDepth 100000 in
set_option maxHeartbeats 4000000 in
theorem ksuffix8 (w : World) (A : Option Addr) (n c : Nat) (R : List (Int × Int)) (B : Option Addr) (m d : Nat) (S : List (Int × Int)) (h : Txt w A n R) (h' : Txt w B m S) (hc : n ≤ c) (hd : m ≤ d) :
    Calls Try.prog 22 #[.slice A n c, .slice B m d] w fun e w' => e = .returned (.bool (Tx.suffB R S)) ∧ Below w.heap.size w w' := by
  have hn := h.few
  have hm := h'.few
  have H1 := Lib.hid (kmayr w A n c R h.runs (by omega))
  have H2 := Lib.hid fun W (hW : Below w.heap.size w W) => kmayr W B m d S (h'.below hW).runs (by omega)
  by_cases hok : Tx.May R ∧ Tx.May S
  case neg =>
    have hand : (Tx.mayB R && Tx.mayB S) = false := by
      by_cases ha : Tx.May R
      · rw [Tx.mayB_false fun hs => hok ⟨ha, hs⟩, Bool.and_false]
      · rw [Tx.mayB_false ha]; rfl
    have hX : Tx.suffB R S = false := by unfold Tx.suffB; rw [hand]; rfl
    rw [hX]
    generalize Tx.mayB R = x at H1 hand
    generalize Tx.mayB S = y at H2 hand
    have hxy : x = false ∨ x = true ∧ y = false := by cases x <;> cases y <;> simp at hand ⊢
    clear h h' hok hX hand
    rcases hxy with rfl | ⟨rfl, rfl⟩
    all_goals
      go_enter Try.func22, Try.ntmps22
      go_wp2_with fail
      refine H1.out.mono ?_
      rintro e w1 ⟨rfl, b1⟩
      have B1 := Lib.hid b1
      clear b1
      go_wp2_with (go_at_call 16; refine (H2.out _ B1.out).mono ?_; rintro e w2 ⟨rfl, b2⟩)
      go_ret
      first
        | exact ⟨rfl, B1.out.trans (b2.mono B1.out.size)⟩
        | exact ⟨rfl, B1.out⟩
  case pos =>
    obtain ⟨ha, hs⟩ := hok
    have hX : Tx.suffB R S = Tx.pre R.reverse S.reverse := by
      unfold Tx.suffB
      rw [Tx.mayB_true ha, Tx.mayB_true hs, Bool.true_and, Bool.true_and, Bool.eq_iff_iff, Tx.stands_end, Tx.pre_iff _ _ ha.own.reverse hs.own.reverse, Lt.expand_reverse, Lt.expand_reverse, List.reverse_prefix]
    rw [hX]
    rw [Tx.mayB_true ha] at H1
    rw [Tx.mayB_true hs] at H2
    by_cases hnm : m < n
    · have hP : Tx.pre R.reverse S.reverse = false := by
        rw [Bool.eq_false_iff]
        intro e
        have e1 := h.runs.len
        have e2 := h'.runs.len
        rw [← List.length_reverse] at e1 e2
        rcases (Tx.pre_form R.reverse S.reverse).1 e with e0 | ⟨a, x, y, U, h1, h2, _⟩
        · rw [e0] at e1
          simp at e1
          omega
        · rw [h1] at e1
          rw [h2] at e2
          simp at e1 e2
          omega
      rw [hP]
      clear h h' ha hs hX hP
      go_enter Try.func22, Try.ntmps22
      go_wp2_with fail
      refine H1.out.mono ?_
      rintro e w1 ⟨rfl, b1⟩
      have B1 := Lib.hid b1
      clear b1 H1
      go_wp2_with fail
      refine (H2.out _ B1.out).mono ?_
      rintro e w2 ⟨rfl, b2⟩
      have B2 := Lib.hid (B1.out.trans (b2.mono B1.out.size))
      clear b2 H2 B1
      go_wp2
      go_ret
      exact ⟨rfl, B2.out⟩
    have hmn : n ≤ m := by omega
    clear hnm
    cases n with
    | zero =>
      have hP : Tx.pre R.reverse S.reverse = true := by
        obtain rfl := List.eq_nil_of_length_eq_zero h.runs.len
        rfl
      rw [hP]
      clear h h' ha hs hX hP
      go_enter Try.func22, Try.ntmps22
      go_wp2_with fail
      refine H1.out.mono ?_
      rintro e w1 ⟨rfl, b1⟩
      have B1 := Lib.hid b1
      clear b1 H1
      go_wp2_with fail
      refine (H2.out _ B1.out).mono ?_
      rintro e w2 ⟨rfl, b2⟩
      have B2 := Lib.hid (B1.out.trans (b2.mono B1.out.size))
      clear b2 H2 B1
      have s1 := rcut_l (A := B) (n := m) (c := d) (k := m) w2 (Nat.le_refl _)
      generalize (if d = m then B else B.map (·.add (m * 2))) = E at s1
      go_wp2
      go_quiet (fail)
      go_wp2
      go_ret
      exact ⟨rfl, B2.out.trans ((Turn.none_ ((Turn.refl (fun _ => False) w2).drewN _) (fun _ => id)).mono B2.out.size)⟩
    | succ k =>
      obtain ⟨bA, oA, ⟨x1, x2⟩, rfl, hx, _, _, hcx⟩ := h.runs.get (i := 0) (by omega)
      obtain ⟨bB, oB, ⟨y1, y2⟩, rfl, hy, _, _, hcy⟩ := h'.runs.get (i := m - (k + 1)) (by omega)
      have HP : Hid (Tx.pre R.reverse S.reverse = (Tx.wi (x1, x2) (y1, y2) && sameR (R.drop 1) (S.drop (m - k)))) := by
        have := Tx.suf_code (x := (x1, x2)) (y := (y1, y2)) h.runs.len (by rw [h'.runs.len]; exact hmn) hx (by rw [h'.runs.len]; exact hy)
        rwa [h'.runs.len] at this
      rw [HP.out]
      obtain ⟨p, hp⟩ : ∃ p, m - (k + 1) = p := ⟨_, rfl⟩
      rw [hp] at hy hcy
      have hmp : m = p + (k + 1) := by omega
      have hE : RunS w (some ⟨bB, oB + p * 2, none⟩) (k + 1) (S.drop p) := by
        have := h'.runs.drop (c := d) (k := p) (by omega) hd
        rw [if_neg (by omega), show m - p = k + 1 by omega] at this
        simpa [addr_add] using this
      obtain ⟨d1, hd1⟩ : ∃ d1, d - p = d1 := ⟨_, rfl⟩
      have hE1 := hE.drop (c := d1) (k := 1) (by omega) (by omega)
      have hA1 := h.runs.drop (c := c) (k := 1) (by omega) hc
      have HS0 : Hid (∀ W, (Instr.slice 22 (.slice (some ⟨bB, oB, none⟩) m d) (some (.int .i64 (p : Nat))) none none).run Try.prog W = .ok (.slice (some ⟨bB, oB + p * 2, none⟩) (k + 1) d1) W) := fun W => by
        have := rcut_l (A := some ⟨bB, oB, none⟩) (n := m) (c := d) (k := p) W (by omega)
        rw [if_neg (by omega), show m - p = k + 1 by omega, hd1] at this
        simpa [addr_add] using this
      have HS1 : Hid (∀ W, (Instr.slice 22 (.slice (some ⟨bB, oB + p * 2, none⟩) (k + 1) d1) (some (.int .i64 1)) none none).run Try.prog W = .ok (.slice (if d1 = 1 then some (⟨bB, oB + p * 2, none⟩ : Addr) else (some (⟨bB, oB + p * 2, none⟩ : Addr)).map (·.add (1 * 2))) (k + 1 - 1) (d1 - 1)) W) := fun W => rcut_l (A := some ⟨bB, oB + p * 2, none⟩) (n := k + 1) (c := d1) (k := 1) W (by omega)
      have HS2 : Hid (∀ W, (Instr.slice 22 (.slice (some ⟨bA, oA, none⟩) (k + 1) c) (some (.int .i64 1)) none none).run Try.prog W = .ok (.slice (if c = 1 then some (⟨bA, oA, none⟩ : Addr) else (some (⟨bA, oA, none⟩ : Addr)).map (·.add (1 * 2))) (k + 1 - 1) (c - 1)) W) := fun W => rcut_l (A := some ⟨bA, oA, none⟩) (n := k + 1) (c := c) (k := 1) W (by omega)
      generalize (if d1 = 1 then some (⟨bB, oB + p * 2, none⟩ : Addr) else (some (⟨bB, oB + p * 2, none⟩ : Addr)).map (·.add (1 * 2))) = E1 at hE1 HS1
      generalize (if c = 1 then some (⟨bA, oA, none⟩ : Addr) else (some (⟨bA, oA, none⟩ : Addr)).map (·.add (1 * 2))) = A1 at hA1 HS2
      rw [Nat.add_sub_cancel] at hE1 hA1 HS1 HS2
      rw [List.drop_drop] at hE1
      rw [show m - k = p + 1 by omega]
      generalize d1 - 1 = d2 at HS1
      generalize c - 1 = c2 at HS2
      have HE := Lib.hid fun W (hW : Below w.heap.size w W) => kequal8 W A1 k c2 (R.drop 1) E1 k d2 (S.drop (p + 1)) (hA1.below hW) (hE1.below hW) (by omega)
      have HC : Hid (∀ W, Below w.heap.size w W → (W.cell? ⟨bA, oA, none⟩ = some (.int .i64 x1) ∧ W.cell? ⟨bA, oA + 1, none⟩ = some (.int .i64 x2)) ∧ W.cell? ⟨bB, oB + p * 2, none⟩ = some (.int .i64 y1) ∧ W.cell? ⟨bB, oB + p * 2 + 1, none⟩ = some (.int .i64 y2)) := fun W hW => ⟨(hcx W hW).2, (hcy W hW).2⟩
      have HW := Lib.hid fun W => kwithin8 W x1 x2 y1 y2
      have hsub : (m : Int) - ((k : Int) + 1) = (p : Int) := by omega
      have hmp2 : m - p = k + 1 := by omega
      have hk1 : (0 : Int) < (k : Int) + 1 := by omega
      have hpm : (p : Int) ≤ (m : Int) := by omega
      have hk0 : ((k : Int) + 1 == 0) = false := beq_eq_false_iff_ne.2 (by omega)
      generalize sameR (R.drop 1) (S.drop (p + 1)) = u at HE ⊢
      generalize Tx.wi (x1, x2) (y1, y2) = v at HW ⊢
      clear h h' ha hs hX HP hx hy hcx hcy hE hE1 hA1 hp hmp
      cases v
      case false =>
        rw [Bool.false_and]
        go_enter Try.func22, Try.ntmps22
        go_wp2_with fail
        refine H1.out.mono ?_
        rintro e w1 ⟨rfl, b1⟩
        have B1 := Lib.hid b1
        clear b1 H1
        go_wp2_with fail
        refine (H2.out _ B1.out).mono ?_
        rintro e w2 ⟨rfl, b2⟩
        have B2 := Lib.hid (B1.out.trans (b2.mono B1.out.size))
        have B2d := Lib.hid (B2.out.trans (Below.drew_ w2 w.heap.size))
        clear b2 H2 B1
        have s0 := HS0.out
        have s1 := HS1.out
        have s2 := HS2.out
        go_wp2
        refine calm_region (C := Latr w) (by kernel_rfl) (by kernel_rfl) (latr_drew B2.out) ?_
        have c1 : ∀ s : Lat w, s.at_.cell? ⟨bA, oA, none⟩ = some (.int .i64 x1) := fun s => (HC.out _ s.ok).1.1
        have c2 : ∀ s : Lat w, s.at_.cell? ⟨bA, oA + 1, none⟩ = some (.int .i64 x2) := fun s => (HC.out _ s.ok).1.2
        have c3 : ∀ s : Lat w, s.at_.cell? ⟨bB, oB + p * 2, none⟩ = some (.int .i64 y1) := fun s => (HC.out _ s.ok).2.1
        have c4 : ∀ s : Lat w, s.at_.cell? ⟨bB, oB + p * 2 + 1, none⟩ = some (.int .i64 y2) := fun s => (HC.out _ s.ok).2.2
        repeat (go_big_quiet_step ((go_at_call 40; exact calm_call (HW.out _))))
        refine wpQuiet_nil ?_
        rintro _ ⟨s, rfl⟩
        go_wp2
        go_ret
        exact ⟨rfl, s.ok⟩
      case true =>
        rw [Bool.true_and]
        go_enter Try.func22, Try.ntmps22
        go_wp2_with fail
        refine H1.out.mono ?_
        rintro e w1 ⟨rfl, b1⟩
        have B1 := Lib.hid b1
        clear b1 H1
        go_wp2_with fail
        refine (H2.out _ B1.out).mono ?_
        rintro e w2 ⟨rfl, b2⟩
        have B2 := Lib.hid (B1.out.trans (b2.mono B1.out.size))
        have B2d := Lib.hid (B2.out.trans (Below.drew_ w2 w.heap.size))
        clear b2 H2 B1
        have s0 := HS0.out
        have s1 := HS1.out
        have s2 := HS2.out
        go_wp2
        have HS := Lib.hid (HC.out _ B2d.out)
        go_region_held3 (fun W' => (W'.cell? ⟨bA, oA, none⟩ = some (.int .i64 x1) ∧ W'.cell? ⟨bA, oA + 1, none⟩ = some (.int .i64 x2)) ∧ W'.cell? ⟨bB, oB + p * 2, none⟩ = some (.int .i64 y1) ∧ W'.cell? ⟨bB, oB + p * 2 + 1, none⟩ = some (.int .i64 y2))
          (first | (with_reducible exact HS.out) | (with_reducible exact HC.out _ B3.out) | (with_reducible exact HC.out _ B4.out))
          (first
            | (go_at_call 40; (with_reducible refine (HW.out _).mono ?_); rintro e w3 ⟨rfl, b3⟩; have B3 := Lib.hid (B2d.out.trans (b3.mono B2d.out.size)); clear b3)
            | (go_at_call 39; (with_reducible refine (HE.out _ ?_).mono ?_); (with_reducible exact B3.out); rintro e w4 ⟨rfl, b4⟩; have B4 := Lib.hid (B3.out.trans (b4.mono B3.out.size)); clear b4))
        all_goals
          go_wp2
          go_ret
          exact ⟨rfl, B4.out⟩
end Go.Proofs.Ytdpbglofijpfnaa
