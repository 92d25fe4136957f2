/- The reference of s-expressions: Depth, Size. -/
import Derived.Test.YtpjdfogieiokkaaDoorS1
namespace Go.Proofs.YtpjdfogieiokkaaDoor
open Go.RowKit

abbrev AnyP : Nat → Nat → Prop := fun _ _ => True
/-- behind the box of a parameter -/
theorem sbox_in {w W0 : World} {x : Sx} {A : Option Addr} {c n : Nat} {l : Bool} (hn : x.L.length = n) (hl : x.list = l) (h : STree w AnyP x A c)
    (hW0 : w.alloc (Obj.cells #[Value.bool l, Value.int IntKind.i64 x.k, Value.string x.T, Value.int IntKind.i64 x.ta, Value.int IntKind.i64 x.at_, Value.slice A n c] 34) = W0) :
    Below w.heap.size w W0 ∧ STree W0 AnyP x A c ∧ SAt W0 w.heap.size 0 x A c := by
  have e : w.alloc (sbox x A c) = W0 := by rw [← hW0, sbox, hn, hl]
  rw [← e]
  exact ⟨(Below.refl _ w).alloc (Nat.le_refl _) _, h.kept ((Below.refl _ w).alloc (Nat.le_refl _) _), sbox_at w x A c⟩

set_option maxRecDepth 100000 in
set_option maxHeartbeats 3200000 in
theorem rDepth (x : Sx) (A : Option Addr) (c : Nat) (w : World) (h : STree w AnyP x A c) :
    Calls Tryd.prog 19 #[sval x A c] w fun e w' => e = .returned (.int .i64 (Sx.dep 65 x : Nat)) ∧ Below w.heap.size w w' := by
  have hb0 := (Below.refl _ w).alloc (Nat.le_refl _) (sbox x A c)
  have H := Lib.hid (rdepth 65 x A c _ (by decide) (h.kept hb0))
  obtain ⟨X, hX⟩ : ∃ X : Nat, Sx.dep 65 x = X := ⟨_, rfl⟩
  rw [hX] at H ⊢
  have HB := Lib.hid hb0
  clear hb0 hX h
  go_enter Tryd.func19, Tryd.ntmps19
  go_wp2_with (go_at_call 30; refine H.out.mono ?_; rintro e w2 ⟨rfl, b2⟩)
  go_ret
  exact ⟨rfl, HB.out.trans (b2.mono HB.out.size)⟩

set_option maxRecDepth 100000 in
set_option maxHeartbeats 3200000 in
theorem rsize : ∀ (k : Nat) (x : Sx) (A : Option Addr) (c : Nat) (w : World), x.size ≤ k → k ≤ 1000000000 → STree w AnyP x A c →
    Calls Tryd.prog 15 #[sval x A c] w fun e w' => (∃ z : Nat, e = .returned (.int .i64 (z : Nat)) ∧ z ≤ x.size ∧ (x.size ≤ 5000 → z = x.size) ∧ (5000 < x.size → 5000 < z)) ∧ Below w.heap.size w w' := by
  intro k
  induction k with
  | zero =>
    intro x A c w hk
    exact absurd x.size_pos (by omega)
  | succ k ih =>
    intro x A c w hk hk9 h
    obtain ⟨n, hn⟩ : ∃ n, x.L.length = n := ⟨_, rfl⟩
    have HN := Lib.hid hn
    have hl : n ≤ maxLen := hn ▸ Nat.le_trans h.le.1 h.le.2
    unfold maxLen at hl
    obtain ⟨X, hX⟩ : ∃ X, x.size = X := ⟨_, rfl⟩
    have HX := Lib.hid hX
    have hXs := x.size_eq
    rw [hX] at hk hXs ⊢
    have HXs := Lib.hid hXs
    unfold sval
    rw [hn]
    clear hn hX hXs
    go_enter Tryd.func15, Tryd.ntmps15
    go_wp2
    generalize hW0 : w.alloc (Obj.cells #[Value.bool x.list, Value.int IntKind.i64 x.k, Value.string x.T, Value.int IntKind.i64 x.ta, Value.int IntKind.i64 x.at_, Value.slice A n c] 34) = W0
    have HB0 := Lib.hid (sbox_in HN.out rfl h hW0)
    clear h hW0
    go_loopw [3, 4] (fun zv iv wr => ∃ i z : Nat, i ≤ n ∧ zv = .int .i64 (z : Nat) ∧ iv = .int .i64 (i : Nat) ∧ Below W0.heap.size W0 wr ∧ z + Sx.sizes (x.L.drop i) ≤ X ∧ Hid ((X ≤ 5000 → z + Sx.sizes (x.L.drop i) = X) ∧ (5000 < X → z ≤ 5000 → 5000 < z + Sx.sizes (x.L.drop i)))) (fun _ iv _ => n - (intOf iv).toNat)
    case atStart => exact ⟨0, 1, Nat.zero_le _, rfl, rfl, Below.refl _ _, by rw [List.drop_zero]; have := HXs.out; omega, by show _ ∧ _; rw [List.drop_zero]; have := HXs.out; constructor <;> omega⟩
    case round =>
      obtain ⟨i, z, hi, rfl, rfl, hb, hz, HI⟩ := hrel
      obtain ⟨hb1, ht1, hbx1⟩ := HB0.out
      have hbx2 := hbx1.below hb
      obtain ⟨q, q0, q1, q2, q3, q4, q5⟩ := hbx2
      rw [HN.out] at q5
      simp only [Nat.zero_add] at q0 q1 q2 q3 q4 q5
      have HB := Lib.hid (hb1.trans (hb.mono hb1.size))
      have hzX : z ≤ X := by omega
      by_cases hlt : i < n
      · by_cases h5 : z ≤ 5000
        · obtain ⟨b, off, y, A', c', rfl, hy, hdr, hym, hs, hty⟩ := (ht1.kept hb).get (i := i) (by rw [HN.out]; exact hlt)
          obtain ⟨y_, y0, y1, y2, y3, y4, y5⟩ := hs
          have hyX := Sx.size_lt hym
          rw [HX.out] at hyX
          have hsz := Sx.sizes_get hy
          have hIH := Lib.hid (ih y A' c' wr (by omega) (by omega) hty)
          obtain ⟨d, hd⟩ : ∃ d, y.size = d := ⟨_, rfl⟩
          have hd0 := y.size_pos
          rw [hd] at hIH hsz hyX hd0
          obtain ⟨r, hr⟩ : ∃ r, Sx.sizes (x.L.drop (i + 1)) = r := ⟨_, rfl⟩
          have HR := Lib.hid hr
          rw [hr] at hsz
          rw [← hsz] at hz HI
          have hz' := Lib.hid hz
          have HBr := Lib.hid hb
          have hlt' : (i : Int) < (n : Int) := by omega
          have hi0 : (0 : Int) ≤ (i : Int) := by omega
          have h5' : (z : Int) ≤ 5000 := by omega
          have HY := Lib.hid hyX
          clear hd ht1 hbx1 hb1 hty hdr hy hb hym hr hsz hz hyX hd0
          go_wp2_with (go_at_call 15; refine hIH.out.mono ?_; rintro e w2 ⟨⟨v, rfl, v1, v2, v3⟩, b2⟩; have hv9 : z + v ≤ 1000000001 := (by have := hz'.out; omega); have HV := Lib.hid (And.intro v1 (And.intro v2 v3)); clear v1 v2 v3)
          go_roundw
          case rel => exact ⟨i + 1, z + v, by omega, by go_num, by go_num, HBr.out.trans (b2.mono HBr.out.size), by rw [HR.out]; have := hz'.out; have := HV.out; omega, by show _ ∧ _; rw [HR.out]; have := HI.out; have := HV.out; have := HY.out; constructor <;> omega⟩
          case measure => simp [intOf]; omega
        · have h5' : ¬ (z : Int) ≤ 5000 := by omega
          have h5b : decide ((z : Int) ≤ 5000) = false := decide_eq_false h5'
          have hlt' : (i : Int) < (n : Int) := by omega
          have HE : Hid (∃ z' : Nat, Ending.returned (.int .i64 (z : Nat)) = .returned (.int .i64 (z' : Nat)) ∧ z' ≤ X ∧ (X ≤ 5000 → z' = X) ∧ (5000 < X → 5000 < z')) := ⟨z, rfl, hzX, fun e => absurd hzX (by omega), fun _ => by omega⟩
          clear HI hz ht1 hbx1 hb1 hb
          go_wp2
          go_ret
          exact ⟨HE.out, HB.out⟩
      · obtain rfl : i = n := by omega
        have HE : Hid (∃ z' : Nat, Ending.returned (.int .i64 (z : Nat)) = .returned (.int .i64 (z' : Nat)) ∧ z' ≤ X ∧ (X ≤ 5000 → z' = X) ∧ (5000 < X → 5000 < z')) := by
          have hI := HI.out
          rw [List.drop_of_length_le (by rw [HN.out]; exact Nat.le_refl _)] at hI
          simp only [Sx.sizes, Nat.add_zero] at hI
          refine ⟨z, rfl, hzX, hI.1, fun h => ?_⟩
          by_cases h5 : z ≤ 5000
          · exact hI.2 h h5
          · omega
        clear HI hz ht1 hbx1 hb1 hb
        go_wp2
        go_ret
        exact ⟨HE.out, HB.out⟩
end Go.Proofs.YtpjdfogieiokkaaDoor
