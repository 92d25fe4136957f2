/- The law SexpHeads. -/
import Derived.Test.YtpjdfogieiokkaaDoorS27
import Derived.Test.YtpjdfogieiokkaaDoorP7
namespace Go.Proofs.YtpjdfogieiokkaaDoor
open Go.RowKit Go.Shelf

/-- the first so many items of a row -/
theorem slice_items {w : World} {B : Nat} {A : Option Addr} {c m n : Nat} {l : List MItem} (h : OwnI w B A c l) (hm : l.length = m) (hn : n ≤ m) (W : World) :
    (Instr.slice 25 (.slice A m c) none (some (.int .i64 (n : Nat))) none).run Tryd.prog W = .ok (.slice A n c) W := by
  have hz : (sizeOf (Tryd.prog.elem 25)).run Tryd.prog W = .ok 8 W := by kernel_rfl
  obtain ⟨p1, p2, p3⟩ := h.parts
  unfold maxLen at p2
  rw [run_slice_h W 25 A m c (by kernel_rfl) .i64 (n : Nat) (by omega) (by omega), hz]
  simp only [Result.andThen, sliced]
  rcases p3 with ⟨rfl, rfl⟩ | ⟨g, rfl, _, _⟩
  · simp
  · split
    · simp
    · simp [addr_add]

set_option maxRecDepth 100000 in
set_option maxHeartbeats 1600000 in
theorem sexpHeads_walk (s m : ByteArray) (w : World) (hs : s.size ≤ maxLen) (hms : m.size ≤ maxLen) (hm : MaxL w) :
    Calls Tryd.prog 8 #[.string s, .string m] w fun e w' => e = .returned (.bool true) ∧ Below w.heap.size w w' := by
  have HA := Lib.hid (kawake6 w hm)
  have HM := Lib.hid hm
  unfold maxLen at hs hms
  clear hm
  by_cases hl : 4000 < s.size ∨ 4000 < m.size
  · have hl' : (4000 : Int) < (s.size : Int) ∨ ¬ (4000 : Int) < (s.size : Int) ∧ (4000 : Int) < (m.size : Int) := by omega
    clear hl
    rcases hl' with h1 | ⟨h1, h2⟩
    all_goals
      go_enter Tryd.func8, Tryd.ntmps8
      go_wp2_with (go_at_call 9; refine HA.out.mono ?_; rintro e w1 ⟨rfl, b1⟩)
      go_ret
      exact ⟨rfl, b1⟩
  have h1 : ¬ (4000 : Int) < (s.size : Int) := by omega
  have h2 : ¬ (4000 : Int) < (m.size : Int) := by omega
  have hadd : ∀ (a b : ByteArray) (W : World), a.size ≤ 8388608 → b.size ≤ 8388608 → (Op.stringOp .add a b).run Tryd.prog W = .ok (.string (a ++ b)) W := fun a b W ha hb => run_string_add W a b (by omega) (by omega)
  have a1 := fun W => hadd s ⟨#[10]⟩ W (by omega) (by decide)
  obtain ⟨V1, hV1⟩ : ∃ V : ByteArray, s ++ ⟨#[10]⟩ = V := ⟨_, rfl⟩
  obtain ⟨y1, z1⟩ := app_bytes s ⟨#[10]⟩
  rw [hV1] at a1 y1 z1
  have z1' : V1.size = s.size + 1 := z1
  have a2 := fun W => hadd V1 m W (by omega) (by omega)
  obtain ⟨V, hV⟩ : ∃ V : ByteArray, V1 ++ m = V := ⟨_, rfl⟩
  obtain ⟨y2, z2⟩ := app_bytes V1 m
  rw [hV] at a2 y2 z2
  have HY1 : Hid (V1.data.toList = s.data.toList ++ [10]) := by show _ = _; rw [y1]
  have HY2 : Hid (V.data.toList = s.data.toList ++ 10 :: m.data.toList) := by show _ = _; rw [y2, y1]; simp
  have HZ : Hid (V1.size ≤ 16384 ∧ V.size ≤ 16384) := by show _ ∧ _; omega
  have HK1 := Lib.hid fun W hW => kread V1 W (by omega) hW
  have HK2 := Lib.hid fun W hW => kread V W (by omega) hW
  clear hl hadd hV1 hV y1 y2 z1 z1' z2
  go_enter Tryd.func8, Tryd.ntmps8
  go_wp2_with fail
  refine HA.out.mono ?_
  rintro e w1 ⟨rfl, b1⟩
  have B1 := Lib.hid b1
  have HM1 := Lib.hid (HM.out.below b1)
  clear b1
  go_wp2_with fail
  refine (HK1.out _ HM1.out).mono ?_
  rintro e w2 ⟨⟨A2, c2, l2, rfl, hf2, o2, r2⟩, b2⟩
  obtain ⟨n2, hn2⟩ : ∃ n, l2.length = n := ⟨_, rfl⟩
  have i2 := o2.its hn2
  rw [hn2] at hf2 ⊢
  have B2 := Lib.hid (B1.out.trans (b2.mono B1.out.size))
  have HM2 := Lib.hid (HM1.out.below b2)
  have Q2 := Lib.hid (And.intro i2 (And.intro r2 (And.intro hf2 hn2)))
  clear b2 i2 r2 o2 hn2 hf2
  go_wp2_with fail
  refine (HK2.out _ HM2.out).mono ?_
  rintro e w3 ⟨⟨A3, c3, l3, rfl, hf3, o3, r3⟩, b3⟩
  obtain ⟨n3, hn3⟩ : ∃ n, l3.length = n := ⟨_, rfl⟩
  have hsl := fun n hle W => slice_items (n := n) o3 hn3 hle W
  have HG : Hid ((∀ x ∈ l2.map MItem.pure, x.E = 0 ∨ x.E = 60 ∨ x.E = 2) → n2 ≤ n3 ∧ ((l3.map MItem.pure).take n2) = l2.map MItem.pure) := by
    intro hE
    have := Q2.out.2.1.heads r3 HY1.out HY2.out HZ.out.1 HZ.out.2 hE
    rw [List.length_map, List.length_map, Q2.out.2.2.2, hn3] at this
    exact this
  have i3 := o3.its hn3
  rw [hn3]
  have Q3 := Lib.hid (And.intro (Q2.out.1.kept b3) i3)
  have B3 := Lib.hid (B2.out.trans (b3.mono B2.out.size))
  have HF : Hid (n2 ≤ 4001 ∧ l2.length = n2) := ⟨Q2.out.2.2.1, Q2.out.2.2.2⟩
  have HSl := Lib.hid hsl
  have hn2m : n2 ≤ 4001 := Q2.out.2.2.1
  clear b3 i3 r3 o3 hn3 hf3 hsl Q2 HY1 HY2 HZ HK1 HK2 HM1 HM2 HM HA a1 a2
  obtain ⟨R, hR⟩ : ∃ R, l2.map MItem.pure = R := ⟨_, rfl⟩
  rw [hR] at HG Q3
  clear hR
  go_wp2
  go_loopw [8] (fun iv wr => ∃ i : Nat, i ≤ n2 ∧ iv = .int .i64 (i : Nat) ∧ Hid (Below w3.heap.size w3 wr ∧ ∀ x ∈ R.take i, x.E = 0 ∨ x.E = 60 ∨ x.E = 2)) (fun iv _ => n2 - (intOf iv).toNat)
  case atStart => exact ⟨0, Nat.zero_le _, rfl, Below.refl _ _, by simp⟩
  case round =>
    obtain ⟨i, hi, rfl, HI⟩ := hrel
    have HB := Lib.hid (B3.out.trans (HI.out.1.mono B3.out.size))
    by_cases hlt : i < n2
    · obtain ⟨b, off, x, A', c', rfl, hx, hdx, ⟨hb, _⟩, _, z6, _⟩ := (Q3.out.1.kept HI.out.1).get hlt
      have hlt' : (i : Int) < (n2 : Int) := by omega
      have hi0 : (0 : Int) ≤ (i : Int) := by omega
      have hgood : ((x.E != 0) = false ∨ (x.E != 0) = true ∧ (x.E != 60) = false ∨ (x.E != 0) = true ∧ (x.E != 60) = true ∧ (x.E != 2) = false) ∨ ((x.E != 0) = true ∧ (x.E != 60) = true ∧ (x.E != 2) = true) := by
        cases (x.E != 0) <;> cases (x.E != 60) <;> cases (x.E != 2) <;> simp
      rcases hgood with hg | ⟨k1, k2, k3⟩
      · have HN : Hid (∀ y ∈ R.take (i + 1), y.E = 0 ∨ y.E = 60 ∨ y.E = 2) := by
          intro y hy
          rw [List.take_add_one, hx] at hy
          rcases List.mem_append.1 hy with hy | hy
          · exact HI.out.2 y hy
          · obtain rfl : y = x := by simpa using hy
            rcases hg with k1 | ⟨_, k1⟩ | ⟨_, _, k1⟩
            · exact .inl (by simpa using k1)
            · exact .inr (.inl (by simpa using k1))
            · exact .inr (.inr (by simpa using k1))
        have HIB := Lib.hid HI.out.1
        clear hx hdx HI
        rcases hg with k1 | ⟨k1, k2⟩ | ⟨k1, k2, k3⟩
        all_goals
          go_wp2
          go_roundw
          case rel => exact ⟨i + 1, by omega, by go_num, HIB.out, HN.out⟩
          case measure => simp [intOf]; omega
      · clear hx hdx HI
        go_wp2
        go_ret
        exact ⟨rfl, HB.out⟩
    · obtain rfl : i = n2 := by omega
      have hall : ∀ x ∈ R, x.E = 0 ∨ x.E = 60 ∨ x.E = 2 := by
        have := HI.out.2
        rw [List.take_of_length_le (by rw [Q3.out.1.len]; exact Nat.le_refl _)] at this
        exact this
      obtain ⟨hle, htk⟩ := HG.out hall
      have hle' : ¬ (n3 : Int) < (i : Int) := by omega
      have hsl := HSl.out i hle
      have j3 := (Q3.out.2.kept HI.out.1).take hle
      rw [htk] at j3
      have HS := Lib.hid (ritems wr A2 i c2 R A3 i c3 R true (Q3.out.1.kept HI.out.1) j3 (by omega))
      rw [sameI_iff.2 rfl] at HS
      clear htk j3 hall HI
      go_wp2_with (go_at_call 10; refine HS.out.mono ?_; rintro e w4 ⟨rfl, b4⟩)
      go_ret
      exact ⟨rfl, HB.out.trans (b4.mono HB.out.size)⟩
end Go.Proofs.YtpjdfogieiokkaaDoor
