/- What the proofs of this claim use, text by text. -/
import Derived.Test.YtcgaeknikfaghaaGreatDoorQC22
import Derived.Test.YtcgaeknikfaghaaGreatDoorQC24
import Derived.Deep.CutBlock
import Derived.Deep.DeepCutAuto
set_option linter.unusedSimpArgs false
set_option linter.unusedVariables false
set_option maxRecDepth 100000
set_option maxHeartbeats 25600000
namespace Go.Proofs.YtcgaeknikfaghaaGreatDoor
open Go.RowKit Go.Shelf
theorem lit_no {s : ByteArray} {l : List UInt8} (h : ¬ s.data.toList = l) : (s.toList == l) = false := by rw [ByteArray.toList_eq]; exact beq_eq_false_iff_ne.2 h
theorem lit_yes {s : ByteArray} {l : List UInt8} (h : s.data.toList = l) : (s.toList == l) = true := by rw [ByteArray.toList_eq]; exact beq_iff_eq.2 h
theorem Bd.op_none {s : List UInt8} {n : Nat} (h : s ∉ Bd.opNames) : Bd.op s n = 0 := by
  have h1 : s ≠ [45] := fun e => h (by rw [e]; decide)
  unfold Bd.op
  rw [if_neg fun e => h1 e.1]
  split
  · rfl
  · have : List.findIdx? (fun t => t == s) Bd.opNames = none := by
      rw [List.findIdx?_eq_none_iff]
      intro x hx
      rw [beq_eq_false_iff_ne]
      exact fun e => h (e ▸ hx)
    rw [this]
theorem Bd.op_zero (s : List UInt8) : Bd.op s 0 = Bd.op s 2 := by unfold Bd.op; simp
theorem ktextop (s : ByteArray) (w : World) (hno : s.data.toList ≠ [110, 111, 116] ∧ s.data.toList ≠ [97, 110, 100] ∧ s.data.toList ≠ [111, 114] ∧ s.data.toList ≠ [61, 62] ∧ s.data.toList ≠ [120, 111, 114] ∧ s.data.toList ≠ [61] ∧ s.data.toList ≠ [100, 105, 115, 116, 105, 110, 99, 116] ∧ s.data.toList ≠ [105, 116, 101] ∧ s.data.toList ≠ [43] ∧ s.data.toList ≠ [45] ∧ s.data.toList ≠ [42] ∧ s.data.toList ≠ [60, 61] ∧ s.data.toList ≠ [60] ∧ s.data.toList ≠ [62, 61] ∧ s.data.toList ≠ [62]) :
    Calls Tryz.prog 80 #[.string s] w fun e w' => e = .returned (.int .i64 (Bd.op s.data.toList 0)) ∧ w' = w := by
  obtain ⟨n0, n1, n2, n3, n4, n5, n6, n7, n8, n9, n10, n11, n12, n13, n14⟩ := hno
  by_cases h0 : s.data.toList = [115, 116, 114, 46, 43, 43]
  · rw [h0]
    have e : Bd.op [115, 116, 114, 46, 43, 43] 0 = 22 := by decide
    rw [e]
    have b0 := lit_yes h0
    clear n0 n1 n2 n3 n4 n5 n6 n7 n8 n9 n10 n11 n12 n13 n14 h0
    go_enter Tryz.func80, Tryz.ntmps80
    go_wp2
    go_ret
    exact ⟨rfl, rfl⟩
  have b0 := lit_no h0
  by_cases h1 : s.data.toList = [115, 116, 114, 46, 108, 101, 110]
  · rw [h1]
    have e : Bd.op [115, 116, 114, 46, 108, 101, 110] 0 = 23 := by decide
    rw [e]
    have b1 := lit_yes h1
    clear n0 n1 n2 n3 n4 n5 n6 n7 n8 n9 n10 n11 n12 n13 n14 h1
    go_enter Tryz.func80, Tryz.ntmps80
    go_wp2
    go_ret
    exact ⟨rfl, rfl⟩
  have b1 := lit_no h1
  by_cases h2 : s.data.toList = [115, 116, 114, 46, 97, 116]
  · rw [h2]
    have e : Bd.op [115, 116, 114, 46, 97, 116] 0 = 24 := by decide
    rw [e]
    have b2 := lit_yes h2
    clear n0 n1 n2 n3 n4 n5 n6 n7 n8 n9 n10 n11 n12 n13 n14 h2
    go_enter Tryz.func80, Tryz.ntmps80
    go_wp2
    go_ret
    exact ⟨rfl, rfl⟩
  have b2 := lit_no h2
  by_cases h3 : s.data.toList = [115, 116, 114, 46, 115, 117, 98, 115, 116, 114]
  · rw [h3]
    have e : Bd.op [115, 116, 114, 46, 115, 117, 98, 115, 116, 114] 0 = 25 := by decide
    rw [e]
    have b3 := lit_yes h3
    clear n0 n1 n2 n3 n4 n5 n6 n7 n8 n9 n10 n11 n12 n13 n14 h3
    go_enter Tryz.func80, Tryz.ntmps80
    go_wp2
    go_ret
    exact ⟨rfl, rfl⟩
  have b3 := lit_no h3
  by_cases h4 : s.data.toList = [115, 116, 114, 46, 112, 114, 101, 102, 105, 120, 111, 102]
  · rw [h4]
    have e : Bd.op [115, 116, 114, 46, 112, 114, 101, 102, 105, 120, 111, 102] 0 = 26 := by decide
    rw [e]
    have b4 := lit_yes h4
    clear n0 n1 n2 n3 n4 n5 n6 n7 n8 n9 n10 n11 n12 n13 n14 h4
    go_enter Tryz.func80, Tryz.ntmps80
    go_wp2
    go_ret
    exact ⟨rfl, rfl⟩
  have b4 := lit_no h4
  by_cases h5 : s.data.toList = [115, 116, 114, 46, 115, 117, 102, 102, 105, 120, 111, 102]
  · rw [h5]
    have e : Bd.op [115, 116, 114, 46, 115, 117, 102, 102, 105, 120, 111, 102] 0 = 27 := by decide
    rw [e]
    have b5 := lit_yes h5
    clear n0 n1 n2 n3 n4 n5 n6 n7 n8 n9 n10 n11 n12 n13 n14 h5
    go_enter Tryz.func80, Tryz.ntmps80
    go_wp2
    go_ret
    exact ⟨rfl, rfl⟩
  have b5 := lit_no h5
  by_cases h6 : s.data.toList = [115, 116, 114, 46, 99, 111, 110, 116, 97, 105, 110, 115]
  · rw [h6]
    have e : Bd.op [115, 116, 114, 46, 99, 111, 110, 116, 97, 105, 110, 115] 0 = 28 := by decide
    rw [e]
    have b6 := lit_yes h6
    clear n0 n1 n2 n3 n4 n5 n6 n7 n8 n9 n10 n11 n12 n13 n14 h6
    go_enter Tryz.func80, Tryz.ntmps80
    go_wp2
    go_ret
    exact ⟨rfl, rfl⟩
  have b6 := lit_no h6
  by_cases h7 : s.data.toList = [115, 116, 114, 46, 105, 110, 100, 101, 120, 111, 102]
  · rw [h7]
    have e : Bd.op [115, 116, 114, 46, 105, 110, 100, 101, 120, 111, 102] 0 = 29 := by decide
    rw [e]
    have b7 := lit_yes h7
    clear n0 n1 n2 n3 n4 n5 n6 n7 n8 n9 n10 n11 n12 n13 n14 h7
    go_enter Tryz.func80, Tryz.ntmps80
    go_wp2
    go_ret
    exact ⟨rfl, rfl⟩
  have b7 := lit_no h7
  by_cases h8 : s.data.toList = [115, 116, 114, 46, 114, 101, 112, 108, 97, 99, 101]
  · rw [h8]
    have e : Bd.op [115, 116, 114, 46, 114, 101, 112, 108, 97, 99, 101] 0 = 30 := by decide
    rw [e]
    have b8 := lit_yes h8
    clear n0 n1 n2 n3 n4 n5 n6 n7 n8 n9 n10 n11 n12 n13 n14 h8
    go_enter Tryz.func80, Tryz.ntmps80
    go_wp2
    go_ret
    exact ⟨rfl, rfl⟩
  have b8 := lit_no h8
  by_cases h9 : s.data.toList = []
  · have e : Bd.op s.data.toList 0 = 0 := by rw [h9]; decide
    rw [e]
    clear n0 n1 n2 n3 n4 n5 n6 n7 n8 n9 n10 n11 n12 n13 n14 h0 h1 h2 h3 h4 h5 h6 h7 h8 h9
    go_enter Tryz.func80, Tryz.ntmps80
    go_wp2
    go_ret
    exact ⟨rfl, rfl⟩
  have e : Bd.op s.data.toList 0 = 0 := Bd.op_none (by simp [Bd.opNames, n0, n1, n2, n3, n4, n5, n6, n7, n8, n9, n10, n11, n12, n13, n14, h0, h1, h2, h3, h4, h5, h6, h7, h8, h9])
  rw [e]
  clear n0 n1 n2 n3 n4 n5 n6 n7 n8 n9 n10 n11 n12 n13 n14 h0 h1 h2 h3 h4 h5 h6 h7 h8 h9
  go_enter Tryz.func80, Tryz.ntmps80
  go_wp2
  go_ret
  exact ⟨rfl, rfl⟩
theorem Bd.op_any {s : List UInt8} (h : s ≠ [45]) (n : Nat) : Bd.op s n = Bd.op s 0 := by unfold Bd.op; simp [h]
theorem koperation (s : ByteArray) (n : Nat) (w : World) :
    Calls Tryz.prog 53 #[.string s, .int .i64 (n : Int)] w fun e w' => e = .returned (.int .i64 (Bd.op s.data.toList n)) ∧ w' = w := by
  by_cases h0 : s.data.toList = [110, 111, 116]
  · rw [Bd.op_any (by rw [h0]; decide) n, h0]
    have e : Bd.op [110, 111, 116] 0 = 6 := by decide
    rw [e]
    have b0 := lit_yes h0
    clear h0
    go_enter Tryz.func53, Tryz.ntmps53
    go_wp2
    go_ret
    exact ⟨rfl, rfl⟩
  have b0 := lit_no h0
  by_cases h1 : s.data.toList = [97, 110, 100]
  · rw [Bd.op_any (by rw [h1]; decide) n, h1]
    have e : Bd.op [97, 110, 100] 0 = 7 := by decide
    rw [e]
    have b1 := lit_yes h1
    clear h0 h1
    go_enter Tryz.func53, Tryz.ntmps53
    go_wp2
    go_ret
    exact ⟨rfl, rfl⟩
  have b1 := lit_no h1
  by_cases h2 : s.data.toList = [111, 114]
  · rw [Bd.op_any (by rw [h2]; decide) n, h2]
    have e : Bd.op [111, 114] 0 = 8 := by decide
    rw [e]
    have b2 := lit_yes h2
    clear h0 h1 h2
    go_enter Tryz.func53, Tryz.ntmps53
    go_wp2
    go_ret
    exact ⟨rfl, rfl⟩
  have b2 := lit_no h2
  by_cases h3 : s.data.toList = [61, 62]
  · rw [Bd.op_any (by rw [h3]; decide) n, h3]
    have e : Bd.op [61, 62] 0 = 9 := by decide
    rw [e]
    have b3 := lit_yes h3
    clear h0 h1 h2 h3
    go_enter Tryz.func53, Tryz.ntmps53
    go_wp2
    go_ret
    exact ⟨rfl, rfl⟩
  have b3 := lit_no h3
  by_cases h4 : s.data.toList = [120, 111, 114]
  · rw [Bd.op_any (by rw [h4]; decide) n, h4]
    have e : Bd.op [120, 111, 114] 0 = 10 := by decide
    rw [e]
    have b4 := lit_yes h4
    clear h0 h1 h2 h3 h4
    go_enter Tryz.func53, Tryz.ntmps53
    go_wp2
    go_ret
    exact ⟨rfl, rfl⟩
  have b4 := lit_no h4
  by_cases h5 : s.data.toList = [61]
  · rw [Bd.op_any (by rw [h5]; decide) n, h5]
    have e : Bd.op [61] 0 = 11 := by decide
    rw [e]
    have b5 := lit_yes h5
    clear h0 h1 h2 h3 h4 h5
    go_enter Tryz.func53, Tryz.ntmps53
    go_wp2
    go_ret
    exact ⟨rfl, rfl⟩
  have b5 := lit_no h5
  by_cases h6 : s.data.toList = [100, 105, 115, 116, 105, 110, 99, 116]
  · rw [Bd.op_any (by rw [h6]; decide) n, h6]
    have e : Bd.op [100, 105, 115, 116, 105, 110, 99, 116] 0 = 12 := by decide
    rw [e]
    have b6 := lit_yes h6
    clear h0 h1 h2 h3 h4 h5 h6
    go_enter Tryz.func53, Tryz.ntmps53
    go_wp2
    go_ret
    exact ⟨rfl, rfl⟩
  have b6 := lit_no h6
  by_cases h7 : s.data.toList = [105, 116, 101]
  · rw [Bd.op_any (by rw [h7]; decide) n, h7]
    have e : Bd.op [105, 116, 101] 0 = 13 := by decide
    rw [e]
    have b7 := lit_yes h7
    clear h0 h1 h2 h3 h4 h5 h6 h7
    go_enter Tryz.func53, Tryz.ntmps53
    go_wp2
    go_ret
    exact ⟨rfl, rfl⟩
  have b7 := lit_no h7
  by_cases h8 : s.data.toList = [43]
  · rw [Bd.op_any (by rw [h8]; decide) n, h8]
    have e : Bd.op [43] 0 = 15 := by decide
    rw [e]
    have b8 := lit_yes h8
    clear h0 h1 h2 h3 h4 h5 h6 h7 h8
    go_enter Tryz.func53, Tryz.ntmps53
    go_wp2
    go_ret
    exact ⟨rfl, rfl⟩
  have b8 := lit_no h8
  by_cases h9 : s.data.toList = [45]
  · by_cases hn : n = 1
    · subst hn
      rw [h9]
      have e : Bd.op [45] 1 = 14 := by decide
      rw [e]
      have b9 := lit_yes h9
      clear h0 h1 h2 h3 h4 h5 h6 h7 h8 h9
      go_enter Tryz.func53, Tryz.ntmps53
      go_wp2
      go_ret
      exact ⟨rfl, rfl⟩
    · have e : Bd.op [45] n = 16 := by unfold Bd.op; rw [if_neg fun e => hn e.2]; decide
      rw [h9, e]
      have b9 := lit_yes h9
      have hn1 : ((n : Int) == 1) = false := beq_eq_false_iff_ne.2 (by omega)
      clear h0 h1 h2 h3 h4 h5 h6 h7 h8 h9
      go_enter Tryz.func53, Tryz.ntmps53
      go_wp2
      go_ret
      exact ⟨rfl, rfl⟩
  have b9 := lit_no h9
  by_cases h10 : s.data.toList = [42]
  · rw [Bd.op_any (by rw [h10]; decide) n, h10]
    have e : Bd.op [42] 0 = 17 := by decide
    rw [e]
    have b10 := lit_yes h10
    clear h0 h1 h2 h3 h4 h5 h6 h7 h8 h9 h10
    go_enter Tryz.func53, Tryz.ntmps53
    go_wp2
    go_ret
    exact ⟨rfl, rfl⟩
  have b10 := lit_no h10
  by_cases h11 : s.data.toList = [60, 61]
  · rw [Bd.op_any (by rw [h11]; decide) n, h11]
    have e : Bd.op [60, 61] 0 = 18 := by decide
    rw [e]
    have b11 := lit_yes h11
    clear h0 h1 h2 h3 h4 h5 h6 h7 h8 h9 h10 h11
    go_enter Tryz.func53, Tryz.ntmps53
    go_wp2
    go_ret
    exact ⟨rfl, rfl⟩
  have b11 := lit_no h11
  by_cases h12 : s.data.toList = [60]
  · rw [Bd.op_any (by rw [h12]; decide) n, h12]
    have e : Bd.op [60] 0 = 19 := by decide
    rw [e]
    have b12 := lit_yes h12
    clear h0 h1 h2 h3 h4 h5 h6 h7 h8 h9 h10 h11 h12
    go_enter Tryz.func53, Tryz.ntmps53
    go_wp2
    go_ret
    exact ⟨rfl, rfl⟩
  have b12 := lit_no h12
  by_cases h13 : s.data.toList = [62, 61]
  · rw [Bd.op_any (by rw [h13]; decide) n, h13]
    have e : Bd.op [62, 61] 0 = 20 := by decide
    rw [e]
    have b13 := lit_yes h13
    clear h0 h1 h2 h3 h4 h5 h6 h7 h8 h9 h10 h11 h12 h13
    go_enter Tryz.func53, Tryz.ntmps53
    go_wp2
    go_ret
    exact ⟨rfl, rfl⟩
  have b13 := lit_no h13
  by_cases h14 : s.data.toList = [62]
  · rw [Bd.op_any (by rw [h14]; decide) n, h14]
    have e : Bd.op [62] 0 = 21 := by decide
    rw [e]
    have b14 := lit_yes h14
    clear h0 h1 h2 h3 h4 h5 h6 h7 h8 h9 h10 h11 h12 h13 h14
    go_enter Tryz.func53, Tryz.ntmps53
    go_wp2
    go_ret
    exact ⟨rfl, rfl⟩
  have b14 := lit_no h14
  rw [Bd.op_any h9 n]
  have HT := Lib.hid fun w => ktextop s w ⟨h0, h1, h2, h3, h4, h5, h6, h7, h8, h9, h10, h11, h12, h13, h14⟩
  clear h0 h1 h2 h3 h4 h5 h6 h7 h8 h9 h10 h11 h12 h13 h14
  generalize Bd.op s.data.toList 0 = r at HT ⊢
  go_enter Tryz.func53, Tryz.ntmps53
  go_wp2_with fail
  refine (HT.out _).mono ?_
  rintro e w1 ⟨rfl, rfl⟩
  clear HT
  go_wp2
  go_ret
  exact ⟨rfl, rfl⟩
theorem hasPrefix_take (l p : List UInt8) : Lib.hasPrefix l p = decide (l.take p.length = p) := by
  unfold Lib.hasPrefix
  rw [Bool.eq_iff_iff, decide_eq_true_eq, List.isPrefixOf_iff_prefix, List.prefix_iff_eq_take]
  exact ⟨Eq.symm, Eq.symm⟩
theorem kreserved (s : ByteArray) (w : World) :
    Calls Tryz.prog 21 #[.string s] w fun e w' => e = .returned (.bool (Bd.reserved s.data.toList)) ∧ w' = w := by
  by_cases h0 : s.data.toList = [116, 114, 117, 101]
  · rw [h0]
    have e : Bd.reserved [116, 114, 117, 101] = true := by decide
    rw [e]
    have b0 := lit_yes h0
    clear h0
    go_enter Tryz.func21, Tryz.ntmps21
    go_wp2
    go_ret
    exact ⟨rfl, rfl⟩
  have b0 := lit_no h0
  by_cases h1 : s.data.toList = [102, 97, 108, 115, 101]
  · rw [h1]
    have e : Bd.reserved [102, 97, 108, 115, 101] = true := by decide
    rw [e]
    have b1 := lit_yes h1
    clear h0 h1
    go_enter Tryz.func21, Tryz.ntmps21
    go_wp2
    go_ret
    exact ⟨rfl, rfl⟩
  have b1 := lit_no h1
  by_cases h2 : s.data.toList = [108, 101, 116]
  · rw [h2]
    have e : Bd.reserved [108, 101, 116] = true := by decide
    rw [e]
    have b2 := lit_yes h2
    clear h0 h1 h2
    go_enter Tryz.func21, Tryz.ntmps21
    go_wp2
    go_ret
    exact ⟨rfl, rfl⟩
  have b2 := lit_no h2
  by_cases h3 : s.data.toList = [102, 111, 114, 97, 108, 108]
  · rw [h3]
    have e : Bd.reserved [102, 111, 114, 97, 108, 108] = true := by decide
    rw [e]
    have b3 := lit_yes h3
    clear h0 h1 h2 h3
    go_enter Tryz.func21, Tryz.ntmps21
    go_wp2
    go_ret
    exact ⟨rfl, rfl⟩
  have b3 := lit_no h3
  by_cases h4 : s.data.toList = [101, 120, 105, 115, 116, 115]
  · rw [h4]
    have e : Bd.reserved [101, 120, 105, 115, 116, 115] = true := by decide
    rw [e]
    have b4 := lit_yes h4
    clear h0 h1 h2 h3 h4
    go_enter Tryz.func21, Tryz.ntmps21
    go_wp2
    go_ret
    exact ⟨rfl, rfl⟩
  have b4 := lit_no h4
  by_cases h5 : s.data.toList = [109, 97, 116, 99, 104]
  · rw [h5]
    have e : Bd.reserved [109, 97, 116, 99, 104] = true := by decide
    rw [e]
    have b5 := lit_yes h5
    clear h0 h1 h2 h3 h4 h5
    go_enter Tryz.func21, Tryz.ntmps21
    go_wp2
    go_ret
    exact ⟨rfl, rfl⟩
  have b5 := lit_no h5
  by_cases h6 : s.data.toList = [112, 97, 114]
  · rw [h6]
    have e : Bd.reserved [112, 97, 114] = true := by decide
    rw [e]
    have b6 := lit_yes h6
    clear h0 h1 h2 h3 h4 h5 h6
    go_enter Tryz.func21, Tryz.ntmps21
    go_wp2
    go_ret
    exact ⟨rfl, rfl⟩
  have b6 := lit_no h6
  by_cases h7 : s.data.toList = [33]
  · rw [h7]
    have e : Bd.reserved [33] = true := by decide
    rw [e]
    have b7 := lit_yes h7
    clear h0 h1 h2 h3 h4 h5 h6 h7
    go_enter Tryz.func21, Tryz.ntmps21
    go_wp2
    go_ret
    exact ⟨rfl, rfl⟩
  have b7 := lit_no h7
  by_cases h8 : s.data.toList = [95]
  · rw [h8]
    have e : Bd.reserved [95] = true := by decide
    rw [e]
    have b8 := lit_yes h8
    clear h0 h1 h2 h3 h4 h5 h6 h7 h8
    go_enter Tryz.func21, Tryz.ntmps21
    go_wp2
    go_ret
    exact ⟨rfl, rfl⟩
  have b8 := lit_no h8
  by_cases h9 : s.data.toList = [97, 115]
  · rw [h9]
    have e : Bd.reserved [97, 115] = true := by decide
    rw [e]
    have b9 := lit_yes h9
    clear h0 h1 h2 h3 h4 h5 h6 h7 h8 h9
    go_enter Tryz.func21, Tryz.ntmps21
    go_wp2
    go_ret
    exact ⟨rfl, rfl⟩
  have b9 := lit_no h9
  by_cases h10 : s.data.toList = [100, 105, 118]
  · rw [h10]
    have e : Bd.reserved [100, 105, 118] = true := by decide
    rw [e]
    have b10 := lit_yes h10
    clear h0 h1 h2 h3 h4 h5 h6 h7 h8 h9 h10
    go_enter Tryz.func21, Tryz.ntmps21
    go_wp2
    go_ret
    exact ⟨rfl, rfl⟩
  have b10 := lit_no h10
  by_cases h11 : s.data.toList = [109, 111, 100]
  · rw [h11]
    have e : Bd.reserved [109, 111, 100] = true := by decide
    rw [e]
    have b11 := lit_yes h11
    clear h0 h1 h2 h3 h4 h5 h6 h7 h8 h9 h10 h11
    go_enter Tryz.func21, Tryz.ntmps21
    go_wp2
    go_ret
    exact ⟨rfl, rfl⟩
  have b11 := lit_no h11
  by_cases h12 : s.data.toList = [97, 98, 115]
  · rw [h12]
    have e : Bd.reserved [97, 98, 115] = true := by decide
    rw [e]
    have b12 := lit_yes h12
    clear h0 h1 h2 h3 h4 h5 h6 h7 h8 h9 h10 h11 h12
    go_enter Tryz.func21, Tryz.ntmps21
    go_wp2
    go_ret
    exact ⟨rfl, rfl⟩
  have b12 := lit_no h12
  have e : Bd.reserved s.data.toList = (decide (Bd.op s.data.toList 0 ≠ 0) || Lib.hasPrefix s.data.toList [115, 116, 114, 46] || Lib.hasPrefix s.data.toList [114, 101, 46]) := by
    rw [hasPrefix_take, hasPrefix_take]
    unfold Bd.reserved
    rw [show Bd.resNames.contains s.data.toList = false by simp [Bd.resNames, h0, h1, h2, h3, h4, h5, h6, h7, h8, h9, h10, h11, h12], Bd.op_zero, Bool.false_or]
    generalize decide (Bd.op s.data.toList 2 ≠ 0) = x
    show (decide (List.take 4 s.data.toList = [115, 116, 114, 46]) || decide (List.take 3 s.data.toList = [114, 101, 46]) || x) = (x || decide (List.take 4 s.data.toList = [115, 116, 114, 46]) || decide (List.take 3 s.data.toList = [114, 101, 46]))
    generalize decide (List.take 4 s.data.toList = [115, 116, 114, 46]) = y
    generalize decide (List.take 3 s.data.toList = [114, 101, 46]) = z
    cases x <;> cases y <;> cases z <;> rfl
  rw [e]
  have HO := Lib.hid fun w => koperation s 0 w
  have H1 := Lib.hid fun w => Tryz.strings_HasPrefix s ⟨#[115, 116, 114, 46]⟩ w
  have H2 := Lib.hid fun w => Tryz.strings_HasPrefix s ⟨#[114, 101, 46]⟩ w
  clear e h0 h1 h2 h3 h4 h5 h6 h7 h8 h9 h10 h11 h12
  obtain ⟨o, ho⟩ : ∃ o, Bd.op s.data.toList 0 = o := ⟨_, rfl⟩
  obtain ⟨p, hp⟩ : ∃ p, Lib.hasPrefix s.data.toList [115, 116, 114, 46] = p := ⟨_, rfl⟩
  obtain ⟨q, hq⟩ : ∃ q, Lib.hasPrefix s.data.toList [114, 101, 46] = q := ⟨_, rfl⟩
  rw [show ((⟨#[115, 116, 114, 46]⟩ : ByteArray).data.toList) = [115, 116, 114, 46] from rfl, hp] at H1
  rw [show ((⟨#[114, 101, 46]⟩ : ByteArray).data.toList) = [114, 101, 46] from rfl, hq] at H2
  rw [ho] at HO
  rw [ho, hp, hq]
  clear ho hp hq
  by_cases h0 : o = 0
  · subst h0
    cases p with
    | true =>
      go_enter Tryz.func21, Tryz.ntmps21
      go_wp2_with (go_at_call 53; refine (HO.out _).mono ?_; rintro e w1 ⟨rfl, rfl⟩)
      refine (H1.out _).mono ?_
      rintro e w1 ⟨rfl, rfl⟩
      go_wp2
      go_ret
      exact ⟨rfl, rfl⟩
    | false =>
      go_enter Tryz.func21, Tryz.ntmps21
      go_wp2_with (go_at_call 53; refine (HO.out _).mono ?_; rintro e w1 ⟨rfl, rfl⟩)
      refine (H1.out _).mono ?_
      rintro e w1 ⟨rfl, rfl⟩
      go_wp2_with fail
      refine (H2.out _).mono ?_
      rintro e w1 ⟨rfl, rfl⟩
      go_wp2
      go_ret
      exact ⟨by simp, rfl⟩
  · have hb : (o != 0) = true := by simp [h0]
    go_enter Tryz.func21, Tryz.ntmps21
    go_wp2_with (go_at_call 53; refine (HO.out _).mono ?_; rintro e w1 ⟨rfl, rfl⟩)
    go_ret
    exact ⟨by simp [h0], rfl⟩
end Go.Proofs.YtcgaeknikfaghaaGreatDoor
namespace Go.Proofs.YtcgaeknikfaghaaGreatDoor
open Go.RowKit
abbrev World.six (w : World) (g : Nat) (u0 u1 u2 u3 u4 u5 : Value) : World := (((((w.setCell ⟨g, 0, none⟩ u0).setCell ⟨g, 1, none⟩ u1).setCell ⟨g, 2, none⟩ u2).setCell ⟨g, 3, none⟩ u3).setCell ⟨g, 4, none⟩ u4).setCell ⟨g, 5, none⟩ u5
theorem six_turn (w : World) (g : Nat) (u0 u1 u2 u3 u4 u5 : Value) : Turn (fun b => b = g) w (World.six w g u0 u1 u2 u3 u4 u5) :=
  ((((((Turn.refl (fun b => b = g) w).put (p := ⟨g, 0, none⟩) (.inl rfl) u0).put (p := ⟨g, 1, none⟩) (.inl rfl) u1).put (p := ⟨g, 2, none⟩) (.inl rfl) u2).put (p := ⟨g, 3, none⟩) (.inl rfl) u3).put (p := ⟨g, 4, none⟩) (.inl rfl) u4).put (p := ⟨g, 5, none⟩) (.inl rfl) u5
theorem six_below {B : Nat} {w0 w : World} {g : Nat} {u0 u1 u2 u3 u4 u5 : Value} (h : Below B w0 w) (hB : B ≤ w0.heap.size) (hg : B ≤ g) : Below B w0 (World.six w g u0 u1 u2 u3 u4 u5) :=
  h.trans ((six_turn w g u0 u1 u2 u3 u4 u5).below (Nat.le_trans hB h.size) (fun _ e => e ▸ hg))
theorem six_lies {w : World} {g : Nat} {t : TypeId} {a0 a1 a2 a3 a4 a5 : Value} (h : Lies w g t #[a0, a1, a2, a3, a4, a5]) (u0 u1 u2 u3 u4 u5 : Value) : Lies (World.six w g u0 u1 u2 u3 u4 u5) g t #[u0, u1, u2, u3, u4, u5] := by
  have := (((((h.put 0 u0).put 1 u1).put 2 u2).put 3 u3).put 4 u4).put 5 u5
  exact this
theorem six_tree {w : World} {g B B' : Nat} {x : Sx} {A : Option Addr} {c : Nat} (u0 u1 u2 u3 u4 u5 : Value) (h : STree w (fun b _ => B ≤ b) x A c) (hg : g < B) (hB' : B' ≤ B) : STree (World.six w g u0 u1 u2 u3 u4 u5) (fun b _ => B' ≤ b) x A c :=
  ⟨h.le, h.tree.imp (six_turn w g u0 u1 u2 u3 u4 u5).size (fun b off hb hG j _ => (six_turn w g u0 u1 u2 u3 u4 u5).cell (p := ⟨b, off + j, none⟩) hb (by show ¬ b = g; omega)) (fun _ _ _ hG => Nat.le_trans hB' hG)⟩
theorem Says.close_on {z : Int} {l : List ITok} {D : List SItem} {t : ITok} {r : List ITok} (h : ∀ J, Says z (t :: r) J → Says z l (D ++ J)) (h2 : t.1 = 2) : ∀ J, Says z r J → Says z l ((D ++ [⟨Sx.zero, 60, t.2.2⟩]) ++ J) := fun J hJ => by
  rw [List.append_assoc]
  exact h _ (.close t r J h2 hJ)
theorem Says.atom_on {z : Int} {l : List ITok} {D : List SItem} {t : ITok} {r : List ITok} (h : ∀ J, Says z (t :: r) J → Says z l (D ++ J)) (h1 : t.1 ≠ 1) (h2 : t.1 ≠ 2) : ∀ J, Says z r J → Says z l ((D ++ [⟨Sx.atom t, 0, t.2.2⟩]) ++ J) := fun J hJ => by
  rw [List.append_assoc]
  exact h _ (.atom t r J h1 h2 hJ)
theorem Says.list_on {z : Int} {l : List ITok} {D : List SItem} {t c : ITok} {m r : List ITok} {M : List Sx} (h : ∀ J, Says z (t :: (m ++ c :: r)) J → Says z l (D ++ J)) (h1 : t.1 = 1) (h2 : c.1 = 2) (hr : Reads m M) (hd : ¬ 64 < Sx.deeps M + 1) : ∀ J, Says z r J → Says z l ((D ++ [⟨Sx.node t.2.2 M, 0, t.2.2⟩]) ++ J) := fun J hJ => by
  rw [List.append_assoc]
  exact h _ (.list t c m r M J h1 h2 hr hd hJ)
theorem Says.deep_on {z : Int} {l : List ITok} {D : List SItem} {t c : ITok} {m r : List ITok} {M : List Sx} (h : ∀ J, Says z (t :: (m ++ c :: r)) J → Says z l (D ++ J)) (h1 : t.1 = 1) (h2 : c.1 = 2) (hr : Reads m M) (hd : 64 < Sx.deeps M + 1) : ∀ J, Says z r J → Says z l ((D ++ [⟨Sx.zero, 2, t.2.2⟩]) ++ J) := fun J hJ => by
  rw [List.append_assoc]
  exact h _ (.deep t c m r M J h1 h2 hr hd hJ)
theorem Says.ends_on {z : Int} {l : List ITok} {D : List SItem} {t : ITok} {r : List ITok} (h : ∀ J, Says z (t :: r) J → Says z l (D ++ J)) (h1 : t.1 = 1) (hc : clos 0 0 (t :: r) = none) : Says z l (D ++ [⟨Sx.zero, 51, z⟩]) := h _ (.ends t r h1 hc)
abbrev ParseSaid (w : World) (l : List ITok) (z : Int) (e : Ending) (w' : World) : Prop :=
  (∃ (A' : Option Addr) (c' : Nat) (li : List MItem), e = .returned (.slice A' li.length c') ∧ li.length ≤ l.length ∧ OwnI w' w.heap.size A' c' li ∧ Says z l (li.map MItem.pure)) ∧ Below w.heap.size w w'
theorem ParseSaid.mk {w w' : World} {l : List ITok} {z : Int} {A' : Option Addr} {c' n : Nat} {li : List MItem} (hn : li.length = n) (hnl : n ≤ l.length) (h : OwnI w' w.heap.size A' c' li) (hs : Says z l (li.map MItem.pure)) (hb : Below w.heap.size w w') : ParseSaid w l z (.returned (.slice A' n c')) w' :=
  ⟨⟨A', c', li, by rw [hn], by omega, h, hs⟩, hb⟩
theorem rparse (w : World) (A : Option Addr) (n c : Nat) (l : List ITok) (z : Int) (h : TokS w A n l) (hn : n ≤ 1000000) :
    Calls Tryz.prog 91 #[.slice A n c, .int .i64 z] w fun e w' => ParseSaid w l z e w' := by
  obtain ⟨Post, hPost⟩ : ∃ Post : Ending → World → Prop, Post = fun e w' => ParseSaid w l z e w' := ⟨_, rfl⟩
  rw [← hPost]
  have HPo := Lib.hid hPost
  have HH := Lib.hid h
  clear hPost h
  go_enter Tryz.func91, Tryz.ntmps91
  go_wp2
  go_loopw [5, 6] (fun ov iv wr => ∃ (i m : Nat) (A' : Option Addr) (c' : Nat) (li : List MItem), i ≤ n ∧ m ≤ i ∧ iv = .int .i64 (i : Nat) ∧ ov = .slice A' m c' ∧ Below w.heap.size w wr ∧
    Hid (OwnI wr w.heap.size A' c' li ∧ li.length = m ∧ ∀ J, Says z (l.drop i) J → Says z l (li.map MItem.pure ++ J))) (fun _ iv _ => n - (intOf iv).toNat)
  case atStart => exact ⟨0, 0, none, 0, [], Nat.zero_le _, Nat.le_refl _, rfl, rfl, Below.refl _ _, OwnI.nil _ _, rfl, fun J hJ => by rw [List.drop_zero] at hJ; exact hJ⟩
  case round =>
    obtain ⟨i, m, A', c', li, hi, hmi, rfl, rfl, hb, HI⟩ := hrel
    have HB := Lib.hid hb
    by_cases hlt : i < n
    · obtain ⟨b, off, x, rfl, hx, hdr, hc⟩ := HH.out.get hlt
      obtain ⟨z0, z1, z2, z3⟩ := hc wr hb
      obtain ⟨xk, xt, xa⟩ := x
      obtain ⟨hI1, hI2, hI3⟩ := HI.out
      rw [hdr] at hI3
      have hlt' : (i : Int) < (n : Int) := by omega
      have hi0 : (0 : Int) ≤ (i : Int) := by omega
      have HO := Lib.hid hI1
      have HM := Lib.hid hI2
      have HNl : Hid (n = l.length) := HH.out.len.symm
      have HA : Hid (∀ o, OwnI (wr.alloc o) w.heap.size A' c' li ∧ w.heap.size ≤ (wr.alloc o).heap.size ∧ Below w.heap.size w (wr.alloc o)) := fun o => ⟨hI1.kept ((Below.refl _ wr).alloc (Nat.le_refl _) o), Nat.le_trans hb.size (by simp), hb.alloc hb.size o⟩
      by_cases h2 : xk = 2
      · subst h2
        have HN := Lib.hid (Says.close_on hI3 rfl)
        clear hI1 hI2 hI3 HI hb hx hdr hc hlt
        go_wp2_with (at_builtin; refine appendI _ rfl (.tmp 24) (.tmp 28) rfl w.heap.size A' c' li m HM.out ⟨Sx.zero, none, 0, 60, xa⟩ _ (by simp) rfl (HA.out _).1 ⟨⟨Nat.le_refl _, Nat.zero_le _⟩, .nil _⟩ rfl (by omega) (HA.out _).2.1 ?_; intro A3 c3 w3 o3 g3; have O3 := Lib.hid o3; have B3 := Lib.hid ((HA.out _).2.2.grown g3 (HA.out _).2.1 (fun q hq => (HO.out.lt HM.out hq).1)); clear o3 g3)
        go_roundw
        case rel => exact ⟨i + 1, m + 1, A3, c3, li ++ [⟨Sx.zero, none, 0, 60, xa⟩], by omega, by omega, by go_num, rfl, B3.out, O3.out, by rw [List.length_append, HM.out]; rfl, by rw [List.map_append]; exact HN.out⟩
        case measure => simp [intOf]; omega
      · by_cases h1 : xk = 1
        · subst h1
          have HC := Lib.hid fun W (hW : Below w.heap.size w W) => rclosing W (some ⟨b, off, none⟩) n c l i (1, xt, xa) (HH.out.below hW) hx rfl hn
          cases hcl : clos 0 0 (l.drop i) with
          | none =>
            rw [hcl] at HC
            rw [hdr] at hcl
            have HN := Lib.hid (Says.ends_on hI3 rfl hcl)
            clear hI1 hI2 hI3 HI hb hx hdr hc hlt h2 hcl
            go_wp2_with (first
              | (go_at_call 129; refine (HC.out _ (HA.out _).2.2).mono ?_; rintro e w4 ⟨⟨y, rfl⟩, rfl⟩)
              | (at_builtin; refine appendI _ rfl (.tmp 51) (.tmp 54) rfl w.heap.size A' c' li m HM.out ⟨Sx.zero, none, 0, 51, z⟩ _ (by simp) rfl (HA.out _).1 ⟨⟨Nat.le_refl _, Nat.zero_le _⟩, .nil _⟩ rfl (by omega) (HA.out _).2.1 ?_; intro A3 c3 w3 o3 g3; have O3 := Lib.hid o3; have B3 := Lib.hid ((HA.out _).2.2.grown g3 (HA.out _).2.1 (fun q hq => (HO.out.lt HM.out hq).1)); clear o3 g3))
            rw [HPo.out]
            exact ParseSaid.mk (by rw [List.length_append, HM.out]; rfl) (by have := HNl.out; omega) O3.out (by rw [List.map_append]; exact HN.out) B3.out
          | some sd =>
            obtain ⟨s, d⟩ := sd
            rw [hcl] at HC
            rw [hdr] at hcl
            obtain ⟨m', M', cb, r, e, hcb, hrm, rfl, rfl⟩ := clos_reads (o := (1, xt, xa)) rfl hcl
            obtain ⟨p, hp⟩ : ∃ p, m'.length = p := ⟨_, rfl⟩
            have hw := window (l := l) (j := n) (c := cb) (m := m') (i := i + 1) (l' := r) (by rw [HH.out.len]; exact Nat.le_refl _) (by rw [List.take_of_length_le (by rw [List.length_drop, HH.out.len]; omega)]; exact e)
            obtain ⟨w1, w2, w3, w4⟩ := hw
            have hr : r = l.drop (i + 1 + p + 1) := by
              rw [e, hp] at w4
              have := List.append_cancel_left w4
              injection this
            rw [e, hr] at hI3
            rw [hp] at HC w1
            by_cases hd : 64 < Sx.deeps M' + 1
            · have HN := Lib.hid (Says.deep_on hI3 rfl hcb hrm hd)
              obtain ⟨dd, hdd⟩ : ∃ d, Sx.deeps M' + 1 = d := ⟨_, rfl⟩
              rw [hdd] at HC hd
              have hd' : (64 : Int) < (dd : Int) := by omega
              have hy0 : ¬ (i : Int) + ((p : Int) + 1) < 0 := by omega
              clear hI1 hI2 hI3 HI hb hx hdr hc hlt h2 hcl w2 w3 w4 e hr hrm hcb hdd hp hd
              go_wp2_with (first
                | (go_at_call 129; refine (HC.out _ (HA.out _).2.2).mono ?_; rintro e w4 ⟨⟨y, y', rfl, rfl, rfl⟩, rfl⟩)
                | (at_builtin; refine appendI _ rfl (.tmp 58) (.tmp 62) rfl w.heap.size A' c' li m HM.out ⟨Sx.zero, none, 0, 2, xa⟩ _ (by simp) rfl (HA.out _).1 ⟨⟨Nat.le_refl _, Nat.zero_le _⟩, .nil _⟩ rfl (by omega) (HA.out _).2.1 ?_; intro A3 c3 w3 o3 g3; have O3 := Lib.hid o3; have B3 := Lib.hid ((HA.out _).2.2.grown g3 (HA.out _).2.1 (fun q hq => (HO.out.lt HM.out hq).1)); clear o3 g3))
              go_roundw
              case rel => exact ⟨i + 1 + p + 1, m + 1, A3, c3, li ++ [⟨Sx.zero, none, 0, 2, xa⟩], by omega, by omega, by go_num, rfl, B3.out, O3.out, by rw [List.length_append, HM.out]; rfl, by rw [List.map_append]; exact HN.out⟩
              case measure => simp [intOf]; omega
            · have HN := Lib.hid (Says.list_on hI3 rfl hcb hrm hd)
              obtain ⟨dd, hdd⟩ : ∃ d, Sx.deeps M' + 1 = d := ⟨_, rfl⟩
              rw [hdd] at HC hd
              have hd' : ¬ (64 : Int) < (dd : Int) := by omega
              have hy0 : ¬ (i : Int) + ((p : Int) + 1) < 0 := by omega
              have hrec := fun W (hW : Below w.heap.size w W) => rlistx p W (some ⟨b, off, none⟩) n c l (i + 1) (i + 1 + p) M' (by omega) (HH.out.below hW) hn (by omega) (by omega) (by rw [show i + 1 + p - (i + 1) = p by omega, ← hp, w2]; exact hrm)
              have hi1 : ((i + 1 : Nat) : Int) = (i : Int) + 1 := by omega
              have hq : ((i + 1 + p : Nat) : Int) = (i : Int) + ((p : Int) + 1) := by omega
              have hwp : IntKind.i64.wrap ((i : Int) + 1) = (i : Int) + 1 := IntWalk.i64_in _ (by omega)
              rw [hi1, hq] at hrec
              have HRec := Lib.hid hrec
              clear hI1 hI2 hI3 HI hb hx hdr hc hlt h2 hcl w2 w3 w4 e hr hrm hcb hdd hp hd hrec
              go_wp2_with (first
                | (go_at_call 129; refine (HC.out _ (HA.out _).2.2).mono ?_; rintro e w4 ⟨⟨y, y', rfl, rfl, rfl⟩, rfl⟩))
              generalize hW1 : wr.alloc (Obj.cells #[Value.int IntKind.i64 1, Value.string xt, Value.int IntKind.i64 xa] 24) = W1
              have HW1 : Hid (Below w.heap.size w W1 ∧ Lies W1 wr.heap.size 24 #[Value.int IntKind.i64 1, Value.string xt, Value.int IntKind.i64 xa] ∧ OwnI W1 w.heap.size A' c' li ∧ W1.heap.size = wr.heap.size + 1) := by
                show _ ∧ _
                rw [← hW1]
                exact ⟨(HA.out _).2.2, Lies.new _ _ _, (HA.out _).1, by simp⟩
              have HdW : Hid (Below W1.heap.size W1 W1.drew) := ⟨rfl, rfl, rfl, Nat.le_refl _, fun _ _ => rfl⟩
              have B2 := Lib.hid (HW1.out.1.trans (HdW.out.mono HW1.out.1.size))
              have KS : Hid (∀ W, Below W1.heap.size W1 W → W.cell? ⟨wr.heap.size, 2, none⟩ = some (.int .i64 xa) ∧ wr.heap.size < W.heap.size) := fun W hW => by
                have := (Turn.of_below (F := fun _ => False) hW).lies HW1.out.2.1 id
                exact ⟨this.cell 2, this.lt⟩
              have HS := Lib.hid (KS.out _ HdW.out)
              have HdA : Hid (∀ o, Below W1.heap.size W1 (W1.alloc o).drew ∧ Below w.heap.size w (W1.alloc o).drew ∧ W1.heap.size ≤ (W1.alloc o).drew.heap.size) := fun o =>
                have e : Below W1.heap.size W1 (W1.alloc o).drew := ((Turn.refl (fun _ => False) W1).alloc o).drew.none_ (fun _ => id)
                ⟨e, HW1.out.1.trans (e.mono HW1.out.1.size), e.size⟩
              have HdZ : Hid (∀ o, (W1.alloc o).drew.heap.size = W1.heap.size + 1) := fun o => by show (W1.alloc o).heap.size = _; simp
              have HdL : Hid (∀ t cs, Lies (W1.alloc (.cells cs t)).drew W1.heap.size t cs) := fun t cs => Lies.new W1 t cs
              clear hW1 HA
              go_cut [10] (fun s W => ∃ (p : Nat) (A2 : Option Addr) (c2 : Nat), s = .pointer (some ⟨p, 0, none⟩) ∧ Lies W p 27 #[.bool true, .int .i64 0, .string ByteArray.empty, .int .i64 0, .int .i64 xa, .slice A2 M'.length c2] ∧ Below W1.heap.size W1 W ∧ STree W (fun b _ => W1.heap.size ≤ b) (Sx.node xa M') A2 c2)
              case first =>
                go_region_held3 (fun W' => W'.cell? ⟨wr.heap.size, 2, none⟩ = some (.int .i64 xa) ∧ wr.heap.size < W'.heap.size)
                  (first | (with_reducible exact HS.out) | (with_reducible exact KS.out _ B3.out) | (with_reducible exact KS.out _ (B3.out.alloc B3.out.size _)) | (with_reducible exact KS.out _ (HdA.out _).1) | (with_reducible exact KS.out _ (six_below B3.out (Nat.le_refl _) (Nat.le_refl _))))
                  (first
                    | (go_at_call 130; (with_reducible refine (HRec.out _ ?_).mono ?_); (with_reducible exact B2.out); rintro e w5 ⟨⟨A2, c2, rfl, c2a, c2b, t2⟩, b5⟩; have B3 := Lib.hid (HdW.out.trans (b5.mono HdW.out.size)); have T2 := Lib.hid (And.intro (And.intro c2a c2b) t2); clear b5 t2)
                    | (go_at_call 130; (with_reducible refine (HRec.out _ ?_).mono ?_); (with_reducible exact (HdA.out _).2.1); rintro e w5 ⟨⟨A2, c2, rfl, c2a, c2b, t2⟩, b5⟩; have B3 := Lib.hid ((HdA.out _).1.trans (b5.mono (HdA.out _).2.2)); have T2 := Lib.hid (And.intro (And.intro c2a c2b) t2); have L5 := (Turn.of_below (F := fun _ => False) b5).lies (HdL.out _ _) id; have l0 := L5.cell 0; have l1 := L5.cell 1; have l2 := L5.cell 2; have l3 := L5.cell 3; have l4 := L5.cell 4; have l5 := L5.cell 5; have f0 := L5.free 0; have f1 := L5.free 1; have f2 := L5.free 2; have f3 := L5.free 3; have f4 := L5.free 4; have f5 := L5.free 5; clear b5 t2))
                case' _ =>
                  go_wp2_with fail
                  go_meet
                  exact ⟨w5.heap.size, A2, c2, rfl, Lies.new _ _ _, B3.out.alloc B3.out.size _, ⟨T2.out.1, (T2.out.2.kept ((Below.refl _ _).alloc (Nat.le_refl _) _)).mono fun _ _ _ h => h⟩⟩
                case' _ =>
                  go_wp2_with fail
                  go_meet
                  exact ⟨W1.heap.size, A2, c2, rfl, six_lies L5 _ _ _ _ _ _, six_below B3.out (Nat.le_refl _) (Nat.le_refl _), six_tree _ _ _ _ _ _ ⟨T2.out.1, T2.out.2⟩ (by rw [HdZ.out]; omega) (by rw [HdZ.out]; omega)⟩
              case rest =>
                obtain ⟨g, A2, c2, rfl, hL, hB3, hT3⟩ := hcut
                have hLt := (Turn.of_below (F := fun _ => False) hB3).lies HW1.out.2.1 id
                have z0 := hLt.lt
                have z2 := hLt.cell 2
                have y_ := hL.lt
                have y0 := hL.cell 0
                have y1 := hL.cell 1
                have y2 := hL.cell 2
                have y3 := hL.cell 3
                have y4 := hL.cell 4
                have y5 := hL.cell 5
                simp at z2 y0 y1 y2 y3 y4 y5
                have HOn := Lib.hid (HW1.out.2.2.1.kept hB3)
                have BOn := Lib.hid (HW1.out.1.trans (hB3.mono HW1.out.1.size))
                have HTn : Hid (STree wc (OffRow w.heap.size A' m c') (Sx.node xa M') A2 c2) := ⟨hT3.le, hT3.tree.mono fun b _ _ hb => ⟨Nat.le_trans HW1.out.1.size hb, fun e => absurd (HW1.out.2.2.1.lt HM.out e).2 (Nat.not_lt.2 hb)⟩⟩
                clear hL hLt hB3 hT3 HW1 HdW HdA HdL HdZ KS HS B2 HC HRec
                go_wp2_with (at_builtin; refine appendI _ rfl (.tmp 72) (.tmp 77) rfl w.heap.size A' c' li m HM.out ⟨Sx.node xa M', A2, c2, 0, xa⟩ _ (by simp) rfl HOn.out HTn.out rfl (by omega) BOn.out.size ?_; intro A3 c3 w3 o3 g3; have O3 := Lib.hid o3; have B3 := Lib.hid (BOn.out.grown g3 BOn.out.size (fun q hq => (HOn.out.lt HM.out hq).1)); clear o3 g3)
                go_roundw
                case rel => exact ⟨i + 1 + p + 1, m + 1, A3, c3, li ++ [⟨Sx.node xa M', A2, c2, 0, xa⟩], by omega, by omega, by go_num, rfl, B3.out, O3.out, by rw [List.length_append, HM.out]; rfl, by rw [List.map_append]; exact HN.out⟩
                case measure => simp [intOf]; omega
        · have HN := Lib.hid (Says.atom_on hI3 h1 h2)
          have b1 : (xk == 2) = false := beq_eq_false_iff_ne.2 h2
          have b2 : (xk != 1) = true := bne_iff_ne.2 h1
          clear hI1 hI2 hI3 HI hb hx hdr hc hlt h1 h2
          go_wp2_with (at_builtin; refine appendI _ rfl (.tmp 33) (.tmp 41) rfl w.heap.size A' c' li m HM.out ⟨Sx.atom (xk, xt, xa), none, 0, 0, xa⟩ _ (by simp) rfl (HA.out _).1 ⟨⟨Nat.le_refl _, Nat.zero_le _⟩, .nil _⟩ rfl (by omega) (HA.out _).2.1 ?_; intro A3 c3 w3 o3 g3; have O3 := Lib.hid o3; have B3 := Lib.hid ((HA.out _).2.2.grown g3 (HA.out _).2.1 (fun q hq => (HO.out.lt HM.out hq).1)); clear o3 g3)
          go_roundw
          case rel => exact ⟨i + 1, m + 1, A3, c3, li ++ [⟨Sx.atom (xk, xt, xa), none, 0, 0, xa⟩], by omega, by omega, by go_num, rfl, B3.out, O3.out, by rw [List.length_append, HM.out]; rfl, by rw [List.map_append]; exact HN.out⟩
          case measure => simp [intOf]; omega
    · obtain rfl : i = n := by omega
      obtain ⟨hI1, hI2, hI3⟩ := HI.out
      have HE := Lib.hid (ParseSaid.mk (z := z) (l := l) hI2 (by rw [HH.out.len]; exact hmi) hI1 (by have := hI3 [] (by rw [List.drop_of_length_le (by rw [HH.out.len]; exact Nat.le_refl _)]; exact .nil); rw [List.append_nil] at this; exact this) hb)
      clear hI1 hI2 hI3 HI hb
      go_wp2
      rw [HPo.out]
      exact HE.out
end Go.Proofs.YtcgaeknikfaghaaGreatDoor
