/- What the proofs of this claim use, text by text. -/
import Derived.Test.YtcgaeknikfaghaaGreatDoorQC28
set_option linter.unusedSimpArgs false
set_option linter.unusedVariables false
set_option maxRecDepth 100000
set_option maxHeartbeats 25600000
namespace Go.Proofs.YtcgaeknikfaghaaGreatDoor
open Go.RowKit
abbrev opCells : Array Value := #[.string ⟨#[110, 111, 116]⟩, .string ⟨#[97, 110, 100]⟩, .string ⟨#[111, 114]⟩, .string ⟨#[61, 62]⟩, .string ⟨#[120, 111, 114]⟩, .string ⟨#[61]⟩, .string ⟨#[100, 105, 115, 116, 105, 110, 99, 116]⟩, .string ⟨#[105, 116, 101]⟩, .string ⟨#[]⟩, .string ⟨#[43]⟩, .string ⟨#[45]⟩, .string ⟨#[42]⟩, .string ⟨#[60, 61]⟩, .string ⟨#[60]⟩, .string ⟨#[62, 61]⟩, .string ⟨#[62]⟩, .string ⟨#[115, 116, 114, 46, 43, 43]⟩, .string ⟨#[115, 116, 114, 46, 108, 101, 110]⟩, .string ⟨#[115, 116, 114, 46, 97, 116]⟩, .string ⟨#[115, 116, 114, 46, 115, 117, 98, 115, 116, 114]⟩, .string ⟨#[115, 116, 114, 46, 112, 114, 101, 102, 105, 120, 111, 102]⟩, .string ⟨#[115, 116, 114, 46, 115, 117, 102, 102, 105, 120, 111, 102]⟩, .string ⟨#[115, 116, 114, 46, 99, 111, 110, 116, 97, 105, 110, 115]⟩, .string ⟨#[115, 116, 114, 46, 105, 110, 100, 101, 120, 111, 102]⟩, .string ⟨#[115, 116, 114, 46, 114, 101, 112, 108, 97, 99, 101]⟩]
abbrev resCells : Array Value := #[.string ⟨#[116, 114, 117, 101]⟩, .string ⟨#[102, 97, 108, 115, 101]⟩, .string ⟨#[108, 101, 116]⟩, .string ⟨#[102, 111, 114, 97, 108, 108]⟩, .string ⟨#[101, 120, 105, 115, 116, 115]⟩, .string ⟨#[109, 97, 116, 99, 104]⟩, .string ⟨#[112, 97, 114]⟩, .string ⟨#[33]⟩, .string ⟨#[95]⟩, .string ⟨#[97, 115]⟩, .string ⟨#[100, 105, 118]⟩, .string ⟨#[109, 111, 100]⟩, .string ⟨#[97, 98, 115]⟩]
theorem opCells_get (i : Nat) : opCells[i]? = (Bd.opNames[i]?).map fun l => Value.string ⟨l.toArray⟩ := by
  rw [← List.getElem?_map, ← Array.getElem?_toList]
  rfl
theorem resCells_get (i : Nat) : resCells[i]? = (Bd.resNames[i]?).map fun l => Value.string ⟨l.toArray⟩ := by
  rw [← List.getElem?_map, ← Array.getElem?_toList]
  rfl
theorem opNames_len : Bd.opNames.length = 25 := rfl
theorem resNames_len : Bd.resNames.length = 13 := rfl
theorem Bd.op_hits : ∀ i : Fin 25, Bd.opNames[i] ≠ [] → Bd.opNames.findIdx? (fun t => t == Bd.opNames[i]) = some i.val := by decide
theorem Bd.op_hit {s : List UInt8} {n i : Nat} (h : ¬ (s = [45] ∧ n = 1)) (hs : s ≠ []) (hi : Bd.opNames[i]? = some s) : Bd.op s n = 6 + (i : Int) := by
  obtain ⟨hl, e⟩ := List.getElem?_eq_some_iff.1 hi
  have := Bd.op_hits ⟨i, hl⟩
  simp only [Fin.getElem_fin, e] at this
  unfold Bd.op
  rw [if_neg h, if_neg hs, this hs]
theorem Bd.op_miss {s : List UInt8} {n : Nat} (h : ¬ (s = [45] ∧ n = 1)) (hs : s ≠ [] → ∀ (j : Nat) y, Bd.opNames[j]? = some y → y ≠ s) : Bd.op s n = 0 := by
  by_cases e : s = []
  · unfold Bd.op
    rw [if_neg h, if_pos e]
  · exact Bd.op_none fun hm => by
      obtain ⟨j, hj⟩ := List.getElem?_of_mem hm
      exact hs e j s hj rfl
theorem txt_ne {s : ByteArray} (h : s.data.toList ≠ []) : s.toList.isEmpty = false := by
  rw [ByteArray.toList_eq]
  cases e : s.data.toList with
  | nil => exact absurd e h
  | cons a l => rfl
theorem txt_no {s : ByteArray} (h : s.data.toList = []) : s.toList.isEmpty = true := by rw [ByteArray.toList_eq, h]; rfl
theorem roperation10 (s : ByteArray) (n : Nat) (w : World) :
    Calls Tryz.prog 55 #[.string s, .int .i64 (n : Int)] w fun e w' => e = .returned (.int .i64 (Bd.op s.data.toList n)) ∧ Below w.heap.size w w' := by
  by_cases h45 : s.data.toList = [45] ∧ n = 1
  · obtain ⟨h45, rfl⟩ := h45
    have b0 := lit_yes h45
    have e : Bd.op s.data.toList 1 = 14 := by rw [h45]; decide
    rw [e]
    clear h45 e
    go_enter Tryz.func55, Tryz.ntmps55
    go_wp2
    go_ret
    exact ⟨rfl, Below.refl _ _⟩
  have hc : ((s.toList == [45]) = true ∧ ((n : Int) == 1) = false) ∨ (s.toList == [45]) = false := by
    by_cases h : s.data.toList = [45]
    · have h1 : n ≠ 1 := fun e => h45 ⟨h, e⟩
      exact .inl ⟨lit_yes h, beq_eq_false_iff_ne.2 (by omega)⟩
    · exact .inr (lit_no h)
  have HMiss : Hid ((s.data.toList ≠ [] → ∀ (j : Nat) y, Bd.opNames[j]? = some y → y ≠ s.data.toList) → Bd.op s.data.toList n = 0) := fun h => Bd.op_miss h45 h
  have HHit : Hid (∀ i : Nat, s.data.toList ≠ [] → Bd.opNames[i]? = some s.data.toList → Bd.op s.data.toList n = 6 + (i : Int)) := fun i h1 h2 => Bd.op_hit h45 h1 h2
  obtain ⟨r, hr⟩ : ∃ r, Bd.op s.data.toList n = r := ⟨_, rfl⟩
  rw [hr] at HMiss HHit ⊢
  obtain ⟨W1, hW1⟩ : ∃ W1, w.alloc (.cells opCells 9) = W1 := ⟨_, rfl⟩
  have hL : Lies W1 w.heap.size 9 opCells := by rw [← hW1]; exact Lies.new w _ _
  have HB : Hid (Below w.heap.size w W1) := by rw [← hW1]; exact (Below.refl _ w).alloc (Nat.le_refl _) _
  have hlt := hL.lt
  have HC : Hid (∀ (i : Nat), i < 25 → ∃ y : ByteArray, Bd.opNames[i]? = some y.data.toList ∧ W1.cell? ⟨w.heap.size, i, none⟩ = some (.string y)) := fun i hi => by
    obtain ⟨l, hl⟩ : ∃ l, Bd.opNames[i]? = some l := ⟨_, List.getElem?_eq_getElem (by rw [opNames_len]; exact hi)⟩
    exact ⟨⟨l.toArray⟩, by rw [hl], by rw [hL.cell, opCells_get, hl]; rfl⟩
  unfold opCells at hW1
  clear h45 hr hL
  rcases hc with ⟨b0, d1⟩ | b0
  all_goals
    go_enter Tryz.func55, Tryz.ntmps55
    go_wp2
    clear hW1
    go_loopw [6] (fun iv wr => ∃ i : Nat, i ≤ 25 ∧ iv = .int .i64 (i : Nat) ∧ W1 = wr ∧ Hid (s.data.toList ≠ [] → ∀ (j : Nat) y, j < i → Bd.opNames[j]? = some y → y ≠ s.data.toList)) (fun iv _ => 25 - (intOf iv).toNat)
    case atStart => exact ⟨0, Nat.zero_le _, rfl, rfl, fun _ _ _ h => absurd h (Nat.not_lt_zero _)⟩
    case round =>
      obtain ⟨i, hi, rfl, rfl, HI⟩ := hrel
      by_cases hlt2 : i < 25
      · obtain ⟨y, hl, c1⟩ := HC.out i hlt2
        have q1 := text_eq y s
        have hi0 : (0 : Int) ≤ (i : Int) := by omega
        have hi1 : (i : Int) < 25 := by omega
        have hiw : IntKind.i64.wrap ((i : Int) + 1) = (i : Int) + 1 := IntWalk.i64_in _ (by omega)
        have hi6 : IntKind.i64.wrap (6 + (i : Int)) = 6 + (i : Int) := IntWalk.i64_in _ (by omega)
        by_cases e : y = s
        · rw [decide_eq_true e] at q1
          by_cases hs : s.data.toList = []
          · have q2 := txt_no hs
            have HN : Hid (s.data.toList ≠ [] → ∀ (j : Nat) y, j < i + 1 → Bd.opNames[j]? = some y → y ≠ s.data.toList) := fun h => absurd hs h
            clear hl e hs HI HC HMiss HHit
            go_wp2
            go_roundw
            case rel => exact ⟨i + 1, by omega, by go_num, (by first | trivial | rfl), HN⟩
            case measure => simp [intOf]; omega
          · have q2 := txt_ne hs
            rw [e] at hl
            have hh := HHit.out i hs hl
            subst hh
            clear hl e hs HI HC HMiss HHit
            go_wp2
            go_ret
            exact ⟨rfl, HB.out⟩
        · rw [decide_eq_false e] at q1
          have HN : Hid (s.data.toList ≠ [] → ∀ (j : Nat) y, j < i + 1 → Bd.opNames[j]? = some y → y ≠ s.data.toList) := fun h j y2 hj hy => by
            rcases Nat.lt_or_ge j i with e1 | e1
            · exact HI.out h j y2 e1 hy
            · obtain rfl : j = i := by omega
              rw [hl] at hy
              injection hy with hy
              rw [← hy]
              exact fun h2 => e (bytes_eq h2)
          clear hl e HI HC HMiss HHit
          go_wp2
          go_roundw
          case rel => exact ⟨i + 1, by omega, by go_num, (by first | trivial | rfl), HN⟩
          case measure => simp [intOf]; omega
      · obtain rfl : i = 25 := by omega
        have hh : r = 0 := HMiss.out fun h j y hy => HI.out h j y (by have := (List.getElem?_eq_some_iff.1 hy).1; rw [opNames_len] at this; exact this) hy
        subst hh
        clear HI HC HMiss HHit
        go_wp2
        go_ret
        exact ⟨rfl, HB.out⟩
theorem take_text (s : ByteArray) (k : Nat) (hk : k ≤ s.size) (W : World) (hk2 : k ≤ 100) : (Instr.slice 9 (.string s) none (some (.int .i64 (k : Nat))) none).run Tryz.prog W = .ok (.string (s.extract 0 k)) W := by
  rw [run_slice_string_to_if _ _ _ _ _ Tryz.underlying9, if_pos (by omega)]
  rfl
theorem take_list (s : ByteArray) (k : Nat) : (s.extract 0 k).data.toList = s.data.toList.take k := by simp
theorem take_short {l m : List UInt8} {k : Nat} (hm : m.length = k) (hl : l.length < k) : l.take k ≠ m := fun e => by
  have := congrArg List.length e
  rw [List.length_take] at this
  omega
theorem rreserved10 (s : ByteArray) (w : World) :
    Calls Tryz.prog 22 #[.string s] w fun e w' => e = .returned (.bool (Bd.reserved s.data.toList)) ∧ Below w.heap.size w w' := by
  obtain ⟨W1, hW1⟩ : ∃ W1, w.alloc (.cells resCells 9) = W1 := ⟨_, rfl⟩
  have hL : Lies W1 w.heap.size 9 resCells := by rw [← hW1]; exact Lies.new w _ _
  have HB : Hid (Below w.heap.size w W1) := by rw [← hW1]; exact (Below.refl _ w).alloc (Nat.le_refl _) _
  have hlt := hL.lt
  have HC : Hid (∀ (i : Nat), i < 13 → ∃ y : ByteArray, Bd.resNames[i]? = some y.data.toList ∧ W1.cell? ⟨w.heap.size, i, none⟩ = some (.string y)) := fun i hi => by
    obtain ⟨l, hl⟩ : ∃ l, Bd.resNames[i]? = some l := ⟨_, List.getElem?_eq_getElem (by rw [resNames_len]; exact hi)⟩
    exact ⟨⟨l.toArray⟩, by rw [hl], by rw [hL.cell, resCells_get, hl]; rfl⟩
  have HIn : Hid (∀ (i : Nat), Bd.resNames[i]? = some s.data.toList → Bd.reserved s.data.toList = true) := fun i h => by
    unfold Bd.reserved
    rw [List.contains_iff_mem.2 (List.mem_of_getElem? h)]
    rfl
  have HOut : Hid ((∀ (j : Nat) y, Bd.resNames[j]? = some y → y ≠ s.data.toList) → Bd.reserved s.data.toList = (decide (s.data.toList.take 4 = [115, 116, 114, 46]) || decide (s.data.toList.take 3 = [114, 101, 46]) || decide (Bd.op s.data.toList 2 ≠ 0))) := fun h => by
    unfold Bd.reserved
    rw [show Bd.resNames.contains s.data.toList = false by
      rw [Bool.eq_false_iff]
      intro e
      obtain ⟨j, hj⟩ := List.getElem?_of_mem (List.contains_iff_mem.1 e)
      exact h j _ hj rfl]
    rw [Bool.false_or]
  have HOp := Lib.hid fun W => roperation10 s 2 W
  obtain ⟨sz, hsz⟩ : ∃ sz, s.size = sz := ⟨_, rfl⟩
  have hln : s.data.toList.length = sz := by rw [← hsz, Array.length_toList]; rfl
  have HS4 : Hid (4 ≤ sz → ∃ p : ByteArray, (∀ W, (Instr.slice 9 (.string s) none (some (.int .i64 4)) none).run Tryz.prog W = .ok (.string p) W) ∧ (p.toList == [115, 116, 114, 46]) = decide (s.data.toList.take 4 = [115, 116, 114, 46])) := fun h =>
    ⟨s.extract 0 4, fun W => take_text s 4 (by omega) W (by decide), by
      have e := take_list s 4
      by_cases h2 : s.data.toList.take 4 = [115, 116, 114, 46]
      · rw [decide_eq_true h2]; exact lit_yes (e.trans h2)
      · rw [decide_eq_false h2]; exact lit_no fun h3 => h2 (e.symm.trans h3)⟩
  have HS3 : Hid (3 ≤ sz → ∃ p : ByteArray, (∀ W, (Instr.slice 9 (.string s) none (some (.int .i64 3)) none).run Tryz.prog W = .ok (.string p) W) ∧ (p.toList == [114, 101, 46]) = decide (s.data.toList.take 3 = [114, 101, 46])) := fun h =>
    ⟨s.extract 0 3, fun W => take_text s 3 (by omega) W (by decide), by
      have e := take_list s 3
      by_cases h2 : s.data.toList.take 3 = [114, 101, 46]
      · rw [decide_eq_true h2]; exact lit_yes (e.trans h2)
      · rw [decide_eq_false h2]; exact lit_no fun h3 => h2 (e.symm.trans h3)⟩
  have HN4 : Hid (¬ 4 ≤ sz → decide (s.data.toList.take 4 = [115, 116, 114, 46]) = false) := fun h => decide_eq_false (take_short rfl (by omega))
  have HN3 : Hid (¬ 3 ≤ sz → decide (s.data.toList.take 3 = [114, 101, 46]) = false) := fun h => decide_eq_false (take_short rfl (by omega))
  obtain ⟨r, hr⟩ : ∃ r, Bd.reserved s.data.toList = r := ⟨_, rfl⟩
  obtain ⟨o, ho⟩ : ∃ o, Bd.op s.data.toList 2 = o := ⟨_, rfl⟩
  obtain ⟨t4, ht4⟩ : ∃ t4, decide (s.data.toList.take 4 = [115, 116, 114, 46]) = t4 := ⟨_, rfl⟩
  obtain ⟨t3, ht3⟩ : ∃ t3, decide (s.data.toList.take 3 = [114, 101, 46]) = t3 := ⟨_, rfl⟩
  rw [hr] at HIn HOut ⊢
  rw [ho] at HOut HOp
  rw [ht4] at HOut HS4 HN4
  rw [ht3] at HOut HS3 HN3
  unfold resCells at hW1
  clear hr hL ho ht4 ht3 hln
  go_enter Tryz.func22, Tryz.ntmps22
  go_wp2
  clear hW1
  go_loopw [4] (fun iv wr => ∃ i : Nat, i ≤ 13 ∧ iv = .int .i64 (i : Nat) ∧ W1 = wr ∧ Hid (∀ (j : Nat) y, j < i → Bd.resNames[j]? = some y → y ≠ s.data.toList)) (fun iv _ => 13 - (intOf iv).toNat)
  case atStart => exact ⟨0, Nat.zero_le _, rfl, rfl, fun _ _ h => absurd h (Nat.not_lt_zero _)⟩
  case round =>
    obtain ⟨i, hi, rfl, rfl, HI⟩ := hrel
    by_cases hlt2 : i < 13
    · obtain ⟨y, hl, c1⟩ := HC.out i hlt2
      have q1 := text_eq y s
      have hi0 : (0 : Int) ≤ (i : Int) := by omega
      have hi1 : (i : Int) < 13 := by omega
      have hiw : IntKind.i64.wrap ((i : Int) + 1) = (i : Int) + 1 := IntWalk.i64_in _ (by omega)
      by_cases e : y = s
      · rw [decide_eq_true e] at q1
        rw [e] at hl
        have hh := HIn.out i hl
        subst hh
        clear hl e HI HC HIn HOut HOp HS4 HS3 HN4 HN3
        go_wp2
        go_ret
        exact ⟨rfl, HB.out⟩
      · rw [decide_eq_false e] at q1
        have HN : Hid (∀ (j : Nat) y, j < i + 1 → Bd.resNames[j]? = some y → y ≠ s.data.toList) := fun j y2 hj hy => by
          rcases Nat.lt_or_ge j i with e1 | e1
          · exact HI.out j y2 e1 hy
          · obtain rfl : j = i := by omega
            rw [hl] at hy
            injection hy with hy
            rw [← hy]
            exact fun h2 => e (bytes_eq h2)
        clear hl e HI HC HIn HOut HOp HS4 HS3 HN4 HN3
        go_wp2
        go_roundw
        case rel => exact ⟨i + 1, by omega, by go_num, (by first | trivial | rfl), HN⟩
        case measure => simp [intOf]; omega
    · obtain rfl : i = 13 := by omega
      have hr := HOut.out fun j y hy => HI.out j y (by have := (List.getElem?_eq_some_iff.1 hy).1; rw [resNames_len] at this; exact this) hy
      have hR := Lib.hid hr
      clear HI HC HIn HOut hr
      have hc4 : ∃ p : ByteArray, (∀ W, 4 ≤ sz → (Instr.slice 9 (.string s) none (some (.int .i64 4)) none).run Tryz.prog W = .ok (.string p) W) ∧ ((decide ((4 : Int) ≤ (sz : Int)) = true ∧ 4 ≤ sz ∧ (p.toList == [115, 116, 114, 46]) = t4) ∨ (decide ((4 : Int) ≤ (sz : Int)) = false ∧ t4 = false)) := by
        by_cases h : 4 ≤ sz
        · obtain ⟨p, h1, h2⟩ := HS4.out h
          exact ⟨p, fun W _ => h1 W, .inl ⟨decide_eq_true (by omega), h, h2⟩⟩
        · exact ⟨s, fun W h2 => absurd h2 h, .inr ⟨decide_eq_false (by omega), HN4.out h⟩⟩
      have hc3 : ∃ p : ByteArray, (∀ W, 3 ≤ sz → (Instr.slice 9 (.string s) none (some (.int .i64 3)) none).run Tryz.prog W = .ok (.string p) W) ∧ ((decide ((3 : Int) ≤ (sz : Int)) = true ∧ 3 ≤ sz ∧ (p.toList == [114, 101, 46]) = t3) ∨ (decide ((3 : Int) ≤ (sz : Int)) = false ∧ t3 = false)) := by
        by_cases h : 3 ≤ sz
        · obtain ⟨p, h1, h2⟩ := HS3.out h
          exact ⟨p, fun W _ => h1 W, .inl ⟨decide_eq_true (by omega), h, h2⟩⟩
        · exact ⟨s, fun W h2 => absurd h2 h, .inr ⟨decide_eq_false (by omega), HN3.out h⟩⟩
      obtain ⟨p4, s4, c4⟩ := hc4
      obtain ⟨p3, s3, c3⟩ := hc3
      clear HS4 HS3 HN4 HN3 hlt
      rcases c4 with ⟨c4, l4, q4⟩ | ⟨c4, z4⟩ <;> rcases c3 with ⟨c3, l3, q3⟩ | ⟨c3, z3⟩
      all_goals
        first | (replace s4 := fun W => s4 W l4) | clear s4
        first | (replace s3 := fun W => s3 W l3) | clear s3
        cases t4 <;> cases t3
        all_goals
          first
            | exact absurd z4 (by decide)
            | exact absurd z3 (by decide)
            | (have hr1 : r = true := by have := hR.out; simpa using this
               subst hr1
               clear hR HOp
               go_wp2
               go_ret
               exact ⟨rfl, HB.out⟩)
            | (have hr1 : r = decide (o ≠ 0) := by have := hR.out; simpa using this
               have hr2 : (o != 0) = r := by rw [hr1]; by_cases e : o = 0 <;> simp [e]
               clear hR hr1
               go_wp2_with (go_at_call 55; refine (HOp.out _).mono ?_; rintro e w2 ⟨rfl, b2⟩)
               go_ret
               exact ⟨rfl, HB.out.trans (b2.mono HB.out.size)⟩)
def Bd.sortNames : List (List UInt8) := [[66, 111, 111, 108], [73, 110, 116], [83, 116, 114, 105, 110, 103]]
theorem Bd.sort_hit : ∀ i : Fin 3, ∀ x : Sx, x.list = false → x.k = 3 → x.T.data.toList = Bd.sortNames[i] → Bd.sort x = ((i.val : Int) + 1, 0) := fun i x h1 h2 h3 => by
  unfold Bd.sort
  rw [if_pos ⟨h1, h2⟩, h3]
  match i with
  | 0 => rfl
  | 1 => rfl
  | 2 => rfl
theorem Bd.sort_miss {x : Sx} (h : ∀ i : Fin 3, ¬ (x.list = false ∧ x.k = 3 ∧ x.T.data.toList = Bd.sortNames[i])) : Bd.sort x = (0, 101) := by
  unfold Bd.sort
  split
  · rename_i h1
    rw [if_neg (fun e : x.T.data.toList = [66, 111, 111, 108] => h 0 ⟨h1.1, h1.2, e⟩), if_neg (fun e : x.T.data.toList = [73, 110, 116] => h 1 ⟨h1.1, h1.2, e⟩), if_neg (fun e : x.T.data.toList = [83, 116, 114, 105, 110, 103] => h 2 ⟨h1.1, h1.2, e⟩)]
  · rfl
theorem rsort10 (w : World) (x : Sx) (A : Option Addr) (c : Nat) :
    Calls Tryz.prog 20 #[sval x A c] w fun e w' => e = .returned (.tuple #[.int .i64 (Bd.sort x).1, .int .i64 (Bd.sort x).2]) ∧ Below w.heap.size w w' := by
  obtain ⟨W0, hW0⟩ : ∃ W0, w.alloc (sbox x A c) = W0 := ⟨_, rfl⟩
  have hB0 : Below w.heap.size w W0 := by rw [← hW0]; exact (Below.refl _ w).alloc (Nat.le_refl _) _
  have hbx : SAt W0 w.heap.size 0 x A c := by rw [← hW0]; exact sbox_at w x A c
  obtain ⟨W1, hW1⟩ : ∃ W1, W0.alloc (.cells #[.string ⟨#[66, 111, 111, 108]⟩, .string ⟨#[73, 110, 116]⟩, .string ⟨#[83, 116, 114, 105, 110, 103]⟩] 9) = W1 := ⟨_, rfl⟩
  have hB1 : Below W0.heap.size W0 W1 := by rw [← hW1]; exact (Below.refl _ _).alloc (Nat.le_refl _) _
  have hL : Lies W1 W0.heap.size 9 #[.string ⟨#[66, 111, 111, 108]⟩, .string ⟨#[73, 110, 116]⟩, .string ⟨#[83, 116, 114, 105, 110, 103]⟩] := by rw [← hW1]; exact Lies.new W0 _ _
  have HB : Hid (Below w.heap.size w W1) := hB0.trans (hB1.mono hB0.size)
  have HC : Hid (∀ (i : Nat), (hi : i < 3) → ∃ y : ByteArray, y.data.toList = Bd.sortNames[i]'hi ∧ ∀ W, Below W1.heap.size W1 W → W.cell? ⟨W0.heap.size, i, none⟩ = some (.string y) ∧ W0.heap.size < W.heap.size) := fun i hi => by
    have hl : ∀ W, Below W1.heap.size W1 W → Lies W W0.heap.size 9 #[.string ⟨#[66, 111, 111, 108]⟩, .string ⟨#[73, 110, 116]⟩, .string ⟨#[83, 116, 114, 105, 110, 103]⟩] := fun W hW => (hW.block _ hL.lt).trans hL
    have : i = 0 ∨ i = 1 ∨ i = 2 := by omega
    rcases this with rfl | rfl | rfl
    · exact ⟨⟨#[66, 111, 111, 108]⟩, rfl, fun W hW => ⟨(hl W hW).cell 0, (hl W hW).lt⟩⟩
    · exact ⟨⟨#[73, 110, 116]⟩, rfl, fun W hW => ⟨(hl W hW).cell 1, (hl W hW).lt⟩⟩
    · exact ⟨⟨#[83, 116, 114, 105, 110, 103]⟩, rfl, fun W hW => ⟨(hl W hW).cell 2, (hl W hW).lt⟩⟩
  have HX : Hid (∀ W, Below W1.heap.size W1 W → (W.cell? ⟨w.heap.size, 0, none⟩ = some (.bool x.list) ∧ W.cell? ⟨w.heap.size, 1, none⟩ = some (.int .i64 x.k) ∧ W.cell? ⟨w.heap.size, 2, none⟩ = some (.string x.T)) ∧ Below w.heap.size w W) := fun W hW => by
    obtain ⟨_, b0, b1, b2, b3, b4, b5⟩ := (hbx.below hB1).below hW
    simp only [Nat.zero_add] at b0 b1 b2
    exact ⟨⟨b0, b1, b2⟩, HB.out.trans (hW.mono HB.out.size)⟩
  have HHit := Lib.hid (fun (i : Nat) (hi : i < 3) => Bd.sort_hit ⟨i, hi⟩ x)
  have HMiss := Lib.hid (Bd.sort_miss (x := x))
  obtain ⟨r, hr⟩ : ∃ r, Bd.sort x = r := ⟨_, rfl⟩
  rw [hr] at HHit HMiss ⊢
  obtain ⟨r1, r2⟩ := r
  obtain ⟨xn, hxn⟩ : ∃ xn, x.L.length = xn := ⟨_, rfl⟩
  unfold sval
  rw [hxn]
  have hW0' : w.alloc (.cells #[.bool x.list, .int .i64 x.k, .string x.T, .int .i64 x.ta, .int .i64 x.at_, .slice A xn c] 27) = W0 := by rw [← hW0, ← hxn]
  obtain ⟨xl, hxl⟩ : ∃ xl, x.list = xl := ⟨_, rfl⟩
  obtain ⟨xk, hxk⟩ : ∃ xk, x.k = xk := ⟨_, rfl⟩
  obtain ⟨xT, hxT⟩ : ∃ xT, x.T = xT := ⟨_, rfl⟩
  rw [hxl, hxk, hxT] at hW0' HHit HMiss HX ⊢
  clear hr hxn hW0 hB0 hB1 hL hbx hxl hxk hxT
  go_enter Tryz.func20, Tryz.ntmps20
  go_wp2
  clear hW1 hW0'
  go_loopw [5] (fun iv wr => ∃ i : Nat, i ≤ 3 ∧ iv = .int .i64 (i : Nat) ∧ Hid (Below W1.heap.size W1 wr) ∧ Hid (∀ j : Fin 3, j.val < i → ¬ (xl = false ∧ xk = 3 ∧ xT.data.toList = Bd.sortNames[j]))) (fun iv _ => 3 - (intOf iv).toNat)
  case atStart => exact ⟨0, Nat.zero_le _, rfl, Below.refl _ _, fun _ h => absurd h (Nat.not_lt_zero _)⟩
  case round =>
    obtain ⟨i, hi, rfl, HW, HI⟩ := hrel
    obtain ⟨⟨b0, b1, b2⟩, hbw⟩ := HX.out wr HW.out
    have HE := Lib.hid hbw
    by_cases hlt2 : i < 3
    · obtain ⟨y, hy, hc1⟩ := HC.out i hlt2
      obtain ⟨c1, hlt⟩ := hc1 wr HW.out
      clear hc1
      have q1 := text_eq xT y
      have hi0 : (0 : Int) ≤ (i : Int) := by omega
      have hi1 : (i : Int) < 3 := by omega
      have hiw : IntKind.i64.wrap ((i : Int) + 1) = (i : Int) + 1 := IntWalk.i64_in _ (by omega)
      by_cases hit : xl = false ∧ xk = 3 ∧ xT = y
      · obtain ⟨rfl, rfl, e⟩ := hit
        rw [decide_eq_true e] at q1
        have hh := HHit.out i hlt2 rfl rfl (by rw [e, hy]; rfl)
        injection hh with h1 h2
        subst h1 h2
        clear HI HC HHit HMiss hy e
        go_wp2_with fail
        go_quiet (fail)
        go_wp2
        go_ret2
        exact ⟨rfl, below_drewN HE.out nq⟩
      · have HN : Hid (∀ j : Fin 3, j.val < i + 1 → ¬ (xl = false ∧ xk = 3 ∧ xT.data.toList = Bd.sortNames[j])) := fun j hj hh => by
          rcases Nat.lt_or_ge j.val i with e1 | e1
          · exact HI.out j e1 hh
          · obtain rfl : j = ⟨i, hlt2⟩ := Fin.ext (by simp only; omega)
            exact hit ⟨hh.1, hh.2.1, bytes_eq (hh.2.2.trans hy.symm)⟩
        have hcase : xl = true ∨ (xl = false ∧ (xk == 3) = false) ∨ (xl = false ∧ (xk == 3) = true ∧ (xT.toList == y.toList) = false) := by
          cases xl with
          | true => exact .inl rfl
          | false =>
            by_cases h3 : xk = 3
            · exact .inr (.inr ⟨rfl, by simp [h3], by rw [q1]; exact decide_eq_false fun e => hit ⟨rfl, h3, e⟩⟩)
            · exact .inr (.inl ⟨rfl, by simp [h3]⟩)
        clear HI HC HHit HMiss hy q1 hit
        rcases hcase with rfl | ⟨rfl, q3⟩ | ⟨rfl, q3, q4⟩
        all_goals
          go_wp2_with fail
          go_quiet (fail)
          go_wp2
          go_roundw
          case rel => exact ⟨i + 1, by omega, by go_num, below_drewN HW.out nq, HN⟩
          case measure => simp [intOf]; omega
    · obtain rfl : i = 3 := by omega
      have hh := HMiss.out fun j => HI.out j j.isLt
      injection hh with h1 h2
      subst h1 h2
      clear HI HC HHit HMiss
      go_wp2
      go_ret2
      exact ⟨rfl, HE.out⟩
end Go.Proofs.YtcgaeknikfaghaaGreatDoor
