/- The library's ParseUint, to the base 16 and of at most five digits. -/
import Derived.Test.YtmdjgjcneegiiaaDoorV1
import Derived.Test.YtmdjgjcneegiiaaDoorJ4
import Derived.Test.YtmdjgjcneegiiaaDoorShelf
import Derived.Lib.ConvBytes
import Derived.Lib.AtoiErrMem
namespace Go.Proofs.YtmdjgjcneegiiaaDoor
open Go.RowKit

theorem Lt.ways_dig {n : Nat} (h : n < 48 ∨ 57 < n) : decide ((48 : Int) ≤ (n : Int)) = false ∨ decide ((48 : Int) ≤ (n : Int)) = true ∧ decide ((n : Int) ≤ 57) = false := by
  by_cases h1 : n < 48
  · exact .inl (decide_eq_false (by omega))
  · exact .inr ⟨decide_eq_true (by omega), decide_eq_false (by omega)⟩
def Lt.digBy (n : Nat) : Option Nat := if 48 ≤ n ∧ n ≤ 57 then some (n - 48) else if 97 ≤ Lt.low n ∧ Lt.low n ≤ 102 then some (Lt.low n - 87) else none
theorem Lt.digBy_all : ((List.range 256).all fun n => decide (Lt.dig (UInt8.ofNat n) = Lt.digBy n)) = true := by decide +kernel
theorem Lt.digBy_eq (c : UInt8) : Lt.dig c = Lt.digBy c.toNat := by
  have := List.all_eq_true.1 Lt.digBy_all c.toNat (List.mem_range.2 c.toNat_lt)
  simpa using this
theorem Lt.low_95 : Lt.low 95 = 127 := by decide
/-- digits' value, if there are any -/
def Lt.parse (l : List UInt8) : Option Nat := if l = [] then none else Lt.val 0 l
/-- what ParseUint answers within the library -/
def Lt.parsed : Option Nat → Value
  | some n => .tuple #[.int .u64 (n : Nat), .nilIface]
  | none => .tuple #[.int .u64 0, .iface 84 (.int .i64 2)]

set_option maxRecDepth 100000 in
set_option maxHeartbeats 3200000 in
theorem kparse_in (T : ByteArray) (w : World) (hT : T.size ≤ 5) :
    Calls Tryd.prog 45 #[.string T, .int .i64 16, .int .i64 32] w fun e w' => e = .returned (Lt.parsed (Lt.parse T.data.toList)) ∧ Below w.heap.size w w' := by
  by_cases hz : T.size = 0
  · have he : T = ⟨#[]⟩ := Lt.bytes_eq (by rw [List.eq_nil_of_length_eq_zero ((Lt.len_bytes T).trans hz)])
    subst he
    clear hT hz
    go_enter Tryd.func45, Tryd.ntmps45
    go_wp2
    go_ret2
    exact ⟨rfl, Below.refl _ _⟩
  have hne : T.data.toList ≠ [] := fun e => hz (by rw [← Lt.len_bytes, e]; rfl)
  have hneT : (T.toList == []) = false := by rw [ByteArray.toList_eq]; exact beq_eq_false_iff_ne.2 hne
  have hemp : T.toList.isEmpty = false := by rw [ByteArray.toList_eq]; exact List.isEmpty_eq_false_iff.2 hne
  obtain ⟨X, HX⟩ : ∃ X, Hid (Lt.parse T.data.toList = X) := ⟨_, rfl⟩
  have HX0 : Hid (Lt.val 0 T.data.toList = X) := by
    have := HX.out
    unfold Lt.parse at this
    rw [if_neg hne] at this
    exact this
  rw [HX.out]
  have hcv := Lib.run_convert_string_bytes (P := Tryd.prog) w 9 46 5 T (u := .string) Tryd.underlying9 Tryd.underlying46 Tryd.underlying5
  have HC : Hid (∀ (j : Nat) (hj : j < T.size), (Lib.bytesWorld w 5 T).cell? ⟨w.heap.size, j, none⟩ = some (.int .u8 (T[j].toNat : Nat))) := fun j hj => by
    rw [Lib.bytesWorld_cell w 5 T j hj]
    have h' : j < T.data.toList.length := by rw [Lt.len_bytes]; exact hj
    simp [List.getD, List.getElem?_eq_getElem h']
    rfl
  have HB := Lib.hid (Lib.bytesWorld_below w 5 T)
  obtain ⟨W1, hW1⟩ : ∃ W1, W1 = Lib.bytesWorld w 5 T := ⟨_, rfl⟩
  rw [← hW1] at hcv HC HB
  have hmv : IntKind.u64.wrap (IntKind.u64.wrap 4294967296 - 1) = 4294967295 := by
    rw [IntKind.wrap_u64, IntKind.wrap_u64]
    decide
  clear hW1 HX hne
  go_enter Tryd.func45, Tryd.ntmps45
  go_wp2
  go_loop [12, 13, 101] (fun vu vn vi => ∃ (k acc : Nat), vu = .bool false ∧ vn = .int .u64 (acc : Nat) ∧ vi = .int .i64 (k : Nat) ∧ k ≤ T.size ∧ Hid (X = Lt.val acc (T.data.toList.drop k) ∧ acc < 16 ^ k))
    (fun _ _ vi => T.size - (intOf vi).toNat)
  case atStart => exact ⟨0, 0, rfl, rfl, rfl, Nat.zero_le _, HX0.out.symm, by decide⟩
  case round =>
    obtain ⟨k, acc, rfl, rfl, rfl, hk, HI⟩ := hrel
    have hacc : acc < 1048576 := Nat.lt_of_lt_of_le HI.out.2 (Nat.le_trans (Nat.pow_le_pow_right (by decide) (show k ≤ 5 by omega)) (by decide))
    by_cases hlt : k < T.size
    · have hc := HC.out k hlt
      obtain ⟨hv, hp⟩ := HI.out
      rw [Lt.drop_at T hlt] at hv
      have hd := Lt.digBy_eq T[k]
      have hc256 := T[k].toNat_lt
      generalize hg : T[k] = c at hc hv hd hc256
      generalize hn : c.toNat = n at hc hd hc256
      have HLow := Lib.hid fun W => klower7 n hc256 W
      have hlow := (Lt.low_bits hc256).2
      unfold Lt.digBy at hd
      have ha0 : (acc : Int) < 1048576 := by omega
      have hc256' : (n : Int) < 256 := by omega
      have hlt' : (k : Int) < (T.size : Int) := by omega
      have hT' : (T.size : Int) ≤ 5 := by omega
      clear HC HX0 hemp hneT hT
      by_cases hdig : 48 ≤ n ∧ n ≤ 57
      · rw [if_pos hdig] at hd
        rw [Lt.val_some _ hd] at hv
        obtain ⟨hd0, hd1⟩ := hdig
        obtain ⟨r, hr⟩ : ∃ r, r = acc * 16 + (n - 48) := ⟨_, rfl⟩
        rw [← hr] at hv
        have HN : Hid (X = Lt.val r (T.data.toList.drop (k + 1)) ∧ r < 16 ^ (k + 1)) := by
          refine ⟨hv, ?_⟩
          rw [Nat.pow_succ]
          omega
        have hd0' : (48 : Int) ≤ (n : Int) := by omega
        have hd1' : (n : Int) ≤ 57 := by omega
        have h95 : ((n : Int) == 95) = false := beq_eq_false_iff_ne.2 (by omega)
        have hsum : (acc : Int) * 16 + ((n : Int) - 48) = (r : Int) := by omega
        have h16 : decide ((16 : Int) ≤ (n : Int) - 48) = false := decide_eq_false (by omega)
        have h17 : decide ((1152921504606846976 : Int) ≤ (acc : Int)) = false := decide_eq_false (by omega)
        have h18 : decide ((r : Int) < (acc : Int) * 16) = false := decide_eq_false (by omega)
        have h19 : decide ((4294967295 : Int) < (r : Int)) = false := decide_eq_false (by omega)
        clear HI hv hp hd hg hn hc256 hlow hr
        go_wp2
        refine ⟨⟨k + 1, r, rfl, (by first | rfl | (congr 1; omega)), (by first | rfl | (congr 1; omega)), by omega, HN.out⟩, by simp [intOf]; omega⟩
      · rw [if_neg hdig] at hd
        by_cases hlet : 97 ≤ Lt.low n ∧ Lt.low n ≤ 102
        · rw [if_pos hlet] at hd
          rw [Lt.val_some _ hd] at hv
          have hn95 : n ≠ 95 := by
            rintro rfl
            rw [Lt.low_95] at hlet
            omega
          have h95 : ((n : Int) == 95) = false := beq_eq_false_iff_ne.2 (by omega)
          generalize Lt.low n = m at hlet hv HLow hlow
          obtain ⟨hl0, hl1⟩ := hlet
          have hl0' : (97 : Int) ≤ (m : Int) := by omega
          have hl1' : (m : Int) ≤ 102 := by omega
          obtain ⟨r, hr⟩ : ∃ r, r = acc * 16 + (m - 87) := ⟨_, rfl⟩
          rw [← hr] at hv
          have HN : Hid (X = Lt.val r (T.data.toList.drop (k + 1)) ∧ r < 16 ^ (k + 1)) := by
            refine ⟨hv, ?_⟩
            rw [Nat.pow_succ]
            omega
          have hways : decide ((48 : Int) ≤ (n : Int)) = false ∨ decide ((48 : Int) ≤ (n : Int)) = true ∧ decide ((n : Int) ≤ 57) = false := Lt.ways_dig (by omega)
          have h20 : decide ((97 : Int) ≤ (m : Int)) = true := decide_eq_true hl0'
          have h21 : decide ((m : Int) ≤ 122) = true := decide_eq_true (by omega)
          obtain ⟨d, hdm⟩ : ∃ d : Nat, (m : Int) - 97 + 10 = (d : Int) := ⟨m - 87, by omega⟩
          have hsum : (acc : Int) * 16 + (d : Int) = (r : Int) := by omega
          have h16 : decide ((16 : Int) ≤ (d : Int)) = false := decide_eq_false (by omega)
          have h17 : decide ((1152921504606846976 : Int) ≤ (acc : Int)) = false := decide_eq_false (by omega)
          have h18 : decide ((r : Int) < (acc : Int) * 16) = false := decide_eq_false (by omega)
          have h19 : decide ((4294967295 : Int) < (r : Int)) = false := decide_eq_false (by omega)
          have hd16 : (d : Int) < 16 := by omega
          clear HI hv hp hd hg hn hc256 hlow hdig hn95 hr hl0 hl1
          rcases hways with h1 | ⟨h1, h2⟩
          all_goals
            go_wp2_with (go_at_call 55; refine (HLow.out _).mono ?_; rintro e w1 ⟨rfl, rfl⟩)
            refine ⟨⟨k + 1, r, rfl, (by first | rfl | (congr 1; omega)), (by first | rfl | (congr 1; omega)), by omega, HN.out⟩, by simp [intOf]; omega⟩
        · rw [if_neg hlet] at hd
          rw [Lt.val_none _ hd] at hv
          subst hv
          have hways : decide ((48 : Int) ≤ (n : Int)) = false ∨ decide ((48 : Int) ≤ (n : Int)) = true ∧ decide ((n : Int) ≤ 57) = false := Lt.ways_dig (by omega)
          have hways2 : n = 95 ∨ ((n : Int) == 95) = false := by
            by_cases h : n = 95
            · exact .inl h
            · exact .inr (beq_eq_false_iff_ne.2 (by omega))
          have hways3 : (Lt.low n : Int) < 97 ∨ (97 : Int) ≤ (Lt.low n : Int) ∧ (122 : Int) < (Lt.low n : Int) ∨ (103 : Int) ≤ (Lt.low n : Int) ∧ (Lt.low n : Int) ≤ 122 := by omega
          generalize Lt.low n = m at hways3 HLow hlow hlet
          have hm' : (m : Int) < 256 := by omega
          have hways4 : decide ((97 : Int) ≤ (m : Int)) = false ∨ decide ((97 : Int) ≤ (m : Int)) = true ∧ decide ((m : Int) ≤ 122) = false ∨ (decide ((97 : Int) ≤ (m : Int)) = true ∧ decide ((m : Int) ≤ 122) = true ∧ (97 : Int) ≤ (m : Int)) ∧ decide ((16 : Int) ≤ (m : Int) - 97 + 10) = true := by
            rcases hways3 with h | h | h
            · exact .inl (decide_eq_false (by omega))
            · exact .inr (.inl ⟨decide_eq_true h.1, decide_eq_false (by omega)⟩)
            · exact .inr (.inr ⟨⟨decide_eq_true (by omega), decide_eq_true (by omega), by omega⟩, decide_eq_true (by omega)⟩)
          clear hways3
          clear HI hp hd hg hn hc256 hlow hdig hlet
          rcases hways2 with rfl | h95
          · rcases hways4 with h3 | ⟨h3, h4⟩ | ⟨⟨h3, h4, h6⟩, h5⟩
            all_goals
              clear hways
              go_wp2_with (go_at_call 55; refine (HLow.out _).mono ?_; rintro e w1 ⟨rfl, rfl⟩)
              go_ret2
              exact ⟨rfl, HB.out⟩
          · rcases hways with h1 | ⟨h1, h2⟩
            all_goals
              rcases hways4 with h3 | ⟨h3, h4⟩ | ⟨⟨h3, h4, h6⟩, h5⟩
              all_goals
                go_wp2_with (go_at_call 55; refine (HLow.out _).mono ?_; rintro e w1 ⟨rfl, rfl⟩)
                go_ret2
                exact ⟨rfl, HB.out⟩
    · obtain rfl : k = T.size := by omega
      have hv := HI.out.1
      rw [List.drop_of_length_le (by rw [Lt.len_bytes]; exact Nat.le_refl _), Lt.val] at hv
      subst hv
      clear HI hlt HC HX0
      go_wp2
      go_ret2
      exact ⟨rfl, HB.out⟩
end Go.Proofs.YtmdjgjcneegiiaaDoor
