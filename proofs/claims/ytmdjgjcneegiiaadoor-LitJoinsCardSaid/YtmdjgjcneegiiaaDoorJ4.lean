/- The reference of literals: Digit, digits, next, Points. -/
import Derived.Test.YtmdjgjcneegiiaaDoorJ3
namespace Go.Proofs.YtmdjgjcneegiiaaDoor
open Go.RowKit

theorem Lt.cut_bytes (s : ByteArray) (a b : Nat) (hb : b ≤ s.size) (ha : a ≤ b) : (s.extract a b).data.toList = (s.data.toList.drop a).take (b - a) ∧ (s.extract a b).size = b - a := by
  have hsz : (s.extract a b).size = b - a := by rw [ByteArray.size_extract]; omega
  refine ⟨?_, hsz⟩
  rw [ByteArray.data_extract, Array.toList_extract]
theorem Lt.slice_both (s : ByteArray) (a b : Nat) (hb : b ≤ s.size) (ha : a ≤ b) (w : World) : (Instr.slice 9 (.string s) (some (.int .i64 (a : Int))) (some (.int .i64 (b : Int))) none).run Tryd.prog w = .ok (.string (s.extract a b)) w := by
  rw [run_slice_string_if _ _ _ _ _ _ _ Tryd.underlying9, if_pos (by omega), if_pos (by omega)]
  rfl
/-- a digit's value, or -1 -/
def Lt.digI (c : UInt8) : Int := match Lt.dig c with
  | some d => (d : Int)
  | none => -1
/-- digits' code point, or -1 -/
def Lt.numI (l : List UInt8) : Int := match Lt.num l with
  | some n => (n : Int)
  | none => -1
def Lt.hexN (i : Nat) : Nat := if i < 10 then 48 + i else 87 + i
def Lt.digOk (i n : Nat) : Bool := if Lt.hexN i = n ∨ (97 ≤ Lt.hexN i ∧ Lt.hexN i = n + 32) then decide (Lt.dig (UInt8.ofNat n) = some i) else !decide (Lt.dig (UInt8.ofNat n) = some i)
theorem Lt.digOk_all : ((List.range 16).all fun i => (List.range 256).all fun n => Lt.digOk i n) = true := by decide +kernel
theorem Lt.dig_ways (i : Nat) (hi : i < 16) (n : Nat) (hn : n < 256) : (Lt.hexN i = n → Lt.dig (UInt8.ofNat n) = some i) ∧ (97 ≤ Lt.hexN i → Lt.hexN i = n + 32 → Lt.dig (UInt8.ofNat n) = some i) ∧ (Lt.hexN i ≠ n → (97 ≤ Lt.hexN i → Lt.hexN i ≠ n + 32) → Lt.dig (UInt8.ofNat n) ≠ some i) := by
  have h := List.all_eq_true.1 (List.all_eq_true.1 Lt.digOk_all i (List.mem_range.2 hi)) n (List.mem_range.2 hn)
  unfold Lt.digOk at h
  split at h
  · rename_i hc
    have h' := of_decide_eq_true h
    exact ⟨fun _ => h', fun _ _ => h', fun h1 h2 => by
      rcases hc with hc | ⟨hc1, hc2⟩
      · exact absurd hc h1
      · exact absurd hc2 (h2 hc1)⟩
  · rename_i hc
    refine ⟨fun h1 => absurd (.inl h1) hc, fun h1 h2 => absurd (.inr ⟨h1, h2⟩) hc, fun _ _ => ?_⟩
    simpa using h
theorem Lt.hexS_at {i : Nat} (h : i < 16) : ((⟨#[48, 49, 50, 51, 52, 53, 54, 55, 56, 57, 97, 98, 99, 100, 101, 102]⟩ : ByteArray)[i]'h).toNat = Lt.hexN i := by
  have : ∀ i : Fin 16, ((⟨#[48, 49, 50, 51, 52, 53, 54, 55, 56, 57, 97, 98, 99, 100, 101, 102]⟩ : ByteArray)[i.1]'i.2).toNat = Lt.hexN i.1 := by decide
  exact this ⟨i, h⟩

set_option maxRecDepth 100000 in
theorem rDigit7 (c : UInt8) (w : World) : Calls Tryd.prog 47 #[.int .u8 (c.toNat : Nat)] w fun e w' => e = .returned (.int .i64 (Lt.digI c)) ∧ w' = w := by
  have hc := c.toNat_lt
  obtain ⟨n, hn⟩ : ∃ n, c.toNat = n := ⟨_, rfl⟩
  have hcn : c = UInt8.ofNat n := by rw [← hn]; simp
  have HW := Lib.hid fun (i : Nat) (hi : i < 16) => Lt.dig_ways i hi n (by omega)
  obtain ⟨X, HX⟩ : ∃ X, Hid (Lt.digI c = X) := ⟨_, rfl⟩
  rw [HX.out, hn]
  have HD : Hid (∀ i : Nat, Lt.dig (UInt8.ofNat n) = some i → X = i) := fun i h => by rw [← HX.out, hcn, Lt.digI, h]
  have HE : Hid ((∀ i : Nat, i < 16 → Lt.dig (UInt8.ofNat n) ≠ some i) → X = -1) := fun h => by
    rw [← HX.out, hcn, Lt.digI]
    cases e : Lt.dig (UInt8.ofNat n) with
    | none => rfl
    | some d => exact absurd e (h d (Lt.dig_lt e))
  have hn256 : (n : Int) < 256 := by omega
  clear hcn HX hc hn
  go_enter Tryd.func47, Tryd.ntmps47
  go_wp2
  have HM : Hid (∀ (i : Nat) (h : i < 16), ((⟨#[48, 49, 50, 51, 52, 53, 54, 55, 56, 57, 97, 98, 99, 100, 101, 102]⟩ : ByteArray)[i]'h).toNat = Lt.hexN i) := fun _ h => Lt.hexS_at h
  generalize hS : (⟨#[48, 49, 50, 51, 52, 53, 54, 55, 56, 57, 97, 98, 99, 100, 101, 102]⟩ : ByteArray) = S
  have hsz : S.size = 16 := by rw [← hS]; rfl
  have HS : Hid (∀ i (h : i < S.size), S[i].toNat = Lt.hexN i) := by
    subst hS
    exact fun i h => HM.out i (by rw [hsz] at h; exact h)
  clear hS HM
  go_loopw [4] (fun iv wr => ∃ i : Nat, i ≤ 16 ∧ iv = .int .i64 (i : Nat) ∧ wr = w ∧ Hid (∀ j, j < i → Lt.dig (UInt8.ofNat n) ≠ some j)) (fun iv _ => 16 - (intOf iv).toNat)
  case atStart => exact ⟨0, by omega, rfl, rfl, fun j hj => absurd hj (Nat.not_lt_zero _)⟩
  case round =>
    obtain ⟨i, hi, rfl, rfl, HI⟩ := hrel
    by_cases hlt : i < 16
    · have hilt : i < S.size := by omega
      obtain ⟨k1, k2, k3⟩ := HW.out i hlt
      have hv := HS.out i hilt
      have hlt' : (i : Int) < 16 := by omega
      have h0 : (0 : Int) ≤ (i : Int) := by omega
      have hnn : Lt.hexN i < 103 := by unfold Lt.hexN; split <;> omega
      by_cases h1 : Lt.hexN i = n
      · have hX := HD.out i (k1 h1)
        have hb : ((S[i].toNat : Int) == (n : Int)) = true := beq_iff_eq.2 (by omega)
        subst hX
        clear k1 k2 k3 hv HI HD HE HW h1 hnn
        go_wp2
        go_ret
        exact ⟨rfl, rfl⟩
      · have hb : ((S[i].toNat : Int) == (n : Int)) = false := beq_eq_false_iff_ne.2 (by omega)
        by_cases h2 : 97 ≤ Lt.hexN i
        · have hb2 : (97 : Int) ≤ (S[i].toNat : Int) := by omega
          have hwr : IntKind.u8.wrap ((S[i].toNat : Int) - 32) = (S[i].toNat : Int) - 32 := by
            rw [hv]
            simp [IntKind.wrap, IntKind.bits, IntKind.signed] <;> omega
          by_cases h3 : Lt.hexN i = n + 32
          · have hX := HD.out i (k2 h2 h3)
            have hb3 : ((S[i].toNat : Int) - 32 == (n : Int)) = true := beq_iff_eq.2 (by omega)
            subst hX
            clear k1 k2 k3 hv HI HD HE HW h1 h2 h3 hnn
            go_wp2
            go_ret
            exact ⟨rfl, rfl⟩
          · have hb3 : ((S[i].toNat : Int) - 32 == (n : Int)) = false := beq_eq_false_iff_ne.2 (by omega)
            have HN : Hid (∀ j, j < i + 1 → Lt.dig (UInt8.ofNat n) ≠ some j) := fun j hj => by
              by_cases hji : j < i
              · exact HI.out j hji
              · obtain rfl : j = i := by omega
                exact k3 h1 fun _ => h3
            clear k1 k2 k3 hv HI HD HE HW h1 h2 h3 hnn
            go_wp2
            go_roundw
            case rel => exact ⟨i + 1, by omega, by go_num, by first | rfl | trivial, HN⟩
            case measure => simp [intOf]; omega
        · have hb2 : ¬ (97 : Int) ≤ (S[i].toNat : Int) := by omega
          have HN : Hid (∀ j, j < i + 1 → Lt.dig (UInt8.ofNat n) ≠ some j) := fun j hj => by
            by_cases hji : j < i
            · exact HI.out j hji
            · obtain rfl : j = i := by omega
              exact k3 h1 fun h => absurd h h2
          clear k1 k2 k3 hv HI HD HE HW h1 h2 hnn
          go_wp2
          go_roundw
          case rel => exact ⟨i + 1, by omega, by go_num, by first | rfl | trivial, HN⟩
          case measure => simp [intOf]; omega
    · obtain rfl : i = 16 := by omega
      have hX := HE.out HI.out
      subst hX
      clear HI HD HE HW
      go_wp2
      go_ret
      exact ⟨rfl, rfl⟩

set_option maxRecDepth 100000 in
theorem rdigits7 (T : ByteArray) (w : World) (hT : T.size ≤ 6) : Calls Tryd.prog 38 #[.string T] w fun e w' => e = .returned (.int .i64 (Lt.numI T.data.toList)) ∧ w' = w := by
  obtain ⟨X, HX⟩ : ∃ X, Hid (Lt.numI T.data.toList = X) := ⟨_, rfl⟩
  rw [HX.out]
  have HL : Hid (T.data.toList.length = T.size) := Lt.len_bytes T
  go_enter Tryd.func38, Tryd.ntmps38
  go_wp2
  go_loopw [3, 4] (fun nv iv wr => ∃ i n : Nat, i ≤ T.size ∧ iv = .int .i64 (i : Nat) ∧ nv = .int .i64 (n : Nat) ∧ wr = w ∧ Hid (Lt.val 0 T.data.toList = Lt.val n (T.data.toList.drop i) ∧ n < 16 ^ i)) (fun _ iv _ => T.size - (intOf iv).toNat)
  case atStart => exact ⟨0, 0, Nat.zero_le _, rfl, rfl, rfl, rfl, by decide⟩
  case round =>
    obtain ⟨i, n, hi, rfl, rfl, rfl, HI⟩ := hrel
    have hn16 : n < 16 ^ 6 := Nat.lt_of_lt_of_le HI.out.2 (Nat.pow_le_pow_right (by decide) (by omega))
    have hn6 : n < 16777216 := hn16
    by_cases hlt : i < T.size
    · have hdr := Lt.drop_at T hlt
      have HG := Lib.hid (rDigit7 T[i] wr)
      have hlt' : (i : Int) < (T.size : Int) := by omega
      have h0 : (0 : Int) ≤ (i : Int) := by omega
      obtain ⟨hv, hp⟩ := HI.out
      rw [hdr] at hv
      cases hd : Lt.dig T[i] with
      | none =>
        rw [Lt.val_none _ hd] at hv
        have hX : X = -1 := by
          rw [← HX.out, Lt.numI, Lt.num]
          split
          · rename_i e
            split at e
            · cases e
            · rw [hv] at e; cases e
          · rfl
        subst hX
        have hg : Lt.digI T[i] = -1 := by rw [Lt.digI, hd]
        rw [hg] at HG
        clear hv hp HI HX hdr hd hg hn16
        go_wp2_with (go_at_call 47; refine HG.out.mono ?_; rintro e w1 ⟨rfl, rfl⟩)
        go_ret
        exact ⟨rfl, rfl⟩
      | some d =>
        have hd16 := Lt.dig_lt hd
        rw [Lt.val_some _ hd] at hv
        have hg : Lt.digI T[i] = (d : Int) := by rw [Lt.digI, hd]
        rw [hg] at HG
        have HN : Hid (Lt.val 0 T.data.toList = Lt.val (n * 16 + d) (T.data.toList.drop (i + 1)) ∧ n * 16 + d < 16 ^ (i + 1)) := by
          refine ⟨hv, ?_⟩
          rw [Nat.pow_succ]
          omega
        have hd0 : ¬ (d : Int) < 0 := by omega
        clear hv hp HI hdr hd hg hn16
        go_wp2_with (go_at_call 47; refine HG.out.mono ?_; rintro e w1 ⟨rfl, rfl⟩)
        go_roundw
        case rel => exact ⟨i + 1, n * 16 + d, by omega, by go_num, by go_num, by first | rfl | trivial, HN.out⟩
        case measure => simp [intOf]; omega
    · obtain rfl : i = T.size := by omega
      have hv := HI.out.1
      rw [List.drop_of_length_le (by rw [HL.out]; exact Nat.le_refl _), Lt.val] at hv
      by_cases hz : T.size = 0
      · have he : T = ⟨#[]⟩ := Lt.bytes_eq (by rw [List.eq_nil_of_length_eq_zero (HL.out.trans hz)])
        have hX : X = -1 := by
          rw [← HX.out, he]
          rfl
        subst hX
        subst he
        clear hv HI HX HL hn16
        go_wp2
        go_ret
        exact ⟨rfl, rfl⟩
      · have hne : T.data.toList ≠ [] := fun e => hz (by rw [← HL.out, e]; rfl)
        have hneT : (T.toList == []) = false := by rw [ByteArray.toList_eq]; exact beq_eq_false_iff_ne.2 hne
        by_cases hm : n ≤ 196607
        · have hX : X = (n : Int) := by
            rw [← HX.out, Lt.numI, Lt.num_some.2 ⟨hne, hv, hm⟩]
          subst hX
          have hm' : ¬ (196607 : Int) < (n : Int) := by omega
          clear hv HI HX HL hn16 hne hm hz
          go_wp2
          go_ret
          exact ⟨rfl, rfl⟩
        · have hX : X = -1 := by
            rw [← HX.out, Lt.numI]
            cases e : Lt.num T.data.toList with
            | none => rfl
            | some m =>
              obtain ⟨_, e2, e3⟩ := Lt.num_some.1 e
              rw [hv] at e2
              injection e2 with e2
              omega
          subst hX
          have hm' : (196607 : Int) < (n : Int) := by omega
          clear hv HI HX HL hn16 hne hm hz
          go_wp2
          go_ret
          exact ⟨rfl, rfl⟩
end Go.Proofs.YtmdjgjcneegiiaaDoor
