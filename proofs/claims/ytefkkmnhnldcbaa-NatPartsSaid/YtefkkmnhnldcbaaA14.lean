/- bits.LeadingZeros32 by the number of bits; divideLong. -/
import Derived.Test.YtefkkmnhnldcbaaA12
import Derived.Test.YtefkkmnhnldcbaaA13
import Derived.Test.YtefkkmnhnldcbaaShelf
namespace Go.Proofs.Ytefkkmnhnldcbaa
open Go.RowKit

theorem bitLen_spec : ∀ (k x : Nat), k ≤ 64 → x < 2 ^ k → x < 2 ^ Lib.bitLen x ∧ (1 ≤ x → 1 ≤ Lib.bitLen x ∧ 2 ^ (Lib.bitLen x - 1) ≤ x)
  | 0, x, _, h => by
    obtain rfl : x = 0 := by simpa using h
    exact ⟨by decide, fun h => absurd h (by omega)⟩
  | k + 1, x, hk, h => by
    rcases Nat.eq_zero_or_pos x with rfl | h0
    · exact ⟨by decide, fun h => absurd h (by omega)⟩
    have h64 : x < 2 ^ 64 := Nat.lt_of_lt_of_le h (Nat.pow_le_pow_right (by omega) hk)
    have e := Lib.bitLen_half x (by omega) h64
    obtain ⟨h1, h2⟩ := bitLen_spec k (x / 2) (by omega) (by rw [Nat.pow_succ] at h; omega)
    have e2 : Lib.bitLen x = Lib.bitLen (x / 2) + 1 := by omega
    rw [e2, Nat.pow_succ, Nat.add_sub_cancel]
    refine ⟨by omega, fun _ => ⟨by omega, ?_⟩⟩
    rcases Nat.eq_zero_or_pos (x / 2) with h3 | h3
    · rw [h3, show Lib.bitLen 0 = 0 from by decide]
      exact h0
    · obtain ⟨h4, h5⟩ := h2 h3
      obtain ⟨b, hb⟩ : ∃ b, Lib.bitLen (x / 2) = b + 1 := ⟨Lib.bitLen (x / 2) - 1, by omega⟩
      rw [hb, Nat.add_sub_cancel] at h5
      rw [hb, Nat.pow_succ]
      omega

theorem lz_any (x : Nat) (h1 : 1 ≤ x) (h2 : x ≤ 4294967295) : ∃ s K : Nat, s ≤ 31 ∧ Hid (K = 2 ^ s) ∧ 2147483648 ≤ x * K ∧ x * K ≤ 4294967295 ∧
    ∀ w, Calls Try.prog 56 #[.int .u32 (x : Int)] w fun e w' => e = .returned (.int .i64 (s : Nat)) ∧ w' = w := by
  have hx : x < 2 ^ 32 := by omega
  obtain ⟨h3, h4⟩ := bitLen_spec 32 x (by omega) hx
  obtain ⟨h5, h6⟩ := h4 h1
  have h7 := Lib.bitLen_le x 32 (by omega) hx
  refine ⟨32 - Lib.bitLen x, 2 ^ (32 - Lib.bitLen x), by omega, rfl, ?_, ?_, fun w => ?_⟩
  · have := Nat.mul_le_mul_right (2 ^ (32 - Lib.bitLen x)) h6
    rw [← Nat.pow_add, show Lib.bitLen x - 1 + (32 - Lib.bitLen x) = 31 from by omega] at this
    exact this
  · have := Nat.mul_le_mul_right (2 ^ (32 - Lib.bitLen x)) (show x + 1 ≤ 2 ^ Lib.bitLen x from h3)
    rw [← Nat.pow_add, show Lib.bitLen x + (32 - Lib.bitLen x) = 32 from by omega, Nat.add_mul] at this
    have := Nat.one_le_two_pow (n := 32 - Lib.bitLen x)
    omega
  · refine (Try.bits_LeadingZeros32 (x : Int) w (by omega) (by omega)).mono ?_
    rintro e w' ⟨rfl, rfl⟩
    refine ⟨ret_int ?_, rfl⟩
    rw [Int.toNat_natCast]
    omega
end Go.Proofs.Ytefkkmnhnldcbaa
