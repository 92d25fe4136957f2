/- several texts in one. -/
import Derived.Test.YtkooconjkimgoaaDoorGC
import Derived.Test.YtkooconjkimgoaaDoorShelf
import Derived.Test.YtkooconjkimgoaaDoorGB
import Derived.Test.YtkooconjkimgoaaDoorGM
import Derived.Deep.RegionWith
/- bits.LeadingZeros32 by the number of bits; divideLong. -/
namespace Go.Proofs.YtkooconjkimgoaaDoor
open Go.RowKit

theorem bitLen_spec : ∀ (k x : Nat), k ≤ 64 → x < 2 ^ k → x < 2 ^ Lib.bitLen x ∧ (1 ≤ x → 1 ≤ Lib.bitLen x ∧ 2 ^ (Lib.bitLen x - 1) ≤ x)
  | 0, x, _, h => by
    obtain rfl : x = 0 := by simpa using h
    exact ⟨by decide, fun h => absurd h (by omega)⟩
  | k + 1, x, hk, h => by
    rcases Nat.eq_zero_or_pos x with rfl | h0
    · exact ⟨by decide, fun h => absurd h (by omega)⟩
    have h64 : x < 2 ^ 64 := Nat.lt_of_lt_of_le h (Nat.pow_le_pow_right (by omega) hk)
    have e := Lib.bitLen_half x (by omega) h64
    obtain ⟨h1, h2⟩ := bitLen_spec k (x / 2) (by omega) (by rw [Nat.pow_succ] at h; omega)
    have e2 : Lib.bitLen x = Lib.bitLen (x / 2) + 1 := by omega
    rw [e2, Nat.pow_succ, Nat.add_sub_cancel]
    refine ⟨by omega, fun _ => ⟨by omega, ?_⟩⟩
    rcases Nat.eq_zero_or_pos (x / 2) with h3 | h3
    · rw [h3, show Lib.bitLen 0 = 0 from by decide]
      exact h0
    · obtain ⟨h4, h5⟩ := h2 h3
      obtain ⟨b, hb⟩ : ∃ b, Lib.bitLen (x / 2) = b + 1 := ⟨Lib.bitLen (x / 2) - 1, by omega⟩
      rw [hb, Nat.add_sub_cancel] at h5
      rw [hb, Nat.pow_succ]
      omega

end Go.Proofs.YtkooconjkimgoaaDoor

/- nat: divideLong: what it answers. -/
namespace Go.Proofs.YtkooconjkimgoaaDoor
open Go.RowKit

/-- two numbers -/
def GivesPair (W : World) (N R : Nat) (e : Ending) (w' : World) : Prop :=
  ∃ u v, e = .returned (.tuple #[u, v]) ∧ Num w' u N ∧ Num w' v R ∧ Below W.heap.size W w'

end Go.Proofs.YtkooconjkimgoaaDoor

/- nat: DivMod, where the numbers are great; the whole of it. -/
namespace Go.Proofs.YtkooconjkimgoaaDoor
open Go.RowKit

theorem GivesTwo.of {W : World} {u v : Value} {N R : Nat} {w' : World} (hu : Num w' u N) (hv : Num w' v R) (hb : Below W.heap.size W w') : GivesTwo W N R (.returned (.tuple #[u, v, .int .i64 0])) w' := ⟨u, v, rfl, hu, hv, hb⟩

end Go.Proofs.YtkooconjkimgoaaDoor
