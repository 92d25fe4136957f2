/- several texts in one. -/
import Derived.Test.YtkooconjkimgoaaDoorGA
import Derived.Test.YtkooconjkimgoaaDoorGM
import Derived.Test.YtkooconjkimgoaaDoorGB
/- nat: shiftUp, shiftDown: what each answers. -/
namespace Go.Proofs.YtkooconjkimgoaaDoor
open Go.RowKit

theorem or_low (x c s p : Nat) (hp : x * 2 ^ s = p) (hc : c < 2 ^ s) (bp : p ≤ 18446744073709551615) (bc : c ≤ 18446744073709551615) : bits .or .u64 (p : Int) (c : Int) = ((p + c : Nat) : Int) := by
  rw [Go.u64_or_nat _ _ (by omega) (by omega)]
  congr 1
  have := Nat.two_pow_add_eq_or_of_lt (i := s) (b := c) hc x
  rw [Nat.mul_comm, hp] at this
  exact this.symm

/-- shiftUp's answer -/
def ShiftedUp (w : World) (l : List Nat) (n K : Nat) (e : Ending) (w' : World) : Prop :=
  ∃ L : List Nat, e = .returned (.slice (some ⟨w.heap.size, 0, none⟩) (n + 1) (n + 1)) ∧ Row w' w.heap.size L ∧ L.length = n + 1 ∧ M.Fit L ∧ M.val L = M.val l * K ∧ Below w.heap.size w w'

/-- shiftDown's answer -/
def ShiftedDown (w : World) (l : List Nat) (n K : Nat) (e : Ending) (w' : World) : Prop :=
  ∃ L : List Nat, e = .returned (.slice (some ⟨w.heap.size, 0, none⟩) n n) ∧ Row w' w.heap.size L ∧ L.length = n ∧ M.Fit L ∧ M.val L = M.val l / K ∧ Below w.heap.size w w'

end Go.Proofs.YtkooconjkimgoaaDoor

/- nat: takeTimes: what it answers. -/
namespace Go.Proofs.YtkooconjkimgoaaDoor
open Go.RowKit

/-- takeTimes' answer -/
def TakenT (W : World) (g o n k : Nat) (l L : List Nat) (e : Ending) (w' : World) : Prop :=
  ∃ (L' : List Nat) (b : Nat), e = .returned (.bool (decide (b = 1))) ∧ b ≤ 1 ∧ Row w' g L' ∧ W.grownBy w' (some g) ∧ M.TTEnd l L L' o n k b

end Go.Proofs.YtkooconjkimgoaaDoor

/- nat: guessLimb: what it answers. -/
namespace Go.Proofs.YtkooconjkimgoaaDoor
open Go.RowKit

/-- guessLimb's answer -/
def Guessed (w : World) (P V : Nat) (e : Ending) (w' : World) : Prop := ∃ G : Nat, e = .returned (.int .u64 G) ∧ M.GA P V G ∧ ∃ j, w' = w.drewN j

end Go.Proofs.YtkooconjkimgoaaDoor
