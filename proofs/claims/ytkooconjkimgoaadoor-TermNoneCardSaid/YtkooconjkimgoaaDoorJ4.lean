/- The reference of literals: Digit, digits, next, Points. -/
import Derived.Test.YtkooconjkimgoaaDoorJ3
namespace Go.Proofs.YtkooconjkimgoaaDoor
open Go.RowKit

theorem Lt.cut_bytes (s : ByteArray) (a b : Nat) (hb : b ≤ s.size) (ha : a ≤ b) : (s.extract a b).data.toList = (s.data.toList.drop a).take (b - a) ∧ (s.extract a b).size = b - a := by
  have hsz : (s.extract a b).size = b - a := by rw [ByteArray.size_extract]; omega
  refine ⟨?_, hsz⟩
  rw [ByteArray.data_extract, Array.toList_extract]
theorem Lt.slice_both (s : ByteArray) (a b : Nat) (hb : b ≤ s.size) (ha : a ≤ b) (w : World) : (Instr.slice 9 (.string s) (some (.int .i64 (a : Int))) (some (.int .i64 (b : Int))) none).run Tryd.prog w = .ok (.string (s.extract a b)) w := by
  rw [run_slice_string_if _ _ _ _ _ _ _ Tryd.underlying9, if_pos (by omega), if_pos (by omega)]
  rfl
/-- a digit's value, or -1 -/
def Lt.digI (c : UInt8) : Int := match Lt.dig c with
  | some d => (d : Int)
  | none => -1
/-- digits' code point, or -1 -/
def Lt.numI (l : List UInt8) : Int := match Lt.num l with
  | some n => (n : Int)
  | none => -1
def Lt.hexN (i : Nat) : Nat := if i < 10 then 48 + i else 87 + i
def Lt.digOk (i n : Nat) : Bool := if Lt.hexN i = n ∨ (97 ≤ Lt.hexN i ∧ Lt.hexN i = n + 32) then decide (Lt.dig (UInt8.ofNat n) = some i) else !decide (Lt.dig (UInt8.ofNat n) = some i)
theorem Lt.digOk_all : ((List.range 16).all fun i => (List.range 256).all fun n => Lt.digOk i n) = true := by decide +kernel
theorem Lt.dig_ways (i : Nat) (hi : i < 16) (n : Nat) (hn : n < 256) : (Lt.hexN i = n → Lt.dig (UInt8.ofNat n) = some i) ∧ (97 ≤ Lt.hexN i → Lt.hexN i = n + 32 → Lt.dig (UInt8.ofNat n) = some i) ∧ (Lt.hexN i ≠ n → (97 ≤ Lt.hexN i → Lt.hexN i ≠ n + 32) → Lt.dig (UInt8.ofNat n) ≠ some i) := by
  have h := List.all_eq_true.1 (List.all_eq_true.1 Lt.digOk_all i (List.mem_range.2 hi)) n (List.mem_range.2 hn)
  unfold Lt.digOk at h
  split at h
  · rename_i hc
    have h' := of_decide_eq_true h
    exact ⟨fun _ => h', fun _ _ => h', fun h1 h2 => by
      rcases hc with hc | ⟨hc1, hc2⟩
      · exact absurd hc h1
      · exact absurd hc2 (h2 hc1)⟩
  · rename_i hc
    refine ⟨fun h1 => absurd (.inl h1) hc, fun h1 h2 => absurd (.inr ⟨h1, h2⟩) hc, fun _ _ => ?_⟩
    simpa using h
theorem Lt.hexS_at {i : Nat} (h : i < 16) : ((⟨#[48, 49, 50, 51, 52, 53, 54, 55, 56, 57, 97, 98, 99, 100, 101, 102]⟩ : ByteArray)[i]'h).toNat = Lt.hexN i := by
  have : ∀ i : Fin 16, ((⟨#[48, 49, 50, 51, 52, 53, 54, 55, 56, 57, 97, 98, 99, 100, 101, 102]⟩ : ByteArray)[i.1]'i.2).toNat = Lt.hexN i.1 := by decide
  exact this ⟨i, h⟩

end Go.Proofs.YtkooconjkimgoaaDoor
