/- The reference of literals: hex, Escape. -/
import Derived.Test.YtkooconjkimgoaaDoorJ5
namespace Go.Proofs.YtkooconjkimgoaaDoor
open Go.RowKit

theorem Lt.hexS_cut (i : Nat) (h : i < 16) : (⟨#[48, 49, 50, 51, 52, 53, 54, 55, 56, 57, 97, 98, 99, 100, 101, 102]⟩ : ByteArray).extract i (i + 1) = ⟨#[Lt.hd i]⟩ := by
  have : ∀ i : Fin 16, ((⟨#[48, 49, 50, 51, 52, 53, 54, 55, 56, 57, 97, 98, 99, 100, 101, 102]⟩ : ByteArray).extract i.1 (i.1 + 1)).data.toList = [Lt.hd i.1] := by decide +kernel
  exact Lt.bytes_eq (this ⟨i, h⟩)
theorem Lt.hex_run (i : Nat) (h : i < 16) (W : World) : (Instr.slice 9 (.string ⟨#[48, 49, 50, 51, 52, 53, 54, 55, 56, 57, 97, 98, 99, 100, 101, 102]⟩) (some (.int .i64 (i : Int))) (some (.int .i64 ((i : Int) + 1))) none).run Tryd.prog W = .ok (.string ⟨#[Lt.hd i]⟩) W := by
  have := Lt.slice_both ⟨#[48, 49, 50, 51, 52, 53, 54, 55, 56, 57, 97, 98, 99, 100, 101, 102]⟩ i (i + 1) (by show i + 1 ≤ 16; omega) (by omega) W
  rw [Lt.hexS_cut i h] at this
  exact this

/-- one byte as a text -/
theorem conv_one (w : World) (c : UInt8) : (convert 112 9 (.slice (some ⟨w.heap.size, 0, none⟩) 1 1)).run Tryd.prog (w.alloc (.cells #[.int .u8 (c.toNat : Int)] 5)) = .ok (.string ⟨#[c]⟩) (w.alloc (.cells #[.int .u8 (c.toNat : Int)] 5)) :=
  run_convert_bytes_back _ 112 9 5 ⟨w.heap.size, 0, none⟩ 1 [c] Tryd.underlying112 Tryd.underlying5 Tryd.underlying9 fun j hj => by
    obtain rfl : j = 0 := by simp at hj; omega
    exact cell_one_new w (.int .u8 (c.toNat : Int)) 5 0 _ rfl
theorem Lt.all_false {l : List Int} {z : Int} (hz : z ∈ l) (h : Lt.pt z = false) : l.all Lt.pt = false := by
  rw [List.all_eq_false]
  exact ⟨z, hz, by rw [h]; decide⟩
theorem Lt.esc1_plain {z : Int} (h : 32 ≤ z ∧ z ≤ 126 ∧ z ≠ 92) : Lt.esc1 z = [UInt8.ofNat z.toNat] := by rw [Lt.esc1, if_pos h]
theorem Lt.esc1_hex {z : Int} (h : ¬ (32 ≤ z ∧ z ≤ 126 ∧ z ≠ 92)) : Lt.esc1 z = 92 :: 117 :: 123 :: (Lt.hex z.toNat ++ [125]) := by rw [Lt.esc1, if_neg h]
/-- what Escape answers -/
def EscSaid (w : World) (x : Int × List UInt8) (e : Ending) (w' : World) : Prop := e = .returned (.tuple #[.string ⟨x.2.toArray⟩, .int .i64 x.1]) ∧ Below w.heap.size w w'

end Go.Proofs.YtkooconjkimgoaaDoor
