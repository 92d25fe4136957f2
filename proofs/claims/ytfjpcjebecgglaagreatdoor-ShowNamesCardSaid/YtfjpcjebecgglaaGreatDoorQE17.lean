/- What the proofs of this claim use, text by text. -/
import Derived.Test.YtfjpcjebecgglaaGreatDoorQE04
import Derived.Deep.CutBlock
import Derived.Deep.DeepCutAuto
set_option linter.unusedSimpArgs false
set_option linter.unusedVariables false
set_option maxRecDepth 100000
set_option maxHeartbeats 25600000
namespace Go.Proofs.YtfjpcjebecgglaaGreatDoor
open Go.RowKit
theorem app_bytes (a b : ByteArray) : (a ++ b).data.toList = a.data.toList ++ b.data.toList ∧ (a ++ b).size = a.size + b.size := by
  have e : (a ++ b).data.toList = a.data.toList ++ b.data.toList := by simp [ByteArray.data_append]
  refine ⟨e, ?_⟩
  rw [← len_bytes, e, List.length_append, len_bytes, len_bytes]
theorem Lx.dbl_len : ∀ l : List UInt8, (Lx.dbl l).length ≤ 2 * l.length
  | [] => Nat.le_refl _
  | c :: t => by
    have := Lx.dbl_len t
    rw [Lx.dbl_cons]
    split <;> · simp only [List.length_cons]; omega
theorem show_ok {k : Int} {t : List UInt8} {V : ByteArray} {w w' : World} {A : Option Addr} {c p : Nat} {l : List MTok} {E : Int} (hV : V.data.toList = Lx.show k t) (q : LSaid V w A c l E p w') :
    Lx.okShow k t = (decide (E = 0) && decide (l.map (fun x => (x.1, x.2.1.data.toList)) = [(k, t)])) := by
  have hl : (Lx.show k t).length = V.size := by rw [← hV, len_bytes]
  unfold Lx.okShow
  by_cases hs : 16384 < V.size
  · obtain ⟨rfl, rfl, _⟩ := q.long hs
    rw [decide_eq_false (by omega)]
    simp
  · obtain ⟨h1, h2, _⟩ := q.toks (by omega)
    rw [hV] at h1 h2
    rw [decide_eq_true (by omega), Bool.true_and, ← h2, ← h1, List.map_map]
    rfl
abbrev tbox (k : Int) (T : ByteArray) (at_ : Int) : Obj := .cells #[.int .i64 k, .string T, .int .i64 at_] 46
end Go.Proofs.YtfjpcjebecgglaaGreatDoor
