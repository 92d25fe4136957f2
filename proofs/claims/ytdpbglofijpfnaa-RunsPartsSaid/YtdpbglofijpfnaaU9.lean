/- The code's contracts over texts as the laws meet them; a text that comes in. -/
import Derived.Test.YtdpbglofijpfnaaUI
namespace Go.Proofs.Ytdpbglofijpfnaa
open Go.RowKit Go.ChangeShapes Go.WideShapes Go.Deep

theorem kmay8 (w : World) (A : Option Addr) (n c : Nat) (R : List (Int × Int)) (h : Txt w A n R) : Calls Try.prog 16 #[.slice A n c] w fun e w' => e = .returned (.bool (Tx.mayB R)) ∧ Below w.heap.size w w' :=
  kmayr w A n c R h.runs (by have := h.few; omega)
set_option maxRecDepth 100000 in
theorem open_argRm {H : Type} {enc : TypeId × Value → H} {W : World} {fuel : Nat} {v : Value} {y : DataW H × List MemPlace} (h : DataW.trod enc Try.prog W 0 (fun _ => true) true fuel 22 [v] = some y) :
    ∃ A n c R, v = .slice A n c ∧ ArgR W A n R ∧ n ≤ c ∧ (A = none → n = 0 ∧ c = 0) := by
  obtain ⟨A, n, c, R, rfl, hR⟩ := open_argR h
  refine ⟨A, n, c, R, rfl, hR, ?_⟩
  rcases open_slice Try.underlying22 h with ⟨hcs, _⟩ | ⟨a, len, cap, m, n, D, Pl, hcs, _, hl, hm, hmm, _, hi⟩
  · injection hcs with hcs
    injection hcs with h0 h1 h2
    exact ⟨by omega, fun _ => ⟨h1, h2⟩⟩
  · injection hcs with hcs
    injection hcs with h0 h1 h2
    refine ⟨by omega, fun e => ?_⟩
    rw [e] at h0
    cases h0
end Go.Proofs.Ytdpbglofijpfnaa
