/- What a slice of terms reads lies in blocks that are there. -/
import Derived.Test.YtkooconjkimgoaaDoorN8
namespace Go.Proofs.YtkooconjkimgoaaDoor
open Go.RowKit

theorem NumS.inside {w : World} {G : Nat → Prop} {A : Option Addr} {n : Nat} {l : List Int} (h : NumS w A n l) (hg : Gs G A n) : Gs (fun k => G k ∧ k < w.heap.size) A n := fun a e hn => by
  obtain ⟨b, off, e2, hlt, _⟩ := h.at_ hn
  refine ⟨hg a e hn, ?_⟩
  rw [e2] at e
  rw [← Option.some.inj e]
  exact hlt
theorem RunS.inside {w : World} {G : Nat → Prop} {A : Option Addr} {n : Nat} {l : List (Int × Int)} (h : RunS w A n l) (hg : Gs G A n) : Gs (fun k => G k ∧ k < w.heap.size) A n := fun a e hn => by
  obtain ⟨b, off, e2, hlt, _⟩ := h.at_ hn
  refine ⟨hg a e hn, ?_⟩
  rw [e2] at e
  rw [← Option.some.inj e]
  exact hlt
theorem WIn.inside {w : World} {G : Nat → Prop} {g : Bool} {A : Option Addr} {n c : Nat} {z : Int} (h : WIn w g A n c z) (hg : Gs G A n) : Gs (fun k => G k ∧ k < w.heap.size) A n := fun a e hn => by
  obtain ⟨⟨l, h1, _⟩, _⟩ := h
  obtain ⟨b, off, e2, hlt, _⟩ := h1.2.2 hn
  refine ⟨hg a e hn, ?_⟩
  rw [e2] at e
  rw [← Option.some.inj e]
  exact hlt
theorem NdAs.inside {w : World} {G : Nat → Prop} {P : NdP} {x : Nd} (h : NdAs w G P x) : NdAs w (fun k => G k ∧ k < w.heap.size) P x :=
  ⟨h.a, h.num, h.str, h.few, h.a.inside h.g.1, h.num.inside h.g.2.1, h.str.inside h.g.2.2⟩
theorem NodS.inside {w : World} {G : Nat → Prop} {A : Option Addr} {n c : Nat} {l : List Nd} (h : NodS w G A n c l) : NodS w (fun k => G k ∧ k < w.heap.size) A n c l :=
  ⟨h.len, fun a e hn => by
    obtain ⟨b, off, e2, hlt, _⟩ := h.at_ hn
    refine ⟨h.g a e hn, ?_⟩
    rw [e2] at e
    rw [← Option.some.inj e]
    exact hlt, h.nil, fun hn => by
    obtain ⟨b, off, e, hlt, hc⟩ := h.at_ hn
    refine ⟨b, off, e, hlt, fun i x hx => ?_⟩
    obtain ⟨P, h1, h2⟩ := hc i x hx
    exact ⟨P, h1, h2.inside⟩⟩
/-- beside a call that turns blocks F alone, and leaves F' of them and of new ones -/
theorem NodS.beside {w w' : World} {F F' : Nat → Prop} {A : Option Addr} {n c : Nat} {l : List Nd} (h : NodS w (fun k => ¬ F k) A n c l) (hT : Turn F w w') (hF : ∀ k, F' k → F k ∨ w.heap.size ≤ k) : NodS w' (fun k => ¬ F' k) A n c l :=
  (h.inside.turn hT fun _ hk => hk.1).mono fun k hk hf => (hF k hf).elim hk.1 fun e => by have := hk.2; omega
/-- what a reference's call answers, beside blocks F that are there -/
theorem NAns.beside {w w' : World} {F : Nat → Prop} {r : List Nd × Int × Int} {e : Ending} (h : NAns w (fun k => ¬ F k) r e w') (hF : ∀ k, F k → k < w.heap.size) : (∃ A c, e = .returned (.tuple #[.slice A r.1.length c, .int .i64 r.2.1, .int .i64 r.2.2]) ∧ NodS w' (fun k => ¬ F k) A r.1.length c r.1) ∧ Below w.heap.size w w' := by
  obtain ⟨⟨A, c, h1, h2⟩, h3⟩ := h
  exact ⟨⟨A, c, h1, h2.mono fun k hk hf => hk.elim (fun g => g hf) fun g => by have := hF k hf; omega⟩, h3⟩
end Go.Proofs.YtkooconjkimgoaaDoor
