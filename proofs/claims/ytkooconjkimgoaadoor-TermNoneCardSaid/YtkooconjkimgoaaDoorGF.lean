/- several texts in one. -/
import Derived.Test.YtkooconjkimgoaaDoorGE
import Derived.Test.YtkooconjkimgoaaDoorGM
import Derived.Test.YtkooconjkimgoaaDoorGA
/- nat: timesPlus, Parse: what each answers. -/
namespace Go.Proofs.YtkooconjkimgoaaDoor
open Go.RowKit

/-- timesPlus' end -/
def Timesed (W : World) (g n k more : Nat) (L : List Nat) (e : Ending) (w' : World) : Prop :=
  ∃ (L' : List Nat) (c : Nat), e = .returned (.tuple #[]) ∧ Row w' g L' ∧ W.grownBy w' (some g) ∧ L'.length = n ∧ M.Fit L' ∧ M.val L' + M.BB ^ n * c = M.val L * k + more

end Go.Proofs.YtkooconjkimgoaaDoor

/- the chapter's examples, which every statement asks first: they hold. -/
namespace Go.Proofs.YtkooconjkimgoaaDoor
open Go.RowKit

/-- Same of a number and of what it ought to be -/
theorem same_num {B : Option Addr} {m d N : Nat} {v : Value} {l : List Nat} {w : World} (h : Num w v N) (hl : Lims w B m l) (hm : m ≤ maxLen) (t : M.Top l) (hv : M.val l = N) :
    ∃ A n c, v = .slice A n c ∧ Calls Tryd.prog 50 #[.slice A n c, .slice B m d] w fun e w' => e = .returned (.bool true) ∧ Below w.heap.size w w' := by
  obtain ⟨A, n, c, k, rfl, h1, h2, h3, h4, h5⟩ := h
  have e : k = l := M.uniq h1.2.1 hl.2.1 h2 t (h3.trans hv.symm)
  refine ⟨A, n, c, rfl, ?_⟩
  have := same_any A B n m c d k l w h1 hl (by omega) hm
  rw [decide_eq_true e] at this
  exact this.mono fun _ _ ⟨h1, j, h2⟩ => ⟨h1, by rw [h2]; exact below_drewN (Below.refl _ _) j⟩

theorem big_txt : T.Txt 4294967296 [52, 50, 57, 52, 57, 54, 55, 50, 57, 54] := by
  refine .inr ⟨[6, 9, 2, 7, 6, 9, 4, 9, 2, 4], ?_, ?_, by simp, by simp [T.val, T.BB_eq], rfl⟩
  · refine T.Fit.of_mem fun x hx => ?_
    rw [T.BB_eq]
    simp at hx
    omega
  · intro _
    simp

theorem lims_lit {w : World} {cs : Array Value} {l : List Nat} {n : Nat} (h : cs = (cellsOf l).toArray) (hf : ∀ x ∈ l, x ≤ 4294967295) (hn : l.length = n) :
    Lims (w.alloc (.cells cs 104)) (some ⟨w.heap.size, 0, none⟩) n l := by
  subst h
  exact Row.lims (heap_alloc_new w _) (M.Fit.of_mem fun x hx => by have := hf x hx; rw [M.BB_eq]; omega) hn
theorem lims_lit1 {w : World} {cs : Array Value} {l : List Nat} {n : Nat} {o : Obj} (h : cs = (cellsOf l).toArray) (hf : ∀ x ∈ l, x ≤ 4294967295) (hn : l.length = n) :
    Lims ((w.alloc (.cells cs 104)).alloc o) (some ⟨w.heap.size, 0, none⟩) n l := (lims_lit h hf hn).below ((Below.refl _ _).alloc (Nat.le_refl _) _)
theorem lims_lit2 {w : World} {cs : Array Value} {l : List Nat} {n : Nat} {o : Obj} (h : cs = (cellsOf l).toArray) (hf : ∀ x ∈ l, x ≤ 4294967295) (hn : l.length = n) :
    Lims ((w.alloc o).alloc (.cells cs 104)) (some ⟨w.heap.size + 1, 0, none⟩) n l := by
  have := lims_lit (w := w.alloc o) h hf hn
  simpa using this
theorem two_lit {w : World} {cs ds : Array Value} {k l : List Nat} {n m : Nat} (h : cs = (cellsOf k).toArray) (h' : ds = (cellsOf l).toArray) (hf : ∀ x ∈ k, x ≤ 4294967295) (hf' : ∀ x ∈ l, x ≤ 4294967295) (hn : k.length = n) (hm : l.length = m) (hn' : n ≤ 1000) (hm' : m ≤ 1000) :
    Two ((w.alloc (.cells cs 104)).alloc (.cells ds 104)) (some ⟨w.heap.size, 0, none⟩) (some ⟨w.heap.size + 1, 0, none⟩) n m n m k l :=
  ⟨lims_lit1 h hf hn, lims_lit2 h' hf' hm, Nat.le_refl _, Nat.le_refl _, by unfold maxLen; omega, by unfold maxLen; omega, by omega, by omega⟩
theorem below_two {w w' : World} {o p : Obj} (h : Below ((w.alloc o).alloc p).heap.size ((w.alloc o).alloc p) w') : Below w.heap.size w w' :=
  (((Below.refl _ _).alloc (Nat.le_refl _) _).alloc (by simp) _).trans (h.mono (by simp; omega))
theorem below_one {w w' : World} {o : Obj} (h : Below (w.alloc o).heap.size (w.alloc o) w') : Below w.heap.size w w' :=
  ((Below.refl _ _).alloc (Nat.le_refl _) _).trans (h.mono (by simp))
theorem below_one_drew (w : World) (o : Obj) (j : Nat) : Below w.heap.size w ((w.alloc o).drewN j) :=
  below_drewN ((Below.refl _ _).alloc (Nat.le_refl _) _) j

end Go.Proofs.YtkooconjkimgoaaDoor

/- nat: Parse of a number's digits: what it answers. -/
namespace Go.Proofs.YtkooconjkimgoaaDoor
open Go.RowKit

theorem isT_parts {l : List UInt8} : isT l = true ↔ l ≠ [] ∧ l.length ≤ 2000 ∧ (l = [48] ∨ l.getD 0 0 ≠ 48) ∧ T.AllD l := by
  unfold isT T.AllD
  simp only [Bool.and_eq_true, Bool.not_eq_true', decide_eq_true_eq, List.all_eq_true, Bool.and_eq_false_iff, decide_eq_false_iff_not, List.isEmpty_eq_false_iff]
  constructor
  · rintro ⟨⟨⟨h1, h2⟩, h3⟩, h4⟩
    refine ⟨h1, h2, ?_, h4⟩
    rcases h3 with h3 | h3
    · exact .inr h3
    · exact .inl (Decidable.not_not.1 h3)
  · rintro ⟨h1, h2, h3, h4⟩
    refine ⟨⟨⟨h1, h2⟩, ?_⟩, h4⟩
    rcases h3 with h3 | h3
    · exact .inr (fun h => h h3)
    · exact .inl h3

/-- Parse's answer: a number, and no error -/
def Parsed (W : World) (N : Nat) (e : Ending) (w' : World) : Prop := ∃ v, e = .returned (.tuple #[v, .int .i64 0]) ∧ Num w' v N ∧ Below W.heap.size W w'

end Go.Proofs.YtkooconjkimgoaaDoor
