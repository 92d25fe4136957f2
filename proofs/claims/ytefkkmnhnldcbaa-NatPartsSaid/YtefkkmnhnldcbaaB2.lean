/- nat: Text: what it answers. -/
import Derived.Test.YtefkkmnhnldcbaaA7
import Derived.Test.YtefkkmnhnldcbaaB1
import Derived.Test.YtefkkmnhnldcbaaMathT
namespace Go.Proofs.Ytefkkmnhnldcbaa
open Go.RowKit

/-- the cells of bytes -/
def cells8 (l : List Nat) : List Value := l.map fun (x : Nat) => .int .u8 (x : Int)
theorem cells8_length (l : List Nat) : (cells8 l).length = l.length := by simp [cells8]
theorem cells8_get {l : List Nat} {j : Nat} (h : j < l.length) : (cells8 l)[j]? = some (.int .u8 ((l.getD j 0 : Nat) : Int)) := by
  simp [cells8, List.getD_eq_getElem?_getD, h]
theorem cells8_one {l : List Nat} : ∀ v ∈ cells8 l, v.oneCell' = true := by
  intro v hv
  obtain ⟨x, _, rfl⟩ := List.mem_map.1 hv
  rfl
theorem Try.info_u8 : (Try.prog.info? 5).map (fun i => (i.zero, i.size, i.bytes)) = some (some (.int .u8 0), 1, 1) := by kernel_rfl

/-- v holds the bytes l, in a row of the call's own from block B on -/
def Own8 (w : World) (B : Nat) (v : Value) (l : List Nat) : Prop := w.ownsRow B 5 1 v l.length (cells8 l)
theorem Own8.nil_ (w : World) (B : Nat) : Own8 w B (.slice none 0 0) [] := World.ownsRow_nil w B _ _
theorem Own8.form {w : World} {B : Nat} {v : Value} {l : List Nat} (h : Own8 w B v l) (hl : 0 < l.length) : ∃ g c, v = .slice (some ⟨g, 0, none⟩) l.length c ∧ B ≤ g ∧ l.length ≤ c ∧ c ≤ maxLen ∧ Bys w g l := by
  have h0 := h
  obtain ⟨h1, h2⟩ := h
  rcases h2 with ⟨_, h2⟩ | ⟨g, cap, cur, rfl, hb, hh, hc, hm, hs, ht⟩
  · omega
  · refine ⟨g, cap, rfl, hb, hc, hm, cur, hh, fun j hj => ?_⟩
    have := congrArg (·[j]?) ht
    simp only [Nat.mul_one] at this
    rw [cells8_get hj, List.getElem?_take, if_pos hj] at this
    simpa using this
theorem Own8.length {w : World} {B : Nat} {v : Value} {l : List Nat} (h : Own8 w B v l) : ∃ A c, v = .slice A l.length c := by
  obtain ⟨_, ⟨rfl, h2⟩ | ⟨g, cap, cur, rfl, _⟩⟩ := h
  · exact ⟨none, 0, by rw [h2]⟩
  · exact ⟨_, _, rfl⟩
theorem Own8.kept {w w' : World} {B g : Nat} {v : Value} {l : List Nat} (h : Own8 w B v l) (hg : w.grownBy w' (some g)) (hB : g < B) : Own8 w' B v l := by
  refine World.ownsRow.kept h hg ?_
  cases e : v.ownBlock with
  | none => exact .inl rfl
  | some k => exact .inr fun h2 => by have := (World.ownsRow.lt h k e).1; injection h2; omega

/-- append of one byte -/
theorem append8 {w : World} {ops : Array Oper} {rest : List Oper} {o : Oper} {a : Act} {Q : Exit → Act → World → Prop} (hgd : o.guard = none) (s x : Operand)
    (ho : o.op = .call { callee := .builtin .append, args := #[s, x], argTypes := #[63, 63] })
    {B g n c d : Nat} {v : Value} {l : List Nat} (hs : a.eval s = v) (hown : Own8 w B v l) (hx : a.eval x = .slice (some ⟨g, 0, none⟩) 1 c)
    (hd : w.cell? ⟨g, 0, none⟩ = some (.int .u8 (d : Int))) (hn : l.length ≤ n) (hn' : n ≤ 1000000000) (hB : B ≤ w.heap.size)
    (h : ∀ v' w', Own8 w' B v' (l ++ [d]) → w.grownBy w' v.ownBlock → wpList Try.prog ops Q rest (a.put o.dst v') w') :
    wpList Try.prog ops Q (o :: rest) a w := by
  obtain ⟨i0, hi0, hz0, hz1, hz2⟩ := info_parts Try.info_u8
  refine wpList_append_own w hgd s x 63 ho B 5 i0 (.int .u8 0) 1 1 Try.underlying63 hi0 hz0 hz1 hz2 rfl (by omega) v l.length (cells8 l) hs hown ⟨g, 0, none⟩ 1 c (cells8 [d]) hx rfl ?_ cells8_one (by unfold maxLen; omega) (by omega) hB ?_
  · intro j u hu
    match j, hu with
    | 0, hu => simp [cells8] at hu; subst hu; simpa [Addr.add] using hd
    | j + 1, hu => simp [cells8] at hu
  · intro v' w' h1 h2 _
    refine h v' w' ?_ h2
    have e : cells8 l ++ cells8 [d] = cells8 (l ++ [d]) := by simp [cells8]
    rw [e] at h1
    unfold Own8
    rw [List.length_append]
    exact h1

/-- bytes become a text -/
theorem foldl_push (ns : List Int) (s : ByteArray) : (ns.foldl (fun r n => r.push (UInt8.ofNat n.toNat)) s) = ⟨(s.data.toList ++ ns.map fun n => UInt8.ofNat n.toNat).toArray⟩ := by
  induction ns generalizing s with
  | nil => simp
  | cons n ns ih =>
    rw [List.foldl_cons, ih]
    simp [ByteArray.push]
theorem conv8 {w : World} {g n c : Nat} {l : List Nat} (h : Bys w g l) (hn : n = l.length) :
    (convert 63 9 (.slice (some ⟨g, 0, none⟩) n c)).run Try.prog w = .ok (.string ⟨(T.byt l).toArray⟩) w := by
  subst hn
  rw [run_convert_bytes_string w 63 9 5 _ _ _ Try.underlying63 Try.underlying5 Try.underlying9]
  have hl := run_loadCells_list (P := Try.prog) w ⟨g, 0, none⟩ (cells8 l) (fun j v hv => by
    have hj : j < l.length := by
      rcases Nat.lt_or_ge j l.length with h1 | h1
      · exact h1
      · rw [List.getElem?_eq_none (by rw [cells8_length]; exact h1)] at hv; cases hv
    rw [cells8_get hj] at hv
    injection hv with hv
    subst hv
    have := h.cell hj
    unfold Addr.add
    split
    · rename_i e; subst e; exact this
    · simpa using this)
  rw [cells8_length] at hl
  have e : (cells8 l).toArray = ((l.map fun (x : Nat) => (x : Int)).map (Value.int .u8)).toArray := by simp [cells8]
  rw [e] at hl
  rw [run_bytesToString w _ _ _ _ hl, foldl_push]
  simp [T.byt]

theorem Bys.take {w : World} {g : Nat} {ds : List Nat} (h : Bys w g ds) (k : Nat) : Bys w g (ds.take k) := by
  obtain ⟨cur, h1, h2⟩ := h
  refine ⟨cur, h1, fun j hj => ?_⟩
  rw [List.length_take] at hj
  rw [h2 j (by omega)]
  simp [List.getD_eq_getElem?_getD, show j < k from by omega]
theorem Own8.own_ne {w : World} {B g : Nat} {v : Value} {l : List Nat} (h : Own8 w B v l) (hB : g < B) : some g ≠ v.ownBlock := by
  intro e
  have := (World.ownsRow.lt h g e.symm).1
  omega
theorem Own8.own_ge {w : World} {B : Nat} {v : Value} {l : List Nat} (h : Own8 w B v l) {b : Nat} (hb : b ≤ B) : ∀ k, v.ownBlock = some k → b ≤ k := fun k e => by
  have := (World.ownsRow.lt h k e).1
  omega
theorem Own8.alloc {w : World} {B : Nat} {v : Value} {l : List Nat} (h : Own8 w B v l) (o : Obj) : Own8 (w.alloc o) B v l := World.ownsRow.alloc h o
/-- the length in a slot -/
def lenOf : Value → Nat | .slice _ n _ => n | _ => 0

/-- Text's answer -/
def GivesText (W : World) (N : Nat) (e : Ending) (w' : World) : Prop :=
  ∃ s : List UInt8, e = .returned (.string ⟨s.toArray⟩) ∧ T.Txt N s ∧ Below W.heap.size W w'
end Go.Proofs.Ytefkkmnhnldcbaa
