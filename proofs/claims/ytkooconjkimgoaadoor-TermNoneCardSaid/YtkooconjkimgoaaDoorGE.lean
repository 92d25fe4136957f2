/- several texts in one. -/
import Derived.Test.YtkooconjkimgoaaDoorGA
import Derived.Test.YtkooconjkimgoaaDoorGM
import Derived.BigRegion
import Derived.RegionTactic
import Derived.ChangeAlike
import Derived.Test.YtkooconjkimgoaaDoorGB
/- bytes in memory; slices.Reverse over bytes: what it leaves. -/
namespace Go.Proofs.YtkooconjkimgoaaDoor
open Go.RowKit

/-- block g begins with these bytes -/
def Bys (w : World) (g : Nat) (ds : List Nat) : Prop :=
  ∃ cur : Array Value, w.heap[g]? = some (.cells cur 5 (0, 0)) ∧ ∀ j, j < ds.length → cur[j]? = some (.int .u8 ((ds.getD j 0 : Nat) : Int))

theorem Bys.lt {w : World} {g : Nat} {ds : List Nat} (h : Bys w g ds) : g < w.heap.size := by
  obtain ⟨cur, h, _⟩ := h
  rcases Nat.lt_or_ge g w.heap.size with hlt | hge
  · exact hlt
  · rw [Array.getElem?_eq_none hge] at h; cases h
theorem Bys.cell {w : World} {g : Nat} {ds : List Nat} (h : Bys w g ds) {j : Nat} (hj : j < ds.length) : w.cell? ⟨g, j, none⟩ = some (.int .u8 ((ds.getD j 0 : Nat) : Int)) := by
  obtain ⟨cur, h, hc⟩ := h
  rw [cell_of_row w g j _ _ (0, 0) h]
  exact hc j hj
theorem Bys.frozen {w : World} {g : Nat} {ds : List Nat} (h : Bys w g ds) (i : Nat) : w.frozen? ⟨g, i, none⟩ = false := by
  obtain ⟨cur, h, _⟩ := h
  simp [World.frozen?, h]
theorem Bys.drewN {w : World} {g : Nat} {ds : List Nat} (h : Bys w g ds) (n : Nat) : Bys (w.drewN n) g ds := h
theorem Bys.set_ {w : World} {g : Nat} {ds : List Nat} (h : Bys w g ds) {i : Nat} (hi : i < ds.length) (x : Nat) : Bys (w.setCell ⟨g, i, none⟩ (.int .u8 (x : Int))) g (ds.set i x) := by
  obtain ⟨cur, h, hc⟩ := h
  refine ⟨cur.setIfInBounds i (.int .u8 (x : Int)), by simp [World.setCell, Array.getElem?_modify, h], fun j hj => ?_⟩
  rw [List.length_set] at hj
  rw [Array.getElem?_setIfInBounds]
  split
  · rename_i e
    subst e
    have : i < cur.size := by
      rcases Nat.lt_or_ge i cur.size with h1 | h1
      · exact h1
      · have := hc i hi
        rw [Array.getElem?_eq_none h1] at this
        cases this
    rw [if_pos this]
    simp [List.getD_eq_getElem?_getD, hi]
  · rename_i e
    rw [hc j hj]
    simp [List.getD_eq_getElem?_getD, List.getElem?_set_ne e]
theorem Bys.grown {w w' : World} {g : Nat} {ds : List Nat} {row : Option Nat} (h : Bys w g ds) (hg : w.grownBy w' row) (hne : some g ≠ row) : Bys w' g ds := by
  have hlt := h.lt
  obtain ⟨cur, h, hc⟩ := h
  exact ⟨cur, (hg.block g hlt hne).trans h, hc⟩

/-- how far a list has been turned round -/
structure Turning (ds es : List Nat) (n i : Nat) : Prop where
  len : es.length = n
  done : ∀ q, q < i → es.getD q 0 = ds.getD (n - 1 - q) 0
  done' : ∀ q, n - i ≤ q → q < n → es.getD q 0 = ds.getD (n - 1 - q) 0
  rest : ∀ q, i ≤ q → q < n - i → es.getD q 0 = ds.getD q 0

theorem Turning.step {ds es : List Nat} {n i x y : Nat} (h : Turning ds es n i) (hi : i < n - 1 - i) (hx : x = es.getD i 0) (hy : y = es.getD (n - 1 - i) 0) :
    Turning ds ((es.set i y).set (n - 1 - i) x) n (i + 1) := by
  have hx' : x = ds.getD i 0 := by rw [hx]; exact h.rest i (by omega) (by omega)
  have hy' : y = ds.getD (n - 1 - i) 0 := by rw [hy]; exact h.rest _ (by omega) (by omega)
  refine ⟨by simp [h.len], fun q hq => ?_, fun q hq hn => ?_, fun q hq hn => ?_⟩
  · rw [M.set_ne _ _ _ _ (by omega)]
    by_cases e : i = q
    · subst e; rw [M.set_eq _ _ _ (by rw [h.len]; omega), hy']
    · rw [M.set_ne _ _ _ _ e]; exact h.done q (by omega)
  · by_cases e : n - 1 - i = q
    · subst e
      rw [M.set_eq _ _ _ (by rw [List.length_set, h.len]; omega), hx']
      congr 1
      omega
    · rw [M.set_ne _ _ _ _ e, M.set_ne _ _ _ _ (by omega)]; exact h.done' q (by omega) hn
  · rw [M.set_ne _ _ _ _ (by omega), M.set_ne _ _ _ _ (by omega)]; exact h.rest q (by omega) (by omega)
theorem Turning.end_ {ds es : List Nat} {n i : Nat} (h : Turning ds es n i) (hl : ds.length = n) (hi : n ≤ 2 * i + 1) : es = ds.reverse := by
  refine List.ext_getElem (by rw [List.length_reverse, hl, h.len]) fun q h1 h2 => ?_
  rw [List.getElem_reverse]
  have hq : q < n := by rw [← h.len]; exact h1
  have e : es.getD q 0 = ds.getD (n - 1 - q) 0 := by
    by_cases a : q < i
    · exact h.done q a
    · by_cases b : n - i ≤ q
      · exact h.done' q b hq
      · rw [h.rest q (by omega) (by omega)]; congr 1; omega
  rw [M.getD_lt h1, M.getD_lt (by omega)] at e
  rw [e]
  congr 1
  omega

/-- Reverse's end -/
def Reversed (W : World) (g : Nat) (ds : List Nat) (e : Ending) (w' : World) : Prop := e = .returned (.tuple #[]) ∧ Bys w' g ds.reverse ∧ W.grownBy w' (some g)

end Go.Proofs.YtkooconjkimgoaaDoor

/- nat: Text: what it answers. -/
namespace Go.Proofs.YtkooconjkimgoaaDoor
open Go.RowKit

/-- the cells of bytes -/
def cells8 (l : List Nat) : List Value := l.map fun (x : Nat) => .int .u8 (x : Int)
theorem cells8_length (l : List Nat) : (cells8 l).length = l.length := by simp [cells8]
theorem cells8_get {l : List Nat} {j : Nat} (h : j < l.length) : (cells8 l)[j]? = some (.int .u8 ((l.getD j 0 : Nat) : Int)) := by
  simp [cells8, List.getD_eq_getElem?_getD, h]
theorem cells8_one {l : List Nat} : ∀ v ∈ cells8 l, v.oneCell' = true := by
  intro v hv
  obtain ⟨x, _, rfl⟩ := List.mem_map.1 hv
  rfl
theorem Tryd.info_u8 : (Tryd.prog.info? 5).map (fun i => (i.zero, i.size, i.bytes)) = some (some (.int .u8 0), 1, 1) := by kernel_rfl

/-- v holds the bytes l, in a row of the call's own from block B on -/
def Own8 (w : World) (B : Nat) (v : Value) (l : List Nat) : Prop := w.ownsRow B 5 1 v l.length (cells8 l)
theorem Own8.nil_ (w : World) (B : Nat) : Own8 w B (.slice none 0 0) [] := World.ownsRow_nil w B _ _
theorem Own8.form {w : World} {B : Nat} {v : Value} {l : List Nat} (h : Own8 w B v l) (hl : 0 < l.length) : ∃ g c, v = .slice (some ⟨g, 0, none⟩) l.length c ∧ B ≤ g ∧ l.length ≤ c ∧ c ≤ maxLen ∧ Bys w g l := by
  have h0 := h
  obtain ⟨h1, h2⟩ := h
  rcases h2 with ⟨_, h2⟩ | ⟨g, cap, cur, rfl, hb, hh, hc, hm, hs, ht⟩
  · omega
  · refine ⟨g, cap, rfl, hb, hc, hm, cur, hh, fun j hj => ?_⟩
    have := congrArg (·[j]?) ht
    simp only [Nat.mul_one] at this
    rw [cells8_get hj, List.getElem?_take, if_pos hj] at this
    simpa using this
theorem Own8.length {w : World} {B : Nat} {v : Value} {l : List Nat} (h : Own8 w B v l) : ∃ A c, v = .slice A l.length c := by
  obtain ⟨_, ⟨rfl, h2⟩ | ⟨g, cap, cur, rfl, _⟩⟩ := h
  · exact ⟨none, 0, by rw [h2]⟩
  · exact ⟨_, _, rfl⟩
theorem Own8.kept {w w' : World} {B g : Nat} {v : Value} {l : List Nat} (h : Own8 w B v l) (hg : w.grownBy w' (some g)) (hB : g < B) : Own8 w' B v l := by
  refine World.ownsRow.kept h hg ?_
  cases e : v.ownBlock with
  | none => exact .inl rfl
  | some k => exact .inr fun h2 => by have := (World.ownsRow.lt h k e).1; injection h2; omega

/-- append of one byte -/
theorem append8 {w : World} {ops : Array Oper} {rest : List Oper} {o : Oper} {a : Act} {Q : Exit → Act → World → Prop} (hgd : o.guard = none) (s x : Operand)
    (ho : o.op = .call { callee := .builtin .append, args := #[s, x], argTypes := #[112, 112] })
    {B g n c d : Nat} {v : Value} {l : List Nat} (hs : a.eval s = v) (hown : Own8 w B v l) (hx : a.eval x = .slice (some ⟨g, 0, none⟩) 1 c)
    (hd : w.cell? ⟨g, 0, none⟩ = some (.int .u8 (d : Int))) (hn : l.length ≤ n) (hn' : n ≤ 1000000000) (hB : B ≤ w.heap.size)
    (h : ∀ v' w', Own8 w' B v' (l ++ [d]) → w.grownBy w' v.ownBlock → wpList Tryd.prog ops Q rest (a.put o.dst v') w') :
    wpList Tryd.prog ops Q (o :: rest) a w := by
  obtain ⟨i0, hi0, hz0, hz1, hz2⟩ := info_parts Tryd.info_u8
  refine wpList_append_own w hgd s x 112 ho B 5 i0 (.int .u8 0) 1 1 Tryd.underlying112 hi0 hz0 hz1 hz2 rfl (by omega) v l.length (cells8 l) hs hown ⟨g, 0, none⟩ 1 c (cells8 [d]) hx rfl ?_ cells8_one (by unfold maxLen; omega) (by omega) hB ?_
  · intro j u hu
    match j, hu with
    | 0, hu => simp [cells8] at hu; subst hu; simpa [Addr.add] using hd
    | j + 1, hu => simp [cells8] at hu
  · intro v' w' h1 h2 _
    refine h v' w' ?_ h2
    have e : cells8 l ++ cells8 [d] = cells8 (l ++ [d]) := by simp [cells8]
    rw [e] at h1
    unfold Own8
    rw [List.length_append]
    exact h1

/-- bytes become a text -/
theorem foldl_push (ns : List Int) (s : ByteArray) : (ns.foldl (fun r n => r.push (UInt8.ofNat n.toNat)) s) = ⟨(s.data.toList ++ ns.map fun n => UInt8.ofNat n.toNat).toArray⟩ := by
  induction ns generalizing s with
  | nil => simp
  | cons n ns ih =>
    rw [List.foldl_cons, ih]
    simp [ByteArray.push]
theorem conv8 {w : World} {g n c : Nat} {l : List Nat} (h : Bys w g l) (hn : n = l.length) :
    (convert 112 9 (.slice (some ⟨g, 0, none⟩) n c)).run Tryd.prog w = .ok (.string ⟨(T.byt l).toArray⟩) w := by
  subst hn
  rw [run_convert_bytes_string w 112 9 5 _ _ _ Tryd.underlying112 Tryd.underlying5 Tryd.underlying9]
  have hl := run_loadCells_list (P := Tryd.prog) w ⟨g, 0, none⟩ (cells8 l) (fun j v hv => by
    have hj : j < l.length := by
      rcases Nat.lt_or_ge j l.length with h1 | h1
      · exact h1
      · rw [List.getElem?_eq_none (by rw [cells8_length]; exact h1)] at hv; cases hv
    rw [cells8_get hj] at hv
    injection hv with hv
    subst hv
    have := h.cell hj
    unfold Addr.add
    split
    · rename_i e; subst e; exact this
    · simpa using this)
  rw [cells8_length] at hl
  have e : (cells8 l).toArray = ((l.map fun (x : Nat) => (x : Int)).map (Value.int .u8)).toArray := by simp [cells8]
  rw [e] at hl
  rw [run_bytesToString w _ _ _ _ hl, foldl_push]
  simp [T.byt]

theorem Bys.take {w : World} {g : Nat} {ds : List Nat} (h : Bys w g ds) (k : Nat) : Bys w g (ds.take k) := by
  obtain ⟨cur, h1, h2⟩ := h
  refine ⟨cur, h1, fun j hj => ?_⟩
  rw [List.length_take] at hj
  rw [h2 j (by omega)]
  simp [List.getD_eq_getElem?_getD, show j < k from by omega]
theorem Own8.own_ne {w : World} {B g : Nat} {v : Value} {l : List Nat} (h : Own8 w B v l) (hB : g < B) : some g ≠ v.ownBlock := by
  intro e
  have := (World.ownsRow.lt h g e.symm).1
  omega
theorem Own8.own_ge {w : World} {B : Nat} {v : Value} {l : List Nat} (h : Own8 w B v l) {b : Nat} (hb : b ≤ B) : ∀ k, v.ownBlock = some k → b ≤ k := fun k e => by
  have := (World.ownsRow.lt h k e).1
  omega
theorem Own8.alloc {w : World} {B : Nat} {v : Value} {l : List Nat} (h : Own8 w B v l) (o : Obj) : Own8 (w.alloc o) B v l := World.ownsRow.alloc h o
/-- the length in a slot -/
def lenOf : Value → Nat | .slice _ n _ => n | _ => 0

/-- Text's answer -/
def GivesText (W : World) (N : Nat) (e : Ending) (w' : World) : Prop :=
  ∃ s : List UInt8, e = .returned (.string ⟨s.toArray⟩) ∧ T.Txt N s ∧ Below W.heap.size W w'
end Go.Proofs.YtkooconjkimgoaaDoor

/- nat: Text's walk. -/
namespace Go.Proofs.YtkooconjkimgoaaDoor
open Go.RowKit

end Go.Proofs.YtkooconjkimgoaaDoor

/- nat: isText: what it answers. -/
namespace Go.Proofs.YtkooconjkimgoaaDoor
open Go.RowKit

/-- the texts that are parsed -/
def isT (l : List UInt8) : Bool := !l.isEmpty && decide (l.length ≤ 2000) && !(decide (l.getD 0 0 = 48) && decide (l ≠ [48])) && l.all fun c => decide (48 ≤ c.toNat) && decide (c.toNat ≤ 57)

theorem lenL (s : ByteArray) : s.data.toList.length = s.size := by rw [Array.length_toList]; rfl
theorem getL {s : ByteArray} {i : Nat} (h : i < s.size) : s.data.toList.getD i 0 = s[i] := by
  have h' : i < s.data.size := h
  rw [List.getD_eq_getElem?_getD, Array.getElem?_toList, Array.getElem?_eq_getElem h']
  rfl
theorem allL {s : ByteArray} {p : UInt8 → Bool} : (s.data.toList.all p = true) ↔ ∀ i (h : i < s.size), p s[i] = true := by
  rw [List.all_eq_true]
  constructor
  · intro h i hi
    have h' : i < s.data.size := hi
    have hm : s.data[i] ∈ s.data.toList := Array.getElem_mem_toList h'
    exact h _ hm
  · intro h x hx
    obtain ⟨i, hi, rfl⟩ := List.getElem_of_mem hx
    exact h i (by simpa using hi)

end Go.Proofs.YtkooconjkimgoaaDoor
