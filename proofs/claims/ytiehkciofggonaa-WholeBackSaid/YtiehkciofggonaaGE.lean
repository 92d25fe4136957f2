/- several texts in one. -/
import Derived.Test.YtiehkciofggonaaGA
import Derived.Test.YtiehkciofggonaaGM
import Derived.BigRegion
import Derived.RegionTactic
import Derived.ChangeAlike
import Derived.Test.YtiehkciofggonaaGB
/- bytes in memory; slices.Reverse over bytes: what it leaves. -/
namespace Go.Proofs.Ytiehkciofggonaa
open Go.RowKit

/-- block g begins with these bytes -/
def Bys (w : World) (g : Nat) (ds : List Nat) : Prop :=
  ∃ cur : Array Value, w.heap[g]? = some (.cells cur 5 (0, 0)) ∧ ∀ j, j < ds.length → cur[j]? = some (.int .u8 ((ds.getD j 0 : Nat) : Int))

theorem Bys.lt {w : World} {g : Nat} {ds : List Nat} (h : Bys w g ds) : g < w.heap.size := by
  obtain ⟨cur, h, _⟩ := h
  rcases Nat.lt_or_ge g w.heap.size with hlt | hge
  · exact hlt
  · rw [Array.getElem?_eq_none hge] at h; cases h
theorem Bys.cell {w : World} {g : Nat} {ds : List Nat} (h : Bys w g ds) {j : Nat} (hj : j < ds.length) : w.cell? ⟨g, j, none⟩ = some (.int .u8 ((ds.getD j 0 : Nat) : Int)) := by
  obtain ⟨cur, h, hc⟩ := h
  rw [cell_of_row w g j _ _ (0, 0) h]
  exact hc j hj
theorem Bys.frozen {w : World} {g : Nat} {ds : List Nat} (h : Bys w g ds) (i : Nat) : w.frozen? ⟨g, i, none⟩ = false := by
  obtain ⟨cur, h, _⟩ := h
  simp [World.frozen?, h]
theorem Bys.drewN {w : World} {g : Nat} {ds : List Nat} (h : Bys w g ds) (n : Nat) : Bys (w.drewN n) g ds := h
theorem Bys.set_ {w : World} {g : Nat} {ds : List Nat} (h : Bys w g ds) {i : Nat} (hi : i < ds.length) (x : Nat) : Bys (w.setCell ⟨g, i, none⟩ (.int .u8 (x : Int))) g (ds.set i x) := by
  obtain ⟨cur, h, hc⟩ := h
  refine ⟨cur.setIfInBounds i (.int .u8 (x : Int)), by simp [World.setCell, Array.getElem?_modify, h], fun j hj => ?_⟩
  rw [List.length_set] at hj
  rw [Array.getElem?_setIfInBounds]
  split
  · rename_i e
    subst e
    have : i < cur.size := by
      rcases Nat.lt_or_ge i cur.size with h1 | h1
      · exact h1
      · have := hc i hi
        rw [Array.getElem?_eq_none h1] at this
        cases this
    rw [if_pos this]
    simp [List.getD_eq_getElem?_getD, hi]
  · rename_i e
    rw [hc j hj]
    simp [List.getD_eq_getElem?_getD, List.getElem?_set_ne e]
theorem Bys.grown {w w' : World} {g : Nat} {ds : List Nat} {row : Option Nat} (h : Bys w g ds) (hg : w.grownBy w' row) (hne : some g ≠ row) : Bys w' g ds := by
  have hlt := h.lt
  obtain ⟨cur, h, hc⟩ := h
  exact ⟨cur, (hg.block g hlt hne).trans h, hc⟩

/-- how far a list has been turned round -/
structure Turning (ds es : List Nat) (n i : Nat) : Prop where
  len : es.length = n
  done : ∀ q, q < i → es.getD q 0 = ds.getD (n - 1 - q) 0
  done' : ∀ q, n - i ≤ q → q < n → es.getD q 0 = ds.getD (n - 1 - q) 0
  rest : ∀ q, i ≤ q → q < n - i → es.getD q 0 = ds.getD q 0

theorem Turning.step {ds es : List Nat} {n i x y : Nat} (h : Turning ds es n i) (hi : i < n - 1 - i) (hx : x = es.getD i 0) (hy : y = es.getD (n - 1 - i) 0) :
    Turning ds ((es.set i y).set (n - 1 - i) x) n (i + 1) := by
  have hx' : x = ds.getD i 0 := by rw [hx]; exact h.rest i (by omega) (by omega)
  have hy' : y = ds.getD (n - 1 - i) 0 := by rw [hy]; exact h.rest _ (by omega) (by omega)
  refine ⟨by simp [h.len], fun q hq => ?_, fun q hq hn => ?_, fun q hq hn => ?_⟩
  · rw [M.set_ne _ _ _ _ (by omega)]
    by_cases e : i = q
    · subst e; rw [M.set_eq _ _ _ (by rw [h.len]; omega), hy']
    · rw [M.set_ne _ _ _ _ e]; exact h.done q (by omega)
  · by_cases e : n - 1 - i = q
    · subst e
      rw [M.set_eq _ _ _ (by rw [List.length_set, h.len]; omega), hx']
      congr 1
      omega
    · rw [M.set_ne _ _ _ _ e, M.set_ne _ _ _ _ (by omega)]; exact h.done' q (by omega) hn
  · rw [M.set_ne _ _ _ _ (by omega), M.set_ne _ _ _ _ (by omega)]; exact h.rest q (by omega) (by omega)
theorem Turning.end_ {ds es : List Nat} {n i : Nat} (h : Turning ds es n i) (hl : ds.length = n) (hi : n ≤ 2 * i + 1) : es = ds.reverse := by
  refine List.ext_getElem (by rw [List.length_reverse, hl, h.len]) fun q h1 h2 => ?_
  rw [List.getElem_reverse]
  have hq : q < n := by rw [← h.len]; exact h1
  have e : es.getD q 0 = ds.getD (n - 1 - q) 0 := by
    by_cases a : q < i
    · exact h.done q a
    · by_cases b : n - i ≤ q
      · exact h.done' q b hq
      · rw [h.rest q (by omega) (by omega)]; congr 1; omega
  rw [M.getD_lt h1, M.getD_lt (by omega)] at e
  rw [e]
  congr 1
  omega

/-- Reverse's end -/
def Reversed (W : World) (g : Nat) (ds : List Nat) (e : Ending) (w' : World) : Prop := e = .returned (.tuple #[]) ∧ Bys w' g ds.reverse ∧ W.grownBy w' (some g)

theorem reverse_any (g n c : Nat) (ds : List Nat) (w : World) (h : Bys w g ds) (hl : ds.length = n) (hn : n ≤ 1000000000) :
    Calls Try.prog 79 #[.slice (some ⟨g, 0, none⟩) n c] w (Reversed w g ds) := by
  have HL := Lib.hid hl
  clear hl
  go_enter Try.func79, Try.ntmps79
  go_wp2_with fail
  go_loopw [2, 3] (fun iv jv wr => ∃ (i : Nat) (es : List Nat), i ≤ n ∧ iv = .int .i64 i ∧ jv = .int .i64 ((n : Int) - 1 - i) ∧ Bys wr g es ∧ Turning ds es n i ∧ w.grownBy wr (some g)) (fun iv _ _ => n - (intOf iv).toNat)
  case atStart => exact ⟨0, ds, by omega, rfl, by go_num, h, ⟨HL.out, fun q hq => by omega, fun q h1 h2 => by omega, fun _ _ _ => rfl⟩, World.grownBy.refl _ _⟩
  case round =>
    obtain ⟨i, es, hi, rfl, rfl, hb, ht, hg⟩ := hrel
    by_cases hlt : i < n - 1 - i
    · obtain ⟨j, hj⟩ : ∃ j : Nat, Hid (n - 1 - i = j) := ⟨_, rfl⟩
      have hjn : j < n := by have := hj.out; omega
      have hij : i < j := by have := hj.out; omega
      have he : (n : Int) - 1 - (i : Int) = (j : Int) := by have := hj.out; omega
      obtain ⟨x, HX⟩ : ∃ x, Hid (x = es.getD i 0) := ⟨_, rfl⟩
      obtain ⟨y, HY⟩ : ∃ y, Hid (y = es.getD j 0) := ⟨_, rfl⟩
      have hx : wr.cell? ⟨g, i, none⟩ = some (.int .u8 (x : Int)) := by rw [HX.out]; exact hb.cell (by rw [ht.len]; omega)
      have hy : wr.cell? ⟨g, j, none⟩ = some (.int .u8 (y : Int)) := by rw [HY.out]; exact hb.cell (by rw [ht.len]; omega)
      have fx := hb.frozen i
      have fy := hb.frozen j
      go_wp2_with fail
      go_region
      have ht' := ht.step (x := x) (y := y) hlt HX.out (by rw [hj.out]; exact HY.out)
      rw [hj.out] at ht'
      have HB : Hid (Bys ((wr.setCell ⟨g, i, none⟩ (.int .u8 (y : Int))).setCell ⟨g, j, none⟩ (.int .u8 (x : Int))).drew g ((es.set i y).set j x)) :=
        ((hb.set_ (by rw [ht.len]; omega) y).set_ (by rw [List.length_set, ht.len]; omega) x).drewN 1
      have HG : Hid (w.grownBy ((wr.setCell ⟨g, i, none⟩ (.int .u8 (y : Int))).setCell ⟨g, j, none⟩ (.int .u8 (x : Int))).drew (some g)) :=
        only_drewN (only_setCell (only_setCell hg (p := ⟨g, i, none⟩) (.inl rfl) _) (p := ⟨g, j, none⟩) (.inl rfl) _) 1
      clear hb ht hg hx hy fx fy
      go_wp2_with fail
      go_roundw
      case rel => exact ⟨i + 1, _, by omega, by go_num, by go_num, HB.out, ht', HG.out⟩
      case measure => simp [intOf]; omega
    · have e : Hid (es = ds.reverse) := ht.end_ HL.out (by omega)
      go_wp2_with fail
      go_end0
      exact ⟨rfl, by rw [← e.out]; exact hb, hg⟩
end Go.Proofs.Ytiehkciofggonaa

/- nat: Text: what it answers. -/
namespace Go.Proofs.Ytiehkciofggonaa
open Go.RowKit

/-- the cells of bytes -/
def cells8 (l : List Nat) : List Value := l.map fun (x : Nat) => .int .u8 (x : Int)
theorem cells8_length (l : List Nat) : (cells8 l).length = l.length := by simp [cells8]
theorem cells8_get {l : List Nat} {j : Nat} (h : j < l.length) : (cells8 l)[j]? = some (.int .u8 ((l.getD j 0 : Nat) : Int)) := by
  simp [cells8, List.getD_eq_getElem?_getD, h]
theorem cells8_one {l : List Nat} : ∀ v ∈ cells8 l, v.oneCell' = true := by
  intro v hv
  obtain ⟨x, _, rfl⟩ := List.mem_map.1 hv
  rfl
theorem Try.info_u8 : (Try.prog.info? 5).map (fun i => (i.zero, i.size, i.bytes)) = some (some (.int .u8 0), 1, 1) := by kernel_rfl

/-- v holds the bytes l, in a row of the call's own from block B on -/
def Own8 (w : World) (B : Nat) (v : Value) (l : List Nat) : Prop := w.ownsRow B 5 1 v l.length (cells8 l)
theorem Own8.nil_ (w : World) (B : Nat) : Own8 w B (.slice none 0 0) [] := World.ownsRow_nil w B _ _
theorem Own8.form {w : World} {B : Nat} {v : Value} {l : List Nat} (h : Own8 w B v l) (hl : 0 < l.length) : ∃ g c, v = .slice (some ⟨g, 0, none⟩) l.length c ∧ B ≤ g ∧ l.length ≤ c ∧ c ≤ maxLen ∧ Bys w g l := by
  have h0 := h
  obtain ⟨h1, h2⟩ := h
  rcases h2 with ⟨_, h2⟩ | ⟨g, cap, cur, rfl, hb, hh, hc, hm, hs, ht⟩
  · omega
  · refine ⟨g, cap, rfl, hb, hc, hm, cur, hh, fun j hj => ?_⟩
    have := congrArg (·[j]?) ht
    simp only [Nat.mul_one] at this
    rw [cells8_get hj, List.getElem?_take, if_pos hj] at this
    simpa using this
theorem Own8.length {w : World} {B : Nat} {v : Value} {l : List Nat} (h : Own8 w B v l) : ∃ A c, v = .slice A l.length c := by
  obtain ⟨_, ⟨rfl, h2⟩ | ⟨g, cap, cur, rfl, _⟩⟩ := h
  · exact ⟨none, 0, by rw [h2]⟩
  · exact ⟨_, _, rfl⟩
theorem Own8.kept {w w' : World} {B g : Nat} {v : Value} {l : List Nat} (h : Own8 w B v l) (hg : w.grownBy w' (some g)) (hB : g < B) : Own8 w' B v l := by
  refine World.ownsRow.kept h hg ?_
  cases e : v.ownBlock with
  | none => exact .inl rfl
  | some k => exact .inr fun h2 => by have := (World.ownsRow.lt h k e).1; injection h2; omega

/-- append of one byte -/
theorem append8 {w : World} {ops : Array Oper} {rest : List Oper} {o : Oper} {a : Act} {Q : Exit → Act → World → Prop} (hgd : o.guard = none) (s x : Operand)
    (ho : o.op = .call { callee := .builtin .append, args := #[s, x], argTypes := #[79, 79] })
    {B g n c d : Nat} {v : Value} {l : List Nat} (hs : a.eval s = v) (hown : Own8 w B v l) (hx : a.eval x = .slice (some ⟨g, 0, none⟩) 1 c)
    (hd : w.cell? ⟨g, 0, none⟩ = some (.int .u8 (d : Int))) (hn : l.length ≤ n) (hn' : n ≤ 1000000000) (hB : B ≤ w.heap.size)
    (h : ∀ v' w', Own8 w' B v' (l ++ [d]) → w.grownBy w' v.ownBlock → wpList Try.prog ops Q rest (a.put o.dst v') w') :
    wpList Try.prog ops Q (o :: rest) a w := by
  obtain ⟨i0, hi0, hz0, hz1, hz2⟩ := info_parts Try.info_u8
  refine wpList_append_own w hgd s x 79 ho B 5 i0 (.int .u8 0) 1 1 Try.underlying79 hi0 hz0 hz1 hz2 rfl (by omega) v l.length (cells8 l) hs hown ⟨g, 0, none⟩ 1 c (cells8 [d]) hx rfl ?_ cells8_one (by unfold maxLen; omega) (by omega) hB ?_
  · intro j u hu
    match j, hu with
    | 0, hu => simp [cells8] at hu; subst hu; simpa [Addr.add] using hd
    | j + 1, hu => simp [cells8] at hu
  · intro v' w' h1 h2 _
    refine h v' w' ?_ h2
    have e : cells8 l ++ cells8 [d] = cells8 (l ++ [d]) := by simp [cells8]
    rw [e] at h1
    unfold Own8
    rw [List.length_append]
    exact h1

/-- bytes become a text -/
theorem foldl_push (ns : List Int) (s : ByteArray) : (ns.foldl (fun r n => r.push (UInt8.ofNat n.toNat)) s) = ⟨(s.data.toList ++ ns.map fun n => UInt8.ofNat n.toNat).toArray⟩ := by
  induction ns generalizing s with
  | nil => simp
  | cons n ns ih =>
    rw [List.foldl_cons, ih]
    simp [ByteArray.push]
theorem conv8 {w : World} {g n c : Nat} {l : List Nat} (h : Bys w g l) (hn : n = l.length) :
    (convert 79 9 (.slice (some ⟨g, 0, none⟩) n c)).run Try.prog w = .ok (.string ⟨(T.byt l).toArray⟩) w := by
  subst hn
  rw [run_convert_bytes_string w 79 9 5 _ _ _ Try.underlying79 Try.underlying5 Try.underlying9]
  have hl := run_loadCells_list (P := Try.prog) w ⟨g, 0, none⟩ (cells8 l) (fun j v hv => by
    have hj : j < l.length := by
      rcases Nat.lt_or_ge j l.length with h1 | h1
      · exact h1
      · rw [List.getElem?_eq_none (by rw [cells8_length]; exact h1)] at hv; cases hv
    rw [cells8_get hj] at hv
    injection hv with hv
    subst hv
    have := h.cell hj
    unfold Addr.add
    split
    · rename_i e; subst e; exact this
    · simpa using this)
  rw [cells8_length] at hl
  have e : (cells8 l).toArray = ((l.map fun (x : Nat) => (x : Int)).map (Value.int .u8)).toArray := by simp [cells8]
  rw [e] at hl
  rw [run_bytesToString w _ _ _ _ hl, foldl_push]
  simp [T.byt]

theorem Bys.take {w : World} {g : Nat} {ds : List Nat} (h : Bys w g ds) (k : Nat) : Bys w g (ds.take k) := by
  obtain ⟨cur, h1, h2⟩ := h
  refine ⟨cur, h1, fun j hj => ?_⟩
  rw [List.length_take] at hj
  rw [h2 j (by omega)]
  simp [List.getD_eq_getElem?_getD, show j < k from by omega]
theorem Own8.own_ne {w : World} {B g : Nat} {v : Value} {l : List Nat} (h : Own8 w B v l) (hB : g < B) : some g ≠ v.ownBlock := by
  intro e
  have := (World.ownsRow.lt h g e.symm).1
  omega
theorem Own8.own_ge {w : World} {B : Nat} {v : Value} {l : List Nat} (h : Own8 w B v l) {b : Nat} (hb : b ≤ B) : ∀ k, v.ownBlock = some k → b ≤ k := fun k e => by
  have := (World.ownsRow.lt h k e).1
  omega
theorem Own8.alloc {w : World} {B : Nat} {v : Value} {l : List Nat} (h : Own8 w B v l) (o : Obj) : Own8 (w.alloc o) B v l := World.ownsRow.alloc h o
/-- the length in a slot -/
def lenOf : Value → Nat | .slice _ n _ => n | _ => 0

/-- Text's answer -/
def GivesText (W : World) (N : Nat) (e : Ending) (w' : World) : Prop :=
  ∃ s : List UInt8, e = .returned (.string ⟨s.toArray⟩) ∧ T.Txt N s ∧ Below W.heap.size W w'
end Go.Proofs.Ytiehkciofggonaa

/- nat: Text's walk. -/
namespace Go.Proofs.Ytiehkciofggonaa
open Go.RowKit

set_option maxHeartbeats 2000000 in
theorem text_any (A : Option Addr) (n c : Nat) (l : List Nat) (w : World) (h : Lims w A n l) (hn : n ≤ c) (hc : c ≤ maxLen) (hs : n ≤ 1000000) :
    Calls Try.prog 58 #[.slice A n c] w (GivesText w (M.val l)) := by
  have hN : Hid (M.val l < M.BB ^ n) := by have := M.val_lt h.2.1; rw [h.1] at this; exact this
  have NA := Lib.hid (norm_row A n c l w h hn hc hs)
  generalize M.val l = N at *
  go_enter Try.func58, Try.ntmps58
  go_wp2_with fail
  refine NA.out.mono ?_
  rintro e w1 ⟨L, f1, t1, v1, s1, b1, h1⟩
  rcases h1 with ⟨rfl, rfl⟩ | ⟨rfl, hrow⟩
  · have hN0 : Hid (N = 0) := v1.symm
    clear v1
    go_wp2_with fail
    go_ret
    exact ⟨[48], rfl, .inl ⟨hN0.out, rfl⟩, b1⟩
  · by_cases hL : L = []
    · subst hL
      have hN0 : Hid (N = 0) := v1.symm
      clear v1
      have hz : ((([] : List Nat).length : Int) == 0) = true := rfl
      go_wp2_with fail
      go_ret
      exact ⟨[48], rfl, .inl ⟨hN0.out, rfl⟩, b1⟩
    have hpos : 0 < L.length := List.length_pos_iff.2 hL
    have hN1 : Hid (0 < N) := by rw [← v1]; exact t1.pos hL
    obtain ⟨n0, hn0⟩ : ∃ n0, Hid (L.length = n0) := ⟨_, rfl⟩
    rw [hn0.out] at hpos s1 ⊢
    have hz : ((n0 : Int) == 0) = false := by simp; omega
    obtain ⟨g, hg⟩ : ∃ g, Hid (w.heap.size = g) := ⟨_, rfl⟩
    rw [hg.out] at hrow ⊢
    obtain ⟨B, hB⟩ : ∃ B, Hid (w1.heap.size = B) := ⟨_, rfl⟩
    have hgB : g < B := by rw [← hB.out]; exact hrow.lt
    have V1 := Lib.hid v1
    have T1 := Lib.hid t1
    have N0 := Lib.hid (show ¬ L = [] from hL)
    clear v1 t1 hL
    go_wp2_with fail
    go_loopw [3, 4] (fun lv dv wr => ∃ (L' : List Nat) (n' c' : Nat) (A' : Option Addr) (ds : List Nat), lv = .slice A' n' c' ∧ n' ≤ n0 ∧ n' ≤ c' ∧ c' ≤ 1000000 ∧ (n' = 0 ∨ A' = some ⟨g, 0, none⟩) ∧
        Row wr g L' ∧ M.Fit L' ∧ L'.length = n0 ∧ M.Top (L'.take n') ∧ T.Texting ds (M.val (L'.take n')) N ∧ Own8 wr B dv (T.asc ds) ∧ Below g w wr ∧ B ≤ wr.heap.size ∧ ds.length ≤ 10 * n + 9)
      (fun _ dv _ => 10 * n + 10 - lenOf dv)
    case atStart => exact ⟨L, n0, n0, _, [], rfl, Nat.le_refl _, Nat.le_refl _, by omega, .inr rfl, hrow, f1, hn0.out, by rw [List.take_of_length_le (by have := hn0.out; omega)]; exact T1.out, by rw [List.take_of_length_le (by have := hn0.out; omega), V1.out]; exact T.Texting.start _, Own8.nil_ _ _, by have := hg.out; subst this; exact b1, by have := hB.out; omega, by simp⟩
    case round =>
      obtain ⟨L', n', c', A', ds, rfl, hn', hc', hc6, hA, hrow', hf, hl, htop, htx, hown, hbel, hBs, hdn⟩ := hrel
      have hOL := hown.length
      rw [T.asc_length] at hOL
      obtain ⟨Ad, cd, rfl⟩ := hOL
      obtain ⟨V, HV⟩ : ∃ V, Hid (M.val (L'.take n') = V) := ⟨_, rfl⟩
      rw [HV.out] at htx
      by_cases hn'0 : n' = 0
      · have hV0 : V = 0 := by rw [← HV.out, hn'0]; rfl
        rw [hV0] at htx
        clear hV0
        have hT0 : Hid (T.val ds = N) := by have := htx.sum; rw [Nat.mul_zero, Nat.add_zero] at this; exact this
        have hdl : 0 < ds.length := by
          rcases Nat.eq_zero_or_pos ds.length with e | e
          · have := List.eq_nil_of_length_eq_zero e
            have h1 := hT0.out
            have h2 := hN1.out
            rw [this] at h1
            simp [T.val] at h1
            omega
          · exact e
        obtain ⟨g', cg, hv', hBg, hcg, hcm, hby⟩ := hown.form (by rw [T.asc_length]; exact hdl)
        injection hv' with hv1 hv2 hv3
        subst hv1 hv3
        clear hv2
        rw [T.asc_length] at hcg
        go_wp2_with fail
        go_loop [6] (fun t => ∃ k : Nat, k ≤ ds.length ∧ t = .int .i64 k ∧ Hid (∀ q, k ≤ q → ds.getD q 0 = 0)) (fun t => (intOf t).toNat)
        case atStart => exact ⟨ds.length, Nat.le_refl _, rfl, fun q hq => T.getD_ge hq⟩
        case round =>
          obtain ⟨k, hk, rfl, HZ⟩ := hrel
          have hk0 : 0 < k := by
            rcases Nat.eq_zero_or_pos k with e | e
            · subst e
              have h1 := T.val_zeros ds 0 HZ.out
              have h2 := hN1.out
              rw [hT0.out] at h1
              simp [T.val] at h1
              omega
            · exact e
          obtain ⟨d, Hd⟩ : ∃ d, Hid (ds.getD (k - 1) 0 = d) := ⟨_, rfl⟩
          have hcell := hby.cell (j := k - 1) (by rw [T.asc_length]; omega)
          rw [T.asc_get (by omega), Hd.out] at hcell
          have hd9 : d ≤ 9 := by have := htx.fit (k - 1); rw [Hd.out, T.BB_eq] at this; omega
          obtain ⟨v, Hv⟩ : ∃ v, Hid (48 + d = v) := ⟨_, rfl⟩
          rw [Hv.out] at hcell
          by_cases hd0 : d = 0
          · have hvb : ((v : Int) == 48) = true := by rw [← Hv.out]; simp; omega
            go_wp2_with fail
            go_round
            case rel => exact ⟨k - 1, by omega, by go_num, fun q hq => by
              by_cases e : q = k - 1
              · subst e; rw [Hd.out, hd0]
              · exact HZ.out q (by omega)⟩
            case measure => simp [intOf]; omega
          · have hvb : ((v : Int) == 48) = false := by rw [← Hv.out]; simp; omega
            have htxt := htx.txt hk0 hk (by rw [Hd.out]; exact hd0) HZ.out
            rw [T.asc_take] at htxt
            have HTX := Lib.hid htxt
            have hbt := hby.take k
            have hbl : ((T.asc ds).take k).length = k := by rw [List.length_take, T.asc_length]; omega
            have HBL := Lib.hid hbl
            clear hd0 htxt hbl
            go_wp2_with fail
            refine (reverse_any g' k cd _ wr hbt HBL.out (by omega)).mono ?_
            rintro e w5 ⟨rfl, hb5, hg5⟩
            have hcv := conv8 (w := w5) (n := k) (c := cd) hb5 (by rw [List.length_reverse]; exact HBL.out.symm)
            have hb6 : Below w.heap.size w w5 := by
              rw [hg.out]
              exact hbel.grown hg5 (by omega) (by intro q hq; injection hq with hq; omega)
            go_wp2_with fail
            go_ret
            exact ⟨_, rfl, HTX.out, hb6⟩
      · have hA' : A' = some ⟨g, 0, none⟩ := by rcases hA with e | e; exact absurd e hn'0; exact e
        subst hA'
        have hlen := L'.length
        have hV : 0 < V := by rw [← HV.out]; exact htop.pos (by intro e; have := congrArg List.length e; rw [List.length_take, List.length_nil] at this; omega)
        have hsh : ds.length ≤ 10 * n := htx.short hV hN.out
        have hnp : 0 < n' := by omega
        obtain ⟨C, HC⟩ : ∃ C, Hid (V % 1000000000 = C) := ⟨_, rfl⟩
        have hC : C ≤ 999999999 := by have := HC.out; have := Nat.mod_lt V (show 1000000000 > 0 from by omega); omega
        have HD := Lib.hid (divideBy_any g n' c' 1000000000 L' wr hrow' hf (by omega) (by omega) (by omega) (by omega))
        have HX : Hid (∀ e w', Divided wr g n' 1000000000 L' e w' → ∃ L2 : List Nat, e = .returned (.int .u32 (C : Nat)) ∧ Row w' g L2 ∧ wr.grownBy w' (some g) ∧ L2.length = n0 ∧ M.Fit L2 ∧ M.val (L2.take n') = V / 1000000000) := by
          rintro e w' ⟨L2, q1, q2, q3, q4, q5, q6, _⟩
          rw [HV.out, HC.out] at q1
          rw [HV.out] at q6
          exact ⟨L2, q1, q2, q3, by omega, q5, q6⟩
        clear hn'0 hlen hV
        go_wp2_with fail
        refine HD.out.mono ?_
        intro e w2 hDv
        obtain ⟨L2, rfl, r2, g2, l2, f2, v2⟩ := HX.out e w2 hDv
        clear hDv HX HD
        have V2 := Lib.hid v2
        have L2l := Lib.hid l2
        clear v2 l2
        go_wp2_with fail
        refine (trim_at (some ⟨g, 0, none⟩) n' c' (L2.take n') w2 ((r2.lims f2 L2l.out).take hn') hc' (by unfold maxLen; omega)).mono ?_
        rintro e w3 ⟨⟨A3, n3, c3, rfl, k1, k2, k3, k4, k5, k6, rfl⟩, hat⟩
        have hn3 : n3 ≤ n' := by rw [List.length_take] at k4; omega
        have hA3 : n3 = 0 ∨ A3 = some ⟨g, 0, none⟩ := by
          rcases hat with e | ⟨n4, c4, _, e⟩
          · injection e with e; injection e with _ e _; exact .inl e
          · injection e with e; injection e with e _ _; exact .inr e
        have K3 : Hid (M.val (L2.take n3) = V / 1000000000) := by
          rw [List.take_take, Nat.min_eq_left hn3] at k3
          exact k3.trans V2.out
        have K2 : Hid (M.Top (L2.take n3)) := by
          rw [List.take_take, Nat.min_eq_left hn3] at k2
          exact k2
        clear hat k1 k2 k3 k4
        have hown2 := hown.kept g2 hgB
        have hbel2 : Below g w w2 := hbel.grown g2 (by omega) (by intro k hk; injection hk with hk; omega)
        have hBs2 : B ≤ w2.heap.size := Nat.le_trans hBs g2.size
        clear hown hbel g2 hrow' htop hf
        go_wp2_with fail
        go_loopw [4, 5, 19] (fun dv cv iv wi => ∃ (j cc : Nat) (es : List Nat), iv = .int .i64 j ∧ cv = .int .u32 cc ∧ j ≤ 9 ∧ cc ≤ 999999999 ∧ T.Chunk ds es C j cc ∧ Own8 wi B dv (T.asc es) ∧ Row wi g L2 ∧ Below g w wi ∧ B ≤ wi.heap.size)
          (fun _ _ iv _ => 9 - (intOf iv).toNat)
        case atStart => exact ⟨0, C, ds, rfl, rfl, by omega, hC, T.Chunk.start htx.fit (by omega), hown2, r2, hbel2, hBs2⟩
        case round =>
          obtain ⟨j, cc, es, rfl, rfl, hj, hcc, hch, hown3, hr3, hbel3, hBs3⟩ := hrel
          have hesl := hch.len
          have hesl2 : es.length ≤ 10 * n + 9 := by omega
          have ESL := Lib.hid hesl
          clear hesl
          by_cases hj9 : j < 9
          · have hd : ∀ W : World, (W.alloc (.cells #[.int .u8 (48 + (cc : Int) % 10)] 5)).cell? ⟨W.heap.size, 0, none⟩ = some (.int .u8 ((48 + cc % 10 : Nat) : Int)) := fun W => by
              rw [World.cell?_alloc_at _ _ _ _ rfl]
              simp
            have HDD := Lib.hid hd
            clear hd
            go_wp2_with (refine append8 rfl (.tmp 21) (.tmp 26) rfl rfl (hown3.alloc _) rfl (HDD.out _) (n := 10 * n + 9) (by rw [T.asc_length]; exact hesl2) (by omega) (by simp; omega) ?_; intro v4 w4 hown4 hg4)
            have hch' := hch.step hj9
            have hr4 := (hr3.alloc (.cells #[.int .u8 (48 + (cc : Int) % 10)] 5)).grown hg4 (hown3.own_ne hgB)
            have hbel4 := (hbel3.alloc (by omega) (.cells #[.int .u8 (48 + (cc : Int) % 10)] 5)).grown hg4 (by simp; omega) (hown3.own_ge (by omega))
            have hBs4 : B ≤ w4.heap.size := Nat.le_trans (by simp; omega) hg4.size
            rw [← T.asc_snoc] at hown4
            go_roundw
            case rel => exact ⟨j + 1, cc / 10, _, by go_num, by go_num, by omega, by omega, hch', hown4, hr4, hbel4, hBs4⟩
            case measure => simp [intOf]; omega
          · obtain rfl : j = 9 := by omega
            have htx' := htx.step (by rw [HC.out]; exact hch)
            rw [← K3.out] at htx'
            have hl3 := hown3.length
            rw [T.asc_length] at hl3
            obtain ⟨Ae, ce, rfl⟩ := hl3
            go_wp2_with fail
            go_roundw
            case rel => exact ⟨L2, n3, c3, A3, es, rfl, by omega, k5, by omega, hA3, hr3, f2, L2l.out, K2.out, htx', hown3, hbel3, hBs3, hesl2⟩
            case measure => simp only [lenOf]; have := ESL.out; simp; omega

end Go.Proofs.Ytiehkciofggonaa

/- nat: isText: what it answers. -/
namespace Go.Proofs.Ytiehkciofggonaa
open Go.RowKit

/-- the texts that are parsed -/
def isT (l : List UInt8) : Bool := !l.isEmpty && decide (l.length ≤ 2000) && !(decide (l.getD 0 0 = 48) && decide (l ≠ [48])) && l.all fun c => decide (48 ≤ c.toNat) && decide (c.toNat ≤ 57)

theorem lenL (s : ByteArray) : s.data.toList.length = s.size := by rw [Array.length_toList]; rfl
theorem getL {s : ByteArray} {i : Nat} (h : i < s.size) : s.data.toList.getD i 0 = s[i] := by
  have h' : i < s.data.size := h
  rw [List.getD_eq_getElem?_getD, Array.getElem?_toList, Array.getElem?_eq_getElem h']
  rfl
theorem allL {s : ByteArray} {p : UInt8 → Bool} : (s.data.toList.all p = true) ↔ ∀ i (h : i < s.size), p s[i] = true := by
  rw [List.all_eq_true]
  constructor
  · intro h i hi
    have h' : i < s.data.size := hi
    have hm : s.data[i] ∈ s.data.toList := Array.getElem_mem_toList h'
    exact h _ hm
  · intro h x hx
    obtain ⟨i, hi, rfl⟩ := List.getElem_of_mem hx
    exact h i (by simpa using hi)

theorem isText_any (s : ByteArray) (w : World) (hs : s.size ≤ maxLen) :
    Calls Try.prog 75 #[.string s] w fun e w' => e = .returned (.bool (isT s.data.toList)) ∧ w = w' := by
  unfold maxLen at hs
  have hlen := lenL s
  have htl : s.toList = s.data.toList := by rw [ByteArray.toList_eq]
  by_cases h0 : s.size = 0
  · have hnil : s.data.toList = [] := List.eq_nil_of_length_eq_zero (by omega)
    have e : isT s.data.toList = false := by simp [isT, hnil]
    have hl : s.toList = [] := by rw [htl, hnil]
    rw [e]
    clear hnil htl e h0 hlen
    go_enter Try.func75, Try.ntmps75
    go_wp2
    go_ret
    exact ⟨rfl, rfl⟩
  have hl : s.toList.isEmpty = false := by
    rw [htl]; cases h : s.data.toList with
    | nil => rw [h] at hlen; simp at hlen; omega
    | cons _ _ => rfl
  have hl2 : s.data.toList.isEmpty = false := by rw [← htl]; exact hl
  by_cases h1 : 2000 < s.size
  · have e : isT s.data.toList = false := by simp [isT, hlen]; intros; omega
    rw [e]
    clear htl e hlen hl2
    go_enter Try.func75, Try.ntmps75
    go_wp2
    go_ret
    exact ⟨rfl, rfl⟩
  have hp : 0 < s.size := by omega
  by_cases h2 : s[0] = 48 ∧ s.data.toList ≠ [48]
  · have e : isT s.data.toList = false := by
      unfold isT
      rw [getL hp, decide_eq_true h2.1, decide_eq_true h2.2]
      simp
    have hc : ((s[0].toNat : Int) == 48) = true := by rw [h2.1]; rfl
    have hq : (s.toList == [48]) = false := by rw [htl]; simpa using h2.2
    rw [e]
    clear htl e hlen hl2 h2
    go_enter Try.func75, Try.ntmps75
    go_wp2
    go_ret
    exact ⟨rfl, rfl⟩
  have hall : isT s.data.toList = s.data.toList.all fun c => decide (48 ≤ c.toNat) && decide (c.toNat ≤ 57) := by
    unfold isT
    rw [hl2, decide_eq_true (show s.data.toList.length ≤ 2000 by omega), getL hp]
    have : (decide (s[0] = 48) && decide (s.data.toList ≠ [48])) = false := by
      rw [Bool.and_eq_false_iff]
      by_cases a : s[0] = 48
      · right
        rw [decide_eq_false_iff_not]
        intro b
        exact h2 ⟨a, b⟩
      · left; exact decide_eq_false a
    rw [this]
    simp
  obtain ⟨R, HR⟩ : ∃ R, Hid (isT s.data.toList = R) := ⟨_, rfl⟩
  have HA : Hid (R = s.data.toList.all fun c => decide (48 ≤ c.toNat) && decide (c.toNat ≤ 57)) := by rw [← HR.out]; exact hall
  have HL := Lib.hid hlen
  rw [HR.out]
  have htest : (s[0].toNat : Int) == 48 → (s.toList == [48]) = true := by
    intro a
    have a' : s[0] = 48 := by
      have h1 : (s[0].toNat : Int) = 48 := by simpa using a
      have this : s[0].toNat = (48 : UInt8).toNat := by
        have : (48 : UInt8).toNat = 48 := rfl
        omega
      exact UInt8.toNat_inj.1 this
    rw [htl]
    by_cases b : s.data.toList = [48]
    · rw [b]; rfl
    · exact absurd ⟨a', b⟩ h2
  have main : ∀ (_ : True), Calls Try.prog 75 #[.string s] w fun e w' => e = .returned (.bool R) ∧ w = w' := by
    intro _
    clear hall htl hl2 h2 hlen
    have hb2 : decide ((2000 : Int) < (s.size : Int)) = false := by simp; omega
    have hfalse : Hid (∀ k (h : k < s.size), (s[k].toNat < 48 ∨ 57 < s[k].toNat) → R = false) := by
      intro k hk hc
      rw [HA.out]
      cases h : s.data.toList.all fun c => decide (48 ≤ c.toNat) && decide (c.toNat ≤ 57) with
      | false => rfl
      | true =>
        have := allL.1 h k hk
        simp at this
        omega
    have htrue : Hid ((∀ k (h : k < s.size), 48 ≤ s[k].toNat ∧ s[k].toNat ≤ 57) → R = true) := by
      intro hk
      rw [HA.out, allL]
      intro i hi
      have := hk i hi
      simp; omega
    rcases (show (((s[0].toNat : Int) == 48) = true ∧ (s.toList == [48]) = true) ∨ ((s[0].toNat : Int) == 48) = false from by
      cases h : ((s[0].toNat : Int) == 48) with
      | false => exact .inr rfl
      | true => exact .inl ⟨rfl, htest h⟩) with ⟨h3, hq⟩ | h3
    all_goals
      clear htest
      go_enter Try.func75, Try.ntmps75
      go_wp2_with fail
      go_loop [22] (fun iv => ∃ k : Nat, k ≤ s.size ∧ iv = .int .i64 k ∧ Hid (∀ j (h : j < s.size), j < k → 48 ≤ s[j].toNat ∧ s[j].toNat ≤ 57)) (fun iv => s.size - (intOf iv).toNat)
      case atStart => exact ⟨0, Nat.zero_le _, rfl, fun j h hj => by omega⟩
      case round =>
        obtain ⟨k, hk, rfl, HK⟩ := hrel
        by_cases hlt : k < s.size
        · by_cases hc1 : (s[k].toNat : Int) < 48
          · have hf := Lib.hid (hfalse.out k hlt (by omega))
            go_wp2_with fail
            go_ret
            rw [hf.out]
            exact ⟨rfl, rfl⟩
          · by_cases hc2 : 57 < (s[k].toNat : Int)
            · have hf := Lib.hid (hfalse.out k hlt (by omega))
              go_wp2_with fail
              go_ret
              rw [hf.out]
              exact ⟨rfl, rfl⟩
            · go_wp2_with fail
              go_round
              case rel => exact ⟨k + 1, by omega, by go_num, fun j h hj => by
                by_cases e : j = k
                · subst e; omega
                · exact HK.out j h (by omega)⟩
              case measure => simp [intOf]; omega
        · have ht := Lib.hid (htrue.out fun j h => HK.out j h (by omega))
          go_wp2_with fail
          go_ret
          rw [ht.out]
          exact ⟨rfl, rfl⟩
  exact main trivial
end Go.Proofs.Ytiehkciofggonaa
