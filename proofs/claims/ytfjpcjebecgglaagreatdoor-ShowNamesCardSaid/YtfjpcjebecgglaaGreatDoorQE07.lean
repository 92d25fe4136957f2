/- What the proofs of this claim use, text by text. -/
import Derived.Test.YtfjpcjebecgglaaGreatDoorQE06
import Derived.BigRegion
import Derived.RegionTactic
import Derived.ChangeAlike
import Derived.Laws.AppendOwnNone
import Derived.OpenShut
import Derived.Deep.RegionHeld3
import Derived.IntWalk
set_option linter.unusedSimpArgs false
set_option linter.unusedVariables false
set_option maxRecDepth 100000
set_option maxHeartbeats 25600000
namespace Go.Proofs.YtfjpcjebecgglaaGreatDoor
open Go.RowKit
def Bys (w : World) (g : Nat) (ds : List Nat) : Prop :=
  ∃ cur : Array Value, w.heap[g]? = some (.cells cur 5 (0, 0)) ∧ ∀ j, j < ds.length → cur[j]? = some (.int .u8 ((ds.getD j 0 : Nat) : Int))
theorem Bys.cell {w : World} {g : Nat} {ds : List Nat} (h : Bys w g ds) {j : Nat} (hj : j < ds.length) : w.cell? ⟨g, j, none⟩ = some (.int .u8 ((ds.getD j 0 : Nat) : Int)) := by
  obtain ⟨cur, h, hc⟩ := h
  rw [cell_of_row w g j _ _ (0, 0) h]
  exact hc j hj
theorem Bys.frozen {w : World} {g : Nat} {ds : List Nat} (h : Bys w g ds) (i : Nat) : w.frozen? ⟨g, i, none⟩ = false := by
  obtain ⟨cur, h, _⟩ := h
  simp [World.frozen?, h]
theorem Bys.drewN {w : World} {g : Nat} {ds : List Nat} (h : Bys w g ds) (n : Nat) : Bys (w.drewN n) g ds := h
theorem Bys.set_ {w : World} {g : Nat} {ds : List Nat} (h : Bys w g ds) {i : Nat} (hi : i < ds.length) (x : Nat) : Bys (w.setCell ⟨g, i, none⟩ (.int .u8 (x : Int))) g (ds.set i x) := by
  obtain ⟨cur, h, hc⟩ := h
  refine ⟨cur.setIfInBounds i (.int .u8 (x : Int)), by simp [World.setCell, Array.getElem?_modify, h], fun j hj => ?_⟩
  rw [List.length_set] at hj
  rw [Array.getElem?_setIfInBounds]
  split
  · rename_i e
    subst e
    have : i < cur.size := by
      rcases Nat.lt_or_ge i cur.size with h1 | h1
      · exact h1
      · have := hc i hi
        rw [Array.getElem?_eq_none h1] at this
        cases this
    rw [if_pos this]
    simp [List.getD_eq_getElem?_getD, hi]
  · rename_i e
    rw [hc j hj]
    simp [List.getD_eq_getElem?_getD, List.getElem?_set_ne e]
structure Turning (ds es : List Nat) (n i : Nat) : Prop where
  len : es.length = n
  done : ∀ q, q < i → es.getD q 0 = ds.getD (n - 1 - q) 0
  done' : ∀ q, n - i ≤ q → q < n → es.getD q 0 = ds.getD (n - 1 - q) 0
  rest : ∀ q, i ≤ q → q < n - i → es.getD q 0 = ds.getD q 0
theorem Turning.step {ds es : List Nat} {n i x y : Nat} (h : Turning ds es n i) (hi : i < n - 1 - i) (hx : x = es.getD i 0) (hy : y = es.getD (n - 1 - i) 0) :
    Turning ds ((es.set i y).set (n - 1 - i) x) n (i + 1) := by
  have hx' : x = ds.getD i 0 := by rw [hx]; exact h.rest i (by omega) (by omega)
  have hy' : y = ds.getD (n - 1 - i) 0 := by rw [hy]; exact h.rest _ (by omega) (by omega)
  refine ⟨by simp [h.len], fun q hq => ?_, fun q hq hn => ?_, fun q hq hn => ?_⟩
  · rw [M.set_ne _ _ _ _ (by omega)]
    by_cases e : i = q
    · subst e; rw [M.set_eq _ _ _ (by rw [h.len]; omega), hy']
    · rw [M.set_ne _ _ _ _ e]; exact h.done q (by omega)
  · by_cases e : n - 1 - i = q
    · subst e
      rw [M.set_eq _ _ _ (by rw [List.length_set, h.len]; omega), hx']
      congr 1
      omega
    · rw [M.set_ne _ _ _ _ e, M.set_ne _ _ _ _ (by omega)]; exact h.done' q (by omega) hn
  · rw [M.set_ne _ _ _ _ (by omega), M.set_ne _ _ _ _ (by omega)]; exact h.rest q (by omega) (by omega)
theorem Turning.end_ {ds es : List Nat} {n i : Nat} (h : Turning ds es n i) (hl : ds.length = n) (hi : n ≤ 2 * i + 1) : es = ds.reverse := by
  refine List.ext_getElem (by rw [List.length_reverse, hl, h.len]) fun q h1 h2 => ?_
  rw [List.getElem_reverse]
  have hq : q < n := by rw [← h.len]; exact h1
  have e : es.getD q 0 = ds.getD (n - 1 - q) 0 := by
    by_cases a : q < i
    · exact h.done q a
    · by_cases b : n - i ≤ q
      · exact h.done' q b hq
      · rw [h.rest q (by omega) (by omega)]; congr 1; omega
  rw [M.getD_lt h1, M.getD_lt (by omega)] at e
  rw [e]
  congr 1
  omega
def Reversed (W : World) (g : Nat) (ds : List Nat) (e : Ending) (w' : World) : Prop := e = .returned (.tuple #[]) ∧ Bys w' g ds.reverse ∧ W.grownBy w' (some g)
theorem reverse_any (g n c : Nat) (ds : List Nat) (w : World) (h : Bys w g ds) (hl : ds.length = n) (hn : n ≤ 1000000000) :
    Calls Tryz.prog 112 #[.slice (some ⟨g, 0, none⟩) n c] w (Reversed w g ds) := by
  have HL := Lib.hid hl
  clear hl
  go_enter Tryz.func112, Tryz.ntmps112
  go_wp2_with fail
  go_loopw [2, 3] (fun iv jv wr => ∃ (i : Nat) (es : List Nat), i ≤ n ∧ iv = .int .i64 i ∧ jv = .int .i64 ((n : Int) - 1 - i) ∧ Bys wr g es ∧ Turning ds es n i ∧ w.grownBy wr (some g)) (fun iv _ _ => n - (intOf iv).toNat)
  case atStart => exact ⟨0, ds, by omega, rfl, by go_num, h, ⟨HL.out, fun q hq => by omega, fun q h1 h2 => by omega, fun _ _ _ => rfl⟩, World.grownBy.refl _ _⟩
  case round =>
    obtain ⟨i, es, hi, rfl, rfl, hb, ht, hg⟩ := hrel
    by_cases hlt : i < n - 1 - i
    · obtain ⟨j, hj⟩ : ∃ j : Nat, Hid (n - 1 - i = j) := ⟨_, rfl⟩
      have hjn : j < n := by have := hj.out; omega
      have hij : i < j := by have := hj.out; omega
      have he : (n : Int) - 1 - (i : Int) = (j : Int) := by have := hj.out; omega
      obtain ⟨x, HX⟩ : ∃ x, Hid (x = es.getD i 0) := ⟨_, rfl⟩
      obtain ⟨y, HY⟩ : ∃ y, Hid (y = es.getD j 0) := ⟨_, rfl⟩
      have hx : wr.cell? ⟨g, i, none⟩ = some (.int .u8 (x : Int)) := by rw [HX.out]; exact hb.cell (by rw [ht.len]; omega)
      have hy : wr.cell? ⟨g, j, none⟩ = some (.int .u8 (y : Int)) := by rw [HY.out]; exact hb.cell (by rw [ht.len]; omega)
      have fx := hb.frozen i
      have fy := hb.frozen j
      go_wp2_with fail
      go_region
      have ht' := ht.step (x := x) (y := y) hlt HX.out (by rw [hj.out]; exact HY.out)
      rw [hj.out] at ht'
      have HB : Hid (Bys ((wr.setCell ⟨g, i, none⟩ (.int .u8 (y : Int))).setCell ⟨g, j, none⟩ (.int .u8 (x : Int))).drew g ((es.set i y).set j x)) :=
        ((hb.set_ (by rw [ht.len]; omega) y).set_ (by rw [List.length_set, ht.len]; omega) x).drewN 1
      have HG : Hid (w.grownBy ((wr.setCell ⟨g, i, none⟩ (.int .u8 (y : Int))).setCell ⟨g, j, none⟩ (.int .u8 (x : Int))).drew (some g)) :=
        only_drewN (only_setCell (only_setCell hg (p := ⟨g, i, none⟩) (.inl rfl) _) (p := ⟨g, j, none⟩) (.inl rfl) _) 1
      clear hb ht hg hx hy fx fy
      go_wp2_with fail
      go_roundw
      case rel => exact ⟨i + 1, _, by omega, by go_num, by go_num, HB.out, ht', HG.out⟩
      case measure => simp [intOf]; omega
    · have e : Hid (es = ds.reverse) := ht.end_ HL.out (by omega)
      go_wp2_with fail
      go_end0
      exact ⟨rfl, by rw [← e.out]; exact hb, hg⟩
end Go.Proofs.YtfjpcjebecgglaaGreatDoor
namespace Go.Proofs.YtfjpcjebecgglaaGreatDoor
open Go.RowKit
def cells8 (l : List Nat) : List Value := l.map fun (x : Nat) => .int .u8 (x : Int)
theorem cells8_length (l : List Nat) : (cells8 l).length = l.length := by simp [cells8]
theorem cells8_get {l : List Nat} {j : Nat} (h : j < l.length) : (cells8 l)[j]? = some (.int .u8 ((l.getD j 0 : Nat) : Int)) := by
  simp [cells8, List.getD_eq_getElem?_getD, h]
theorem cells8_one {l : List Nat} : ∀ v ∈ cells8 l, v.oneCell' = true := by
  intro v hv
  obtain ⟨x, _, rfl⟩ := List.mem_map.1 hv
  rfl
theorem Tryz.info_u8 : (Tryz.prog.info? 5).map (fun i => (i.zero, i.size, i.bytes)) = some (some (.int .u8 0), 1, 1) := by kernel_rfl
def Own8 (w : World) (B : Nat) (v : Value) (l : List Nat) : Prop := w.ownsRow B 5 1 v l.length (cells8 l)
theorem Own8.nil_ (w : World) (B : Nat) : Own8 w B (.slice none 0 0) [] := World.ownsRow_nil w B _ _
theorem Own8.form {w : World} {B : Nat} {v : Value} {l : List Nat} (h : Own8 w B v l) (hl : 0 < l.length) : ∃ g c, v = .slice (some ⟨g, 0, none⟩) l.length c ∧ B ≤ g ∧ l.length ≤ c ∧ c ≤ maxLen ∧ Bys w g l := by
  have h0 := h
  obtain ⟨h1, h2⟩ := h
  rcases h2 with ⟨_, h2⟩ | ⟨g, cap, cur, rfl, hb, hh, hc, hm, hs, ht⟩
  · omega
  · refine ⟨g, cap, rfl, hb, hc, hm, cur, hh, fun j hj => ?_⟩
    have := congrArg (·[j]?) ht
    simp only [Nat.mul_one] at this
    rw [cells8_get hj, List.getElem?_take, if_pos hj] at this
    simpa using this
theorem Own8.length {w : World} {B : Nat} {v : Value} {l : List Nat} (h : Own8 w B v l) : ∃ A c, v = .slice A l.length c := by
  obtain ⟨_, ⟨rfl, h2⟩ | ⟨g, cap, cur, rfl, _⟩⟩ := h
  · exact ⟨none, 0, by rw [h2]⟩
  · exact ⟨_, _, rfl⟩
theorem Own8.kept {w w' : World} {B g : Nat} {v : Value} {l : List Nat} (h : Own8 w B v l) (hg : w.grownBy w' (some g)) (hB : g < B) : Own8 w' B v l := by
  refine World.ownsRow.kept h hg ?_
  cases e : v.ownBlock with
  | none => exact .inl rfl
  | some k => exact .inr fun h2 => by have := (World.ownsRow.lt h k e).1; injection h2; omega
theorem append8 {w : World} {ops : Array Oper} {rest : List Oper} {o : Oper} {a : Act} {Q : Exit → Act → World → Prop} (hgd : o.guard = none) (s x : Operand)
    (ho : o.op = .call { callee := .builtin .append, args := #[s, x], argTypes := #[114, 114] })
    {B g n c d : Nat} {v : Value} {l : List Nat} (hs : a.eval s = v) (hown : Own8 w B v l) (hx : a.eval x = .slice (some ⟨g, 0, none⟩) 1 c)
    (hd : w.cell? ⟨g, 0, none⟩ = some (.int .u8 (d : Int))) (hn : l.length ≤ n) (hn' : n ≤ 1000000000) (hB : B ≤ w.heap.size)
    (h : ∀ v' w', Own8 w' B v' (l ++ [d]) → w.grownBy w' v.ownBlock → wpList Tryz.prog ops Q rest (a.put o.dst v') w') :
    wpList Tryz.prog ops Q (o :: rest) a w := by
  obtain ⟨i0, hi0, hz0, hz1, hz2⟩ := info_parts Tryz.info_u8
  refine wpList_append_own w hgd s x 114 ho B 5 i0 (.int .u8 0) 1 1 Tryz.underlying114 hi0 hz0 hz1 hz2 rfl (by omega) v l.length (cells8 l) hs hown ⟨g, 0, none⟩ 1 c (cells8 [d]) hx rfl ?_ cells8_one (by unfold maxLen; omega) (by omega) hB ?_
  · intro j u hu
    match j, hu with
    | 0, hu => simp [cells8] at hu; subst hu; simpa [Addr.add] using hd
    | j + 1, hu => simp [cells8] at hu
  · intro v' w' h1 h2 _
    refine h v' w' ?_ h2
    have e : cells8 l ++ cells8 [d] = cells8 (l ++ [d]) := by simp [cells8]
    rw [e] at h1
    unfold Own8
    rw [List.length_append]
    exact h1
theorem foldl_push (ns : List Int) (s : ByteArray) : (ns.foldl (fun r n => r.push (UInt8.ofNat n.toNat)) s) = ⟨(s.data.toList ++ ns.map fun n => UInt8.ofNat n.toNat).toArray⟩ := by
  induction ns generalizing s with
  | nil => simp
  | cons n ns ih =>
    rw [List.foldl_cons, ih]
    simp [ByteArray.push]
theorem conv8 {w : World} {g n c : Nat} {l : List Nat} (h : Bys w g l) (hn : n = l.length) :
    (convert 114 9 (.slice (some ⟨g, 0, none⟩) n c)).run Tryz.prog w = .ok (.string ⟨(T.byt l).toArray⟩) w := by
  subst hn
  rw [run_convert_bytes_string w 114 9 5 _ _ _ Tryz.underlying114 Tryz.underlying5 Tryz.underlying9]
  have hl := run_loadCells_list (P := Tryz.prog) w ⟨g, 0, none⟩ (cells8 l) (fun j v hv => by
    have hj : j < l.length := by
      rcases Nat.lt_or_ge j l.length with h1 | h1
      · exact h1
      · rw [List.getElem?_eq_none (by rw [cells8_length]; exact h1)] at hv; cases hv
    rw [cells8_get hj] at hv
    injection hv with hv
    subst hv
    have := h.cell hj
    unfold Addr.add
    split
    · rename_i e; subst e; exact this
    · simpa using this)
  rw [cells8_length] at hl
  have e : (cells8 l).toArray = ((l.map fun (x : Nat) => (x : Int)).map (Value.int .u8)).toArray := by simp [cells8]
  rw [e] at hl
  rw [run_bytesToString w _ _ _ _ hl, foldl_push]
  simp [T.byt]
theorem Bys.take {w : World} {g : Nat} {ds : List Nat} (h : Bys w g ds) (k : Nat) : Bys w g (ds.take k) := by
  obtain ⟨cur, h1, h2⟩ := h
  refine ⟨cur, h1, fun j hj => ?_⟩
  rw [List.length_take] at hj
  rw [h2 j (by omega)]
  simp [List.getD_eq_getElem?_getD, show j < k from by omega]
theorem Own8.own_ne {w : World} {B g : Nat} {v : Value} {l : List Nat} (h : Own8 w B v l) (hB : g < B) : some g ≠ v.ownBlock := by
  intro e
  have := (World.ownsRow.lt h g e.symm).1
  omega
theorem Own8.own_ge {w : World} {B : Nat} {v : Value} {l : List Nat} (h : Own8 w B v l) {b : Nat} (hb : b ≤ B) : ∀ k, v.ownBlock = some k → b ≤ k := fun k e => by
  have := (World.ownsRow.lt h k e).1
  omega
theorem Own8.alloc {w : World} {B : Nat} {v : Value} {l : List Nat} (h : Own8 w B v l) (o : Obj) : Own8 (w.alloc o) B v l := World.ownsRow.alloc h o
def lenOf : Value → Nat | .slice _ n _ => n | _ => 0
def GivesText (W : World) (N : Nat) (e : Ending) (w' : World) : Prop :=
  ∃ s : List UInt8, e = .returned (.string ⟨s.toArray⟩) ∧ T.Txt N s ∧ Below W.heap.size W w'
end Go.Proofs.YtfjpcjebecgglaaGreatDoor
namespace Go.Proofs.YtfjpcjebecgglaaGreatDoor
open Go.RowKit
theorem text_any (A : Option Addr) (n c : Nat) (l : List Nat) (w : World) (h : Lims w A n l) (hn : n ≤ c) (hc : c ≤ maxLen) (hs : n ≤ 1000000) :
    Calls Tryz.prog 83 #[.slice A n c] w (GivesText w (M.val l)) := by
  have hN : Hid (M.val l < M.BB ^ n) := by have := M.val_lt h.2.1; rw [h.1] at this; exact this
  have NA := Lib.hid (norm_row A n c l w h hn hc (by omega))
  generalize M.val l = N at *
  go_enter Tryz.func83, Tryz.ntmps83
  go_wp2_with fail
  refine NA.out.mono ?_
  rintro e w1 ⟨L, f1, t1, v1, s1, b1, h1⟩
  rcases h1 with ⟨rfl, rfl⟩ | ⟨rfl, hrow⟩
  · have hN0 : Hid (N = 0) := v1.symm
    clear v1
    go_wp2_with fail
    go_ret
    exact ⟨[48], rfl, .inl ⟨hN0.out, rfl⟩, b1⟩
  · by_cases hL : L = []
    · subst hL
      have hN0 : Hid (N = 0) := v1.symm
      clear v1
      have hz : ((([] : List Nat).length : Int) == 0) = true := rfl
      go_wp2_with fail
      go_ret
      exact ⟨[48], rfl, .inl ⟨hN0.out, rfl⟩, b1⟩
    have hpos : 0 < L.length := List.length_pos_iff.2 hL
    have hN1 : Hid (0 < N) := by rw [← v1]; exact t1.pos hL
    obtain ⟨n0, hn0⟩ : ∃ n0, Hid (L.length = n0) := ⟨_, rfl⟩
    rw [hn0.out] at hpos s1 ⊢
    have hz : ((n0 : Int) == 0) = false := by simp; omega
    obtain ⟨g, hg⟩ : ∃ g, Hid (w.heap.size = g) := ⟨_, rfl⟩
    rw [hg.out] at hrow ⊢
    obtain ⟨B, hB⟩ : ∃ B, Hid (w1.heap.size = B) := ⟨_, rfl⟩
    have hgB : g < B := by rw [← hB.out]; exact hrow.lt
    have V1 := Lib.hid v1
    have T1 := Lib.hid t1
    have N0 := Lib.hid (show ¬ L = [] from hL)
    clear v1 t1 hL
    go_wp2_with fail
    go_loopw [3, 4] (fun lv dv wr => ∃ (L' : List Nat) (n' c' : Nat) (A' : Option Addr) (ds : List Nat), lv = .slice A' n' c' ∧ n' ≤ n0 ∧ n' ≤ c' ∧ c' ≤ 1000000 ∧ (n' = 0 ∨ A' = some ⟨g, 0, none⟩) ∧
        Row wr g L' ∧ M.Fit L' ∧ L'.length = n0 ∧ M.Top (L'.take n') ∧ T.Texting ds (M.val (L'.take n')) N ∧ Own8 wr B dv (T.asc ds) ∧ Below g w wr ∧ B ≤ wr.heap.size ∧ ds.length ≤ 10 * n + 9)
      (fun _ dv _ => 10 * n + 10 - lenOf dv)
    case atStart => exact ⟨L, n0, n0, _, [], rfl, Nat.le_refl _, Nat.le_refl _, by omega, .inr rfl, hrow, f1, hn0.out, by rw [List.take_of_length_le (by have := hn0.out; omega)]; exact T1.out, by rw [List.take_of_length_le (by have := hn0.out; omega), V1.out]; exact T.Texting.start _, Own8.nil_ _ _, by have := hg.out; subst this; exact b1, by have := hB.out; omega, by simp⟩
    case round =>
      obtain ⟨L', n', c', A', ds, rfl, hn', hc', hc6, hA, hrow', hf, hl, htop, htx, hown, hbel, hBs, hdn⟩ := hrel
      have hOL := hown.length
      rw [T.asc_length] at hOL
      obtain ⟨Ad, cd, rfl⟩ := hOL
      obtain ⟨V, HV⟩ : ∃ V, Hid (M.val (L'.take n') = V) := ⟨_, rfl⟩
      rw [HV.out] at htx
      by_cases hn'0 : n' = 0
      · have hV0 : V = 0 := by rw [← HV.out, hn'0]; rfl
        rw [hV0] at htx
        clear hV0
        have hT0 : Hid (T.val ds = N) := by have := htx.sum; rw [Nat.mul_zero, Nat.add_zero] at this; exact this
        have hdl : 0 < ds.length := by
          rcases Nat.eq_zero_or_pos ds.length with e | e
          · have := List.eq_nil_of_length_eq_zero e
            have h1 := hT0.out
            have h2 := hN1.out
            rw [this] at h1
            simp [T.val] at h1
            omega
          · exact e
        obtain ⟨g', cg, hv', hBg, hcg, hcm, hby⟩ := hown.form (by rw [T.asc_length]; exact hdl)
        injection hv' with hv1 hv2 hv3
        subst hv1 hv3
        clear hv2
        rw [T.asc_length] at hcg
        go_wp2_with fail
        go_loop [6] (fun t => ∃ k : Nat, k ≤ ds.length ∧ t = .int .i64 k ∧ Hid (∀ q, k ≤ q → ds.getD q 0 = 0)) (fun t => (intOf t).toNat)
        case atStart => exact ⟨ds.length, Nat.le_refl _, rfl, fun q hq => T.getD_ge hq⟩
        case round =>
          obtain ⟨k, hk, rfl, HZ⟩ := hrel
          have hk0 : 0 < k := by
            rcases Nat.eq_zero_or_pos k with e | e
            · subst e
              have h1 := T.val_zeros ds 0 HZ.out
              have h2 := hN1.out
              rw [hT0.out] at h1
              simp [T.val] at h1
              omega
            · exact e
          obtain ⟨d, Hd⟩ : ∃ d, Hid (ds.getD (k - 1) 0 = d) := ⟨_, rfl⟩
          have hcell := hby.cell (j := k - 1) (by rw [T.asc_length]; omega)
          rw [T.asc_get (by omega), Hd.out] at hcell
          have hd9 : d ≤ 9 := by have := htx.fit (k - 1); rw [Hd.out, T.BB_eq] at this; omega
          obtain ⟨v, Hv⟩ : ∃ v, Hid (48 + d = v) := ⟨_, rfl⟩
          rw [Hv.out] at hcell
          by_cases hd0 : d = 0
          · have hvb : ((v : Int) == 48) = true := by rw [← Hv.out]; simp; omega
            go_wp2_with fail
            go_round
            case rel => exact ⟨k - 1, by omega, by go_num, fun q hq => by
              by_cases e : q = k - 1
              · subst e; rw [Hd.out, hd0]
              · exact HZ.out q (by omega)⟩
            case measure => simp [intOf]; omega
          · have hvb : ((v : Int) == 48) = false := by rw [← Hv.out]; simp; omega
            have htxt := htx.txt hk0 hk (by rw [Hd.out]; exact hd0) HZ.out
            rw [T.asc_take] at htxt
            have HTX := Lib.hid htxt
            have hbt := hby.take k
            have hbl : ((T.asc ds).take k).length = k := by rw [List.length_take, T.asc_length]; omega
            have HBL := Lib.hid hbl
            clear hd0 htxt hbl
            go_wp2_with fail
            refine (reverse_any g' k cd _ wr hbt HBL.out (by omega)).mono ?_
            rintro e w5 ⟨rfl, hb5, hg5⟩
            have hcv := conv8 (w := w5) (n := k) (c := cd) hb5 (by rw [List.length_reverse]; exact HBL.out.symm)
            have hb6 : Below w.heap.size w w5 := by
              rw [hg.out]
              exact hbel.grown hg5 (by omega) (by intro q hq; injection hq with hq; omega)
            go_wp2_with fail
            go_ret
            exact ⟨_, rfl, HTX.out, hb6⟩
      · have hA' : A' = some ⟨g, 0, none⟩ := by rcases hA with e | e; exact absurd e hn'0; exact e
        subst hA'
        have hlen := L'.length
        have hV : 0 < V := by rw [← HV.out]; exact htop.pos (by intro e; have := congrArg List.length e; rw [List.length_take, List.length_nil] at this; omega)
        have hsh : ds.length ≤ 10 * n := htx.short hV hN.out
        have hnp : 0 < n' := by omega
        obtain ⟨C, HC⟩ : ∃ C, Hid (V % 1000000000 = C) := ⟨_, rfl⟩
        have hC : C ≤ 999999999 := by have := HC.out; have := Nat.mod_lt V (show 1000000000 > 0 from by omega); omega
        have HD := Lib.hid (divideBy_any g n' c' 1000000000 L' wr hrow' hf (by omega) (by omega) (by omega) (by omega))
        have HX : Hid (∀ e w', Divided wr g n' 1000000000 L' e w' → ∃ L2 : List Nat, e = .returned (.int .u32 (C : Nat)) ∧ Row w' g L2 ∧ wr.grownBy w' (some g) ∧ L2.length = n0 ∧ M.Fit L2 ∧ M.val (L2.take n') = V / 1000000000) := by
          rintro e w' ⟨L2, q1, q2, q3, q4, q5, q6, _⟩
          rw [HV.out, HC.out] at q1
          rw [HV.out] at q6
          exact ⟨L2, q1, q2, q3, by omega, q5, q6⟩
        clear hn'0 hlen hV
        go_wp2_with fail
        refine HD.out.mono ?_
        intro e w2 hDv
        obtain ⟨L2, rfl, r2, g2, l2, f2, v2⟩ := HX.out e w2 hDv
        clear hDv HX HD
        have V2 := Lib.hid v2
        have L2l := Lib.hid l2
        clear v2 l2
        go_wp2_with fail
        refine (trim_at (some ⟨g, 0, none⟩) n' c' (L2.take n') w2 ((r2.lims f2 L2l.out).take hn') hc' (by unfold maxLen; omega)).mono ?_
        rintro e w3 ⟨⟨A3, n3, c3, rfl, k1, k2, k3, k4, k5, k6, rfl⟩, hat⟩
        have hn3 : n3 ≤ n' := by rw [List.length_take] at k4; omega
        have hA3 : n3 = 0 ∨ A3 = some ⟨g, 0, none⟩ := by
          rcases hat with e | ⟨n4, c4, _, e⟩
          · injection e with e; injection e with _ e _; exact .inl e
          · injection e with e; injection e with e _ _; exact .inr e
        have K3 : Hid (M.val (L2.take n3) = V / 1000000000) := by
          rw [List.take_take, Nat.min_eq_left hn3] at k3
          exact k3.trans V2.out
        have K2 : Hid (M.Top (L2.take n3)) := by
          rw [List.take_take, Nat.min_eq_left hn3] at k2
          exact k2
        clear hat k1 k2 k3 k4
        have hown2 := hown.kept g2 hgB
        have hbel2 : Below g w w2 := hbel.grown g2 (by omega) (by intro k hk; injection hk with hk; omega)
        have hBs2 : B ≤ w2.heap.size := Nat.le_trans hBs g2.size
        clear hown hbel g2 hrow' htop hf
        go_wp2_with fail
        go_loopw [4, 5, 19] (fun dv cv iv wi => ∃ (j cc : Nat) (es : List Nat), iv = .int .i64 j ∧ cv = .int .u32 cc ∧ j ≤ 9 ∧ cc ≤ 999999999 ∧ T.Chunk ds es C j cc ∧ Own8 wi B dv (T.asc es) ∧ Row wi g L2 ∧ Below g w wi ∧ B ≤ wi.heap.size)
          (fun _ _ iv _ => 9 - (intOf iv).toNat)
        case atStart => exact ⟨0, C, ds, rfl, rfl, by omega, hC, T.Chunk.start htx.fit (by omega), hown2, r2, hbel2, hBs2⟩
        case round =>
          obtain ⟨j, cc, es, rfl, rfl, hj, hcc, hch, hown3, hr3, hbel3, hBs3⟩ := hrel
          have hesl := hch.len
          have hesl2 : es.length ≤ 10 * n + 9 := by omega
          have ESL := Lib.hid hesl
          clear hesl
          by_cases hj9 : j < 9
          · have hd : ∀ W : World, (W.alloc (.cells #[.int .u8 (48 + (cc : Int) % 10)] 5)).cell? ⟨W.heap.size, 0, none⟩ = some (.int .u8 ((48 + cc % 10 : Nat) : Int)) := fun W => by
              rw [World.cell?_alloc_at _ _ _ _ rfl]
              simp
            have HDD := Lib.hid hd
            clear hd
            go_wp2_with (refine append8 rfl (.tmp 21) (.tmp 26) rfl rfl (hown3.alloc _) rfl (HDD.out _) (n := 10 * n + 9) (by rw [T.asc_length]; exact hesl2) (by omega) (by simp; omega) ?_; intro v4 w4 hown4 hg4)
            have hch' := hch.step hj9
            have hr4 := (hr3.alloc (.cells #[.int .u8 (48 + (cc : Int) % 10)] 5)).grown hg4 (hown3.own_ne hgB)
            have hbel4 := (hbel3.alloc (by omega) (.cells #[.int .u8 (48 + (cc : Int) % 10)] 5)).grown hg4 (by simp; omega) (hown3.own_ge (by omega))
            have hBs4 : B ≤ w4.heap.size := Nat.le_trans (by simp; omega) hg4.size
            rw [← T.asc_snoc] at hown4
            go_roundw
            case rel => exact ⟨j + 1, cc / 10, _, by go_num, by go_num, by omega, by omega, hch', hown4, hr4, hbel4, hBs4⟩
            case measure => simp [intOf]; omega
          · obtain rfl : j = 9 := by omega
            have htx' := htx.step (by rw [HC.out]; exact hch)
            rw [← K3.out] at htx'
            have hl3 := hown3.length
            rw [T.asc_length] at hl3
            obtain ⟨Ae, ce, rfl⟩ := hl3
            go_wp2_with fail
            go_roundw
            case rel => exact ⟨L2, n3, c3, A3, es, rfl, by omega, k5, by omega, hA3, hr3, f2, L2l.out, K2.out, htx', hown3, hbel3, hBs3, hesl2⟩
            case measure => simp only [lenOf]; have := ESL.out; simp; omega
end Go.Proofs.YtfjpcjebecgglaaGreatDoor
namespace Go.Proofs.YtfjpcjebecgglaaGreatDoor
open Go.RowKit
def In (w : World) (A : Option Addr) (n c N : Nat) : Prop := ∃ l, Lims w A n l ∧ M.val l = N ∧ n ≤ c ∧ c ≤ maxLen ∧ n ≤ 1000000
def InW (w : World) (A : Option Addr) (n c N : Nat) : Prop := ∃ l, Lims w A n l ∧ M.val l = N ∧ n ≤ c ∧ c ≤ maxLen ∧ n ≤ 4000000000
theorem In.wide {w : World} {A : Option Addr} {n c N : Nat} (h : In w A n c N) : InW w A n c N := by
  obtain ⟨l, h1, h2, h3, h4, h5⟩ := h
  exact ⟨l, h1, h2, h3, h4, by omega⟩
theorem InW.below {w w' : World} {A : Option Addr} {n c N : Nat} (h : InW w A n c N) (hb : Below w.heap.size w w') : InW w' A n c N := by
  obtain ⟨l, h1, h2⟩ := h
  exact ⟨l, h1.below hb, h2⟩
theorem In.below {w w' : World} {A : Option Addr} {n c N : Nat} (h : In w A n c N) (hb : Below w.heap.size w w') : In w' A n c N := by
  obtain ⟨l, h1, h2⟩ := h
  exact ⟨l, h1.below hb, h2⟩
theorem Num.inn {w : World} {v : Value} {N k : Nat} (h : Num w v N) (hN : N < M.BB ^ k) (hk : k ≤ 1000000) : ∃ A n c, v = .slice A n c ∧ In w A n c N := by
  obtain ⟨A, n, c, l, rfl, h1, h2, h3, h4, h5⟩ := h
  have : n ≤ k := M.len_le h2 h1.1 (by rw [h3]; exact hN)
  exact ⟨A, n, c, rfl, l, h1, h3, h4, h5, by omega⟩
theorem cmp_num {w : World} {A B : Option Addr} {n m c d N K : Nat} (h : InW w A n c N) (k : InW w B m d K) : Calls Tryz.prog 95 #[.slice A n c, .slice B m d] w fun e w' => e = .returned (.int .i64 (M.cmpI N K)) ∧ Below w.heap.size w w' := by
  obtain ⟨l, h1, rfl, h3, h4, h5⟩ := h
  obtain ⟨l', k1, rfl, k3, k4, k5⟩ := k
  exact (cmp_any _ _ _ _ _ _ _ _ _ h1 k1 h3 k3 h4 k4).mono fun _ _ ⟨q1, j, q2⟩ => ⟨q1, by rw [q2]; exact below_drewN (Below.refl _ _) j⟩
end Go.Proofs.YtfjpcjebecgglaaGreatDoor
namespace Go.Proofs.YtfjpcjebecgglaaGreatDoor
open Go.RowKit
end Go.Proofs.YtfjpcjebecgglaaGreatDoor
namespace Go.Proofs.YtfjpcjebecgglaaGreatDoor
open Go.RowKit
theorem lims_of {w : World} {a : Option Addr} {len cap : Nat} {zs : List Int}
    (h : (a = none ∧ len = 0 ∧ cap = 0 ∧ zs = []) ∨ ∃ x, a = some x ∧ len ≤ cap ∧ cap ≤ maxLen ∧ zs.length = cap ∧ (∀ i, i < zs.length → w.cell? (x.add i) = some (.int .u32 (zs.getD i 0))) ∧ ∀ n ∈ zs, (Lit.int .u32 n).wf = true) :
    ∃ l, Lims w a len l ∧ len ≤ cap ∧ cap ≤ maxLen := by
  rcases h with ⟨rfl, rfl, rfl, rfl⟩ | ⟨x, rfl, h1, h2, h3, h4, h5⟩
  · exact ⟨[], Lims.nil_ _ _, by omega, by omega⟩
  · refine ⟨(zs.take len).map Int.toNat, ⟨by simp; omega, M.Fit.of_mem fun y hy => ?_, fun hn => ?_⟩, h1, h2⟩
    · obtain ⟨z, hz, rfl⟩ := List.mem_map.1 hy
      have := bounds_u32 (h5 z (List.mem_of_mem_take hz))
      rw [M.BB_eq]
      omega
    · have hc0 := h4 0 (by omega)
      obtain ⟨b, off, spot⟩ := x
      have hspot : spot = none := by simpa [Addr.add] using World.cell?_spot hc0
      subst hspot
      refine ⟨b, off, rfl, ?_, fun j hj => ?_⟩
      · have := World.block_lt_of_cell? w _ hc0
        simpa [Addr.add] using this
      · have hc := h4 j (by omega)
        have e : (⟨b, off, none⟩ : Addr).add j = ⟨b, off + j, none⟩ := by unfold Addr.add; split <;> simp_all
        rw [e] at hc
        rw [hc]
        have hb := bounds_u32 (h5 (zs.getD j 0) (by rw [show zs.getD j 0 = zs[j] by simp [List.getD_eq_getElem?_getD, show j < zs.length from by omega]]; exact List.getElem_mem _))
        have e2 : ((zs.take len).map Int.toNat).getD j 0 = (zs.getD j 0).toNat := by
          simp [List.getD_eq_getElem?_getD, hj, show j < zs.length from by omega]
        rw [e2, Int.toNat_of_nonneg hb.1]
end Go.Proofs.YtfjpcjebecgglaaGreatDoor
namespace Go.Proofs.YtfjpcjebecgglaaGreatDoor
open Go.RowKit
end Go.Proofs.YtfjpcjebecgglaaGreatDoor
namespace Go.Proofs.YtfjpcjebecgglaaGreatDoor
open Go.RowKit
structure Box (w : World) (b : Nat) (g : Bool) (A : Option Addr) (n c : Nat) : Prop where
  c0 : w.cell? ⟨b, 0, none⟩ = some (.bool g)
  c1 : w.cell? ⟨b, 1, none⟩ = some (.slice A n c)
  lt : b < w.heap.size
  fr : ∀ i, w.frozen? ⟨b, i, none⟩ = false
theorem Box.new (w : World) (g : Bool) (A : Option Addr) (n c : Nat) : Box (w.alloc (.cells #[.bool g, .slice A n c] 39)) w.heap.size g A n c := ⟨by simp, by simp, by simp, fun i => by simp⟩
theorem Box.below {w w' : World} {b B : Nat} {g : Bool} {A : Option Addr} {n c : Nat} (h : Box w b g A n c) (hb : Below B w w') (hB : b < B) : Box w' b g A n c :=
  ⟨(hb.cell (p := ⟨b, 0, none⟩) hB).trans h.c0, (hb.cell (p := ⟨b, 1, none⟩) hB).trans h.c1, Nat.lt_of_lt_of_le h.lt hb.size, fun i => (hb.frozen (p := ⟨b, i, none⟩) hB).trans (h.fr i)⟩
theorem keep1 {w W w1 : World} {b : Nat} {g : Bool} {A : Option Addr} {n c : Nat} (hk : Below W.heap.size W w1)
    (h : W.cell? ⟨b, 0, none⟩ = some (.bool g) ∧ W.cell? ⟨b, 1, none⟩ = some (.slice A n c) ∧ b < W.heap.size ∧ Below w.heap.size w W) :
    w1.cell? ⟨b, 0, none⟩ = some (.bool g) ∧ w1.cell? ⟨b, 1, none⟩ = some (.slice A n c) ∧ b < w1.heap.size ∧ Below w.heap.size w w1 :=
  ⟨(hk.cell (p := ⟨b, 0, none⟩) h.2.2.1).trans h.1, (hk.cell (p := ⟨b, 1, none⟩) h.2.2.1).trans h.2.1, Nat.lt_of_lt_of_le h.2.2.1 hk.size, h.2.2.2.trans (hk.mono h.2.2.2.size)⟩
def WNum (w : World) (v : Value) (z : Int) : Prop := ∃ u, v = .agg #[.bool (decide (z < 0)), u] ∧ Num w u z.natAbs
def WIn (w : World) (g : Bool) (A : Option Addr) (n c : Nat) (z : Int) : Prop := In w A n c z.natAbs ∧ Z.sg g z.natAbs = z
def WInW (w : World) (g : Bool) (A : Option Addr) (n c : Nat) (z : Int) : Prop := InW w A n c z.natAbs ∧ Z.sg g z.natAbs = z
theorem WIn.wide {w : World} {g : Bool} {A : Option Addr} {n c : Nat} {z : Int} (h : WIn w g A n c z) : WInW w g A n c z := ⟨h.1.wide, h.2⟩
theorem WInW.below {w w' : World} {g : Bool} {A : Option Addr} {n c : Nat} {z : Int} (h : WInW w g A n c z) (hb : Below w.heap.size w w') : WInW w' g A n c z := ⟨h.1.below hb, h.2⟩
def WGives (W : World) (z : Int) (e : Ending) (w' : World) : Prop := ∃ v, e = .returned v ∧ WNum w' v z ∧ Below W.heap.size W w'
theorem WIn.below {w w' : World} {g : Bool} {A : Option Addr} {n c : Nat} {z : Int} (h : WIn w g A n c z) (hb : Below w.heap.size w w') : WIn w' g A n c z := ⟨h.1.below hb, h.2⟩
theorem WNum.inn {w : World} {v : Value} {z : Int} {k : Nat} (h : WNum w v z) (hz : z.natAbs < M.BB ^ k) (hk : k ≤ 1000000) : ∃ A n c, v = .agg #[.bool (decide (z < 0)), .slice A n c] ∧ WIn w (decide (z < 0)) A n c z := by
  obtain ⟨u, rfl, h⟩ := h
  obtain ⟨A, n, c, rfl, h'⟩ := h.inn hz hk
  refine ⟨A, n, c, rfl, h', ?_⟩
  by_cases hn : z < 0
  · rw [decide_eq_true hn, Z.sg_true]; omega
  · rw [decide_eq_false hn, Z.sg_false]; omega
theorem signed_any (s : Int) (A : Option Addr) (n c N : Nat) (w : World) (h : Num w (.slice A n c) N) :
    Calls Tryz.prog 59 #[.int .i64 s, .slice A n c] w (WGives w (Z.sig s N)) := by
  obtain ⟨A', n', c', l, e, h1, h2, h3, h4, h5⟩ := id h
  obtain ⟨rfl, rfl, rfl⟩ : A = A' ∧ n = n' ∧ c = c' := by injection e with e1 e2 e3; exact ⟨e1, e2, e3⟩
  have h6 : n ≤ 9223372036854775807 := Nat.le_trans h4 h5
  have hN : 0 < n ↔ 0 < N := by
    rw [← h3]
    constructor
    · intro hp
      exact h2.pos (by intro e; rw [e] at h1; have := h1.1; simp at this; omega)
    · intro hp
      rcases Nat.eq_zero_or_pos n with e | e
      · have := M.Top.eq_nil h2
        have hl : l = [] := List.eq_nil_of_length_eq_zero (by rw [h1.1]; exact e)
        rw [hl, M.val_nil] at hp
        omega
      · exact e
  have hb : ∀ cs, Below w.heap.size w (w.alloc (Obj.cells cs 39)) := fun cs => (Below.refl _ _).alloc (Nat.le_refl _) _
  have H := Lib.hid h
  have HN := Lib.hid hN
  have hout : ∀ g : Bool, g = decide (Z.sig s N < 0) → WGives w (Z.sig s N) (.returned (.agg #[.bool g, .slice A n c])) (w.alloc (Obj.cells #[.bool g, .slice A n c] 39)) := fun g hg => by
    subst hg
    refine ⟨_, rfl, ⟨_, rfl, ?_⟩, hb _⟩
    rw [Z.sig_abs]
    exact H.out.below (hb _)
  have HO := Lib.hid hout
  clear hout hb h h1 h2 h3 hN
  by_cases hs0 : s < 0
  · by_cases hn0 : 0 < n
    · have hd := HO.out true (by unfold Z.sig; rw [if_pos hs0, decide_eq_true]; have := HN.out.1 hn0; omega)
      have hd := Lib.hid hd
      go_enter Tryz.func59, Tryz.ntmps59
      go_wp2
      exact bodyPost_ret (v := .agg #[.bool true, .slice A n c]) (by simp [results, Tryz.results59, go_sem]) rfl hd.out
    · have hd := HO.out false (by unfold Z.sig; rw [if_pos hs0, decide_eq_false]; have := mt HN.out.2 hn0; omega)
      have hd := Lib.hid hd
      go_enter Tryz.func59, Tryz.ntmps59
      go_wp2
      exact bodyPost_ret (v := .agg #[.bool false, .slice A n c]) (by simp [results, Tryz.results59, go_sem]) rfl hd.out
  · have hd := HO.out false (by unfold Z.sig; rw [if_neg hs0, decide_eq_false]; omega)
    have hd := Lib.hid hd
    go_enter Tryz.func59, Tryz.ntmps59
    go_wp2
    exact bodyPost_ret (v := .agg #[.bool false, .slice A n c]) (by simp [results, Tryz.results59, go_sem]) rfl hd.out
theorem teller_any (d : Bool) (w : World) :
    Calls Tryz.prog 57 #[.bool d] w fun e w' => ∃ b, e = .returned (.func (.func 94) #[] #[.pointer (some ⟨b, 0, none⟩)]) ∧ w'.cell? ⟨b, 0, none⟩ = some (.bool d) ∧ b < w'.heap.size ∧ w.heap.size ≤ b ∧ Below w.heap.size w w' := by
  go_enter Tryz.func57, Tryz.ntmps57
  go_wp2
  go_ret
  exact ⟨w.heap.size, rfl, by simp, by simp, Nat.le_refl _, (Below.refl _ _).alloc (Nat.le_refl _) _⟩
theorem tell_any (d g : Bool) (A : Option Addr) (n c b : Nat) (z : Int) (w : World) (h : WInW w g A n c z) (hb : b < w.heap.size) (hc : w.cell? ⟨b, 0, none⟩ = some (.bool d)) :
    Calls Tryz.prog 94 #[.agg #[.bool g, .slice A n c], .pointer (some ⟨b, 0, none⟩)] w fun e w' => e = .returned (.int .i64 (Z.sgn (if d then -z else z))) ∧ Below w.heap.size w w' := by
  have hC := Lib.hid fun (W : World) (q : InW W A n c z.natAbs) => cmp_num q (show InW W none 0 0 0 from ⟨[], Lims.nil_ _ _, rfl, Nat.le_refl _, by unfold maxLen; omega, by omega⟩)
  obtain ⟨hI, hs⟩ := h
  have hI := Lib.hid (hI.below ((Below.refl _ _).alloc (Nat.le_refl _) (Obj.cells #[.bool g, .slice A n c] 39)))
  have hB := Box.new w g A n c
  have hb0 : Below w.heap.size w (w.alloc (Obj.cells #[.bool g, .slice A n c] 39)) := (Below.refl _ _).alloc (Nat.le_refl _) _
  have hsz : (w.alloc (Obj.cells #[.bool g, .slice A n c] 39)).heap.size = w.heap.size + 1 := by simp
  obtain ⟨r, HR⟩ : ∃ r, Hid (r = Z.sgn (if d then -z else z)) := ⟨_, rfl⟩
  rw [← HR.out]
  obtain ⟨k, HK⟩ : ∃ k, Hid (M.cmpI z.natAbs 0 = k) := ⟨_, rfl⟩
  rw [HK.out] at hC
  have hcase : (k = 0 ∧ r = 0) ∨ (k ≠ 0 ∧ (g != d) = true ∧ r = -1) ∨ (k ≠ 0 ∧ (g != d) = false ∧ r = 1) := by
    rw [HR.out, ← HK.out]
    rcases Nat.eq_zero_or_pos z.natAbs with e | e
    · left
      rw [e]
      obtain rfl : z = 0 := by omega
      cases d <;> exact ⟨rfl, rfl⟩
    · rw [M.cmpI_gt e]
      right
      revert hs
      cases g <;> cases d <;> simp only [Z.sg_true, Z.sg_false, Bool.false_eq_true, if_true, if_false] <;> intro hs
      · exact .inr ⟨by omega, rfl, Z.sgn_pos (by omega)⟩
      · exact .inl ⟨by omega, rfl, Z.sgn_neg (by omega)⟩
      · exact .inl ⟨by omega, rfl, Z.sgn_neg (by omega)⟩
      · exact .inr ⟨by omega, rfl, Z.sgn_pos (by omega)⟩
  rcases hcase with ⟨rfl, rfl⟩ | ⟨hk, hg, rfl⟩ | ⟨hk, hg, rfl⟩
  · go_enter Tryz.func94, Tryz.ntmps94
    go_wp2_with fail
    refine (hC.out _ hI.out).mono ?_
    rintro e w1 ⟨rfl, b1⟩
    have b2 : Below w.heap.size w w1 := hb0.trans (b1.mono (by omega))
    clear hB hb0 hsz
    go_wp2_with fail
    go_ret
    exact ⟨rfl, b2⟩
  all_goals
    clear hs HR HK
    revert hg
    cases g <;> cases d <;> intro hg <;> first
    | exact absurd hg (by decide)
    | clear hg
      go_enter Tryz.func94, Tryz.ntmps94
      go_wp2_with fail
      refine (hC.out _ hI.out).mono ?_
      rintro e w1 ⟨rfl, b1⟩
      have b2 : Below w.heap.size w w1 := hb0.trans (b1.mono (by omega))
      obtain ⟨x0, x1, x2, x3⟩ := hB.below b1 (by omega)
      have y0 := b2.cell (p := ⟨b, 0, none⟩) hb
      rw [hc] at y0
      have y1 : b < w1.heap.size := Nat.lt_of_lt_of_le hb b2.size
      clear hB hb0 hsz
      go_wp2_with fail
      go_ret
      exact ⟨rfl, b2⟩
theorem sign_w (g : Bool) (A : Option Addr) (n c : Nat) (z : Int) (w : World) (h : WInW w g A n c z) :
    Calls Tryz.prog 22 #[.agg #[.bool g, .slice A n c]] w fun e w' => e = .returned (.int .i64 (Z.sgn z)) ∧ Below w.heap.size w w' := by
  have hT := Lib.hid fun (W : World) => teller_any false W
  have hU := Lib.hid fun (b : Nat) (W : World) (q1 : W.cell? ⟨w.heap.size, 0, none⟩ = some (.bool g) ∧ W.cell? ⟨w.heap.size, 1, none⟩ = some (.slice A n c) ∧ w.heap.size < W.heap.size ∧ Below w.heap.size w W) (q2 : b < W.heap.size) (q3 : W.cell? ⟨b, 0, none⟩ = some (.bool false)) => tell_any false g A n c b z W (h.below q1.2.2.2) q2 q3
  clear h
  have hb0 : Below w.heap.size w (w.alloc (Obj.cells #[.bool g, .slice A n c] 39)).drew := ((Below.refl _ _).alloc (Nat.le_refl _) _).drew
  go_enter Tryz.func22, Tryz.ntmps22
  go_wp2_with fail
  go_region_held3 (fun w' => w'.cell? ⟨w.heap.size, 0, none⟩ = some (.bool g) ∧ w'.cell? ⟨w.heap.size, 1, none⟩ = some (.slice A n c) ∧ w.heap.size < w'.heap.size ∧ Below w.heap.size w w')
    (first | exact keep1 (by assumption) (by assumption) | exact ⟨by simp, by simp, by simp, by assumption⟩)
    (first | (go_at_call 57; refine (hT.out _).mono ?_; rintro e w1 ⟨b, rfl, t1, t2, t3, b1⟩) | (go_at_call 94; refine (hU.out _ _ ?_ ?_ ?_).mono ?_; assumption; assumption; assumption; rintro e w2 ⟨rfl, b2⟩))
  rename_i hh
  go_wp2_with fail
  go_ret
  exact ⟨rfl, hh.2.2.2⟩
theorem signed_num {s : Int} {v : Value} {N : Nat} {w : World} (h : Num w v N) : Calls Tryz.prog 59 #[.int .i64 s, v] w (WGives w (Z.sig s N)) := by
  obtain ⟨A, n, c, l, rfl, h1, h2, h3, h4, h5⟩ := h
  exact signed_any s A n c N w ⟨A, n, c, l, rfl, h1, h2, h3, h4, h5⟩
def Room (w : World) (R : Nat) : Prop := ∃ g A n c, Box w R g A n c
theorem Room.new (w : World) (g : Bool) (A : Option Addr) (n c : Nat) : Room (w.alloc (.cells #[.bool g, .slice A n c] 39)) w.heap.size := ⟨_, _, _, _, Box.new w g A n c⟩
theorem Room.below {w w' : World} {R B : Nat} (h : Room w R) (hb : Below B w w') (hB : R < B) : Room w' R := by
  obtain ⟨g, A, n, c, h⟩ := h
  exact ⟨g, A, n, c, h.below hb hB⟩
abbrev World.room (w : World) (R : Nat) (x u : Value) : World := (w.setCell ⟨R, 0, none⟩ x).setCell ⟨R, 1, none⟩ u
theorem far_room (w : World) (R : Nat) (x u : Value) {p : Addr} (h : p.block ≠ R) : (World.room w R x u).cell? p = w.cell? p := by
  have h0 : (w.setCell ⟨R, 0, none⟩ x).heap[p.block]? = w.heap[p.block]? := Below.heap_setCell w ⟨R, 0, none⟩ x p.block h
  have h1 : (World.room w R x u).heap[p.block]? = (w.setCell ⟨R, 0, none⟩ x).heap[p.block]? := Below.heap_setCell _ ⟨R, 1, none⟩ u p.block h
  exact World.cell?_of_block (h1.trans h0)
theorem room_size (w : World) (R : Nat) (x u : Value) : (World.room w R x u).heap.size = w.heap.size := by simp [World.room, World.setCell]
end Go.Proofs.YtfjpcjebecgglaaGreatDoor
namespace Go.Proofs.YtfjpcjebecgglaaGreatDoor
open Go.RowKit
theorem num_room {w : World} {R : Nat} {x u v : Value} {N : Nat} (h : Num w v N) (r : Room w R) : Num (World.room w R x u) v N := by
  obtain ⟨A, n, c, l, rfl, ⟨h1, h2, h3⟩, h4, h5, h6⟩ := h
  obtain ⟨g, A', n', c', r0, r1, r2, r3⟩ := r
  refine ⟨A, n, c, l, rfl, ⟨h1, h2, fun hn => ?_⟩, h4, h5, h6⟩
  obtain ⟨b, off, e, hb, hc⟩ := h3 hn
  refine ⟨b, off, e, by rw [room_size]; exact hb, fun j hj => ?_⟩
  have hj := hc j hj
  rw [World.cell?_setCell_other _ _ _ _ (fun e => by rw [e] at r1; rw [r1] at hj; cases hj), World.cell?_setCell_other _ _ _ _ (fun e => by rw [e] at r0; rw [r0] at hj; cases hj)]
  exact hj
theorem box_room {w : World} {R b : Nat} {x u : Value} {g : Bool} {A : Option Addr} {n c : Nat} (h : Box w b g A n c) (hne : b ≠ R) : Box (World.room w R x u) b g A n c :=
  ⟨(far_room w R x u (p := ⟨b, 0, none⟩) hne).trans h.c0, (far_room w R x u (p := ⟨b, 1, none⟩) hne).trans h.c1, by rw [room_size]; exact h.lt, fun i => by simp [World.room, h.fr i]⟩
theorem room_room {w : World} {R b : Nat} {x : Bool} {A : Option Addr} {n c : Nat} (h : Room w b) (r : Room w R) : Room (World.room w R (.bool x) (.slice A n c)) b := by
  by_cases e : b = R
  · subst e
    obtain ⟨g, A', n', c', r0, r1, r2, r3⟩ := r
    refine ⟨x, A, n, c, ?_, ?_, by rw [room_size]; exact r2, fun i => by simp [World.room, r3 i]⟩
    · rw [World.cell?_setCell_other _ _ _ _ (fun e => by injection e with _ e; omega)]
      exact World.cell?_setCell_same _ _ _ r0
    · exact World.cell?_setCell_same _ _ _ ((World.cell?_setCell_other _ _ _ _ (fun e => by injection e with _ e; omega)).trans r1)
  · obtain ⟨g, A', n', c', h⟩ := h
    exact ⟨g, A', n', c', box_room h e⟩
theorem below_room {B : Nat} {a w : World} (h : Below B a w) {R : Nat} (hR : B ≤ R) (x u : Value) : Below B a (World.room w R x u) := (h.setCell hR x).setCell hR u
end Go.Proofs.YtfjpcjebecgglaaGreatDoor
namespace Go.Proofs.YtfjpcjebecgglaaGreatDoor
open Go.RowKit
theorem room_cells {w : World} {R : Nat} {x u : Value} (r : Room w R) : (World.room w R x u).cell? ⟨R, 0, none⟩ = some x ∧ (World.room w R x u).cell? ⟨R, 1, none⟩ = some u ∧ R < (World.room w R x u).heap.size := by
  obtain ⟨g, A', n', c', r0, r1, r2, r3⟩ := r
  refine ⟨?_, ?_, by rw [room_size]; exact r2⟩
  · rw [World.cell?_setCell_other _ _ _ _ (fun e => by injection e with _ e; omega)]
    exact World.cell?_setCell_same _ _ _ r0
  · exact World.cell?_setCell_same _ _ _ ((World.cell?_setCell_other _ _ _ _ (fun e => by injection e with _ e; omega)).trans r1)
theorem gives_room {w W : World} {R : Nat} {z z' : Int} {A : Option Addr} {n c : Nat} (m : Num W (.slice A n c) z'.natAbs) (hz : z' = z) (r : Room W R) (hb : Below w.heap.size w W) (hR : w.heap.size ≤ R) :
    WGives w z (.returned (.agg #[.bool (decide (z' < 0)), .slice A n c])) (World.room W R (.bool (decide (z' < 0))) (.slice A n c)) := by
  subst hz
  exact ⟨_, rfl, ⟨_, rfl, num_room m r⟩, below_room hb hR _ _⟩
end Go.Proofs.YtfjpcjebecgglaaGreatDoor
namespace Go.Proofs.YtfjpcjebecgglaaGreatDoor
open Go.RowKit
end Go.Proofs.YtfjpcjebecgglaaGreatDoor
