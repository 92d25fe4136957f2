/- bytes in memory; slices.Reverse over bytes: what it leaves. -/
import Derived.Test.YtefkkmnhnldcbaaA3
import Derived.Test.YtefkkmnhnldcbaaCoreT
import Derived.BigRegion
import Derived.RegionTactic
import Derived.ChangeAlike
namespace Go.Proofs.Ytefkkmnhnldcbaa
open Go.RowKit

/-- block g begins with these bytes -/
def Bys (w : World) (g : Nat) (ds : List Nat) : Prop :=
  ∃ cur : Array Value, w.heap[g]? = some (.cells cur 5 (0, 0)) ∧ ∀ j, j < ds.length → cur[j]? = some (.int .u8 ((ds.getD j 0 : Nat) : Int))

theorem Bys.lt {w : World} {g : Nat} {ds : List Nat} (h : Bys w g ds) : g < w.heap.size := by
  obtain ⟨cur, h, _⟩ := h
  rcases Nat.lt_or_ge g w.heap.size with hlt | hge
  · exact hlt
  · rw [Array.getElem?_eq_none hge] at h; cases h
theorem Bys.cell {w : World} {g : Nat} {ds : List Nat} (h : Bys w g ds) {j : Nat} (hj : j < ds.length) : w.cell? ⟨g, j, none⟩ = some (.int .u8 ((ds.getD j 0 : Nat) : Int)) := by
  obtain ⟨cur, h, hc⟩ := h
  rw [cell_of_row w g j _ _ (0, 0) h]
  exact hc j hj
theorem Bys.frozen {w : World} {g : Nat} {ds : List Nat} (h : Bys w g ds) (i : Nat) : w.frozen? ⟨g, i, none⟩ = false := by
  obtain ⟨cur, h, _⟩ := h
  simp [World.frozen?, h]
theorem Bys.drewN {w : World} {g : Nat} {ds : List Nat} (h : Bys w g ds) (n : Nat) : Bys (w.drewN n) g ds := h
theorem Bys.set_ {w : World} {g : Nat} {ds : List Nat} (h : Bys w g ds) {i : Nat} (hi : i < ds.length) (x : Nat) : Bys (w.setCell ⟨g, i, none⟩ (.int .u8 (x : Int))) g (ds.set i x) := by
  obtain ⟨cur, h, hc⟩ := h
  refine ⟨cur.setIfInBounds i (.int .u8 (x : Int)), by simp [World.setCell, Array.getElem?_modify, h], fun j hj => ?_⟩
  rw [List.length_set] at hj
  rw [Array.getElem?_setIfInBounds]
  split
  · rename_i e
    subst e
    have : i < cur.size := by
      rcases Nat.lt_or_ge i cur.size with h1 | h1
      · exact h1
      · have := hc i hi
        rw [Array.getElem?_eq_none h1] at this
        cases this
    rw [if_pos this]
    simp [List.getD_eq_getElem?_getD, hi]
  · rename_i e
    rw [hc j hj]
    simp [List.getD_eq_getElem?_getD, List.getElem?_set_ne e]
theorem Bys.grown {w w' : World} {g : Nat} {ds : List Nat} {row : Option Nat} (h : Bys w g ds) (hg : w.grownBy w' row) (hne : some g ≠ row) : Bys w' g ds := by
  have hlt := h.lt
  obtain ⟨cur, h, hc⟩ := h
  exact ⟨cur, (hg.block g hlt hne).trans h, hc⟩

/-- how far a list has been turned round -/
structure Turning (ds es : List Nat) (n i : Nat) : Prop where
  len : es.length = n
  done : ∀ q, q < i → es.getD q 0 = ds.getD (n - 1 - q) 0
  done' : ∀ q, n - i ≤ q → q < n → es.getD q 0 = ds.getD (n - 1 - q) 0
  rest : ∀ q, i ≤ q → q < n - i → es.getD q 0 = ds.getD q 0

theorem Turning.step {ds es : List Nat} {n i x y : Nat} (h : Turning ds es n i) (hi : i < n - 1 - i) (hx : x = es.getD i 0) (hy : y = es.getD (n - 1 - i) 0) :
    Turning ds ((es.set i y).set (n - 1 - i) x) n (i + 1) := by
  have hx' : x = ds.getD i 0 := by rw [hx]; exact h.rest i (by omega) (by omega)
  have hy' : y = ds.getD (n - 1 - i) 0 := by rw [hy]; exact h.rest _ (by omega) (by omega)
  refine ⟨by simp [h.len], fun q hq => ?_, fun q hq hn => ?_, fun q hq hn => ?_⟩
  · rw [M.set_ne _ _ _ _ (by omega)]
    by_cases e : i = q
    · subst e; rw [M.set_eq _ _ _ (by rw [h.len]; omega), hy']
    · rw [M.set_ne _ _ _ _ e]; exact h.done q (by omega)
  · by_cases e : n - 1 - i = q
    · subst e
      rw [M.set_eq _ _ _ (by rw [List.length_set, h.len]; omega), hx']
      congr 1
      omega
    · rw [M.set_ne _ _ _ _ e, M.set_ne _ _ _ _ (by omega)]; exact h.done' q (by omega) hn
  · rw [M.set_ne _ _ _ _ (by omega), M.set_ne _ _ _ _ (by omega)]; exact h.rest q (by omega) (by omega)
theorem Turning.end_ {ds es : List Nat} {n i : Nat} (h : Turning ds es n i) (hl : ds.length = n) (hi : n ≤ 2 * i + 1) : es = ds.reverse := by
  refine List.ext_getElem (by rw [List.length_reverse, hl, h.len]) fun q h1 h2 => ?_
  rw [List.getElem_reverse]
  have hq : q < n := by rw [← h.len]; exact h1
  have e : es.getD q 0 = ds.getD (n - 1 - q) 0 := by
    by_cases a : q < i
    · exact h.done q a
    · by_cases b : n - i ≤ q
      · exact h.done' q b hq
      · rw [h.rest q (by omega) (by omega)]; congr 1; omega
  rw [M.getD_lt h1, M.getD_lt (by omega)] at e
  rw [e]
  congr 1
  omega

/-- Reverse's end -/
def Reversed (W : World) (g : Nat) (ds : List Nat) (e : Ending) (w' : World) : Prop := e = .returned (.tuple #[]) ∧ Bys w' g ds.reverse ∧ W.grownBy w' (some g)

theorem reverse_any (g n c : Nat) (ds : List Nat) (w : World) (h : Bys w g ds) (hl : ds.length = n) (hn : n ≤ 1000000000) :
    Calls Try.prog 53 #[.slice (some ⟨g, 0, none⟩) n c] w (Reversed w g ds) := by
  have HL := Lib.hid hl
  clear hl
  go_enter Try.func53, Try.ntmps53
  go_wp2_with fail
  go_loopw [2, 3] (fun iv jv wr => ∃ (i : Nat) (es : List Nat), i ≤ n ∧ iv = .int .i64 i ∧ jv = .int .i64 ((n : Int) - 1 - i) ∧ Bys wr g es ∧ Turning ds es n i ∧ w.grownBy wr (some g)) (fun iv _ _ => n - (intOf iv).toNat)
  case atStart => exact ⟨0, ds, by omega, rfl, by go_num, h, ⟨HL.out, fun q hq => by omega, fun q h1 h2 => by omega, fun _ _ _ => rfl⟩, World.grownBy.refl _ _⟩
  case round =>
    obtain ⟨i, es, hi, rfl, rfl, hb, ht, hg⟩ := hrel
    by_cases hlt : i < n - 1 - i
    · obtain ⟨j, hj⟩ : ∃ j : Nat, Hid (n - 1 - i = j) := ⟨_, rfl⟩
      have hjn : j < n := by have := hj.out; omega
      have hij : i < j := by have := hj.out; omega
      have he : (n : Int) - 1 - (i : Int) = (j : Int) := by have := hj.out; omega
      obtain ⟨x, HX⟩ : ∃ x, Hid (x = es.getD i 0) := ⟨_, rfl⟩
      obtain ⟨y, HY⟩ : ∃ y, Hid (y = es.getD j 0) := ⟨_, rfl⟩
      have hx : wr.cell? ⟨g, i, none⟩ = some (.int .u8 (x : Int)) := by rw [HX.out]; exact hb.cell (by rw [ht.len]; omega)
      have hy : wr.cell? ⟨g, j, none⟩ = some (.int .u8 (y : Int)) := by rw [HY.out]; exact hb.cell (by rw [ht.len]; omega)
      have fx := hb.frozen i
      have fy := hb.frozen j
      go_wp2_with fail
      go_region
      have ht' := ht.step (x := x) (y := y) hlt HX.out (by rw [hj.out]; exact HY.out)
      rw [hj.out] at ht'
      have HB : Hid (Bys ((wr.setCell ⟨g, i, none⟩ (.int .u8 (y : Int))).setCell ⟨g, j, none⟩ (.int .u8 (x : Int))).drew g ((es.set i y).set j x)) :=
        ((hb.set_ (by rw [ht.len]; omega) y).set_ (by rw [List.length_set, ht.len]; omega) x).drewN 1
      have HG : Hid (w.grownBy ((wr.setCell ⟨g, i, none⟩ (.int .u8 (y : Int))).setCell ⟨g, j, none⟩ (.int .u8 (x : Int))).drew (some g)) :=
        only_drewN (only_setCell (only_setCell hg (p := ⟨g, i, none⟩) (.inl rfl) _) (p := ⟨g, j, none⟩) (.inl rfl) _) 1
      clear hb ht hg hx hy fx fy
      go_wp2_with fail
      go_roundw
      case rel => exact ⟨i + 1, _, by omega, by go_num, by go_num, HB.out, ht', HG.out⟩
      case measure => simp [intOf]; omega
    · have e : Hid (es = ds.reverse) := ht.end_ HL.out (by omega)
      go_wp2_with fail
      go_end0
      exact ⟨rfl, by rw [← e.out]; exact hb, hg⟩
end Go.Proofs.Ytefkkmnhnldcbaa
