/- A table's calls: Find, At. -/
import Derived.Test.YtgijagdnhajkhaaT1
import Derived.Outline
namespace Go.Proofs.Ytgijagdnhajkhaa
open Go.RowKit

theorem ret_i {k : IntKind} {a b : Int} (h : a = b) : Ending.returned (.int k a) = .returned (.int k b) := by rw [h]
theorem lit_i64 {a b : Int} (h : (DataW.lit (.int .i64 a) : DataW Unit) = .lit (.int .i64 b)) : a = b := by simpa using h

/-- what Find answers: the place b tells of, the number i -/
def Places (ks : List ByteArray) (x : ByteArray) (i : Int) (b : Bool) : Prop := decide (x ∈ ks) = b ∧ i = if x ∈ ks then (ks.idxOf x : Int) else 0

theorem finds (w : World) (F : Nat → Prop) (tb : Nat) (ks : List ByteArray) (x : ByteArray) (i : Int) (b : Bool) (hb : Places ks x i b) (hx : x.size ≤ maxLen) (h : Tabs w F tb ks) :
    Calls Try.prog 14 #[.pointer (some ⟨tb, 0, none⟩), (.string x)] w fun e w' => e = .returned (.tuple #[.int .i64 i, .bool b]) ∧ Below w.heap.size w w' := by
  obtain ⟨⟨m, v, h1, h2, h3, h4⟩, nd, ok, inn, lt, few⟩ := h
  have hkey := WideMaps.keyOf_string_mk (P := Try.prog) Try.underlying9 hx
  have hlt := h1.lt
  have c0 := h1.cell 0
  simp at c0
  have HX := Lib.hid hx
  clear h2 h3 ok nd h1 inn lt few hx
  rcases h4 with ⟨rfl, rfl⟩ | ⟨mb, D, rfl, hF, ho, ht⟩
  · obtain ⟨hb1, hb2⟩ := hb
    obtain rfl : b = false := by rw [← hb1]; simp
    obtain rfl : i = 0 := by rw [hb2]; simp
    have hnil := fun w => Maps.look_nil (w := w) (P := Try.prog) true laws Try.underlying25 (zeroInt w) hkey
    clear hb1 hb2 hkey
    go_enter Try.func14, Try.ntmps14
    go_wp2_with (go_at_call 36; refine (sames _ _).mono ?_; rintro e w1 ⟨rfl, b1⟩; have y0 := (b1.cell (p := ⟨tb, 0, none⟩) hlt).trans c0)
    go_ret2
    exact ⟨rfl, b1⟩
  · obtain ⟨q, hq⟩ : ∃ q, q = ks.length := ⟨_, rfl⟩
    rw [← hq] at ho
    obtain ⟨hb1, hb2⟩ := hb
    have hh := ht.has x HX.out
    rw [hb1] at hh
    have hc : D.atKey (Lit.string x.data.toList) (.lit (.int .i64 0)) = .lit (.int .i64 i) := by
      rw [hb2]
      by_cases hm : x ∈ ks
      · rw [if_pos hm]; exact ht.at_ x hm
      · rw [if_neg hm]
        refine Maps.atKey_of_not_has ?_ _
        rw [ht.has x HX.out]
        exact decide_eq_false hm
    have HC := Lib.hid hc
    have HH := Lib.hid hh
    clear hb1 hb2 hc hh ht hq
    go_enter Try.func14, Try.ntmps14
    go_wp2_with (first
      | (go_at_call 36; refine (sames _ _).mono ?_; rintro e w1 ⟨rfl, b1⟩; have y0 := (b1.cell (p := ⟨tb, 0, none⟩) hlt).trans c0)
      | (at_lookup; refine wpList_lookup_own_ok_int _ rfl _ _ 25 rfl 9 3 .i64 laws Try.underlying25 Try.underlying3 (zeroInt _) mb q D rfl ((Turn.of_below (F := fun _ => False) b1).map ho id) _ _ rfl hkey ?_; intro c hat hwc; rw [HH.out]; obtain rfl : i = c := lit_i64 (HC.out.symm.trans hat); clear hat hwc))
    go_ret2
    exact ⟨rfl, b1⟩

/-- the row of a table's keys -/
theorem Tabs.row {w : World} {F : Nat → Prop} {tb : Nat} {ks : List ByteArray} (h : Tabs w F tb ks) (hn : 0 < ks.length) :
    ∃ m g c, Lies w tb 28 #[m, .slice (some ⟨g, 0, none⟩) ks.length c] ∧ ∀ j x, ks[j]? = some x → w.cell? ⟨g, j, none⟩ = some (.string x) := by
  obtain ⟨⟨m, v, h1, h2, h3, h4⟩, nd, ok, inn, lt, few⟩ := h
  rcases h2.2 with ⟨rfl, h0⟩ | ⟨g, cap, cur, rfl, _⟩
  · omega
  · refine ⟨m, g, cap, h1, fun j x hj => ?_⟩
    have := h2.cells (g := g) rfl j (.string x) (by rw [List.getElem?_map, hj]; rfl)
    rw [show (⟨g, 0, none⟩ : Addr).add j = ⟨g, j, none⟩ by unfold Addr.add; split <;> simp_all] at this
    exact this

theorem ats_hit (w : World) (F : Nat → Prop) (tb : Nat) (ks : List ByteArray) (j : Nat) (x : ByteArray) (hj : ks[j]? = some x) (h : Tabs w F tb ks) :
    Calls Try.prog 17 #[.pointer (some ⟨tb, 0, none⟩), .int .i64 (j : Nat)] w fun e w' => e = .returned (.tuple #[(.string x), .bool true]) ∧ w' = w := by
  have hl : j < ks.length := (List.getElem?_eq_some_iff.1 hj).1
  have few := h.few
  obtain ⟨m, g, c, h1, h2⟩ := h.row (by omega)
  have hx := h2 j x hj
  have hlt := h1.lt
  have c1 := h1.cell 1
  simp at c1
  have HL := Lib.hid fun W (hW : Tabs W F tb ks) => lens W F tb ks hW
  have H := Lib.hid h
  obtain ⟨n, HN⟩ : ∃ n, Hid (n = ks.length) := ⟨_, rfl⟩
  rw [← HN.out] at hl few c1 HL
  have hl' : ¬ (n : Int) ≤ (j : Int) := by omega
  have hl2 : (j : Int) < (n : Int) := by omega
  clear h1 h2 hj h
  go_enter Try.func17, Try.ntmps17
  go_wp2_with (go_at_call 16; refine (HL.out _ H.out).mono ?_; rintro e w1 ⟨rfl, rfl⟩)
  go_ret2
  exact ⟨rfl, rfl⟩

theorem ats_miss (w : World) (F : Nat → Prop) (tb : Nat) (ks : List ByteArray) (i : Int) (hi : i < 0 ∨ (ks.length : Int) ≤ i) (h : Tabs w F tb ks) :
    Calls Try.prog 17 #[.pointer (some ⟨tb, 0, none⟩), .int .i64 i] w fun e w' => e = .returned (.tuple #[(.string ByteArray.empty), .bool false]) ∧ w' = w := by
  have HL := Lib.hid fun W (hW : Tabs W F tb ks) => lens W F tb ks hW
  have H := Lib.hid h
  obtain ⟨n, HN⟩ : ∃ n, Hid (n = ks.length) := ⟨_, rfl⟩
  rw [← HN.out] at hi HL
  clear h
  by_cases hneg : i < 0
  · clear hi
    go_enter Try.func17, Try.ntmps17
    go_wp2
    go_ret2
    exact ⟨rfl, rfl⟩
  · have hge : (n : Int) ≤ i := by omega
    clear hi
    go_enter Try.func17, Try.ntmps17
    go_wp2_with (go_at_call 16; refine (HL.out _ H.out).mono ?_; rintro e w1 ⟨rfl, rfl⟩)
    go_ret2
    exact ⟨rfl, rfl⟩

/-- what Find answers: the place b tells of, the number i -/
def Placei (ks : List Int) (x : Int) (i : Int) (b : Bool) : Prop := decide (x ∈ ks) = b ∧ i = if x ∈ ks then (ks.idxOf x : Int) else 0

theorem findi (w : World) (F : Nat → Prop) (tb : Nat) (ks : List Int) (x : Int) (i : Int) (b : Bool) (hb : Placei ks x i b) (hx : (Lit.int .i64 x).wf = true) (h : Tabi w F tb ks) :
    Calls Try.prog 33 #[.pointer (some ⟨tb, 0, none⟩), (.int .i64 x)] w fun e w' => e = .returned (.tuple #[.int .i64 i, .bool b]) ∧ Below w.heap.size w w' := by
  obtain ⟨⟨m, v, h1, h2, h3, h4⟩, nd, ok, inn, lt, few⟩ := h
  have hkey := Maps.keyOf_int_mk (P := Try.prog) Try.underlying3 hx
  have hlt := h1.lt
  have c0 := h1.cell 0
  simp at c0
  have HX := Lib.hid hx
  clear h2 h3 ok nd h1 inn lt few hx
  rcases h4 with ⟨rfl, rfl⟩ | ⟨mb, D, rfl, hF, ho, ht⟩
  · obtain ⟨hb1, hb2⟩ := hb
    obtain rfl : b = false := by rw [← hb1]; simp
    obtain rfl : i = 0 := by rw [hb2]; simp
    have hnil := fun w => Maps.look_nil (w := w) (P := Try.prog) true lawi Try.underlying65 (zeroInt w) hkey
    clear hb1 hb2 hkey
    go_enter Try.func33, Try.ntmps33
    go_wp2_with (go_at_call 42; refine (samei _ _).mono ?_; rintro e w1 ⟨rfl, b1⟩; have y0 := (b1.cell (p := ⟨tb, 0, none⟩) hlt).trans c0)
    go_ret2
    exact ⟨rfl, b1⟩
  · obtain ⟨q, hq⟩ : ∃ q, q = ks.length := ⟨_, rfl⟩
    rw [← hq] at ho
    obtain ⟨hb1, hb2⟩ := hb
    have hh := ht.has x HX.out
    rw [hb1] at hh
    have hc : D.atKey (Lit.int .i64 x) (.lit (.int .i64 0)) = .lit (.int .i64 i) := by
      rw [hb2]
      by_cases hm : x ∈ ks
      · rw [if_pos hm]; exact ht.at_ x hm
      · rw [if_neg hm]
        refine Maps.atKey_of_not_has ?_ _
        rw [ht.has x HX.out]
        exact decide_eq_false hm
    have HC := Lib.hid hc
    have HH := Lib.hid hh
    clear hb1 hb2 hc hh ht hq
    go_enter Try.func33, Try.ntmps33
    go_wp2_with (first
      | (go_at_call 42; refine (samei _ _).mono ?_; rintro e w1 ⟨rfl, b1⟩; have y0 := (b1.cell (p := ⟨tb, 0, none⟩) hlt).trans c0)
      | (at_lookup; refine wpList_lookup_own_ok_int _ rfl _ _ 65 rfl 3 3 .i64 lawi Try.underlying65 Try.underlying3 (zeroInt _) mb q D rfl ((Turn.of_below (F := fun _ => False) b1).map ho id) _ _ rfl hkey ?_; intro c hat hwc; rw [HH.out]; obtain rfl : i = c := lit_i64 (HC.out.symm.trans hat); clear hat hwc))
    go_ret2
    exact ⟨rfl, b1⟩

/-- the row of a table's keys -/
theorem Tabi.row {w : World} {F : Nat → Prop} {tb : Nat} {ks : List Int} (h : Tabi w F tb ks) (hn : 0 < ks.length) :
    ∃ m g c, Lies w tb 67 #[m, .slice (some ⟨g, 0, none⟩) ks.length c] ∧ ∀ j x, ks[j]? = some x → w.cell? ⟨g, j, none⟩ = some (.int .i64 x) := by
  obtain ⟨⟨m, v, h1, h2, h3, h4⟩, nd, ok, inn, lt, few⟩ := h
  rcases h2.2 with ⟨rfl, h0⟩ | ⟨g, cap, cur, rfl, _⟩
  · omega
  · refine ⟨m, g, cap, h1, fun j x hj => ?_⟩
    have := h2.cells (g := g) rfl j (.int .i64 x) (by rw [List.getElem?_map, hj]; rfl)
    rw [show (⟨g, 0, none⟩ : Addr).add j = ⟨g, j, none⟩ by unfold Addr.add; split <;> simp_all] at this
    exact this

theorem ati_hit (w : World) (F : Nat → Prop) (tb : Nat) (ks : List Int) (j : Nat) (x : Int) (hj : ks[j]? = some x) (h : Tabi w F tb ks) :
    Calls Try.prog 32 #[.pointer (some ⟨tb, 0, none⟩), .int .i64 (j : Nat)] w fun e w' => e = .returned (.tuple #[(.int .i64 x), .bool true]) ∧ w' = w := by
  have hl : j < ks.length := (List.getElem?_eq_some_iff.1 hj).1
  have few := h.few
  obtain ⟨m, g, c, h1, h2⟩ := h.row (by omega)
  have hx := h2 j x hj
  have hlt := h1.lt
  have c1 := h1.cell 1
  simp at c1
  have HL := Lib.hid fun W (hW : Tabi W F tb ks) => leni W F tb ks hW
  have H := Lib.hid h
  obtain ⟨n, HN⟩ : ∃ n, Hid (n = ks.length) := ⟨_, rfl⟩
  rw [← HN.out] at hl few c1 HL
  have hl' : ¬ (n : Int) ≤ (j : Int) := by omega
  have hl2 : (j : Int) < (n : Int) := by omega
  clear h1 h2 hj h
  go_enter Try.func32, Try.ntmps32
  go_wp2_with (go_at_call 34; refine (HL.out _ H.out).mono ?_; rintro e w1 ⟨rfl, rfl⟩)
  go_ret2
  exact ⟨rfl, rfl⟩

theorem ati_miss (w : World) (F : Nat → Prop) (tb : Nat) (ks : List Int) (i : Int) (hi : i < 0 ∨ (ks.length : Int) ≤ i) (h : Tabi w F tb ks) :
    Calls Try.prog 32 #[.pointer (some ⟨tb, 0, none⟩), .int .i64 i] w fun e w' => e = .returned (.tuple #[(.int .i64 0), .bool false]) ∧ w' = w := by
  have HL := Lib.hid fun W (hW : Tabi W F tb ks) => leni W F tb ks hW
  have H := Lib.hid h
  obtain ⟨n, HN⟩ : ∃ n, Hid (n = ks.length) := ⟨_, rfl⟩
  rw [← HN.out] at hi HL
  clear h
  by_cases hneg : i < 0
  · clear hi
    go_enter Try.func32, Try.ntmps32
    go_wp2
    go_ret2
    exact ⟨rfl, rfl⟩
  · have hge : (n : Int) ≤ i := by omega
    clear hi
    go_enter Try.func32, Try.ntmps32
    go_wp2_with (go_at_call 34; refine (HL.out _ H.out).mono ?_; rintro e w1 ⟨rfl, rfl⟩)
    go_ret2
    exact ⟨rfl, rfl⟩
end Go.Proofs.Ytgijagdnhajkhaa
