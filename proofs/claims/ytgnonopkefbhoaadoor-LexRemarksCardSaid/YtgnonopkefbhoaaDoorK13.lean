/- LexCuts: its walk. -/
import Derived.Test.YtgnonopkefbhoaaDoorK12
namespace Go.Proofs.YtgnonopkefbhoaaDoor
open Go.RowKit Go.Shelf

/-- a token's key, out of what it says -/
def keyAt (n : Nat) (y : Lx.Tok) : Int × List UInt8 × Int := (y.1, y.2.1, ((n - y.2.2 : Nat) : Int))
theorem keys_true (s : ByteArray) (l : List MTok) (h : ∀ x ∈ l, x.2.2 ≤ s.size) : (l.map toI).map (tkey true) = (l.map (pureTok s)).map (keyAt s.size) := by
  rw [List.map_map, List.map_map]
  apply List.map_congr_left
  intro x hx
  have := h x hx
  simp only [Function.comp, tkey, toI, keyAt, pureTok, if_true]
  rw [show s.size - (s.size - x.2.2) = x.2.2 by omega]
theorem keys_false (s : ByteArray) (l : List MTok) : (l.map toI).map (tkey false) = ((l.map (pureTok s)).map Lx.says).map fun y => (y.1, y.2, (0 : Int)) := by
  rw [List.map_map, List.map_map, List.map_map]
  apply List.map_congr_left
  intro x _
  simp [tkey, toI, pureTok]
theorem LSaid.twin {s : ByteArray} {w w' w1 w2 : World} {A A' : Option Addr} {c c' : Nat} {l l' : List MTok} {E E' : Int} {p p' : Nat} (h : LSaid s w A c l E p w1) (h' : LSaid s w' A' c' l' E' p' w2) :
    sameT true (l.map toI) (l'.map toI) = true ∧ E = E' ∧ p = p' := by
  by_cases hs : 16384 < s.size
  · obtain ⟨rfl, rfl, rfl⟩ := h.long hs
    obtain ⟨rfl, rfl, rfl⟩ := h'.long hs
    exact ⟨rfl, rfl, rfl⟩
  · obtain ⟨t1, t2, t3⟩ := h.toks (by omega)
    obtain ⟨u1, u2, u3⟩ := h'.toks (by omega)
    refine ⟨?_, t2.trans u2.symm, drop_inj s h.le h'.le (t3.trans u3.symm)⟩
    unfold sameT
    rw [keys_true s l h.at_, keys_true s l' h'.at_, t1, u1, decide_eq_true rfl]

set_option maxRecDepth 100000 in
set_option maxHeartbeats 1600000 in
theorem lexCuts_walk (s : ByteArray) (w : World) (hs : s.size ≤ maxLen) (hm : MaxL w) :
    Calls Tryd.prog 3 #[.string s] w fun e w' => e = .returned (.bool true) ∧ Below w.heap.size w w' := by
  have HA := Lib.hid (kawake w hm)
  have HM := Lib.hid hm
  unfold maxLen at hs
  clear hm
  by_cases hl : 17000 < s.size
  · have hl' : (17000 : Int) < (s.size : Int) := by omega
    clear hl
    go_enter Tryd.func3, Tryd.ntmps3
    go_wp2_with (go_at_call 9; refine HA.out.mono ?_; rintro e w1 ⟨rfl, b1⟩)
    go_ret
    exact ⟨rfl, b1⟩
  have hl' : ¬ (17000 : Int) < (s.size : Int) := by omega
  have H1 := Lib.hid fun W hW => klex s W (by omega) hW
  have H2 := Lib.hid fun W => rlex s W (by omega)
  clear hl
  go_enter Tryd.func3, Tryd.ntmps3
  go_wp2_with fail
  refine HA.out.mono ?_
  rintro e w1 ⟨rfl, b1⟩
  have B1 := Lib.hid b1
  have HM1 := Lib.hid (HM.out.below b1)
  clear b1
  go_wp2_with fail
  refine (H1.out _ HM1.out).mono ?_
  rintro e w2 ⟨A2, c2, l2, E2, p2, rfl, q2⟩
  have Q2 := Lib.hid q2
  clear q2
  obtain ⟨n2, hn2⟩ : ∃ n, l2.length = n := ⟨_, rfl⟩
  rw [hn2]
  go_wp2_with fail
  refine (H2.out _).mono ?_
  rintro e w3 ⟨A3, c3, l3, E3, p3, rfl, q3⟩
  obtain ⟨hsame, rfl, rfl⟩ := Q2.out.twin q3
  have B3 := Lib.hid ((B1.out.trans (Q2.out.below.mono B1.out.size)).trans (q3.below.mono (B1.out.trans (Q2.out.below.mono B1.out.size)).size))
  have HS := Lib.hid (rsame w3 A2 l2.length c2 (l2.map toI) A3 l3.length c3 (l3.map toI) true (Q2.out.own.toks.below q3.below) q3.own.toks (Nat.le_trans Q2.out.few (by decide)))
  rw [hsame, hn2] at HS
  obtain ⟨n3, hn3⟩ : ∃ n, l3.length = n := ⟨_, rfl⟩
  rw [hn3] at HS ⊢
  clear q3 hsame hn2 hn3 Q2
  go_wp2_with (go_at_call 12; refine HS.out.mono ?_; rintro e w4 ⟨rfl, q, rfl⟩)
  go_ret
  exact ⟨rfl, B3.out.trans ((Turn.none_ ((Turn.refl (fun _ => False) _).drewN _) (fun _ => id)).mono B3.out.size)⟩
end Go.Proofs.YtgnonopkefbhoaaDoor
