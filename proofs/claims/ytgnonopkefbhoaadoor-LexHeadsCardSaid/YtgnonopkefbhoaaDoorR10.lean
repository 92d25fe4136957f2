/- The reference of scripts: Same. -/
import Derived.Test.YtgnonopkefbhoaaDoorR9
namespace Go.Proofs.YtgnonopkefbhoaaDoor
open Go.RowKit

abbrev ITok := Int × ByteArray × Int
/-- the slice of n tokens at A reads as l -/
structure TokS (w : World) (A : Option Addr) (n : Nat) (l : List ITok) : Prop where
  len : l.length = n
  at_ : 0 < n → ∃ b off, A = some ⟨b, off, none⟩ ∧ b < w.heap.size ∧ ∀ (i : Nat) (x : ITok), l[i]? = some x → w.cell? ⟨b, off + i * 3, none⟩ = some (.int .i64 x.1) ∧ w.cell? ⟨b, off + i * 3 + 1, none⟩ = some (.string x.2.1) ∧ w.cell? ⟨b, off + i * 3 + 2, none⟩ = some (.int .i64 x.2.2)
theorem TokS.below {w w' : World} {A : Option Addr} {n : Nat} {l : List ITok} (h : TokS w A n l) (hb : Below w.heap.size w w') : TokS w' A n l :=
  ⟨h.len, fun hn => by
    obtain ⟨b, off, e, hlt, hc⟩ := h.at_ hn
    exact ⟨b, off, e, Nat.lt_of_lt_of_le hlt hb.size, fun i x hx => ⟨(hb.cell (p := ⟨b, off + i * 3, none⟩) hlt).trans (hc i x hx).1, (hb.cell (p := ⟨b, off + i * 3 + 1, none⟩) hlt).trans (hc i x hx).2.1, (hb.cell (p := ⟨b, off + i * 3 + 2, none⟩) hlt).trans (hc i x hx).2.2⟩⟩⟩
theorem TokS.get {w : World} {A : Option Addr} {n i : Nat} {l : List ITok} (h : TokS w A n l) (hi : i < n) :
    ∃ b off x, A = some ⟨b, off, none⟩ ∧ l[i]? = some x ∧ l.drop i = x :: l.drop (i + 1) ∧ ∀ W, Below w.heap.size w W → b < W.heap.size ∧ W.cell? ⟨b, off + i * 3, none⟩ = some (.int .i64 x.1) ∧ W.cell? ⟨b, off + i * 3 + 1, none⟩ = some (.string x.2.1) ∧ W.cell? ⟨b, off + i * 3 + 2, none⟩ = some (.int .i64 x.2.2) := by
  obtain ⟨b, off, e, hlt, hc⟩ := h.at_ (by omega)
  have hi' : i < l.length := by rw [h.len]; exact hi
  refine ⟨b, off, l[i], e, List.getElem?_eq_getElem hi', List.drop_eq_getElem_cons hi', fun W hW => ?_⟩
  have := (hc i _ (List.getElem?_eq_getElem hi'))
  exact ⟨Nat.lt_of_lt_of_le hlt hW.size, (hW.cell (p := ⟨b, off + i * 3, none⟩) hlt).trans this.1, (hW.cell (p := ⟨b, off + i * 3 + 1, none⟩) hlt).trans this.2.1, (hW.cell (p := ⟨b, off + i * 3 + 2, none⟩) hlt).trans this.2.2⟩
/-- with its place in an int -/
def toI (x : MTok) : ITok := (x.1, x.2.1, (x.2.2 : Int))
theorem tks_get : ∀ (l : List MTok) (i : Nat) (x : MTok), l[i]? = some x → (tksOf l)[i * 3]? = some (.int .i64 x.1) ∧ (tksOf l)[i * 3 + 1]? = some (.string x.2.1) ∧ (tksOf l)[i * 3 + 2]? = some (.int .i64 (x.2.2 : Nat))
  | [], i, x, h => by simp at h
  | y :: l, 0, x, h => by
    obtain rfl : y = x := by simpa using h
    simp [tksOf]
  | y :: l, i + 1, x, h => by
    obtain ⟨h1, h2, h3⟩ := tks_get l i x (by simpa using h)
    have e : ∀ j, (tksOf (y :: l))[(i + 1) * 3 + j]? = (tksOf l)[i * 3 + j]? := fun j => by
      rw [tksOf, List.flatMap_cons, show (i + 1) * 3 + j = (tcells y).length + (i * 3 + j) by simp; omega, List.getElem?_append_right (by omega), Nat.add_sub_cancel_left]
    exact ⟨(e 0).trans h1, (e 1).trans h2, (e 2).trans h3⟩
theorem OwnL.toks {w : World} {B : Nat} {A : Option Addr} {c : Nat} {l : List MTok} (h : OwnL w B A c l) : TokS w A l.length (l.map toI) := by
  refine ⟨by rw [List.length_map], fun hn => ?_⟩
  rcases h.2 with ⟨_, h0⟩ | ⟨g, cap, cur, e, _, hg, _⟩
  · omega
  · injection e with e1 e2 e3
    subst e1
    refine ⟨g, 0, rfl, (Array.getElem?_eq_some_iff.1 hg).1, fun i x hx => ?_⟩
    rw [List.getElem?_map] at hx
    obtain ⟨y, hy, rfl⟩ := Option.map_eq_some_iff.1 hx
    obtain ⟨q1, q2, q3⟩ := tks_get l i y hy
    have r := fun j u (hu : (tksOf l)[j]? = some u) => h.cells (g := g) rfl j u hu
    have a : ∀ j, (⟨g, 0, none⟩ : Addr).add j = ⟨g, 0 + j, none⟩ := fun j => addr_add g 0 j
    have r1 := r _ _ q1
    have r2 := r _ _ q2
    have r3 := r _ _ q3
    rw [a] at r1 r2 r3
    exact ⟨r1, by rw [Nat.add_assoc]; exact r2, by rw [Nat.add_assoc]; exact r3⟩

/-- what of a token is compared -/
def tkey (p : Bool) (x : ITok) : Int × List UInt8 × Int := (x.1, x.2.1.data.toList, if p then x.2.2 else 0)
def sameT (p : Bool) (l m : List ITok) : Bool := decide (l.map (tkey p) = m.map (tkey p))
theorem sameT_cons (p : Bool) (x y : ITok) (l m : List ITok) : sameT p (x :: l) (y :: m) = (decide (tkey p x = tkey p y) && sameT p l m) := by
  unfold sameT
  rw [List.map_cons, List.map_cons, ← Bool.decide_and]
  congr 1
  simp

set_option maxHeartbeats 3200000 in
theorem rsame (w : World) (A : Option Addr) (n c : Nat) (l : List ITok) (B : Option Addr) (m d : Nat) (l' : List ITok) (p : Bool) (h : TokS w A n l) (h' : TokS w B m l') (hn : n ≤ 1000000) :
    Calls Tryd.prog 12 #[.slice A n c, .slice B m d, .bool p] w fun e w' => e = .returned (.bool (sameT p l l')) ∧ ∃ q, w' = w.drewN q := by
  by_cases hnm : n = m
  · subst hnm
    obtain ⟨X, HX⟩ : ∃ X, Hid (sameT p l l' = X) := ⟨_, rfl⟩
    rw [HX.out]
    have H1 := Lib.hid h
    have H2 := Lib.hid h'
    clear h h'
    go_enter Tryd.func12, Tryd.ntmps12
    go_wp2
    go_loopw [7] (fun iv wr => ∃ i q : Nat, i ≤ n ∧ iv = .int .i64 (i : Nat) ∧ wr = w.drewN q ∧ Hid (sameT p (l.drop i) (l'.drop i) = X)) (fun iv _ => n - (intOf iv).toNat)
    case atStart => exact ⟨0, 0, Nat.zero_le _, rfl, rfl, HX⟩
    case round =>
      clear HX
      obtain ⟨i, q, hi, rfl, rfl, HI⟩ := hrel
      by_cases hlt : i < n
      · obtain ⟨b, o, x, rfl, _, hx, hc⟩ := H1.out.get hlt
        obtain ⟨b', o', y, rfl, _, hy, hc'⟩ := H2.out.get hlt
        obtain ⟨z0, z1, z2, z3⟩ := hc _ (Below.refl _ w)
        obtain ⟨y0, y1, y2, y3⟩ := hc' _ (Below.refl _ w)
        have hK := HI.out
        rw [hx, hy, sameT_cons] at hK
        have hlt' : (i : Int) < (n : Int) := by omega
        have hj0 : (0 : Int) ≤ (i : Int) := by omega
        obtain ⟨xk, xt, xa⟩ := x
        obtain ⟨yk, yt, ya⟩ := y
        clear HI hx hy hc hc'
        have hways : (decide (tkey p (xk, xt, xa) = tkey p (yk, yt, ya)) = false ∧ xk ≠ yk) ∨ (xk = yk ∧ decide (tkey p (xk, xt, xa) = tkey p (yk, yt, ya)) = false ∧ (xt.toList == yt.toList) = false) ∨
            (xk = yk ∧ (xt.toList == yt.toList) = true ∧ p = false ∧ decide (tkey p (xk, xt, xa) = tkey p (yk, yt, ya)) = true) ∨
            (xk = yk ∧ (xt.toList == yt.toList) = true ∧ p = true ∧ xa ≠ ya ∧ decide (tkey p (xk, xt, xa) = tkey p (yk, yt, ya)) = false) ∨
            (xk = yk ∧ (xt.toList == yt.toList) = true ∧ p = true ∧ xa = ya ∧ decide (tkey p (xk, xt, xa) = tkey p (yk, yt, ya)) = true) := by
          rw [ByteArray.toList_eq, ByteArray.toList_eq]
          by_cases e1 : xk = yk
          · subst e1
            refine .inr ?_
            by_cases e2 : xt.data.toList = yt.data.toList
            · refine .inr ?_
              have e2' := beq_iff_eq.2 e2
              cases p with
              | false => exact .inl ⟨rfl, e2', rfl, by simp [tkey, e2]⟩
              | true =>
                refine .inr ?_
                by_cases e3 : xa = ya
                · exact .inr ⟨rfl, e2', rfl, e3, by simp [tkey, e2, e3]⟩
                · exact .inl ⟨rfl, e2', rfl, e3, by simp [tkey, e2, e3]⟩
            · exact .inl ⟨rfl, by simp [tkey]; intro h; exact absurd (by rw [h]) e2, beq_eq_false_iff_ne.2 e2⟩
          · exact .inl ⟨by simp [tkey, e1], e1⟩
        rcases hways with ⟨ek, e1⟩ | ⟨rfl, ek, e2⟩ | ⟨rfl, e2, rfl, ek⟩ | ⟨rfl, e2, rfl, e3, ek⟩ | ⟨rfl, e2, rfl, rfl, ek⟩
        · rw [ek] at hK
          have hX : X = false := hK.symm
          have b1 : (xk != yk) = true := bne_iff_ne.2 e1
          have b2 : (xk == yk) = false := beq_eq_false_iff_ne.2 e1
          subst hX
          clear hK ek e1
          go_wp2
          go_quiet (fail)
          go_wp2
          go_ret
          exact ⟨rfl, _, World.drewN_drewN _ _ _⟩
        · rw [ek] at hK
          have hX : X = false := hK.symm
          have b1 : (xt.toList != yt.toList) = true := by rw [bne, e2]; rfl
          subst hX
          clear hK ek
          go_wp2
          go_quiet (fail)
          go_wp2
          go_ret
          exact ⟨rfl, _, World.drewN_drewN _ _ _⟩
        · rw [ek, Bool.true_and] at hK
          have HK := Lib.hid hK
          have b1 : (xt.toList != yt.toList) = false := by rw [bne, e2]; rfl
          clear hK ek
          go_wp2
          go_quiet (fail)
          go_wp2
          go_roundw
          case rel => exact ⟨i + 1, _, by omega, by go_num, rfl, HK⟩
          case measure => simp [intOf]; omega
        · rw [ek] at hK
          have hX : X = false := hK.symm
          have b1 : (xt.toList != yt.toList) = false := by rw [bne, e2]; rfl
          have b3 : (xa != ya) = true := bne_iff_ne.2 e3
          have b4 : (xa == ya) = false := beq_eq_false_iff_ne.2 e3
          subst hX
          clear hK ek e3
          go_wp2
          go_quiet (fail)
          go_wp2
          go_ret
          exact ⟨rfl, _, World.drewN_drewN _ _ _⟩
        · rw [ek, Bool.true_and] at hK
          have HK := Lib.hid hK
          have b1 : (xt.toList != yt.toList) = false := by rw [bne, e2]; rfl
          clear hK ek
          go_wp2
          go_quiet (fail)
          go_wp2
          go_roundw
          case rel => exact ⟨i + 1, _, by omega, by go_num, rfl, HK⟩
          case measure => simp [intOf]; omega
      · obtain rfl : i = n := by omega
        have hX : X = true := by
          have := HI.out
          rw [List.drop_of_length_le (by rw [H1.out.len]; exact Nat.le_refl _), List.drop_of_length_le (by rw [H2.out.len]; exact Nat.le_refl _)] at this
          exact this.symm
        subst hX
        clear HI
        go_wp2
        go_ret
        exact ⟨rfl, q, rfl⟩
  · have hX : sameT p l l' = false := by
      unfold sameT
      rw [decide_eq_false_iff_not]
      intro e
      have := congrArg List.length e
      rw [List.length_map, List.length_map, h.len, h'.len] at this
      exact hnm this
    rw [hX]
    have hb : ((n : Int) != (m : Int)) = true := by rw [bne_iff_ne]; omega
    have hb2 : ((n : Int) == (m : Int)) = false := beq_eq_false_iff_ne.2 (by omega)
    clear hX hnm h h'
    go_enter Tryd.func12, Tryd.ntmps12
    go_wp2
    go_ret
    exact ⟨rfl, 0, rfl⟩
end Go.Proofs.YtgnonopkefbhoaaDoor
