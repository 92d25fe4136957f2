/- The reference of scripts: Same. -/
import Derived.Test.YtpjdfogieiokkaaDoorR9
namespace Go.Proofs.YtpjdfogieiokkaaDoor
open Go.RowKit

abbrev ITok := Int × ByteArray × Int
/-- the slice of n tokens at A reads as l -/
structure TokS (w : World) (A : Option Addr) (n : Nat) (l : List ITok) : Prop where
  len : l.length = n
  at_ : 0 < n → ∃ b off, A = some ⟨b, off, none⟩ ∧ b < w.heap.size ∧ ∀ (i : Nat) (x : ITok), l[i]? = some x → w.cell? ⟨b, off + i * 3, none⟩ = some (.int .i64 x.1) ∧ w.cell? ⟨b, off + i * 3 + 1, none⟩ = some (.string x.2.1) ∧ w.cell? ⟨b, off + i * 3 + 2, none⟩ = some (.int .i64 x.2.2)
theorem TokS.below {w w' : World} {A : Option Addr} {n : Nat} {l : List ITok} (h : TokS w A n l) (hb : Below w.heap.size w w') : TokS w' A n l :=
  ⟨h.len, fun hn => by
    obtain ⟨b, off, e, hlt, hc⟩ := h.at_ hn
    exact ⟨b, off, e, Nat.lt_of_lt_of_le hlt hb.size, fun i x hx => ⟨(hb.cell (p := ⟨b, off + i * 3, none⟩) hlt).trans (hc i x hx).1, (hb.cell (p := ⟨b, off + i * 3 + 1, none⟩) hlt).trans (hc i x hx).2.1, (hb.cell (p := ⟨b, off + i * 3 + 2, none⟩) hlt).trans (hc i x hx).2.2⟩⟩⟩
theorem TokS.get {w : World} {A : Option Addr} {n i : Nat} {l : List ITok} (h : TokS w A n l) (hi : i < n) :
    ∃ b off x, A = some ⟨b, off, none⟩ ∧ l[i]? = some x ∧ l.drop i = x :: l.drop (i + 1) ∧ ∀ W, Below w.heap.size w W → b < W.heap.size ∧ W.cell? ⟨b, off + i * 3, none⟩ = some (.int .i64 x.1) ∧ W.cell? ⟨b, off + i * 3 + 1, none⟩ = some (.string x.2.1) ∧ W.cell? ⟨b, off + i * 3 + 2, none⟩ = some (.int .i64 x.2.2) := by
  obtain ⟨b, off, e, hlt, hc⟩ := h.at_ (by omega)
  have hi' : i < l.length := by rw [h.len]; exact hi
  refine ⟨b, off, l[i], e, List.getElem?_eq_getElem hi', List.drop_eq_getElem_cons hi', fun W hW => ?_⟩
  have := (hc i _ (List.getElem?_eq_getElem hi'))
  exact ⟨Nat.lt_of_lt_of_le hlt hW.size, (hW.cell (p := ⟨b, off + i * 3, none⟩) hlt).trans this.1, (hW.cell (p := ⟨b, off + i * 3 + 1, none⟩) hlt).trans this.2.1, (hW.cell (p := ⟨b, off + i * 3 + 2, none⟩) hlt).trans this.2.2⟩
/-- with its place in an int -/
def toI (x : MTok) : ITok := (x.1, x.2.1, (x.2.2 : Int))
theorem tks_get : ∀ (l : List MTok) (i : Nat) (x : MTok), l[i]? = some x → (tksOf l)[i * 3]? = some (.int .i64 x.1) ∧ (tksOf l)[i * 3 + 1]? = some (.string x.2.1) ∧ (tksOf l)[i * 3 + 2]? = some (.int .i64 (x.2.2 : Nat))
  | [], i, x, h => by simp at h
  | y :: l, 0, x, h => by
    obtain rfl : y = x := by simpa using h
    simp [tksOf]
  | y :: l, i + 1, x, h => by
    obtain ⟨h1, h2, h3⟩ := tks_get l i x (by simpa using h)
    have e : ∀ j, (tksOf (y :: l))[(i + 1) * 3 + j]? = (tksOf l)[i * 3 + j]? := fun j => by
      rw [tksOf, List.flatMap_cons, show (i + 1) * 3 + j = (tcells y).length + (i * 3 + j) by simp; omega, List.getElem?_append_right (by omega), Nat.add_sub_cancel_left]
    exact ⟨(e 0).trans h1, (e 1).trans h2, (e 2).trans h3⟩
theorem OwnL.toks {w : World} {B : Nat} {A : Option Addr} {c : Nat} {l : List MTok} (h : OwnL w B A c l) : TokS w A l.length (l.map toI) := by
  refine ⟨by rw [List.length_map], fun hn => ?_⟩
  rcases h.2 with ⟨_, h0⟩ | ⟨g, cap, cur, e, _, hg, _⟩
  · omega
  · injection e with e1 e2 e3
    subst e1
    refine ⟨g, 0, rfl, (Array.getElem?_eq_some_iff.1 hg).1, fun i x hx => ?_⟩
    rw [List.getElem?_map] at hx
    obtain ⟨y, hy, rfl⟩ := Option.map_eq_some_iff.1 hx
    obtain ⟨q1, q2, q3⟩ := tks_get l i y hy
    have r := fun j u (hu : (tksOf l)[j]? = some u) => h.cells (g := g) rfl j u hu
    have a : ∀ j, (⟨g, 0, none⟩ : Addr).add j = ⟨g, 0 + j, none⟩ := fun j => addr_add g 0 j
    have r1 := r _ _ q1
    have r2 := r _ _ q2
    have r3 := r _ _ q3
    rw [a] at r1 r2 r3
    exact ⟨r1, by rw [Nat.add_assoc]; exact r2, by rw [Nat.add_assoc]; exact r3⟩

/-- what of a token is compared -/
def tkey (p : Bool) (x : ITok) : Int × List UInt8 × Int := (x.1, x.2.1.data.toList, if p then x.2.2 else 0)
def sameT (p : Bool) (l m : List ITok) : Bool := decide (l.map (tkey p) = m.map (tkey p))
theorem sameT_cons (p : Bool) (x y : ITok) (l m : List ITok) : sameT p (x :: l) (y :: m) = (decide (tkey p x = tkey p y) && sameT p l m) := by
  unfold sameT
  rw [List.map_cons, List.map_cons, ← Bool.decide_and]
  congr 1
  simp

end Go.Proofs.YtpjdfogieiokkaaDoor
