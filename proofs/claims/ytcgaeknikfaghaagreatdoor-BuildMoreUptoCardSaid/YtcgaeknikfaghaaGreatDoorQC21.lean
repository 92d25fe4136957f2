/- What the proofs of this claim use, text by text. -/
import Derived.Test.YtcgaeknikfaghaaGreatDoorQC20
import Derived.WalkSmall
import Derived.Laws.OwnMore
import Derived.Deep.RegionLaw
set_option linter.unusedSimpArgs false
set_option linter.unusedVariables false
set_option maxRecDepth 100000
set_option maxHeartbeats 25600000
namespace Go.Proofs.YtcgaeknikfaghaaGreatDoor
open Go.RowKit
def ScAs (w : World) (G : Nat → Prop) (v : Value) (x : Scp) : Prop :=
  (v = .map none ∧ x.terms = []) ∨ ∃ b q D, v = .map (some b) ∧ G b ∧ w.ownsMap Tryz.prog 9 (plainElem (H := Unit) Tryz.prog 3) b q D ∧ TellS D (Bd.bound x.terms)
theorem ScAs.turn {F G G' : Nat → Prop} {w w' : World} {v : Value} {x : Scp} (h : ScAs w G v x) (ht : Turn F w w') (hG : ∀ k, k < w.heap.size → G k → ¬ F k ∧ G' k) : ScAs w' G' v x := by
  rcases h with h | ⟨b, q, D, h1, h2, h3, h4⟩
  · exact .inl h
  · exact .inr ⟨b, q, D, h1, (hG b h3.lt h2).2, ht.map h3 (hG b h3.lt h2).1, h4⟩
theorem ScAs.look {w : World} {G : Nat → Prop} {v : Value} {x : Scp} (h : ScAs w G v x) (s : ByteArray) (hs : s.size ≤ maxLen) :
    (Instr.lookup 98 v (.string s) true).run Tryz.prog w = .ok (.tuple #[.int .i64 ((Bd.bound x.terms s).getD 0), .bool (Bd.bound x.terms s).isSome]) w := by
  rcases h with ⟨rfl, h⟩ | ⟨b, q, D, rfl, _, h3, h4⟩
  · rw [h]
    exact lookS_nil w s hs
  · exact lookS h3 h4 s hs
def ThAs (w : World) (G : Nat → Prop) (M : Nat) (v : Value) : Kt → Prop
  | .none => v = .nilFunc
  | .op o => ∃ b1 b2, v = .func (.func 161) #[] #[.pointer (some ⟨b1, 0, none⟩), .pointer (some ⟨b2, 0, none⟩)] ∧ G b1 ∧ G b2 ∧ Lies w b1 74 #[.pointer (some ⟨M, 0, none⟩)] ∧ Lies w b2 3 #[.int .i64 o]
  | .fn j => ∃ b1 b2, v = .func (.func 165) #[] #[.pointer (some ⟨b1, 0, none⟩), .pointer (some ⟨b2, 0, none⟩)] ∧ G b1 ∧ G b2 ∧ Lies w b1 74 #[.pointer (some ⟨M, 0, none⟩)] ∧ Lies w b2 218 #[.int .i64 2, .int .i64 (j : Int)]
  | .bind names t => ∃ b1 b2 b3 nA nc pA pc bx, v = .func (.func 186) #[] #[.pointer (some ⟨b1, 0, none⟩), .pointer (some ⟨b2, 0, none⟩), .pointer (some ⟨b3, 0, none⟩)] ∧ G b1 ∧ G b2 ∧ G b3 ∧
      Lies w b1 74 #[.pointer (some ⟨M, 0, none⟩)] ∧ Lies w b2 88 #[.slice nA names.length nc] ∧ Rd w G nA names.length nc (names.map .string) ∧ Lies w b3 25 #[.slice pA 2 pc] ∧ TreeL w (fun b _ => G b) pA [bx, t] ∧ 2 ≤ pc ∧ pc ≤ maxLen
  | .first => v = .func (.func 187) #[.pointer (some ⟨M, 0, none⟩)] #[]
  | .memo j A => ∃ b1 b2, v = .func (.func 195) #[] #[.pointer (some ⟨b1, 0, none⟩), .pointer (some ⟨b2, 0, none⟩)] ∧ G b1 ∧ G b2 ∧ Lies w b1 74 #[.pointer (some ⟨M, 0, none⟩)] ∧ Lies w b2 9 #[.string (Mk.key j A)]
theorem Rd.turn9 {F G G' : Nat → Prop} {w w' : World} {A : Option Addr} {n c : Nat} {xs : List Value} (h : Rd w G A n c xs) (ht : Turn F w w') (hG : ∀ k, k < w.heap.size → G k → ¬ F k ∧ G' k) : Rd w' G' A n c xs :=
  (h.mono (G' := fun k => G k ∧ k < w.heap.size) fun _ hb hg => ⟨hg, hb⟩).turn ht (fun b hb hg => (hG b hb hg.1).1) |>.mono fun b _ hg => (hG b hg.2 hg.1).2
theorem ThAs.turn {F G G' : Nat → Prop} {w w' : World} {M : Nat} {v : Value} {th : Kt} (h : ThAs w G M v th) (ht : Turn F w w') (hG : ∀ k, k < w.heap.size → G k → ¬ F k ∧ G' k) : ThAs w' G' M v th := by
  have hl : ∀ {b : Nat} {t : TypeId} {cs : Array Value}, G b → Lies w b t cs → G' b ∧ Lies w' b t cs := fun hg hb => ⟨(hG _ hb.lt hg).2, ht.lies hb (hG _ hb.lt hg).1⟩
  cases th with
  | none => exact h
  | first => exact h
  | op o =>
    obtain ⟨b1, b2, h1, h2, h3, h4, h5⟩ := h
    exact ⟨b1, b2, h1, (hl h2 h4).1, (hl h3 h5).1, (hl h2 h4).2, (hl h3 h5).2⟩
  | fn j =>
    obtain ⟨b1, b2, h1, h2, h3, h4, h5⟩ := h
    exact ⟨b1, b2, h1, (hl h2 h4).1, (hl h3 h5).1, (hl h2 h4).2, (hl h3 h5).2⟩
  | memo j A =>
    obtain ⟨b1, b2, h1, h2, h3, h4, h5⟩ := h
    exact ⟨b1, b2, h1, (hl h2 h4).1, (hl h3 h5).1, (hl h2 h4).2, (hl h3 h5).2⟩
  | bind names t =>
    obtain ⟨b1, b2, b3, nA, nc, pA, pc, bx, h1, h2, h3, h4, h5, h6, h7, h8, h9, h10⟩ := h
    exact ⟨b1, b2, b3, nA, nc, pA, pc, bx, h1, (hl h2 h5).1, (hl h3 h6).1, (hl h4 h8).1, (hl h2 h5).2, (hl h3 h6).2, h7.turn9 ht hG, (hl h4 h8).2, h9.turn9 ht hG, h10⟩
structure FrP where
  pA : Option Addr
  pc : Nat
  iA : Option Addr
  ic : Nat
  v : Value
abbrev fcells (q : FrP × Fr) : List Value := [.slice q.1.pA q.2.parts.length q.1.pc, .slice q.1.iA q.2.ids.length q.1.ic, q.1.v, .int .i64 (q.2.sc : Int), .int .i64 (q.2.dp : Int)]
abbrev scells9 (q : Value × Scp) : List Value := [q.1, .bool q.2.body, .int .i64 (q.2.ahead : Int)]
structure FrAs (w : World) (G : Nat → Prop) (M : Nat) (P : FrP) (f : Fr) : Prop where
  le : f.parts.length ≤ P.pc ∧ P.pc ≤ maxLen
  tree : TreeL w (fun b _ => G b) P.pA f.parts
  th : ThAs w G M P.v f.th
theorem FrAs.turn {F G G' : Nat → Prop} {w w' : World} {M : Nat} {P : FrP} {f : Fr} (h : FrAs w G M P f) (ht : Turn F w w') (hG : ∀ k, k < w.heap.size → G k → ¬ F k ∧ G' k) : FrAs w' G' M P f := ⟨h.le, h.tree.turn9 ht hG, h.th.turn ht hG⟩
structure Mk.Env where
  w0 : World
  A : Option Addr
  n : Nat
  c : Nat
  L : List (DcP × Dc)
  v : World
  P : Nat → Prop
  pb : Nat
  bk : Nat
abbrev Mk.Env.D (E : Mk.Env) : List Dc := E.L.map (·.2)
structure Mk.Lay where
  mb : Nat
  sA : Option Addr
  sc : Nat
  fA : Option Addr
  fc : Nat
  Fb : Nat → Prop
  SL : List (Value × Scp)
  FL : List (FrP × Fr)
abbrev blkOf (A : Option Addr) : Option Nat := (Value.slice A 0 0).ownBlock
theorem blk_eq (A : Option Addr) (n c : Nat) : (Value.slice A n c).ownBlock = blkOf A := by cases A <;> rfl
def Mk.foot (M : Nat) (Y : Mk.Lay) (k : Nat) : Prop := k = M ∨ Y.Fb k ∨ k = Y.mb ∨ blkOf Y.sA = some k ∨ blkOf Y.fA = some k ∨ ∃ q ∈ Y.FL, blkOf q.1.iA = some k
structure Mk.Rep (E : Mk.Env) (w : World) (M : Nat) (Y : Mk.Lay) (s : Ms) : Prop where
  base : Below E.w0.heap.size E.w0 w
  low : ∀ k, Mk.foot M Y k → E.w0.heap.size ≤ k
  own : Lies w M 124 #[.pointer (some ⟨E.bk, 0, none⟩), .slice E.A E.n E.c, .map (some E.pb), .map (some Y.mb), .slice Y.sA s.sc.length Y.sc, .slice Y.fA s.fr.length Y.fc]
  bank : Bk w E.bk Y.Fb s.N
  made : MadeM w Y.mb s.made
  srow : w.ownsRow 0 127 3 (.slice Y.sA s.sc.length Y.sc) s.sc.length (Y.SL.flatMap scells9)
  sl : Y.SL.map (·.2) = s.sc
  sas : ∀ q ∈ Y.SL, ScAs w (fun k => ¬ Mk.foot M Y k) q.1 q.2
  frow : w.ownsRow 0 130 5 (.slice Y.fA s.fr.length Y.fc) s.fr.length (Y.FL.flatMap fcells)
  fl : Y.FL.map (·.2) = s.fr
  fas : ∀ q ∈ Y.FL, FrAs w (fun k => ¬ Mk.foot M Y k) M q.1 q.2
  ids : ∀ q ∈ Y.FL, w.ownsRow 0 3 1 (.slice q.1.iA q.2.ids.length q.1.ic) q.2.ids.length (i64s q.2.ids)
  apart : Y.FL.Pairwise fun p q => ∀ g, blkOf p.1.iA = some g → blkOf q.1.iA ≠ some g
  xM : ¬ Y.Fb M
  xm : ¬ Y.Fb Y.mb
  xs : ∀ g, blkOf Y.sA = some g → ¬ Y.Fb g
  xf : ∀ g, blkOf Y.fA = some g → ¬ Y.Fb g
  xi : ∀ q ∈ Y.FL, ∀ g, blkOf q.1.iA = some g → ¬ Y.Fb g
  pl : Turn (fun k => ¬ E.P k) E.v w
  plx : ∀ k, E.P k → k < E.v.heap.size → ¬ Mk.foot M Y k
section
variable {E : Mk.Env} {w w' : World} {M : Nat} {Y : Mk.Lay} {s : Ms}
theorem Mk.Rep.lt (h : Mk.Rep E w M Y s) : ∀ k, Mk.foot M Y k → k < w.heap.size := by
  intro k hk
  rcases hk with rfl | hk | rfl | hk | hk | ⟨q, hq, hk⟩
  · exact h.own.lt
  · exact h.bank.lt k hk
  · obtain ⟨⟨D, ho, _⟩, _⟩ := h.made
    exact ho.lt
  · exact (h.srow.lt k (by rw [blk_eq]; exact hk)).2
  · exact (h.frow.lt k (by rw [blk_eq]; exact hk)).2
  · exact ((h.ids q hq).lt k (by rw [blk_eq]; exact hk)).2
theorem Mk.Rep.M_s (h : Mk.Rep E w M Y s) : blkOf Y.sA ≠ some M := fun e => own_not_lies h.srow h.own (by decide) (by rw [blk_eq]; exact e)
theorem Mk.Rep.M_f (h : Mk.Rep E w M Y s) : blkOf Y.fA ≠ some M := fun e => own_not_lies h.frow h.own (by decide) (by rw [blk_eq]; exact e)
theorem Mk.Rep.M_i (h : Mk.Rep E w M Y s) {q : FrP × Fr} (hq : q ∈ Y.FL) : blkOf q.1.iA ≠ some M := fun e => own_not_lies (h.ids q hq) h.own (by decide) (by rw [blk_eq]; exact e)
theorem Mk.Rep.M_m (h : Mk.Rep E w M Y s) : M ≠ Y.mb := by
  obtain ⟨⟨D, ho, _⟩, _⟩ := h.made
  exact lies_not_map h.own ho
theorem Mk.Rep.m_s (h : Mk.Rep E w M Y s) : blkOf Y.sA ≠ some Y.mb := by
  obtain ⟨⟨D, ho, _⟩, _⟩ := h.made
  exact fun e => own_not_map h.srow ho (by rw [blk_eq]; exact e)
theorem Mk.Rep.m_f (h : Mk.Rep E w M Y s) : blkOf Y.fA ≠ some Y.mb := by
  obtain ⟨⟨D, ho, _⟩, _⟩ := h.made
  exact fun e => own_not_map h.frow ho (by rw [blk_eq]; exact e)
theorem Mk.Rep.m_i (h : Mk.Rep E w M Y s) {q : FrP × Fr} (hq : q ∈ Y.FL) : blkOf q.1.iA ≠ some Y.mb := by
  obtain ⟨⟨D, ho, _⟩, _⟩ := h.made
  exact fun e => own_not_map (h.ids q hq) ho (by rw [blk_eq]; exact e)
theorem Mk.Rep.s_f (h : Mk.Rep E w M Y s) {g : Nat} (hg : blkOf Y.sA = some g) : blkOf Y.fA ≠ some g := fun e => own_apart h.srow h.frow (by decide) g (by rw [blk_eq]; exact hg) (by rw [blk_eq]; exact e)
theorem Mk.Rep.s_i (h : Mk.Rep E w M Y s) {q : FrP × Fr} (hq : q ∈ Y.FL) {g : Nat} (hg : blkOf Y.sA = some g) : blkOf q.1.iA ≠ some g := fun e => own_apart h.srow (h.ids q hq) (by decide) g (by rw [blk_eq]; exact hg) (by rw [blk_eq]; exact e)
theorem Mk.Rep.f_i (h : Mk.Rep E w M Y s) {q : FrP × Fr} (hq : q ∈ Y.FL) {g : Nat} (hg : blkOf Y.fA = some g) : blkOf q.1.iA ≠ some g := fun e => own_apart h.frow (h.ids q hq) (by decide) g (by rw [blk_eq]; exact hg) (by rw [blk_eq]; exact e)
theorem Mk.Rep.below (h : Mk.Rep E w M Y s) (hb : Below w.heap.size w w') : Mk.Rep E w' M Y s := by
  have ht : Turn (fun _ => False) w w' := Turn.of_below hb
  have hG : ∀ k, k < w.heap.size → ¬ Mk.foot M Y k → ¬ False ∧ ¬ Mk.foot M Y k := fun k _ h => ⟨id, h⟩
  exact ⟨h.base.trans (hb.mono h.base.size), h.low, ht.lies h.own id, h.bank.below hb, h.made.turn ht id, ht.own h.srow (fun _ _ => id), h.sl, fun q hq => (h.sas q hq).turn ht hG, ht.own h.frow (fun _ _ => id), h.fl,
    fun q hq => (h.fas q hq).turn ht hG, fun q hq => ht.own (h.ids q hq) (fun _ _ => id), h.apart, h.xM, h.xm, h.xs, h.xf, h.xi, h.pl.trans ht (fun _ e => e.elim), h.plx⟩
theorem Mk.Rep.drew (h : Mk.Rep E w M Y s) : Mk.Rep E w.drew M Y s := h.below ⟨rfl, rfl, rfl, Nat.le_refl _, fun _ _ => rfl⟩
theorem Mk.Rep.alloc (h : Mk.Rep E w M Y s) (o : Obj) : Mk.Rep E (w.alloc o) M Y s := h.below ((Below.refl _ w).alloc (Nat.le_refl _) o)
end
def Mk.Left (E : Mk.Env) (w : World) (M : Nat) (Y : Mk.Lay) (s' : Ms) (w' : World) : Prop := ∃ Y', Mk.Rep E w' M Y' s' ∧ Turn (Mk.foot M Y) w w' ∧ ∀ k, Mk.foot M Y' k → Mk.foot M Y k ∨ w.heap.size ≤ k
def Mk.Ans (E : Mk.Env) (w : World) (M : Nat) (Y : Mk.Lay) (r : Ms × Int) (e : Ending) (w' : World) : Prop := e = .returned (.int .i64 r.2) ∧ Mk.Left E w M Y r.1 w'
theorem Mk.Left.after {E : Mk.Env} {w w1 w2 : World} {M : Nat} {Y Y1 : Mk.Lay} {s' : Ms} (h : Mk.Left E w1 M Y1 s' w2) (ht : Turn (Mk.foot M Y) w w1) (hY : ∀ k, Mk.foot M Y1 k → Mk.foot M Y k ∨ w.heap.size ≤ k) : Mk.Left E w M Y s' w2 := by
  obtain ⟨Y2, h1, h2, h3⟩ := h
  exact ⟨Y2, h1, ht.trans h2 hY, fun k hk => (h3 k hk).elim (hY k) fun e => .inr (Nat.le_trans ht.size e)⟩
theorem Mk.Left.up {E : Mk.Env} {w W w' : World} {M : Nat} {Y : Mk.Lay} {s' : Ms} (h : Mk.Left E W M Y s' w') (hb : Below w.heap.size w W) : Mk.Left E w M Y s' w' := h.after (Turn.of_below hb) fun _ => .inl
theorem Mk.Left.same {E : Mk.Env} {w w1 : World} {M : Nat} {Y : Mk.Lay} {s : Ms} (h : Mk.Rep E w M Y s) (hb : Below w.heap.size w w1) : Mk.Left E w M Y s w1 := ⟨Y, h.below hb, Turn.of_below hb, fun _ => .inl⟩
theorem Mk.Ans.up {E : Mk.Env} {w W w' : World} {M : Nat} {Y : Mk.Lay} {r : Ms × Int} {e : Ending} (h : Mk.Ans E W M Y r e w') (hb : Below w.heap.size w W) : Mk.Ans E w M Y r e w' := ⟨h.1, h.2.up hb⟩
theorem map_snoc {α β : Type} {f : α → β} {l : List α} {bs : List β} {b : β} (h : l.map f = bs ++ [b]) : ∃ l' a, l = l' ++ [a] ∧ l'.map f = bs ∧ f a = b := by
  obtain ⟨l1, l2, rfl, h1, h2⟩ := List.map_eq_append_iff.1 h
  obtain ⟨a, rfl, h3⟩ := List.map_eq_singleton_iff.1 h2
  exact ⟨l1, a, rfl, h1, h3⟩
theorem fc_len (L : List (FrP × Fr)) : (L.flatMap fcells).length = L.length * 5 := flat_len (k := 5) (fun _ => rfl) L
theorem sc_len (L : List (Value × Scp)) : (L.flatMap scells9).length = L.length * 3 := flat_len (k := 3) (fun _ => rfl) L
theorem ownsRow_cut {w : World} {base : Nat} {e : TypeId} {size n k : Nat} {A : Option Addr} {c : Nat} {xs : List Value} (h : w.ownsRow base e size (.slice A n c) n xs) (hk : k ≤ n) : w.ownsRow base e size (.slice A k c) k (xs.take (k * size)) := by
  obtain ⟨h1, h2⟩ := h
  have hl : (xs.take (k * size)).length = k * size := by rw [List.length_take, h1]; exact Nat.min_eq_left (Nat.mul_le_mul_right _ hk)
  rcases h2 with ⟨h0, rfl⟩ | ⟨g, cap, cur, hv, hg, hh, hn, hcap, hsz, htake⟩
  · obtain rfl : k = 0 := by omega
    injection h0 with e1 _ e3
    subst e1
    subst e3
    exact ⟨hl, .inl ⟨rfl, rfl⟩⟩
  · injection hv with e1 _ e3
    subst e1
    subst e3
    refine ⟨hl, .inr ⟨g, c, cur, rfl, hg, hh, by omega, hcap, hsz, ?_⟩⟩
    rw [← htake, List.take_take, Nat.min_eq_left (Nat.mul_le_mul_right _ hk)]
section
variable {E : Mk.Env} {w w' : World} {M : Nat} {Y Y' : Mk.Lay} {s : Ms}
theorem Mk.Rep.outer (h : Mk.Rep E w M Y s) (hT : Turn (Mk.foot M Y) w w') (hY : ∀ k, Mk.foot M Y' k → Mk.foot M Y k ∨ w.heap.size ≤ k) :
    Below E.w0.heap.size E.w0 w' ∧ (∀ k, Mk.foot M Y' k → E.w0.heap.size ≤ k) ∧ Turn (fun k => ¬ E.P k) E.v w' ∧ (∀ k, E.P k → k < E.v.heap.size → ¬ Mk.foot M Y' k) ∧
    ∀ k, k < w.heap.size → ¬ Mk.foot M Y k → ¬ Mk.foot M Y k ∧ ¬ Mk.foot M Y' k := by
  refine ⟨h.base.trans (hT.below h.base.size h.low), fun k hk => ?_, h.pl.trans hT (fun i hi => (Nat.lt_or_ge i E.v.heap.size).elim (fun hl => .inl fun e => h.plx i e hl hi) .inr), fun k h1 h2 hk => ?_, fun k hlt hk => ⟨hk, fun e => (hY k e).elim hk fun e2 => by omega⟩⟩
  · exact (hY k hk).elim (h.low k) fun e => Nat.le_trans h.base.size e
  · rcases hY k hk with e | e
    · exact h.plx k h1 h2 e
    · have := h.pl.size
      omega
theorem Mk.Rep.bankd (h : Mk.Rep E w M Y s) {N' : List Nd} {Fb' : Nat → Prop} (hT : Turn Y.Fb w w') (hB : Bk w' E.bk Fb' N') (hF : ∀ k, Fb' k → Y.Fb k ∨ w.heap.size ≤ k) : Mk.Left E w M Y { s with N := N' } w' := by
  have hT' : Turn (Mk.foot M Y) w w' := hT.mono fun i _ hi => .inr (.inl hi)
  have hY : ∀ k, Mk.foot M { Y with Fb := Fb' } k → Mk.foot M Y k ∨ w.heap.size ≤ k := fun k hk => by
    rcases hk with e | e | e
    · exact .inl (.inl e)
    · exact (hF k e).imp (fun e => .inr (.inl e)) id
    · exact .inl (.inr (.inr e))
  obtain ⟨o1, o2, o3, o4, o5⟩ := h.outer hT' hY
  have hG : ∀ k, k < w.heap.size → ¬ Mk.foot M Y k → ¬ Y.Fb k ∧ ¬ Mk.foot M { Y with Fb := Fb' } k := fun k hlt hk => ⟨fun e => hk (.inr (.inl e)), (o5 k hlt hk).2⟩
  have hx : ∀ k, k < w.heap.size → ¬ Y.Fb k → ¬ Fb' k := fun k hlt hk e => (hF k e).elim hk fun e => by omega
  have hm := h.made.own
  exact ⟨{ Y with Fb := Fb' }, ⟨o1, o2, hT.lies h.own h.xM, hB, h.made.turn hT h.xm, hT.own h.srow (fun g hg => h.xs g (by rw [blk_eq] at hg; exact hg)), h.sl, fun q hq => (h.sas q hq).turn hT hG,
    hT.own h.frow (fun g hg => h.xf g (by rw [blk_eq] at hg; exact hg)), h.fl, fun q hq => (h.fas q hq).turn hT hG, fun q hq => hT.own (h.ids q hq) (fun g hg => h.xi q hq g (by rw [blk_eq] at hg; exact hg)), h.apart,
    hx M (h.lt M (.inl rfl)) h.xM, hx Y.mb (h.lt Y.mb (.inr (.inr (.inl rfl)))) h.xm, fun g hg => hx g (h.lt g (.inr (.inr (.inr (.inl hg))))) (h.xs g hg), fun g hg => hx g (h.lt g (.inr (.inr (.inr (.inr (.inl hg)))))) (h.xf g hg),
    fun q hq g hg => hx g (h.lt g (.inr (.inr (.inr (.inr (.inr ⟨q, hq, hg⟩)))))) (h.xi q hq g hg), o3, o4⟩, hT', hY⟩
theorem Mk.Rep.push (h : Mk.Rep E w M Y s) {w2 : World} {A2 : Option Addr} {c2 : Nat} {P : FrP} {f : Fr} (hg : w.grownBy w2 (blkOf Y.fA))
    (ho : w2.ownsRow 0 130 5 (.slice A2 (s.fr.length + 1) c2) (s.fr.length + 1) (Y.FL.flatMap fcells ++ fcells (P, f))) (hl : blkOf A2 = blkOf Y.fA ∨ blkOf A2 = some w.heap.size)
    (hP : FrAs w (fun k => ¬ Mk.foot M Y k) M P f) (hi : P.iA = none ∧ P.ic = 0 ∧ f.ids = []) : Mk.Left E w M Y { s with fr := s.fr ++ [f] } (w2.setCell ⟨M, 5, none⟩ (.slice A2 (s.fr.length + 1) c2)) := by
  obtain ⟨i1, i2, i3⟩ := hi
  have t1 : Turn (fun k => blkOf Y.fA = some k) w w2 := Turn.of_grown hg fun _ e _ => e
  have hlM : blkOf A2 ≠ some M := fun e => by
    rcases hl with e2 | e2
    · exact h.M_f (e2 ▸ e)
    · rw [e2] at e
      have := h.lt M (.inl rfl)
      have := Option.some.inj e
      omega
  have t2 : Turn (fun k => k = M ∨ blkOf Y.fA = some k) w (w2.setCell ⟨M, 5, none⟩ (.slice A2 (s.fr.length + 1) c2)) := (t1.mono fun i _ hi => .inr hi).put (p := ⟨M, 5, none⟩) (.inl (.inl rfl)) _
  have hT' : Turn (Mk.foot M Y) w (w2.setCell ⟨M, 5, none⟩ (.slice A2 (s.fr.length + 1) c2)) := t2.mono fun i _ hi => hi.elim .inl fun e => .inr (.inr (.inr (.inr (.inl e))))
  have hY : ∀ k, Mk.foot M { Y with fA := A2, fc := c2, FL := Y.FL ++ [(P, f)] } k → Mk.foot M Y k ∨ w.heap.size ≤ k := fun k hk => by
    rcases hk with e | e | e | e | e | ⟨q, hq, e⟩
    · exact .inl (.inl e)
    · exact .inl (.inr (.inl e))
    · exact .inl (.inr (.inr (.inl e)))
    · exact .inl (.inr (.inr (.inr (.inl e))))
    · rcases hl with e2 | e2
      · exact .inl (.inr (.inr (.inr (.inr (.inl (e2 ▸ e))))))
      · have e : blkOf A2 = some k := e
        rw [e2] at e
        have := Option.some.inj e
        exact .inr (by omega)
    · rcases List.mem_append.1 hq with hq | hq
      · exact .inl (.inr (.inr (.inr (.inr (.inr ⟨q, hq, e⟩)))))
      · rw [List.mem_singleton.1 hq] at e
        simp only [i1] at e
        cases e
  obtain ⟨o1, o2, o3, o4, o5⟩ := h.outer hT' hY
  have hG : ∀ k, k < w.heap.size → ¬ Mk.foot M Y k → ¬ (k = M ∨ blkOf Y.fA = some k) ∧ ¬ Mk.foot M { Y with fA := A2, fc := c2, FL := Y.FL ++ [(P, f)] } k := fun k hlt hk => ⟨fun e => hk (e.elim .inl fun e => .inr (.inr (.inr (.inr (.inl e))))), (o5 k hlt hk).2⟩
  have hsl : ∀ g, (Value.slice Y.sA s.sc.length Y.sc).ownBlock = some g → ¬ (g = M ∨ blkOf Y.fA = some g) := fun g hg e => by
    rw [blk_eq] at hg
    exact e.elim (fun e => h.M_s (e ▸ hg)) (h.s_f hg)
  have hil : ∀ q ∈ Y.FL, ∀ g, (Value.slice q.1.iA q.2.ids.length q.1.ic).ownBlock = some g → ¬ (g = M ∨ blkOf Y.fA = some g) := fun q hq g hg e => by
    rw [blk_eq] at hg
    exact e.elim (fun e => h.M_i hq (e ▸ hg)) fun e => h.f_i hq e hg
  have ho2 := (Turn.refl (fun k => k = M) w2).put (p := ⟨M, 5, none⟩) (.inl rfl) (.slice A2 (s.fr.length + 1) c2) |>.own ho (fun g hg e => hlM (by rw [blk_eq] at hg; exact e ▸ hg))
  have hmk := (t1.lies h.own h.M_f).put 5 (.slice A2 (s.fr.length + 1) c2)
  have hle : (s.fr ++ [f]).length = s.fr.length + 1 := by simp
  refine ⟨{ Y with fA := A2, fc := c2, FL := Y.FL ++ [(P, f)] }, ⟨o1, o2, by rw [hle]; exact hmk, h.bank.turn t2 (fun k hk e => e.elim (fun e => h.xM (e ▸ hk)) fun e => h.xf k e hk), h.made.turn t2 (fun e => e.elim (fun e => h.M_m e.symm) h.m_f),
    t2.own h.srow hsl, h.sl, fun q hq => (h.sas q hq).turn t2 hG, ?_, by rw [List.map_append, h.fl]; rfl, fun q hq => ?_, fun q hq => ?_, ?_, h.xM, h.xm, h.xs, fun g hg => ?_, fun q hq g hg => ?_, o3, o4⟩, hT', hY⟩
  · rw [hle]
    show World.ownsRow _ 0 _ 5 _ _ ((Y.FL ++ [(P, f)]).flatMap fcells)
    rw [List.flatMap_append]
    exact ho2
  · rcases List.mem_append.1 hq with hq | hq
    · exact (h.fas q hq).turn t2 hG
    · rw [List.mem_singleton.1 hq]
      exact hP.turn t2 hG
  · rcases List.mem_append.1 hq with hq | hq
    · exact t2.own (h.ids q hq) (hil q hq)
    · rw [List.mem_singleton.1 hq]
      show World.ownsRow _ 0 _ 1 (.slice P.iA f.ids.length P.ic) _ _
      rw [i1, i2, i3]
      exact World.ownsRow_nil _ _ _ _
  · rw [List.pairwise_append]
    refine ⟨h.apart, List.pairwise_singleton _ _, fun p _ q hq g _ e => ?_⟩
    rw [List.mem_singleton.1 hq] at e
    simp only [i1] at e
    cases e
  · rcases hl with e | e
    · exact h.xf g (e ▸ hg)
    · have hg : blkOf A2 = some g := hg
      rw [e] at hg
      intro hb
      have := h.bank.lt g hb
      have := Option.some.inj hg
      omega
  · rcases List.mem_append.1 hq with hq | hq
    · exact h.xi q hq g hg
    · rw [List.mem_singleton.1 hq] at hg
      simp only [i1] at hg
      cases hg
theorem Mk.Rep.scope (h : Mk.Rep E w M Y s) {w2 : World} {A2 : Option Addr} {c2 : Nat} {v : Value} {x : Scp} (hg : w.grownBy w2 (blkOf Y.sA))
    (ho : w2.ownsRow 0 127 3 (.slice A2 (s.sc.length + 1) c2) (s.sc.length + 1) (Y.SL.flatMap scells9 ++ scells9 (v, x))) (hl : blkOf A2 = blkOf Y.sA ∨ blkOf A2 = some w.heap.size)
    (hP : ScAs w (fun k => ¬ Mk.foot M Y k) v x) : Mk.Left E w M Y { s with sc := s.sc ++ [x] } (w2.setCell ⟨M, 4, none⟩ (.slice A2 (s.sc.length + 1) c2)) := by
  have t1 : Turn (fun k => blkOf Y.sA = some k) w w2 := Turn.of_grown hg fun _ e _ => e
  have hlM : blkOf A2 ≠ some M := fun e => by
    rcases hl with e2 | e2
    · exact h.M_s (e2 ▸ e)
    · rw [e2] at e
      have := h.lt M (.inl rfl)
      have := Option.some.inj e
      omega
  have t2 : Turn (fun k => k = M ∨ blkOf Y.sA = some k) w (w2.setCell ⟨M, 4, none⟩ (.slice A2 (s.sc.length + 1) c2)) := (t1.mono fun i _ hi => .inr hi).put (p := ⟨M, 4, none⟩) (.inl (.inl rfl)) _
  have hT' : Turn (Mk.foot M Y) w (w2.setCell ⟨M, 4, none⟩ (.slice A2 (s.sc.length + 1) c2)) := t2.mono fun i _ hi => hi.elim .inl fun e => .inr (.inr (.inr (.inl e)))
  have hY : ∀ k, Mk.foot M { Y with sA := A2, sc := c2, SL := Y.SL ++ [(v, x)] } k → Mk.foot M Y k ∨ w.heap.size ≤ k := fun k hk => by
    rcases hk with e | e | e | e | e
    · exact .inl (.inl e)
    · exact .inl (.inr (.inl e))
    · exact .inl (.inr (.inr (.inl e)))
    · rcases hl with e2 | e2
      · exact .inl (.inr (.inr (.inr (.inl (e2 ▸ e)))))
      · have e : blkOf A2 = some k := e
        rw [e2] at e
        have := Option.some.inj e
        exact .inr (by omega)
    · exact .inl (.inr (.inr (.inr (.inr e))))
  obtain ⟨o1, o2, o3, o4, o5⟩ := h.outer hT' hY
  have hG : ∀ k, k < w.heap.size → ¬ Mk.foot M Y k → ¬ (k = M ∨ blkOf Y.sA = some k) ∧ ¬ Mk.foot M { Y with sA := A2, sc := c2, SL := Y.SL ++ [(v, x)] } k := fun k hlt hk => ⟨fun e => hk (e.elim .inl fun e => .inr (.inr (.inr (.inl e)))), (o5 k hlt hk).2⟩
  have hfl : ∀ g, (Value.slice Y.fA s.fr.length Y.fc).ownBlock = some g → ¬ (g = M ∨ blkOf Y.sA = some g) := fun g hg e => by
    rw [blk_eq] at hg
    exact e.elim (fun e => h.M_f (e ▸ hg)) fun e => h.s_f e hg
  have hil : ∀ q ∈ Y.FL, ∀ g, (Value.slice q.1.iA q.2.ids.length q.1.ic).ownBlock = some g → ¬ (g = M ∨ blkOf Y.sA = some g) := fun q hq g hg e => by
    rw [blk_eq] at hg
    exact e.elim (fun e => h.M_i hq (e ▸ hg)) fun e => h.s_i hq e hg
  have ho2 := (Turn.refl (fun k => k = M) w2).put (p := ⟨M, 4, none⟩) (.inl rfl) (.slice A2 (s.sc.length + 1) c2) |>.own ho (fun g hg e => hlM (by rw [blk_eq] at hg; exact e ▸ hg))
  have hmk := (t1.lies h.own h.M_s).put 4 (.slice A2 (s.sc.length + 1) c2)
  have hle : (s.sc ++ [x]).length = s.sc.length + 1 := by simp
  refine ⟨{ Y with sA := A2, sc := c2, SL := Y.SL ++ [(v, x)] }, ⟨o1, o2, by rw [hle]; exact hmk, h.bank.turn t2 (fun k hk e => e.elim (fun e => h.xM (e ▸ hk)) fun e => h.xs k e hk), h.made.turn t2 (fun e => e.elim (fun e => h.M_m e.symm) h.m_s),
    ?_, by rw [List.map_append, h.sl]; rfl, fun q hq => ?_, t2.own h.frow hfl, h.fl, fun q hq => (h.fas q hq).turn t2 hG, fun q hq => t2.own (h.ids q hq) (hil q hq), h.apart, h.xM, h.xm, fun g hg => ?_, h.xf, h.xi, o3, o4⟩, hT', hY⟩
  · rw [hle]
    show World.ownsRow _ 0 _ 3 _ _ ((Y.SL ++ [(v, x)]).flatMap scells9)
    rw [List.flatMap_append]
    exact ho2
  · rcases List.mem_append.1 hq with hq | hq
    · exact (h.sas q hq).turn t2 hG
    · rw [List.mem_singleton.1 hq]
      exact hP.turn t2 hG
  · rcases hl with e | e
    · exact h.xs g (e ▸ hg)
    · have hg : blkOf A2 = some g := hg
      rw [e] at hg
      intro hb
      have := h.bank.lt g hb
      have := Option.some.inj hg
      omega
theorem Mk.Rep.cut (h : Mk.Rep E w M Y s) {k : Nat} (hk : k ≤ s.sc.length) : Mk.Left E w M Y { s with sc := s.sc.take k } (w.setCell ⟨M, 4, none⟩ (.slice Y.sA k Y.sc)) := by
  have hSl : Y.SL.length = s.sc.length := by rw [← h.sl, List.length_map]
  have hlen : (s.sc.take k).length = k := by rw [List.length_take]; exact Nat.min_eq_left hk
  have t2 : Turn (fun k => k = M) w (w.setCell ⟨M, 4, none⟩ (.slice Y.sA k Y.sc)) := (Turn.refl (fun k => k = M) w).put (p := ⟨M, 4, none⟩) (.inl rfl) _
  have hT' : Turn (Mk.foot M Y) w (w.setCell ⟨M, 4, none⟩ (.slice Y.sA k Y.sc)) := t2.mono fun i _ hi => .inl hi
  have hY : ∀ i, Mk.foot M { Y with SL := Y.SL.take k } i → Mk.foot M Y i ∨ w.heap.size ≤ i := fun i hi => .inl hi
  obtain ⟨o1, o2, o3, o4, o5⟩ := h.outer hT' hY
  have hG : ∀ i, i < w.heap.size → ¬ Mk.foot M Y i → ¬ (i = M) ∧ ¬ Mk.foot M { Y with SL := Y.SL.take k } i := fun i hlt hi => ⟨fun e => hi (.inl e), (o5 i hlt hi).2⟩
  have hrow := ownsRow_cut h.srow hk
  have hcut : (Y.SL.flatMap scells9).take (k * 3) = (Y.SL.take k).flatMap scells9 := by
    conv => lhs; rw [← List.take_append_drop k Y.SL]
    rw [List.flatMap_append, List.take_left' (by rw [sc_len, List.length_take, hSl, Nat.min_eq_left hk])]
  rw [hcut] at hrow
  refine ⟨{ Y with SL := Y.SL.take k }, ⟨o1, o2, by rw [hlen]; exact h.own.put 4 _, h.bank.turn t2 (fun k hk e => h.xM (e ▸ hk)), h.made.turn t2 (fun e => h.M_m e.symm),
    by rw [hlen]; exact t2.own hrow (fun g hg e => h.M_s (by rw [blk_eq] at hg; exact e ▸ hg)), by rw [List.map_take, h.sl], fun q hq => (h.sas q (List.mem_of_mem_take hq)).turn t2 hG, t2.own h.frow (fun g hg e => h.M_f (by rw [blk_eq] at hg; exact e ▸ hg)), h.fl, fun q hq => (h.fas q hq).turn t2 hG,
    fun q hq => t2.own (h.ids q hq) (fun g hg e => h.M_i hq (by rw [blk_eq] at hg; exact e ▸ hg)), h.apart, h.xM, h.xm, h.xs, h.xf, h.xi, o3, o4⟩, hT', hY⟩
theorem Mk.Rep.note (h : Mk.Rep E w M Y s) {m' : List (Nat × List Int × Int)} (hg : w.grownBy w' (some Y.mb)) (hm : MadeM w' Y.mb m') : Mk.Left E w M Y { s with made := m' } w' := by
  have t2 : Turn (fun k => k = Y.mb) w w' := Turn.of_grown hg fun g e _ => (Option.some.inj e).symm
  have hT' : Turn (Mk.foot M Y) w w' := t2.mono fun i _ hi => .inr (.inr (.inl hi))
  obtain ⟨o1, o2, o3, o4, o5⟩ := h.outer (Y' := Y) hT' fun _ => .inl
  have hG : ∀ i, i < w.heap.size → ¬ Mk.foot M Y i → ¬ (i = Y.mb) ∧ ¬ Mk.foot M Y i := fun i hlt hi => ⟨fun e => hi (.inr (.inr (.inl e))), hi⟩
  exact ⟨Y, ⟨o1, o2, t2.lies h.own h.M_m, h.bank.turn t2 (fun k hk e => h.xm (e ▸ hk)), hm, t2.own h.srow (fun g hg e => h.m_s (by rw [blk_eq] at hg; exact e ▸ hg)), h.sl, fun q hq => (h.sas q hq).turn t2 hG,
    t2.own h.frow (fun g hg e => h.m_f (by rw [blk_eq] at hg; exact e ▸ hg)), h.fl, fun q hq => (h.fas q hq).turn t2 hG, fun q hq => t2.own (h.ids q hq) (fun g hg e => h.m_i hq (by rw [blk_eq] at hg; exact e ▸ hg)), h.apart, h.xM, h.xm, h.xs, h.xf, h.xi, o3, o4⟩, hT', fun _ => .inl⟩
end
section
variable {E : Mk.Env} {w w' : World} {M : Nat} {Y Y' : Mk.Lay} {s : Ms}
theorem Mk.Rep.last (h : Mk.Rep E w M Y s) {bs : List Fr} {f : Fr} (hf : s.fr = bs ++ [f]) : ∃ FB P gf, Y.FL = FB ++ [(P, f)] ∧ FB.length = bs.length ∧ Y.fA = some ⟨gf, 0, none⟩ ∧ gf < w.heap.size ∧ Mk.foot M Y gf ∧
    (∀ j u, (fcells (P, f))[j]? = some u → w.cell? ⟨gf, bs.length * 5 + j, none⟩ = some u) ∧ ∀ j, w.frozen? ⟨gf, j, none⟩ = false := by
  have hfl := h.fl
  rw [hf] at hfl
  obtain ⟨FB, q0, hFL, hFB, hq0⟩ := map_snoc hfl
  have hlen : s.fr.length = bs.length + 1 := by rw [hf]; simp
  have hFBl : FB.length = bs.length := by rw [← hFB, List.length_map]
  obtain ⟨P, f0⟩ := q0
  simp only at hq0
  subst hq0
  have hrow := h.frow
  rcases hrow.2 with ⟨_, e⟩ | ⟨g, cap, cur, e, _, hg, _⟩
  · omega
  · injection e with e1 _ e3
    refine ⟨FB, P, g, hFL, hFBl, e1, (Array.getElem?_eq_some_iff.1 hg).1, .inr (.inr (.inr (.inr (.inl (by rw [e1]; rfl))))), fun j u hu => ?_, fun j => ?_⟩
    · have := hrow.cells (g := g) (by rw [e1]; rfl) (bs.length * 5 + j) u (by
        rw [hFL, List.flatMap_append, List.getElem?_append_right (by rw [fc_len, hFBl]; omega), fc_len, hFBl, Nat.add_sub_cancel_left]
        simpa using hu)
      rw [addr_add, Nat.zero_add] at this
      exact this
    · exact World.ownsRow.frozenAt (by rw [← e1]; exact hrow) j
theorem fcells_set (FB : List (FrP × Fr)) (P : FrP) (f : Fr) (A : Option Addr) (c : Nat) (id : Int) : ((FB ++ [(P, f)]).flatMap fcells).set (FB.length * 5 + 1) (.slice A (f.ids.length + 1) c) = (FB ++ [({ P with iA := A, ic := c }, { f with ids := f.ids ++ [id] })]).flatMap fcells := by
  rw [List.flatMap_append, List.flatMap_append, List.set_append_right _ _ (by rw [fc_len]; omega), fc_len, Nat.add_sub_cancel_left]
  simp
theorem Mk.Rep.given (h : Mk.Rep E w M Y s) {FB : List (FrP × Fr)} {bs : List Fr} {P : FrP} {f : Fr} {gf : Nat} {w2 : World} {A2 : Option Addr} {c2 : Nat} {id : Int} (hf : s.fr = bs ++ [f]) (hFL : Y.FL = FB ++ [(P, f)]) (hFB : FB.length = bs.length) (hfA : Y.fA = some ⟨gf, 0, none⟩)
    (hg : w.grownBy w2 (blkOf P.iA)) (ho : w2.ownsRow 0 3 1 (.slice A2 (f.ids.length + 1) c2) (f.ids.length + 1) (i64s f.ids ++ [.int .i64 id])) (hl : blkOf A2 = blkOf P.iA ∨ blkOf A2 = some w.heap.size) :
    Mk.Left E w M Y { s with fr := bs ++ [{ f with ids := f.ids ++ [id] }] } (w2.setCell ⟨gf, bs.length * 5 + 1, none⟩ (.slice A2 (f.ids.length + 1) c2)) := by
  have hmem : (P, f) ∈ Y.FL := by rw [hFL]; simp
  have hsub : ∀ q ∈ FB, q ∈ Y.FL := fun q hq => by rw [hFL]; exact List.mem_append_left _ hq
  have hap := h.apart
  rw [hFL, List.pairwise_append] at hap
  have hapl : ∀ q ∈ FB, ∀ g, blkOf q.1.iA = some g → blkOf P.iA ≠ some g := fun q hq g hq2 => hap.2.2 q hq (P, f) (by simp) g hq2
  have t1 : Turn (fun k => blkOf P.iA = some k) w w2 := Turn.of_grown hg fun _ e _ => e
  have hgf : blkOf Y.fA = some gf := by rw [hfA]; rfl
  have hA2 : ∀ g, blkOf A2 = some g → blkOf P.iA = some g ∨ g = w.heap.size := fun g e => by
    rcases hl with e2 | e2
    · exact .inl (e2 ▸ e)
    · rw [e2] at e
      exact .inr (Option.some.inj e).symm
  have hlgf : blkOf A2 ≠ some gf := fun e => (hA2 gf e).elim (h.f_i hmem hgf) fun e => by
    have := h.lt gf (.inr (.inr (.inr (.inr (.inl hgf)))))
    omega
  have t2 : Turn (fun k => k = gf ∨ blkOf P.iA = some k) w (w2.setCell ⟨gf, bs.length * 5 + 1, none⟩ (.slice A2 (f.ids.length + 1) c2)) := (t1.mono fun i _ hi => .inr hi).put (p := ⟨gf, bs.length * 5 + 1, none⟩) (.inl (.inl rfl)) _
  have hT' : Turn (Mk.foot M Y) w (w2.setCell ⟨gf, bs.length * 5 + 1, none⟩ (.slice A2 (f.ids.length + 1) c2)) := t2.mono fun i _ hi => hi.elim (fun e => .inr (.inr (.inr (.inr (.inl (e ▸ hgf)))))) fun e => .inr (.inr (.inr (.inr (.inr ⟨_, hmem, e⟩))))
  have hY : ∀ k, Mk.foot M { Y with FL := FB ++ [({ P with iA := A2, ic := c2 }, { f with ids := f.ids ++ [id] })] } k → Mk.foot M Y k ∨ w.heap.size ≤ k := fun k hk => by
    rcases hk with e | e | e | e | e | ⟨q, hq, e⟩
    · exact .inl (.inl e)
    · exact .inl (.inr (.inl e))
    · exact .inl (.inr (.inr (.inl e)))
    · exact .inl (.inr (.inr (.inr (.inl e))))
    · exact .inl (.inr (.inr (.inr (.inr (.inl e)))))
    · rcases List.mem_append.1 hq with hq | hq
      · exact .inl (.inr (.inr (.inr (.inr (.inr ⟨q, hsub q hq, e⟩)))))
      · rw [List.mem_singleton.1 hq] at e
        rcases hA2 k e with e | e
        · exact .inl (.inr (.inr (.inr (.inr (.inr ⟨_, hmem, e⟩)))))
        · exact .inr (by omega)
  obtain ⟨o1, o2, o3, o4, o5⟩ := h.outer hT' hY
  have hG : ∀ k, k < w.heap.size → ¬ Mk.foot M Y k → ¬ (k = gf ∨ blkOf P.iA = some k) ∧ ¬ Mk.foot M { Y with FL := FB ++ [({ P with iA := A2, ic := c2 }, { f with ids := f.ids ++ [id] })] } k := fun k hlt hk =>
    ⟨fun e => hk (e.elim (fun e => .inr (.inr (.inr (.inr (.inl (e ▸ hgf)))))) fun e => .inr (.inr (.inr (.inr (.inr ⟨_, hmem, e⟩))))), (o5 k hlt hk).2⟩
  have hsl : ∀ g, (Value.slice Y.sA s.sc.length Y.sc).ownBlock = some g → ¬ (g = gf ∨ blkOf P.iA = some g) := fun g hg e => by
    rw [blk_eq] at hg
    exact e.elim (fun e => h.s_f hg (e ▸ hgf)) (h.s_i hmem hg)
  have hlen : s.fr.length = bs.length + 1 := by rw [hf]; simp
  have hrow := t1.own h.frow (fun g hg => by rw [blk_eq] at hg; exact h.f_i hmem hg)
  rw [hfA, hFL] at hrow
  have hst := (hrow.stored (FB.length * 5 + 1) (.slice A2 (f.ids.length + 1) c2)).1
  rw [fcells_set FB P f A2 c2 id, hFB] at hst
  have hle : (bs ++ [{ f with ids := f.ids ++ [id] }]).length = s.fr.length := by rw [hlen]; simp
  have ho2 := ((Turn.refl (fun k => k = gf) w2).put (p := ⟨gf, bs.length * 5 + 1, none⟩) (.inl rfl) (.slice A2 (f.ids.length + 1) c2)).own ho (fun g hg e => hlgf (by rw [blk_eq] at hg; exact e ▸ hg))
  refine ⟨{ Y with FL := FB ++ [({ P with iA := A2, ic := c2 }, { f with ids := f.ids ++ [id] })] }, ⟨o1, o2, by rw [hle]; exact t2.lies h.own (fun e => e.elim (fun e => h.M_f (by rw [e]; exact hgf)) (h.M_i hmem)), h.bank.turn t2 (fun k hk e => e.elim (fun e => h.xf gf hgf (e ▸ hk)) fun e => h.xi _ hmem k e hk), h.made.turn t2 (fun e => e.elim (fun e => h.m_f (by rw [e]; exact hgf)) (h.m_i hmem)),
    t2.own h.srow hsl, h.sl, fun q hq => (h.sas q hq).turn t2 hG, by rw [hle, hfA]; exact hst, ?_, fun q hq => ?_, fun q hq => ?_, ?_, h.xM, h.xm, h.xs, h.xf, fun q hq g hg => ?_, o3, o4⟩, hT', hY⟩
  · have := h.fl
    rw [hFL, hf, List.map_append] at this
    have h1 := (List.append_inj this (by rw [List.length_map, hFB])).1
    show List.map _ (FB ++ _) = _
    rw [List.map_append, h1]
    rfl
  · rcases List.mem_append.1 hq with hq | hq
    · exact (h.fas q (hsub q hq)).turn t2 hG
    · rw [List.mem_singleton.1 hq]
      have := (h.fas _ hmem).turn t2 hG
      exact ⟨this.le, this.tree, this.th⟩
  · rcases List.mem_append.1 hq with hq | hq
    · exact t2.own (h.ids q (hsub q hq)) (fun g hg e => by
        rw [blk_eq] at hg
        exact e.elim (fun e => h.f_i (hsub q hq) hgf (e ▸ hg)) (hapl q hq g hg))
    · rw [List.mem_singleton.1 hq]
      show World.ownsRow _ 0 _ 1 (.slice A2 (f.ids ++ [id]).length c2) _ (i64s (f.ids ++ [id]))
      rw [List.length_append, List.length_singleton, show i64s (f.ids ++ [id]) = i64s f.ids ++ [.int .i64 id] by simp]
      exact ho2
  · rw [List.pairwise_append]
    refine ⟨hap.1, List.pairwise_singleton _ _, fun p hp q hq g hg e => ?_⟩
    rw [List.mem_singleton.1 hq] at e
    rcases hA2 g e with e | e
    · exact hapl p hp g hg e
    · have := h.lt g (.inr (.inr (.inr (.inr (.inr ⟨p, hsub p hp, hg⟩)))))
      omega
  · rcases List.mem_append.1 hq with hq | hq
    · exact h.xi q (hsub q hq) g hg
    · rw [List.mem_singleton.1 hq] at hg
      rcases hA2 g hg with e | e
      · exact h.xi _ hmem g e
      · exact fun hb => by
          have := h.bank.lt g hb
          omega
end
theorem infoI64 : (Tryz.prog.info? 3).map (fun i => (i.zero, i.size, i.bytes)) = some (some (.int .i64 0), 1, 8) := by kernel_rfl
theorem kgive (E : Mk.Env) (w : World) (M : Nat) (Y : Mk.Lay) (s : Ms) (bs : List Fr) (f : Fr) (id e : Int) (h : Mk.Rep E w M Y s) (hf : s.fr = bs ++ [f]) (hb : bs.length ≤ 5000) (hn : f.ids.length ≤ 100000) :
    Calls Tryz.prog 162 #[.pointer (some ⟨M, 0, none⟩), .int .i64 id, .int .i64 e] w fun x w' => Mk.Ans E w M Y (Mk.give s id e) x w' := by
  by_cases he : e = 0
  · subst he
    have hgv : Mk.give s id 0 = ({ s with fr := bs ++ [{ f with ids := f.ids ++ [id] }] }, 0) := by
      unfold Mk.give
      rw [if_pos rfl, hf, Mk.onto_snoc]
    rw [hgv]
    obtain ⟨FB, P, gf, hFL, hFB, hfA, hgl, hgF, hc, hfz⟩ := h.last hf
    have hmem : (P, f) ∈ Y.FL := by rw [hFL]; simp
    have hlen : s.fr.length = bs.length + 1 := by rw [hf]; simp
    have c5 : w.cell? ⟨M, 5, none⟩ = some (.slice (some ⟨gf, 0, none⟩) (bs.length + 1) Y.fc) := by rw [h.own.cell, ← hlen, ← hfA]; rfl
    have hMl := h.own.lt
    have ci := hc 1 _ rfl
    obtain ⟨A, hA⟩ : ∃ A, P.iA = A := ⟨_, rfl⟩
    obtain ⟨c, hcc⟩ : ∃ c, P.ic = c := ⟨_, rfl⟩
    have hids := h.ids _ hmem
    simp only [hA, hcc] at ci hids
    have HW : Hid (∀ nq o A2 c2 w2, (w.drewN nq |>.alloc o).grownBy w2 (Value.slice A f.ids.length c).ownBlock → w2.ownsRow 0 3 1 (.slice A2 (f.ids.length + 1) c2) (f.ids.length + 1) (i64s f.ids ++ [.int .i64 id]) → ((Value.slice A2 (f.ids.length + 1) c2).ownBlock = (Value.slice A f.ids.length c).ownBlock ∨ (Value.slice A2 (f.ids.length + 1) c2).ownBlock = some (w.drewN nq |>.alloc o).heap.size) →
        Mk.Left E w M Y { s with fr := bs ++ [{ f with ids := f.ids ++ [id] }] } (w2.setCell ⟨gf, bs.length * 5 + 1, none⟩ (.slice A2 (f.ids.length + 1) c2)) ∧ gf < w2.heap.size ∧ w2.frozen? ⟨gf, bs.length * 5 + 1, none⟩ = false ∧ w2.cell? ⟨gf, bs.length * 5 + 1, none⟩ = some (.slice A f.ids.length c)) := fun nq o A2 c2 w2 q1 q2 q3 => by
      rw [blk_eq, ← hA] at q1 q3
      rw [blk_eq] at q3
      have hb0 : Below w.heap.size w (w.drewN nq |>.alloc o) := (below_drewN (Below.refl _ w) nq).alloc (Nat.le_refl _) o
      have h1 := h.below hb0
      have hne : blkOf P.iA ≠ some gf := h.f_i hmem (by rw [hfA]; rfl)
      have e1 := (Turn.of_grown (F := fun k => blkOf P.iA = some k) q1 fun _ e _ => e).own h1.frow (fun g hg => by rw [blk_eq] at hg; exact h.f_i hmem hg)
      refine ⟨(h1.given hf hFL hFB hfA q1 q2 q3).up hb0, ?_, ?_, ?_⟩
      · exact Nat.lt_of_lt_of_le hgl (Nat.le_trans hb0.size q1.size)
      · exact World.ownsRow.frozenAt (by rw [← hfA]; exact e1) _
      · have := e1.cells (g := gf) (by rw [hfA]; rfl) (bs.length * 5 + 1) (.slice P.iA f.ids.length P.ic) (by
          rw [hFL, List.flatMap_append, List.getElem?_append_right (by rw [fc_len, hFB]; omega), fc_len, hFB, Nat.add_sub_cancel_left]
          rfl)
        rw [addr_add, Nat.zero_add, hA, hcc] at this
        exact this
    have HI : Hid (∀ nq o, (w.drewN nq |>.alloc o).ownsRow 0 3 1 (.slice A f.ids.length c) f.ids.length (i64s f.ids)) := fun nq o => ((Turn.of_below (F := fun _ => False) (below_drewN (Below.refl _ w) nq)).alloc o).own hids fun _ _ h => h
    obtain ⟨i0, hi, hz0, hz1, hz2⟩ := info_parts infoI64
    obtain ⟨m, hm⟩ : ∃ m, bs.length = m := ⟨_, rfl⟩
    obtain ⟨L, hL⟩ : ∃ L : List Value, i64s f.ids = L := ⟨_, rfl⟩
    obtain ⟨n, hnn⟩ : ∃ n, f.ids.length = n := ⟨_, rfl⟩
    rw [hL] at HW HI
    rw [hnn] at HW HI ci hn
    rw [hm] at HW c5 ci hb
    have hm1 : ((m : Int) + 1) - 1 = (m : Int) := by omega
    have hm5 : ((m + 1 : Nat) : Int) = (m : Int) + 1 := by omega
    have hn1 : n + 1 ≤ maxLen := by unfold maxLen; omega
    have hn8 : (n + 1) * 8 ≤ 140737488355328 := by omega
    have hmi : (0 : Int) ≤ (m : Int) := by omega
    have hml : (m : Int) < (m : Int) + 1 := by omega
    clear h hf hgv hFL hFB hfA hgF hc hfz hmem hlen hids hA hcc hL hm hnn
    go_enter Tryz.func162, Tryz.ntmps162
    go_wp2_with fail
    go_quiet (fail)
    go_wp2_with (at_builtin; refine append_row _ rfl (.tmp 25) (.tmp 27) 44 rfl 0 3 i0 (.int .i64 0) 8 Tryz.underlying44 hi hz0 hz1 hz2 rfl (.slice A n c) n L (by simp [Act.eval]) (HI.out _ _) ⟨w.heap.size, 0, none⟩ 1 1 [.int .i64 id] (by simp [Act.eval]) rfl (cell_one_new _ _ _) (by intro u hu; simp at hu; subst hu; rfl) hn1 hn8 (Nat.zero_le _) ?_; intro A2 c2 w2 o2 g2 a2; obtain ⟨l2, z2, f2, y2⟩ := HW.out _ _ A2 c2 w2 g2 o2 a2; have L2 := Lib.hid l2; clear o2 g2 a2 l2)
    go_ret
    exact ⟨rfl, L2.out⟩
  · have hgv : Mk.give s id e = (s, e) := if_neg he
    rw [hgv]
    have he0 : (e == 0) = false := beq_eq_false_iff_ne.2 he
    have HE := Lib.hid (Mk.Left.same h (Below.refl _ w))
    clear h hf hgv
    go_enter Tryz.func162, Tryz.ntmps162
    go_wp2
    go_ret
    exact ⟨rfl, HE.out⟩
end Go.Proofs.YtcgaeknikfaghaaGreatDoor
