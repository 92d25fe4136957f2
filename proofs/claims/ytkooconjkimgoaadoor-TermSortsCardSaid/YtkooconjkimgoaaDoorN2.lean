/- Terms in memory; the reference's Same of two. -/
import Derived.Test.YtkooconjkimgoaaDoorN1
import Derived.Test.YtkooconjkimgoaaDoorW13
namespace Go.Proofs.YtkooconjkimgoaaDoor
open Go.RowKit

theorem same_nd {w : World} {A B : Option Addr} {n m c d N K : Nat} (h : Num w (.slice A n c) N) (k : Num w (.slice B m d) K) :
    Calls Tryd.prog 50 #[.slice A n c, .slice B m d] w fun e w' => e = .returned (.bool (decide (N = K))) ∧ Below w.heap.size w w' := by
  obtain ⟨A', n', c', l, e, h1, h2, h3, h4, h5⟩ := h
  obtain ⟨B', m', d', l', e', k1, k2, k3, k4, k5⟩ := k
  obtain ⟨rfl, rfl, rfl⟩ : A = A' ∧ n = n' ∧ c = c' := by injection e with e1 e2 e3; exact ⟨e1, e2, e3⟩
  obtain ⟨rfl, rfl, rfl⟩ : B = B' ∧ m = m' ∧ d = d' := by injection e' with e1 e2 e3; exact ⟨e1, e2, e3⟩
  have := same_any A B n m c d l l' w h1 k1 (by omega) (by omega)
  have he : decide (l = l') = decide (N = K) := by
    refine decide_eq_decide.2 ⟨fun e => by rw [← h3, ← k3, e], fun e => M.uniq h1.2.1 k1.2.1 h2 k2 (by rw [h3, k3, e])⟩
  rw [he] at this
  exact this.mono fun _ _ ⟨h1, j, h2⟩ => ⟨h1, by rw [h2]; exact below_drewN (Below.refl _ _) j⟩
theorem same_wd {u v : Value} {z y : Int} {w : World} (h : WNum w u z) (k : WNum w v y) :
    Calls Tryd.prog 30 #[u, v] w fun e w' => e = .returned (.bool (decide (z = y))) ∧ Below w.heap.size w w' := by
  obtain ⟨u', rfl, h⟩ := h
  obtain ⟨v', rfl, k⟩ := k
  obtain ⟨A, n, c, _, rfl, _⟩ := id h
  obtain ⟨B, m, d, _, rfl, _⟩ := id k
  have q0 := Held2.zero w (decide (z < 0)) (decide (y < 0)) A B n c m d
  have HC := Lib.hid (same_nd (h.below q0.bel) (k.below q0.bel))
  obtain ⟨g, HG⟩ : ∃ g, Hid (decide (z < 0) = g) := ⟨_, rfl⟩
  obtain ⟨g', HG'⟩ : ∃ g, Hid (decide (y < 0) = g) := ⟨_, rfl⟩
  obtain ⟨s, HS⟩ : ∃ s, Hid (decide (z.natAbs = y.natAbs) = s) := ⟨_, rfl⟩
  obtain ⟨r, HR⟩ : ∃ r, Hid (decide (z = y) = r) := ⟨_, rfl⟩
  have HE : Hid (r = (s && (g == g'))) := by
    rw [← HG.out, ← HG'.out, ← HS.out, ← HR.out]
    show decide (z = y) = (decide (z.natAbs = y.natAbs) && (decide (z < 0) == decide (y < 0)))
    by_cases e : z = y
    · subst e; simp
    · rw [decide_eq_false e]
      by_cases e2 : z.natAbs = y.natAbs
      · rw [decide_eq_true e2]
        have : decide (z < 0) ≠ decide (y < 0) := fun h => by
          have h := decide_eq_decide.1 h
          omega
        simpa using this
      · rw [decide_eq_false e2]; rfl
  rw [HG.out, HG'.out] at q0 HC ⊢
  rw [HS.out] at HC
  rw [HR.out]
  have e := HE.out
  clear h k HG HG' HS HR HE
  go_enter Tryd.func30, Tryd.ntmps30
  go_wp2_with fail
  refine HC.out.mono ?_
  rintro e w1 ⟨rfl, b1⟩
  have q1 := q0.below b1
  have bl := q1.bel
  obtain ⟨x0, x1, x2, _⟩ := q1.box
  obtain ⟨y0, y1, y2, _⟩ := q1.box2
  clear b1 q0 q1 HC
  cases s <;> cases g <;> cases g' <;> (simp at e; subst e; go_wp2_with fail; go_ret; exact ⟨rfl, bl⟩)

/-- where a term's lists lie -/
structure NdP where
  A : Option Addr
  n : Nat
  c : Nat
  g : Bool
  B : Option Addr
  m : Nat
  d : Nat
  C : Option Addr
  p : Nat
  f : Nat
abbrev NdP.cells (P : NdP) (x : Nd) : Array Value := #[.int .i64 x.op, .int .i64 x.sort, .slice P.A P.n P.c, .string x.name, .bool P.g, .slice P.B P.m P.d, .slice P.C P.p P.f]
/-- n things at A lie in the blocks G -/
def Gs (G : Nat → Prop) (A : Option Addr) (n : Nat) : Prop := ∀ a, A = some a → 0 < n → G a.block
theorem Gs.zero (G : Nat → Prop) (A : Option Addr) : Gs G A 0 := fun _ _ h => absurd h (by decide)
theorem Gs.mono {G G' : Nat → Prop} {A : Option Addr} {n : Nat} (h : Gs G A n) (hG : ∀ k, G k → G' k) : Gs G' A n := fun a e hn => hG _ (h a e hn)
theorem NumS.turn {F G : Nat → Prop} {w w' : World} {A : Option Addr} {n : Nat} {l : List Int} (h : NumS w A n l) (hT : Turn F w w') (hg : Gs G A n) (hG : ∀ k, G k → ¬ F k) : NumS w' A n l :=
  ⟨h.len, fun hn => by
    obtain ⟨b, off, e, hlt, hc⟩ := h.at_ hn
    have hb := hG _ (hg _ e hn)
    exact ⟨b, off, e, Nat.lt_of_lt_of_le hlt hT.size, fun i x hx => (hT.cell (p := ⟨b, off + i, none⟩) hlt hb).trans (hc i x hx)⟩⟩
theorem RunS.turn {F G : Nat → Prop} {w w' : World} {A : Option Addr} {n : Nat} {l : List (Int × Int)} (h : RunS w A n l) (hT : Turn F w w') (hg : Gs G A n) (hG : ∀ k, G k → ¬ F k) : RunS w' A n l :=
  ⟨h.len, fun hn => by
    obtain ⟨b, off, e, hlt, hc⟩ := h.at_ hn
    have hb := hG _ (hg _ e hn)
    exact ⟨b, off, e, Nat.lt_of_lt_of_le hlt hT.size, fun i x hx => ⟨(hT.cell (p := ⟨b, off + i * 2, none⟩) hlt hb).trans (hc i x hx).1, (hT.cell (p := ⟨b, off + i * 2 + 1, none⟩) hlt hb).trans (hc i x hx).2⟩⟩⟩
theorem WIn.turn {F G : Nat → Prop} {w w' : World} {g : Bool} {A : Option Addr} {n c : Nat} {z : Int} (h : WIn w g A n c z) (hT : Turn F w w') (hg : Gs G A n) (hG : ∀ k, G k → ¬ F k) : WIn w' g A n c z := by
  obtain ⟨⟨l, h1, h2, h3, h4, h5⟩, h6⟩ := h
  refine ⟨⟨l, ⟨h1.1, h1.2.1, fun hn => ?_⟩, h2, h3, h4, h5⟩, h6⟩
  obtain ⟨b, off, e, hlt, hc⟩ := h1.2.2 hn
  have hb := hG _ (hg _ e hn)
  exact ⟨b, off, e, Nat.lt_of_lt_of_le hlt hT.size, fun j hj => (hT.cell (p := ⟨b, off + j, none⟩) hlt hb).trans (hc j hj)⟩
/-- a term in memory, its lists in the blocks G -/
structure NdAs (w : World) (G : Nat → Prop) (P : NdP) (x : Nd) : Prop where
  a : NumS w P.A P.n x.a
  num : WIn w P.g P.B P.m P.d (x.num : Int)
  str : RunS w P.C P.p x.str
  few : P.n ≤ 1000000 ∧ P.m ≤ 2000 ∧ P.p ≤ 1000000
  g : Gs G P.A P.n ∧ Gs G P.B P.m ∧ Gs G P.C P.p
theorem NdAs.below {w w' : World} {G : Nat → Prop} {P : NdP} {x : Nd} (h : NdAs w G P x) (hb : Below w.heap.size w w') : NdAs w' G P x := ⟨h.a.below hb, h.num.below hb, h.str.below hb, h.few, h.g⟩
theorem NdAs.mono {w : World} {G G' : Nat → Prop} {P : NdP} {x : Nd} (h : NdAs w G P x) (hG : ∀ k, G k → G' k) : NdAs w G' P x := ⟨h.a, h.num, h.str, h.few, h.g.1.mono hG, h.g.2.1.mono hG, h.g.2.2.mono hG⟩
theorem NdAs.turn {F G : Nat → Prop} {w w' : World} {P : NdP} {x : Nd} (h : NdAs w G P x) (hT : Turn F w w') (hG : ∀ k, G k → ¬ F k) : NdAs w' G P x := ⟨h.a.turn hT h.g.1 hG, h.num.turn hT h.g.2.1 hG, h.str.turn hT h.g.2.2 hG, h.few, h.g⟩
noncomputable def Nd.same (x y : Nd) : Bool := @decide (x = y) (Classical.propDecidable _)
theorem Nd.same_iff {x y : Nd} : Nd.same x y = true ↔ x = y := by unfold Nd.same; exact @decide_eq_true_iff _ (Classical.propDecidable _)
theorem Nd.same_no {x y : Nd} (h : x ≠ y) : Nd.same x y = false := by unfold Nd.same; exact @decide_eq_false _ (Classical.propDecidable _) h
theorem WIn.lt9 {w : World} {g : Bool} {B : Option Addr} {m d : Nat} {z : Int} (h : WIn w g B m d z) (hm : m ≤ 2000) : z.natAbs < M.BB ^ 2000 := by
  obtain ⟨⟨l, h1, h2, h3, h4, _⟩, _⟩ := h
  have := (in_of (k := 2000) h1 h3 h4 hm (by omega)).2
  rwa [h2] at this

/-- the two boxes -/
abbrev SB9 (w : World) (V1 V2 : Array Value) (W : World) : Prop := Lies W w.heap.size 47 V1 ∧ Lies W (w.heap.size + 1) 47 V2 ∧ Below w.heap.size w W
theorem SB9.below {w W w1 : World} {V1 V2 : Array Value} (q : SB9 w V1 V2 W) (hk : Below W.heap.size W w1) : SB9 w V1 V2 w1 :=
  ⟨(hk.block _ q.1.lt).trans q.1, (hk.block _ q.2.1.lt).trans q.2.1, q.2.2.trans (hk.mono q.2.2.size)⟩
abbrev SN9 (w : World) (P R : NdP) (x y : Nd) (W : World) : Prop := W.cell? ⟨w.heap.size, 4, none⟩ = some (.bool P.g) ∧ W.cell? ⟨w.heap.size, 5, none⟩ = some (.slice P.B P.m P.d) ∧ W.cell? ⟨w.heap.size + 1, 4, none⟩ = some (.bool R.g) ∧ W.cell? ⟨w.heap.size + 1, 5, none⟩ = some (.slice R.B R.m R.d) ∧ SB9 w (P.cells x) (R.cells y) W
theorem SN9.of {w W : World} {P R : NdP} {x y : Nd} (q : SB9 w (P.cells x) (R.cells y) W) : SN9 w P R x y W :=
  ⟨by rw [q.1.cell]; rfl, by rw [q.1.cell]; rfl, by rw [q.2.1.cell]; rfl, by rw [q.2.1.cell]; rfl, q⟩
theorem SN9.keep {w W w1 : World} {P R : NdP} {x y : Nd} (hk : Below W.heap.size W w1) (q : SN9 w P R x y W) : SN9 w P R x y w1 := SN9.of (q.2.2.2.2.below hk)

set_option maxRecDepth 100000 in
set_option maxHeartbeats 3200000 in
theorem rsame9 (w : World) {G G' : Nat → Prop} (P R : NdP) (x y : Nd) (h : NdAs w G P x) (h' : NdAs w G' R y) :
    Calls Tryd.prog 13 #[.agg (P.cells x), .agg (R.cells y)] w fun e w' => e = .returned (.bool (Nd.same x y)) ∧ Below w.heap.size w w' := by
  obtain ⟨A, n, c, g, B, m, d, C, p, f⟩ := P
  obtain ⟨A', n', c', g', B', m', d', C', p', f'⟩ := R
  obtain ⟨W0, hW0⟩ : ∃ W0, (w.alloc (.cells (NdP.cells ⟨A, n, c, g, B, m, d, C, p, f⟩ x) 47)).alloc (.cells (NdP.cells ⟨A', n', c', g', B', m', d', C', p', f'⟩ y) 47) = W0 := ⟨_, rfl⟩
  have q0 : SB9 w (NdP.cells ⟨A, n, c, g, B, m, d, C, p, f⟩ x) (NdP.cells ⟨A', n', c', g', B', m', d', C', p', f'⟩ y) W0 := by
    rw [← hW0]
    exact ⟨(Below.heap_alloc _ _ _ (by simp)).trans (Lies.new w _ _), by have := Lies.new (w.alloc (.cells (NdP.cells ⟨A, n, c, g, B, m, d, C, p, f⟩ x) 47)) 47 (NdP.cells ⟨A', n', c', g', B', m', d', C', p', f'⟩ y); rwa [World.size_alloc] at this, ((Below.refl _ w).alloc (Nat.le_refl _) _).alloc (by simp) _⟩
  have H1 := Lib.hid (rints W0 A n c x.a A' n' c' y.a (h.a.below q0.2.2) (h'.a.below q0.2.2) (by have := h.few.1; simp only at this; omega))
  have HKp : Hid (∀ W w1, Below W.heap.size W w1 → (W.cell? ⟨w.heap.size, 4, none⟩ = some (.bool g) ∧ W.cell? ⟨w.heap.size, 5, none⟩ = some (.slice B m d) ∧ W.cell? ⟨w.heap.size + 1, 4, none⟩ = some (.bool g') ∧ W.cell? ⟨w.heap.size + 1, 5, none⟩ = some (.slice B' m' d') ∧ SB9 w (NdP.cells ⟨A, n, c, g, B, m, d, C, p, f⟩ x) (NdP.cells ⟨A', n', c', g', B', m', d', C', p', f'⟩ y) W) → (w1.cell? ⟨w.heap.size, 4, none⟩ = some (.bool g) ∧ w1.cell? ⟨w.heap.size, 5, none⟩ = some (.slice B m d) ∧ w1.cell? ⟨w.heap.size + 1, 4, none⟩ = some (.bool g') ∧ w1.cell? ⟨w.heap.size + 1, 5, none⟩ = some (.slice B' m' d') ∧ SB9 w (NdP.cells ⟨A, n, c, g, B, m, d, C, p, f⟩ x) (NdP.cells ⟨A', n', c', g', B', m', d', C', p', f'⟩ y) w1)) := fun W w1 hk q => SN9.keep (P := ⟨A, n, c, g, B, m, d, C, p, f⟩) (R := ⟨A', n', c', g', B', m', d', C', p', f'⟩) (x := x) (y := y) hk q
  have H2 := Lib.hid fun W (q : W.cell? ⟨w.heap.size, 4, none⟩ = some (.bool g) ∧ W.cell? ⟨w.heap.size, 5, none⟩ = some (.slice B m d) ∧ W.cell? ⟨w.heap.size + 1, 4, none⟩ = some (.bool g') ∧ W.cell? ⟨w.heap.size + 1, 5, none⟩ = some (.slice B' m' d') ∧ SB9 w (NdP.cells ⟨A, n, c, g, B, m, d, C, p, f⟩ x) (NdP.cells ⟨A', n', c', g', B', m', d', C', p', f'⟩ y) W) => rnorm_w g B m d (x.num : Int) W (h.num.below q.2.2.2.2.2.2) (by have := h.few.2.1; simp only at this; omega)
  have H3 := Lib.hid fun W (q : W.cell? ⟨w.heap.size, 4, none⟩ = some (.bool g) ∧ W.cell? ⟨w.heap.size, 5, none⟩ = some (.slice B m d) ∧ W.cell? ⟨w.heap.size + 1, 4, none⟩ = some (.bool g') ∧ W.cell? ⟨w.heap.size + 1, 5, none⟩ = some (.slice B' m' d') ∧ SB9 w (NdP.cells ⟨A, n, c, g, B, m, d, C, p, f⟩ x) (NdP.cells ⟨A', n', c', g', B', m', d', C', p', f'⟩ y) W) => rnorm_w g' B' m' d' (y.num : Int) W (h'.num.below q.2.2.2.2.2.2) (by have := h'.few.2.1; simp only at this; omega)
  have H4 : Hid (∀ W u v, WNum W u (x.num : Int) → WNum W v (y.num : Int) → Calls Tryd.prog 30 #[u, v] W fun e w' => e = .returned (.bool (decide ((x.num : Int) = (y.num : Int)))) ∧ Below W.heap.size W w') := fun W u v hu hv => same_wd hu hv
  have H5 := Lib.hid fun W (q : SB9 w (NdP.cells ⟨A, n, c, g, B, m, d, C, p, f⟩ x) (NdP.cells ⟨A', n', c', g', B', m', d', C', p', f'⟩ y) W) => rtexts W C p f x.str C' p' f' y.str (h.str.below q.2.2) (h'.str.below q.2.2) (by have := h.few.2.2; simp only at this; omega)
  obtain ⟨r, hr⟩ : ∃ r, Nd.same x y = r := ⟨_, rfl⟩
  obtain ⟨sA, hA⟩ : ∃ s, sameN x.a y.a = s := ⟨_, rfl⟩
  obtain ⟨sZ, hZ⟩ : ∃ s, decide ((x.num : Int) = (y.num : Int)) = s := ⟨_, rfl⟩
  obtain ⟨sT, hT⟩ : ∃ s, sameR x.str y.str = s := ⟨_, rfl⟩
  obtain ⟨sO, dO⟩ : ∃ s, (x.op == y.op) = s := ⟨_, rfl⟩
  obtain ⟨sS, dS⟩ : ∃ s, (x.sort == y.sort) = s := ⟨_, rfl⟩
  obtain ⟨sN, dN⟩ : ∃ s, (x.name.toList == y.name.toList) = s := ⟨_, rfl⟩
  have HE : Hid (r = (sA && sZ && sT && sO && sS && sN)) := by
    rw [← hr, ← hA, ← hZ, ← hT, ← dO, ← dS, ← dN]
    show Nd.same x y = _
    rw [Bool.eq_iff_iff, Nd.same_iff]
    simp only [Bool.and_eq_true, decide_eq_true_eq, beq_iff_eq, sameN, sameR]
    constructor
    · rintro rfl
      simp
    · rintro ⟨⟨⟨⟨⟨h1, h2⟩, h3⟩, h4⟩, h5⟩, h6⟩
      obtain ⟨o, s, a, nm, k, t⟩ := x
      obtain ⟨o', s', a', nm', k', t'⟩ := y
      simp only at h1 h2 h3 h4 h5 h6
      have h2 : k = k' := by omega
      have h6 : nm = nm' := by
        rw [ByteArray.toList_eq, ByteArray.toList_eq] at h6
        exact ByteArray.ext (Array.toList_inj.1 h6)
      subst h1 h2 h3 h4 h5 h6
      rfl
  rw [hr]
  rw [hA] at H1
  rw [hZ] at H4
  rw [hT] at H5
  have HQ := Lib.hid q0
  clear h h' hr hA hZ hT q0
  go_enter Tryd.func13, Tryd.ntmps13
  have c2a : W0.cell? ⟨w.heap.size, 2, none⟩ = some (.slice A n c) := by rw [HQ.out.1.cell]; rfl
  have c2b : W0.cell? ⟨w.heap.size + 1, 2, none⟩ = some (.slice A' n' c') := by rw [HQ.out.2.1.cell]; rfl
  go_wp2_with fail
  refine H1.out.mono ?_
  rintro e w1 ⟨rfl, b1⟩
  have Q1 := Lib.hid (HQ.out.below b1)
  have HS : Hid (w1.drew.cell? ⟨w.heap.size, 4, none⟩ = some (.bool g) ∧ w1.drew.cell? ⟨w.heap.size, 5, none⟩ = some (.slice B m d) ∧ w1.drew.cell? ⟨w.heap.size + 1, 4, none⟩ = some (.bool g') ∧ w1.drew.cell? ⟨w.heap.size + 1, 5, none⟩ = some (.slice B' m' d') ∧ SB9 w (NdP.cells ⟨A, n, c, g, B, m, d, C, p, f⟩ x) (NdP.cells ⟨A', n', c', g', B', m', d', C', p', f'⟩ y) w1.drew) := SN9.of (P := ⟨A, n, c, g, B, m, d, C, p, f⟩) (R := ⟨A', n', c', g', B', m', d', C', p', f'⟩) (x := x) (y := y) (Q1.out.below ⟨rfl, rfl, rfl, Nat.le_refl _, fun _ _ => rfl⟩)
  clear b1 HQ H1 hW0 Q1 c2a c2b
  go_wp2_with fail
  go_region_held3 (fun W' => W'.cell? ⟨w.heap.size, 4, none⟩ = some (.bool g) ∧ W'.cell? ⟨w.heap.size, 5, none⟩ = some (.slice B m d) ∧ W'.cell? ⟨w.heap.size + 1, 4, none⟩ = some (.bool g') ∧ W'.cell? ⟨w.heap.size + 1, 5, none⟩ = some (.slice B' m' d') ∧ SB9 w (NdP.cells ⟨A, n, c, g, B, m, d, C, p, f⟩ x) (NdP.cells ⟨A', n', c', g', B', m', d', C', p', f'⟩ y) W')
    (first | (with_reducible exact HKp.out _ _ (by assumption) (by assumption)) | (with_reducible exact HS.out))
    (first | (go_at_call 31; (with_reducible refine (H2.out _ ?_).mono ?_); assumption; rintro e w2 ⟨u, rfl, hu, b2⟩) | (go_at_call 31; (with_reducible refine (H3.out _ ?_).mono ?_); assumption; rintro e w3 ⟨v, rfl, hv, b3⟩; replace hu := hu.below b3) | (go_at_call 30; (with_reducible refine (H4.out _ _ _ ?_ ?_).mono ?_); exact hu; exact hv; rintro e w4 ⟨rfl, b4⟩))
  rename_i hh
  have Q4 := Lib.hid hh.2.2.2.2
  clear hh HS HKp H2 H3 H4 hu hv b2 b3 b4
  have c6a : w4.cell? ⟨w.heap.size, 6, none⟩ = some (.slice C p f) := by rw [Q4.out.1.cell]; rfl
  have c6b : w4.cell? ⟨w.heap.size + 1, 6, none⟩ = some (.slice C' p' f') := by rw [Q4.out.2.1.cell]; rfl
  go_wp2_with fail
  refine (H5.out _ Q4.out).mono ?_
  rintro e w5 ⟨rfl, b5⟩
  have Q5 := Lib.hid (Q4.out.below b5)
  clear b5 Q4 H5 c6a c6b
  have c0a : w5.cell? ⟨w.heap.size, 0, none⟩ = some (.int .i64 x.op) := by rw [Q5.out.1.cell]; rfl
  have c0b : w5.cell? ⟨w.heap.size + 1, 0, none⟩ = some (.int .i64 y.op) := by rw [Q5.out.2.1.cell]; rfl
  have c1a : w5.cell? ⟨w.heap.size, 1, none⟩ = some (.int .i64 x.sort) := by rw [Q5.out.1.cell]; rfl
  have c1b : w5.cell? ⟨w.heap.size + 1, 1, none⟩ = some (.int .i64 y.sort) := by rw [Q5.out.2.1.cell]; rfl
  have c3a : w5.cell? ⟨w.heap.size, 3, none⟩ = some (.string x.name) := by rw [Q5.out.1.cell]; rfl
  have c3b : w5.cell? ⟨w.heap.size + 1, 3, none⟩ = some (.string y.name) := by rw [Q5.out.2.1.cell]; rfl
  have HR := HE.out
  clear HE
  cases sA with
  | false =>
    simp at HR
    subst HR
    go_wp2_with fail
    go_ret
    exact ⟨rfl, Q5.out.2.2⟩
  | true =>
  cases sZ with
  | false =>
    simp at HR
    subst HR
    go_wp2_with fail
    go_ret
    exact ⟨rfl, Q5.out.2.2⟩
  | true =>
  cases sT with
  | false =>
    simp at HR
    subst HR
    go_wp2_with fail
    go_ret
    exact ⟨rfl, Q5.out.2.2⟩
  | true =>
  cases sO with
  | false =>
    simp at HR
    subst HR
    go_wp2_with fail
    go_ret
    exact ⟨rfl, Q5.out.2.2⟩
  | true =>
  cases sS with
  | false =>
    simp at HR
    subst HR
    go_wp2_with fail
    go_ret
    exact ⟨rfl, Q5.out.2.2⟩
  | true =>
    simp at HR
    subst HR
    go_wp2_with fail
    go_ret
    exact ⟨rfl, Q5.out.2.2⟩
end Go.Proofs.YtkooconjkimgoaaDoor
