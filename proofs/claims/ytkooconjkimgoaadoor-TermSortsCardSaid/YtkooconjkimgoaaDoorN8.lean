/- A call of a bank in memory; the law's refDoes, few. -/
import Derived.Test.YtkooconjkimgoaaDoorN7
namespace Go.Proofs.YtkooconjkimgoaaDoor
open Go.RowKit

/-- where a call's lists lie -/
structure ClP where
  A : Option Addr
  n : Nat
  c : Nat
  g : Bool
  B : Option Addr
  m : Nat
  d : Nat
  C : Option Addr
  p : Nat
  f : Nat
abbrev ClP.cells (P : ClP) (x : Cl) : Array Value := #[.int .i64 x.kind, .int .i64 x.op, .int .i64 x.sort, .slice P.A P.n P.c, .string x.s, .bool x.b, .bool P.g, .slice P.B P.m P.d, .slice P.C P.p P.f]
/-- a call in memory -/
structure ClAs (w : World) (P : ClP) (x : Cl) : Prop where
  a : NumS w P.A P.n x.a
  nil : P.A = none → P.n = 0 ∧ P.c = 0
  num : P.m ≤ 20 → WIn w P.g P.B P.m P.d x.z
  str : RunS w P.C P.p x.t
  wfa : ∀ z ∈ x.a, (Lit.int .i64 z).wf = true
  wft : ∀ r ∈ x.t, (Lit.int .i64 r.1).wf = true ∧ (Lit.int .i64 r.2).wf = true
theorem ClAs.below {w w' : World} {P : ClP} {x : Cl} (h : ClAs w P x) (hb : Below w.heap.size w w') : ClAs w' P x := ⟨h.a.below hb, h.nil, fun e => (h.num e).below hb, h.str.below hb, h.wfa, h.wft⟩
def ClP.few (P : ClP) (x : Cl) : Prop := P.n ≤ 300 ∧ P.m ≤ 20 ∧ P.p ≤ 200 ∧ x.s.size ≤ 200
theorem Tm.does_kind (l : List Nd) (x : Cl) : (x.kind = 0 ∧ Tm.does l x = Tm.const l x.s x.sort) ∨ (x.kind = 1 ∧ Tm.does l x = Tm.bool l x.b) ∨ (x.kind = 2 ∧ Tm.does l x = Tm.num l x.z) ∨ (x.kind = 3 ∧ Tm.does l x = Tm.str l x.t) ∨ ((x.kind ≠ 0 ∧ x.kind ≠ 1 ∧ x.kind ≠ 2 ∧ x.kind ≠ 3) ∧ Tm.does l x = Tm.app l x.op x.a) := by
  unfold Tm.does
  by_cases h0 : x.kind = 0
  · exact .inl ⟨h0, by rw [if_pos h0]⟩
  by_cases h1 : x.kind = 1
  · exact .inr (.inl ⟨h1, by rw [if_neg h0, if_pos h1]⟩)
  by_cases h2 : x.kind = 2
  · exact .inr (.inr (.inl ⟨h2, by rw [if_neg h0, if_neg h1, if_pos h2]⟩))
  by_cases h3 : x.kind = 3
  · exact .inr (.inr (.inr (.inl ⟨h3, by rw [if_neg h0, if_neg h1, if_neg h2, if_pos h3]⟩)))
  · exact .inr (.inr (.inr (.inr ⟨⟨h0, h1, h2, h3⟩, by rw [if_neg h0, if_neg h1, if_neg h2, if_neg h3]⟩)))
set_option maxRecDepth 100000 in
set_option maxHeartbeats 3200000 in
theorem rdoes9 (w : World) (A : Option Addr) (n c : Nat) (l : List Nd) (P : ClP) (x : Cl) {G : Nat → Prop} (h : NodS w G A n c l) (hI : Tm.Inv l) (hx : ClAs w P x) (hf : P.few x) (hg : Gs G P.C P.p) (hn : n ≤ 30000) :
    Calls Tryd.prog 10 #[.slice A n c, .agg (P.cells x)] w fun e w' => NAns w G (Tm.does l x) e w' := by
  obtain ⟨W0, hW0⟩ : ∃ W0, w.alloc (.cells (P.cells x) 42) = W0 := ⟨_, rfl⟩
  have B0 : Below w.heap.size w W0 := by rw [← hW0]; exact (Below.refl _ w).alloc (Nat.le_refl _) _
  have L0 : Lies W0 w.heap.size 42 (P.cells x) := by rw [← hW0]; exact Lies.new w _ _
  have HB0 := Lib.hid B0
  have HUp : Hid (∀ r e w', NAns W0 G r e w' → NAns w G r e w') := fun r e w' h => h.up B0 fun _ => .inl
  have h0 := h.below B0
  have hx0 := hx.below B0
  obtain ⟨f1, f2, f3, f4⟩ := hf
  have ck : W0.cell? ⟨w.heap.size, 0, none⟩ = some (.int .i64 x.kind) := by rw [L0.cell]; rfl
  rcases Tm.does_kind l x with ⟨k0, hd⟩ | ⟨k0, hd⟩ | ⟨k0, hd⟩ | ⟨k0, hd⟩ | ⟨k0, hd⟩
  · rw [hd]
    have e0 : (x.kind == 0) = true := beq_iff_eq.2 k0
    have c4 : W0.cell? ⟨w.heap.size, 4, none⟩ = some (.string x.s) := by rw [L0.cell]; rfl
    have c2 : W0.cell? ⟨w.heap.size, 2, none⟩ = some (.int .i64 x.sort) := by rw [L0.cell]; rfl
    have HA := Lib.hid (rconst9 W0 A n c l x.s x.sort h0 hn)
    generalize Tm.const l x.s x.sort = r at HA
    clear h hI hx h0 hx0 L0 B0 hd k0 f1 f2 f3 f4
    go_enter Tryd.func10, Tryd.ntmps10
    go_wp2_with fail
    refine HA.out.mono ?_
    rintro e w1 ha
    have HE := Lib.hid (HUp.out _ _ _ ha)
    obtain ⟨⟨A1, c1, rfl, _⟩, _⟩ := ha
    clear HA
    go_wp2
    first | exact HE.out | exact bodyPost_ret (by simp [results, Tryd.results10, go_sem]) rfl HE.out
  · rw [hd]
    have e0 : (x.kind == 0) = false := beq_eq_false_iff_ne.2 (by omega)
    have e1 : (x.kind == 1) = true := beq_iff_eq.2 k0
    have c5 : W0.cell? ⟨w.heap.size, 5, none⟩ = some (.bool x.b) := by rw [L0.cell]; rfl
    have HA := Lib.hid (rbool9 W0 A n c l x.b h0 hn)
    generalize Tm.bool l x.b = r at HA
    clear h hI hx h0 hx0 L0 B0 hd k0 f1 f2 f3 f4
    go_enter Tryd.func10, Tryd.ntmps10
    go_wp2_with fail
    refine HA.out.mono ?_
    rintro e w1 ha
    have HE := Lib.hid (HUp.out _ _ _ ha)
    obtain ⟨⟨A1, c1, rfl, _⟩, _⟩ := ha
    clear HA
    go_wp2
    first | exact HE.out | exact bodyPost_ret (by simp [results, Tryd.results10, go_sem]) rfl HE.out
  · rw [hd]
    have e0 : (x.kind == 0) = false := beq_eq_false_iff_ne.2 (by omega)
    have e1 : (x.kind == 1) = false := beq_eq_false_iff_ne.2 (by omega)
    have e2 : (x.kind == 2) = true := beq_iff_eq.2 k0
    have c6 : W0.cell? ⟨w.heap.size, 6, none⟩ = some (.bool P.g) := by rw [L0.cell]; rfl
    have c7 : W0.cell? ⟨w.heap.size, 7, none⟩ = some (.slice P.B P.m P.d) := by rw [L0.cell]; rfl
    have HA := Lib.hid (rnum9 W0 A n c l P.g P.B P.m P.d x.z h0 (hx0.num f2) hn f2)
    generalize Tm.num l x.z = r at HA
    clear h hI hx h0 hx0 L0 B0 hd k0 f1 f2 f3 f4
    go_enter Tryd.func10, Tryd.ntmps10
    go_wp2_with fail
    refine HA.out.mono ?_
    rintro e w1 ha
    have HE := Lib.hid (HUp.out _ _ _ ha)
    obtain ⟨⟨A1, c1, rfl, _⟩, _⟩ := ha
    clear HA
    go_wp2
    first | exact HE.out | exact bodyPost_ret (by simp [results, Tryd.results10, go_sem]) rfl HE.out
  · rw [hd]
    have e0 : (x.kind == 0) = false := beq_eq_false_iff_ne.2 (by omega)
    have e1 : (x.kind == 1) = false := beq_eq_false_iff_ne.2 (by omega)
    have e2 : (x.kind == 2) = false := beq_eq_false_iff_ne.2 (by omega)
    have e3 : (x.kind == 3) = true := beq_iff_eq.2 k0
    have c8 : W0.cell? ⟨w.heap.size, 8, none⟩ = some (.slice P.C P.p P.f) := by rw [L0.cell]; rfl
    have HA := Lib.hid (rstr9 W0 A n c l P.C P.p P.f x.t h0 hx0.str hg hn (by omega))
    generalize Tm.str l x.t = r at HA
    clear h hI hx h0 hx0 L0 B0 hd k0 f1 f2 f3 f4
    go_enter Tryd.func10, Tryd.ntmps10
    go_wp2_with fail
    refine HA.out.mono ?_
    rintro e w1 ha
    have HE := Lib.hid (HUp.out _ _ _ ha)
    obtain ⟨⟨A1, c1, rfl, _⟩, _⟩ := ha
    clear HA
    go_wp2
    first | exact HE.out | exact bodyPost_ret (by simp [results, Tryd.results10, go_sem]) rfl HE.out
  · rw [hd]
    have e0 : (x.kind == 0) = false := beq_eq_false_iff_ne.2 (by omega)
    have e1 : (x.kind == 1) = false := beq_eq_false_iff_ne.2 (by omega)
    have e2 : (x.kind == 2) = false := beq_eq_false_iff_ne.2 (by omega)
    have e3 : (x.kind == 3) = false := beq_eq_false_iff_ne.2 (by omega)
    have c1 : W0.cell? ⟨w.heap.size, 1, none⟩ = some (.int .i64 x.op) := by rw [L0.cell]; rfl
    have c3 : W0.cell? ⟨w.heap.size, 3, none⟩ = some (.slice P.A P.n P.c) := by rw [L0.cell]; rfl
    have HA := Lib.hid (rapp9 W0 A n c l x.op P.A P.n P.c x.a h0 hI hx0.a hx0.nil hn (by omega))
    generalize Tm.app l x.op x.a = r at HA
    clear h hI hx h0 hx0 L0 B0 hd k0 f1 f2 f3 f4
    go_enter Tryd.func10, Tryd.ntmps10
    go_wp2_with fail
    refine HA.out.mono ?_
    rintro e w1 ha
    have HE := Lib.hid (HUp.out _ _ _ ha)
    obtain ⟨⟨A1, c1, rfl, _⟩, _⟩ := ha
    clear HA
    go_wp2
    first | exact HE.out | exact bodyPost_ret (by simp [results, Tryd.results10, go_sem]) rfl HE.out

/-- the slice of n calls at A reads as l -/
structure ClS (w : World) (A : Option Addr) (n : Nat) (l : List (ClP × Cl)) : Prop where
  len : l.length = n
  at_ : 0 < n → ∃ b off, A = some ⟨b, off, none⟩ ∧ b < w.heap.size ∧ ∀ (i : Nat) q, l[i]? = some q → (∀ j u, (q.1.cells q.2)[j]? = some u → w.cell? ⟨b, off + i * 9 + j, none⟩ = some u) ∧ ClAs w q.1 q.2
theorem ClS.below {w w' : World} {A : Option Addr} {n : Nat} {l : List (ClP × Cl)} (h : ClS w A n l) (hb : Below w.heap.size w w') : ClS w' A n l :=
  ⟨h.len, fun hn => by
    obtain ⟨b, off, e, hlt, hc⟩ := h.at_ hn
    exact ⟨b, off, e, Nat.lt_of_lt_of_le hlt hb.size, fun i q hq => ⟨fun j u hu => (hb.cell (p := ⟨b, off + i * 9 + j, none⟩) hlt).trans ((hc i q hq).1 j u hu), (hc i q hq).2.below hb⟩⟩⟩
theorem ClS.get {w : World} {A : Option Addr} {n i : Nat} {l : List (ClP × Cl)} (h : ClS w A n l) (hi : i < n) :
    ∃ b off P x, A = some ⟨b, off, none⟩ ∧ l[i]? = some (P, x) ∧ b < w.heap.size ∧ ClAs w P x ∧ ∀ W, Below w.heap.size w W →
      W.cell? ⟨b, off + i * 9, none⟩ = some (.int .i64 x.kind) ∧ W.cell? ⟨b, off + i * 9 + 1, none⟩ = some (.int .i64 x.op) ∧ W.cell? ⟨b, off + i * 9 + 2, none⟩ = some (.int .i64 x.sort) ∧ W.cell? ⟨b, off + i * 9 + 3, none⟩ = some (.slice P.A P.n P.c) ∧
      W.cell? ⟨b, off + i * 9 + 4, none⟩ = some (.string x.s) ∧ W.cell? ⟨b, off + i * 9 + 5, none⟩ = some (.bool x.b) ∧ W.cell? ⟨b, off + i * 9 + 6, none⟩ = some (.bool P.g) ∧ W.cell? ⟨b, off + i * 9 + 7, none⟩ = some (.slice P.B P.m P.d) ∧ W.cell? ⟨b, off + i * 9 + 8, none⟩ = some (.slice P.C P.p P.f) := by
  obtain ⟨b, off, e, hlt, hc⟩ := h.at_ (by omega)
  obtain ⟨⟨P, x⟩, hx⟩ : ∃ q, l[i]? = some q := ⟨_, List.getElem?_eq_getElem (by rw [h.len]; exact hi)⟩
  obtain ⟨h1, h2⟩ := hc i _ hx
  refine ⟨b, off, P, x, e, hx, hlt, h2, fun W hW => ?_⟩
  have g : ∀ j u, (P.cells x)[j]? = some u → W.cell? ⟨b, off + i * 9 + j, none⟩ = some u := fun j u hu => (hW.cell (p := ⟨b, _, none⟩) hlt).trans (h1 j u hu)
  exact ⟨g 0 _ rfl, g 1 _ rfl, g 2 _ rfl, g 3 _ rfl, g 4 _ rfl, g 5 _ rfl, g 6 _ rfl, g 7 _ rfl, g 8 _ rfl⟩
set_option maxRecDepth 100000 in
set_option maxHeartbeats 3200000 in
theorem kfew9 (w : World) (A : Option Addr) (n c : Nat) (l : List (ClP × Cl)) (most : Nat) (h : ClS w A n l) (hm : most ≤ 1000) :
    Calls Tryd.prog 8 #[.slice A n c, .int .i64 (most : Int)] w fun e w' => (∃ b : Bool, e = .returned (.bool b) ∧ (b = true → n ≤ most ∧ ∀ q ∈ l, q.1.few q.2)) ∧ w' = w := by
  by_cases hn : most < n
  · have d1 : decide ((most : Int) < (n : Int)) = true := decide_eq_true (by omega)
    have d2 : decide (most < n) = true := decide_eq_true hn
    clear h hn
    go_enter Tryd.func8, Tryd.ntmps8
    go_wp2
    go_ret
    exact ⟨⟨_, rfl, fun e => by cases e⟩, rfl⟩
  have d1 : decide ((most : Int) < (n : Int)) = false := decide_eq_false (by omega)
  have d2 : decide (most < n) = false := decide_eq_false hn
  have hnm : n ≤ most := by omega
  have HN := Lib.hid hnm
  have HH := Lib.hid h
  have hn1 : n ≤ 1000 := by omega
  clear h hn hnm
  go_enter Tryd.func8, Tryd.ntmps8
  go_wp2
  clear d1 d2
  go_loopw [5] (fun iv wr => ∃ i : Nat, i ≤ n ∧ iv = .int .i64 (i : Nat) ∧ w = wr ∧ Hid (∀ q ∈ l.take i, q.1.few q.2)) (fun iv _ => n - (intOf iv).toNat)
  case atStart => exact ⟨0, Nat.zero_le _, rfl, rfl, fun q hq => by simp at hq⟩
  case round =>
    obtain ⟨i, hi, rfl, rfl, HA⟩ := hrel
    by_cases hlt : i < n
    · have hlt' : (i : Int) < (n : Int) := by omega
      have hi0 : (0 : Int) ≤ (i : Int) := by omega
      obtain ⟨b, off, P, x, rfl, hx, _, _, hc⟩ := HH.out.get hlt
      obtain ⟨_, _, _, g3, g4, _, _, g7, g8⟩ := hc w (Below.refl _ _)
      have htk := Lib.hid (take_one hx)
      have hiw : IntKind.i64.wrap ((i : Int) + 1) = (i : Int) + 1 := IntWalk.i64_in _ (by omega)
      clear hc hx HH
      by_cases e1 : 300 < P.n
      · have q1 : decide ((300 : Int) < (P.n : Int)) = true := decide_eq_true (by omega)
        have q1' : decide (300 < P.n) = true := decide_eq_true e1
        clear HA htk e1
        go_wp2
        go_ret
        exact ⟨⟨_, rfl, fun e => by cases e⟩, rfl⟩
      have q1 : decide ((300 : Int) < (P.n : Int)) = false := decide_eq_false (by omega)
      have q1' : decide (300 < P.n) = false := decide_eq_false e1
      by_cases e2 : 20 < P.m
      · have q2 : decide ((20 : Int) < (P.m : Int)) = true := decide_eq_true (by omega)
        have q2' : decide (20 < P.m) = true := decide_eq_true e2
        clear HA htk e1 e2
        go_wp2
        go_ret
        exact ⟨⟨_, rfl, fun e => by cases e⟩, rfl⟩
      have q2 : decide ((20 : Int) < (P.m : Int)) = false := decide_eq_false (by omega)
      have q2' : decide (20 < P.m) = false := decide_eq_false e2
      by_cases e3 : 200 < P.p
      · have q3 : decide ((200 : Int) < (P.p : Int)) = true := decide_eq_true (by omega)
        have q3' : decide (200 < P.p) = true := decide_eq_true e3
        clear HA htk e1 e2 e3
        go_wp2
        go_ret
        exact ⟨⟨_, rfl, fun e => by cases e⟩, rfl⟩
      have q3 : decide ((200 : Int) < (P.p : Int)) = false := decide_eq_false (by omega)
      have q3' : decide (200 < P.p) = false := decide_eq_false e3
      by_cases e4 : 200 < x.s.size
      · have q4 : decide ((200 : Int) < (x.s.size : Int)) = true := decide_eq_true (by omega)
        have q4' : decide (200 < x.s.size) = true := decide_eq_true e4
        clear HA htk e1 e2 e3 e4
        go_wp2
        go_ret
        exact ⟨⟨_, rfl, fun e => by cases e⟩, rfl⟩
      have q4 : decide ((200 : Int) < (x.s.size : Int)) = false := decide_eq_false (by omega)
      have q4' : decide (200 < x.s.size) = false := decide_eq_false e4
      have HA2 : Hid (∀ q ∈ l.take (i + 1), q.1.few q.2) := by
        show ∀ q ∈ l.take (i + 1), q.1.few q.2
        rw [htk.out]
        intro q hq
        rcases List.mem_append.1 hq with hq | hq
        · exact HA.out q hq
        · rw [List.mem_singleton.1 hq]
          exact ⟨by simp only; omega, by simp only; omega, by simp only; omega, by simp only; omega⟩
      clear HA htk e1 e2 e3 e4
      go_wp2
      go_roundw
      case rel => exact ⟨i + 1, by omega, by go_num, by first | trivial | rfl, HA2.out⟩
      case measure => simp [intOf]; omega
    · have him : n = i := by omega
      have hal : ∀ q ∈ l, q.1.few q.2 := fun q hq => HA.out q (by rw [← him, ← HH.out.len, List.take_length]; exact hq)
      have HL := Lib.hid hal
      clear HA hal HH
      have hlt2 : ¬ (i : Int) < (n : Int) := by omega
      go_wp2
      go_ret
      first | exact ⟨⟨_, rfl, fun _ => ⟨HN.out, HL.out⟩⟩, rfl⟩ | exact ⟨.inr ⟨rfl, by have := HN.out; omega, fun a b hq => HL.out (a, b) hq⟩, rfl⟩
end Go.Proofs.YtkooconjkimgoaaDoor
