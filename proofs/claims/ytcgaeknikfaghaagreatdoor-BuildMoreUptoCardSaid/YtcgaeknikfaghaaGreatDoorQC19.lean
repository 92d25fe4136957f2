/- What the proofs of this claim use, text by text. -/
import Derived.Test.YtcgaeknikfaghaaGreatDoorQC18
import Derived.Test.YtcgaeknikfaghaaGreatDoorQC08
import Derived.Test.YtcgaeknikfaghaaGreatDoorRows
import Derived.Deep.Slices
import Derived.Deep.Fields
import Derived.ChangeSame
import Derived.WideShapes
set_option linter.unusedSimpArgs false
set_option linter.unusedVariables false
set_option maxRecDepth 100000
set_option maxHeartbeats 25600000
namespace Go.Proofs.YtcgaeknikfaghaaGreatDoor
def Sx.atom (t : ITok) : Sx := ⟨false, t.1, t.2.1, t.2.2, t.2.2, []⟩
def Sx.node (a : Int) (L : List Sx) : Sx := ⟨true, 0, ByteArray.empty, 0, a, L⟩
mutual
def Sx.deep : Sx → Nat
  | ⟨list, _, _, _, _, L⟩ => if list then Sx.deeps L + 1 else 0
def Sx.deeps : List Sx → Nat
  | [] => 0
  | x :: l => max (Sx.deep x) (Sx.deeps l)
end
theorem Sx.deep_list {x : Sx} (h : x.list = true) : x.deep = Sx.deeps x.L + 1 := by
  cases x
  subst h
  rw [Sx.deep, if_pos rfl]
theorem Sx.deep_atom {x : Sx} (h : x.list = false) : x.deep = 0 := by
  cases x
  subst h
  rw [Sx.deep, if_neg (by decide)]
def clos : Nat → Nat → List ITok → Option (Nat × Nat)
  | _, _, [] => none
  | n, most, t :: l =>
    let n' := if t.1 = 1 then n + 1 else if t.1 = 2 then n - 1 else n
    if n' = 0 then some (1, max most n') else (clos n' (max most n') l).map fun x => (x.1 + 1, x.2)
inductive Reads : List ITok → List Sx → Prop
  | nil : Reads [] []
  | atom (t : ITok) (l : List ITok) (L : List Sx) : t.1 ≠ 1 → t.1 ≠ 2 → Reads l L → Reads (t :: l) (Sx.atom t :: L)
  | list (o c : ITok) (m l : List ITok) (M L : List Sx) : o.1 = 1 → c.1 = 2 → Reads m M → Reads l L → Reads (o :: (m ++ c :: l)) (Sx.node o.2.2 M :: L)
theorem clos_open {n most : Nat} {t : ITok} (l : List ITok) (h : t.1 = 1) : clos n most (t :: l) = (clos (n + 1) (max most (n + 1)) l).map fun x => (x.1 + 1, x.2) := by
  rw [clos]
  simp only [h, if_true]
  rw [if_neg (by omega)]
theorem clos_last {most : Nat} {t : ITok} (l : List ITok) (h : t.1 = 2) : clos 1 most (t :: l) = some (1, most) := by
  rw [clos]
  simp [h]
theorem clos_close {n most : Nat} {t : ITok} (l : List ITok) (h : t.1 = 2) (hm : n + 1 ≤ most) : clos (n + 2) most (t :: l) = (clos (n + 1) most l).map fun x => (x.1 + 1, x.2) := by
  rw [clos]
  have e : (if t.1 = 1 then n + 2 + 1 else if t.1 = 2 then n + 2 - 1 else n + 2) = n + 1 := by rw [if_neg (by omega), if_pos h]; omega
  simp only [e]
  rw [if_neg (by omega), Nat.max_eq_left hm]
theorem clos_atom {n most : Nat} {t : ITok} (l : List ITok) (h1 : t.1 ≠ 1) (h2 : t.1 ≠ 2) (hm : n + 1 ≤ most) : clos (n + 1) most (t :: l) = (clos (n + 1) most l).map fun x => (x.1 + 1, x.2) := by
  rw [clos]
  simp only [h1, h2, if_false]
  rw [if_neg (by omega), Nat.max_eq_left hm]
theorem map_shift (o : Option (Nat × Nat)) (a b : Nat) : (o.map fun x => (x.1 + a, x.2)).map (fun x => (x.1 + b, x.2)) = o.map fun x => (x.1 + (a + b), x.2) := by
  cases o
  · rfl
  · simp [Nat.add_assoc]
theorem Reads.pass {m : List ITok} {M : List Sx} (h : Reads m M) : ∀ (n most : Nat) (r : List ITok), n + 1 ≤ most → clos (n + 1) most (m ++ r) = (clos (n + 1) (max most (n + 1 + Sx.deeps M)) r).map fun x => (x.1 + m.length, x.2) := by
  induction h with
  | nil =>
    intro n most r hm
    rw [Sx.deeps, Nat.add_zero, Nat.max_eq_left hm]
    cases h : clos (n + 1) most r <;> simp [h]
  | atom t l L h1 h2 _ ih =>
    intro n most r hm
    rw [List.cons_append, clos_atom _ h1 h2 hm, ih n most r hm, map_shift, Sx.deeps, Sx.deep_atom (x := Sx.atom t) rfl, List.length_cons, Nat.zero_max]
  | list o c m l M L h1 h2 _ _ i1 i2 =>
    intro n most r hm
    rw [List.cons_append, List.append_assoc, List.cons_append, clos_open _ h1, i1 (n + 1) _ _ (by omega), clos_close _ h2 (by omega), i2 n _ r (by omega), map_shift, map_shift, map_shift]
    rw [Sx.deeps, Sx.deep_list (x := Sx.node o.2.2 M) rfl]
    show Option.map _ (clos (n + 1) (max (max (max most (n + 1 + 1)) (n + 1 + 1 + Sx.deeps M)) (n + 1 + Sx.deeps L)) r) = Option.map _ (clos (n + 1) (max most (n + 1 + max (Sx.deeps M + 1) (Sx.deeps L))) r)
    rw [show max (max (max most (n + 1 + 1)) (n + 1 + 1 + Sx.deeps M)) (n + 1 + Sx.deeps L) = max most (n + 1 + max (Sx.deeps M + 1) (Sx.deeps L)) by omega]
    congr 1
    funext x
    rw [List.length_cons, List.length_append, List.length_cons]
    congr 1
    omega
theorem Reads.closing {m : List ITok} {M : List Sx} (h : Reads m M) {o c : ITok} (ho : o.1 = 1) (hc : c.1 = 2) (r : List ITok) : clos 0 0 (o :: (m ++ c :: r)) = some (m.length + 2, Sx.deeps M + 1) := by
  rw [clos_open _ ho, h.pass 0 _ _ (by omega), clos_last _ hc]
  simp
  omega
theorem clos_some : ∀ (k : Nat) (l : List ITok) (n most : Nat), l.length ≤ k → n + 1 ≤ most → clos (n + 1) most l ≠ none → ∃ m M c r, l = m ++ c :: r ∧ c.1 = 2 ∧ Reads m M := by
  intro k
  induction k with
  | zero =>
    intro l n most hl _ h
    obtain rfl : l = [] := List.eq_nil_of_length_eq_zero (by omega)
    exact absurd rfl h
  | succ k ih =>
    intro l n most hl hm h
    cases l with
    | nil => exact absurd rfl h
    | cons t l =>
      rw [List.length_cons] at hl
      by_cases h2 : t.1 = 2
      · exact ⟨[], [], t, l, rfl, h2, .nil⟩
      · by_cases h1 : t.1 = 1
        · rw [clos_open _ h1] at h
          have h' : clos (n + 1 + 1) (max most (n + 1 + 1)) l ≠ none := fun e => h (by rw [e]; rfl)
          obtain ⟨m, M, c, r, rfl, hc, hr⟩ := ih l (n + 1) _ (by omega) (by omega) h'
          rw [hr.pass _ _ _ (by omega), clos_close _ hc (by omega)] at h'
          rw [List.length_append, List.length_cons] at hl
          obtain ⟨m', M', c', r', rfl, hc', hr'⟩ := ih r n _ (by omega) (show n + 1 ≤ max (max most (n + 1 + 1)) (n + 1 + 1 + Sx.deeps M) by omega) (fun e => h' (by rw [e]; rfl))
          exact ⟨t :: (m ++ c :: m'), _, c', r', by simp, hc', .list t c m m' M M' h1 hc hr hr'⟩
        · rw [clos_atom _ h1 h2 hm] at h
          obtain ⟨m, M, c, r, rfl, hc, hr⟩ := ih l n most (by omega) hm (fun e => h (by rw [e]; rfl))
          exact ⟨t :: m, _, c, r, rfl, hc, .atom t m M h1 h2 hr⟩
theorem clos_reads {o : ITok} {l : List ITok} {s d : Nat} (ho : o.1 = 1) (h : clos 0 0 (o :: l) = some (s, d)) : ∃ m M c r, l = m ++ c :: r ∧ c.1 = 2 ∧ Reads m M ∧ s = m.length + 2 ∧ d = Sx.deeps M + 1 := by
  have h' := h
  rw [clos_open _ ho] at h'
  obtain ⟨m, M, c, r, rfl, hc, hr⟩ := clos_some l.length l 0 1 (Nat.le_refl _) (by omega) (fun e => by rw [show max 0 (0 + 1) = 1 from rfl, e] at h'; cases h')
  rw [hr.closing ho hc r] at h
  injection h with h
  injection h with h1 h2
  exact ⟨m, M, c, r, rfl, hc, hr, h1.symm, h2.symm⟩
theorem Reads.split {m m' : List ITok} {M M' : List Sx} (h : Reads m M) (h' : Reads m' M') {c c' : ITok} {l l' : List ITok} (hc : c.1 = 2) (hc' : c'.1 = 2) (e : m ++ c :: l = m' ++ c' :: l') : m = m' ∧ c = c' ∧ l = l' := by
  have h1 := h.closing (o := (1, ByteArray.empty, 0)) rfl hc l
  have h2 := h'.closing (o := (1, ByteArray.empty, 0)) rfl hc' l'
  rw [e, h2] at h1
  injection h1 with h1
  injection h1 with h1 _
  obtain ⟨e1, e2⟩ := List.append_inj e (by omega)
  injection e2 with e2 e3
  exact ⟨e1, e2, e3⟩
theorem Reads.inv {t : ITok} {l : List ITok} {M : List Sx} (h : Reads (t :: l) M) : (t.1 ≠ 1 ∧ t.1 ≠ 2 ∧ ∃ L, M = Sx.atom t :: L ∧ Reads l L) ∨ (t.1 = 1 ∧ ∃ c m M' l' L, l = m ++ c :: l' ∧ c.1 = 2 ∧ Reads m M' ∧ M = Sx.node t.2.2 M' :: L ∧ Reads l' L) := by
  cases h with
  | atom _ _ L h1 h2 h3 => exact .inl ⟨h1, h2, L, rfl, h3⟩
  | list _ c m l' M' L h1 h2 h3 h4 => exact .inr ⟨h1, c, m, M', l', L, rfl, h2, h3, rfl, h4⟩
theorem Reads.uniq {m : List ITok} {M : List Sx} (h : Reads m M) : ∀ M', Reads m M' → M = M' := by
  induction h with
  | nil => intro M' h'; cases h'; rfl
  | atom t l L h1 h2 _ ih =>
    intro M' h'
    rcases h'.inv with ⟨_, _, L', rfl, h4⟩ | ⟨h3, _⟩
    · rw [ih L' h4]
    · exact absurd h3 h1
  | list o c m l M L h1 h2 h3 _ i1 i2 =>
    intro M' h'
    rcases h'.inv with ⟨h4, _⟩ | ⟨_, c', m', N, l', L', e, hc', hr', rfl, hr2⟩
    · exact absurd h1 h4
    · obtain ⟨rfl, rfl, rfl⟩ := h3.split hr' h2 hc' e
      rw [i1 N hr', i2 L' hr2]
inductive Says (z : Int) : List ITok → List SItem → Prop
  | nil : Says z [] []
  | close (t : ITok) (l : List ITok) (I : List SItem) : t.1 = 2 → Says z l I → Says z (t :: l) (⟨Sx.zero, 60, t.2.2⟩ :: I)
  | atom (t : ITok) (l : List ITok) (I : List SItem) : t.1 ≠ 1 → t.1 ≠ 2 → Says z l I → Says z (t :: l) (⟨Sx.atom t, 0, t.2.2⟩ :: I)
  | ends (t : ITok) (l : List ITok) : t.1 = 1 → clos 0 0 (t :: l) = none → Says z (t :: l) [⟨Sx.zero, 51, z⟩]
  | deep (o c : ITok) (m l : List ITok) (M : List Sx) (I : List SItem) : o.1 = 1 → c.1 = 2 → Reads m M → 64 < Sx.deeps M + 1 → Says z l I → Says z (o :: (m ++ c :: l)) (⟨Sx.zero, 2, o.2.2⟩ :: I)
  | list (o c : ITok) (m l : List ITok) (M : List Sx) (I : List SItem) : o.1 = 1 → c.1 = 2 → Reads m M → ¬ 64 < Sx.deeps M + 1 → Says z l I → Says z (o :: (m ++ c :: l)) (⟨Sx.node o.2.2 M, 0, o.2.2⟩ :: I)
theorem Says.inv {z : Int} {t : ITok} {l : List ITok} {I : List SItem} (h : Says z (t :: l) I) :
    (t.1 = 2 ∧ ∃ J, I = ⟨Sx.zero, 60, t.2.2⟩ :: J ∧ Says z l J) ∨ (t.1 ≠ 1 ∧ t.1 ≠ 2 ∧ ∃ J, I = ⟨Sx.atom t, 0, t.2.2⟩ :: J ∧ Says z l J) ∨ (t.1 = 1 ∧ clos 0 0 (t :: l) = none ∧ I = [⟨Sx.zero, 51, z⟩]) ∨
    (t.1 = 1 ∧ ∃ c m l' M J, l = m ++ c :: l' ∧ c.1 = 2 ∧ Reads m M ∧ Says z l' J ∧ I = (if 64 < Sx.deeps M + 1 then ⟨Sx.zero, 2, t.2.2⟩ else ⟨Sx.node t.2.2 M, 0, t.2.2⟩) :: J) := by
  cases h with
  | close _ _ J h1 h2 => exact .inl ⟨h1, J, rfl, h2⟩
  | atom _ _ J h1 h2 h3 => exact .inr (.inl ⟨h1, h2, J, rfl, h3⟩)
  | ends _ _ h1 h2 => exact .inr (.inr (.inl ⟨h1, h2, rfl⟩))
  | deep _ c m l' M J h1 h2 h3 h4 h5 => exact .inr (.inr (.inr ⟨h1, c, m, l', M, J, rfl, h2, h3, h5, by rw [if_pos h4]⟩))
  | list _ c m l' M J h1 h2 h3 h4 h5 => exact .inr (.inr (.inr ⟨h1, c, m, l', M, J, rfl, h2, h3, h5, by rw [if_neg h4]⟩))
theorem Says.uniq {z : Int} : ∀ (k : Nat) (l : List ITok) (I J : List SItem), l.length ≤ k → Says z l I → Says z l J → I = J := by
  intro k
  induction k with
  | zero =>
    intro l I J hl h h'
    obtain rfl : l = [] := List.eq_nil_of_length_eq_zero (by omega)
    cases h
    cases h'
    rfl
  | succ k ih =>
    intro l I J hl h h'
    cases l with
    | nil =>
      cases h
      cases h'
      rfl
    | cons t l =>
      rw [List.length_cons] at hl
      rcases h.inv with ⟨h1, I', rfl, h2⟩ | ⟨h1, h2, I', rfl, h3⟩ | ⟨h1, h2, rfl⟩ | ⟨h1, c, m, l', M, I', rfl, hc, hr, h3, rfl⟩
      · rcases h'.inv with ⟨_, J', rfl, g2⟩ | ⟨g1, g2, _⟩ | ⟨g1, _⟩ | ⟨g1, _⟩
        · rw [ih l I' J' (by omega) h2 g2]
        · exact absurd h1 g2
        · exact absurd (g1.symm.trans h1) (by decide)
        · exact absurd (g1.symm.trans h1) (by decide)
      · rcases h'.inv with ⟨g1, _⟩ | ⟨_, _, J', rfl, g3⟩ | ⟨g1, _⟩ | ⟨g1, _⟩
        · exact absurd g1 h2
        · rw [ih l I' J' (by omega) h3 g3]
        · exact absurd g1 h1
        · exact absurd g1 h1
      · rcases h'.inv with ⟨g1, _⟩ | ⟨g1, _⟩ | ⟨_, _, rfl⟩ | ⟨_, c, m, l', M, J', rfl, hc, hr, _⟩
        · exact absurd (h1.symm.trans g1) (by decide)
        · exact absurd h1 g1
        · rfl
        · rw [hr.closing h1 hc l'] at h2
          cases h2
      · rcases h'.inv with ⟨g1, _⟩ | ⟨g1, _⟩ | ⟨_, g2, _⟩ | ⟨_, c', m', l'', M', J', e, hc', hr', g3, rfl⟩
        · exact absurd (h1.symm.trans g1) (by decide)
        · exact absurd h1 g1
        · rw [hr.closing h1 hc l'] at g2
          cases g2
        · obtain ⟨rfl, rfl, rfl⟩ := hr.split hr' hc hc' e
          rw [hr.uniq M' hr']
          rw [List.length_append, List.length_cons] at hl
          rw [ih l' I' J' (by omega) h3 g3]
end Go.Proofs.YtcgaeknikfaghaaGreatDoor
namespace Go.Proofs.YtcgaeknikfaghaaGreatDoor
section
variable {all : Nat} {H : Nat → Nat} {t : ITok} {l : List ITok} {i used : Nat}
end
end Go.Proofs.YtcgaeknikfaghaaGreatDoor
namespace Go.Proofs.YtcgaeknikfaghaaGreatDoor
mutual
def Sx.wide : Sx → Nat
  | ⟨_, _, T, _, _, L⟩ => max T.size (Sx.wides L)
def Sx.wides : List Sx → Nat
  | [] => 0
  | x :: l => max (Sx.wide x) (Sx.wides l)
end
theorem Sx.wide_eq (x : Sx) : x.wide = max x.T.size (Sx.wides x.L) := by cases x; rw [Sx.wide]
theorem Sx.wide_mem {l : List Sx} {x : Sx} (h : x ∈ l) : x.wide ≤ Sx.wides l := by
  induction l with
  | nil => cases h
  | cons y l ih =>
    rw [Sx.wides]
    rcases List.mem_cons.1 h with rfl | h
    · omega
    · have := ih h
      omega
end Go.Proofs.YtcgaeknikfaghaaGreatDoor
namespace Go.Proofs.YtcgaeknikfaghaaGreatDoor
open Go.RowKit Go.ChangeShapes Go.WideShapes Go.Deep
theorem bulk_le {H : Type} {d : DataW H} {l : List (DataW H)} (h : d ∈ l) : Rows.uptoBulk d ≤ Rows.uptoBulkAll l := by
  induction l with
  | nil => cases h
  | cons x r ih =>
    simp only [Rows.uptoBulkAll]
    cases List.mem_cons.1 h with
    | inl e => subst e; omega
    | inr e => have := ih e; omega
theorem open_sx {H : Type} {enc : TypeId × Value → H} {W : World} : ∀ (N fuel : Nat) (cs : List Value) (y : DataW H × List MemPlace), fuel ≤ N → DataW.trod enc Tryz.prog W 0 (fun _ => true) true fuel 27 cs = some y →
    ∃ x A c, cs = scells x A c ∧ STree W AnyP x A c ∧ x.size ≤ Rows.uptoBulk y.1 ∧ x.wide ≤ Rows.uptoBulk y.1 := by
  intro N
  induction N with
  | zero =>
    intro fuel cs y hN h
    obtain ⟨_, _, e, _⟩ := DataW.trod_struct Tryz.underlying27 h
    omega
  | succ N ih =>
    intro fuel cs y hN h
    obtain ⟨xs, n, hfu, hy, hlen, hxl, hf⟩ := DataW.trod_struct Tryz.underlying27 h
    rw [show Tryz.prog.cellsOf 27 = 6 by kernel_rfl] at hlen
    match xs, hxl, cs, hlen with
    | [y0, y1, y2, y3], _, [v0, v1, v2, v3, v4, v5], _ =>
      have e0 : DataW.trod enc Tryz.prog W 0 (fun _ => true) true n 4 [v0] = some y0 := hf 0 _ rfl
      have e1 : DataW.trod enc Tryz.prog W 0 (fun _ => true) true n 24 [v1, v2, v3] = some y1 := hf 1 _ rfl
      have e2 : DataW.trod enc Tryz.prog W 0 (fun _ => true) true n 3 [v4] = some y2 := hf 2 _ rfl
      have e3 : DataW.trod enc Tryz.prog W 0 (fun _ => true) true n 25 [v5] = some y3 := hf 3 _ rfl
      obtain ⟨b0, hb0, hy0⟩ := DataW.trod_bool Tryz.underlying4 e0
      obtain ⟨z4, hz4, hy2, _⟩ := DataW.trod_int Tryz.underlying3 e2
      obtain ⟨ts, k, _, hty, _, htl, htf⟩ := DataW.trod_struct Tryz.underlying24 e1
      match ts, htl with
      | [t0, t1, t2], _ =>
        have f0 : DataW.trod enc Tryz.prog W 0 (fun _ => true) true k 3 [v1] = some t0 := htf 0 _ rfl
        have f1 : DataW.trod enc Tryz.prog W 0 (fun _ => true) true k 9 [v2] = some t1 := htf 1 _ rfl
        have f2 : DataW.trod enc Tryz.prog W 0 (fun _ => true) true k 3 [v3] = some t2 := htf 2 _ rfl
        obtain ⟨z1, hz1, ht0, _⟩ := DataW.trod_int Tryz.underlying3 f0
        obtain ⟨T, hT, ht1, _⟩ := DataW.trod_string Tryz.underlying9 f1
        obtain ⟨z3, hz3, ht2, _⟩ := DataW.trod_int Tryz.underlying3 f2
        injection hb0 with hb0
        injection hz4 with hz4
        injection hz1 with hz1
        injection hT with hT
        injection hz3 with hz3
        subst hb0 hz4 hz1 hT hz3
        clear e0 e1 e2 f0 f1 f2 hf htf
        have hTs : T.size = T.data.toList.length := by rw [Array.length_toList]; rfl
        rcases DataW.trod_slice Tryz.underlying25 e3 with ⟨hcs, h3⟩ | ⟨a, len, cap, elems, rest, n2, hn2, hcs, h3, _, hl, hm, hel, hi, _, _⟩
        · injection hcs with hcs
          subst hcs
          refine ⟨⟨b0, z1, T, z3, z4, []⟩, none, 0, rfl, ⟨⟨Nat.le_refl _, Nat.zero_le _⟩, .nil _⟩, ?_, ?_⟩
          · rw [hy, Sx.size_eq]
            simp only [Sx.sizes, Rows.uptoBulk]
            omega
          · rw [hy, Sx.wide_eq]
            simp only [Sx.wides, Rows.uptoBulk, Rows.uptoBulkAll, List.map_cons, List.map_nil, hty, ht0, ht1, ht2, hy0, hy2, h3]
            omega
        · injection hcs with hcs
          subst hcs
          have each : ∀ i, i < len → ∃ q cs', elems[i]? = some q ∧ W.cells? 0 (a.add (i * 6)) 6 = some cs' ∧ ∃ x A c, cs' = scells x A c ∧ STree W AnyP x A c ∧ x.size ≤ Rows.uptoBulk q.1 ∧ x.wide ≤ Rows.uptoBulk q.1 := by
            intro i hlt
            have hii := hi i hlt
            rw [show Tryz.prog.cellsOf 27 = 6 by kernel_rfl] at hii
            obtain ⟨q, hq⟩ : ∃ q, elems[i]? = some q := ⟨_, List.getElem?_eq_getElem (by omega)⟩
            rw [hq] at hii
            obtain ⟨cs', h1, h2⟩ := Option.bind_eq_some_iff.1 hii
            exact ⟨q, cs', hq, h1, ih n2 cs' q (by omega) h2⟩
          have row : ∃ L : List Sx, L.length = len ∧ TreeL W AnyP (some a) L ∧ Sx.sizes L ≤ Rows.uptoBulkAll (elems.map (·.1)) ∧ Sx.wides L ≤ Rows.uptoBulkAll (elems.map (·.1)) := by
            cases len with
            | zero => exact ⟨[], rfl, .nil _, by simp [Sx.sizes], by simp [Sx.wides]⟩
            | succ len =>
              obtain ⟨_, cs0, _, hc0, x0, A0, c0, rfl, _⟩ := each 0 (by omega)
              obtain ⟨_, _, hcell0⟩ := World.cells?_some hc0
              have hc00 := hcell0 0 (by omega)
              obtain ⟨b, off, spot⟩ := a
              have hspot : spot = none := by simpa [Addr.add] using World.cell?_spot hc00
              subst hspot
              clear hcell0 hc00 hc0
              have go : ∀ m i, i + m = len + 1 → ∃ L : List Sx, L.length = m ∧ TreeL W AnyP (some ⟨b, off + i * 6, none⟩) L ∧ Sx.sizes L ≤ Rows.uptoBulkAll ((elems.drop i).map (·.1)) ∧ Sx.wides L ≤ Rows.uptoBulkAll ((elems.drop i).map (·.1)) := by
                intro m
                induction m with
                | zero => intro i _; exact ⟨[], rfl, .nil _, by simp [Sx.sizes], by simp [Sx.wides]⟩
                | succ m im =>
                  intro i him
                  obtain ⟨L, hL, hTr, hs, hw⟩ := im (i + 1) (by omega)
                  obtain ⟨q, cs', hq, hc, x, A, c, rfl, hST, hxs, hxw⟩ := each i (by omega)
                  obtain ⟨hqi, hqe⟩ := List.getElem?_eq_some_iff.1 hq
                  have hdr : elems.drop i = q :: elems.drop (i + 1) := by rw [← hqe]; exact List.drop_eq_getElem_cons hqi
                  obtain ⟨_, _, hcell⟩ := World.cells?_some hc
                  have g0 := hcell 0 (by omega)
                  have g1 := hcell 1 (by omega)
                  have g2 := hcell 2 (by omega)
                  have g3 := hcell 3 (by omega)
                  have g4 := hcell 4 (by omega)
                  have g5 := hcell 5 (by omega)
                  rw [addr_add, addr_add] at g0 g1 g2 g3 g4 g5
                  simp only [Nat.add_zero] at g0
                  have hb : b < W.heap.size := by
                    have := World.block_lt_of_cell? W _ g0
                    simpa using this
                  refine ⟨x :: L, by rw [List.length_cons, hL], .cons b (off + i * 6) x L A c ⟨hb, g0, g1, g2, g3, g4, g5⟩ trivial hST.le hST.tree ?_, ?_, ?_⟩
                  · rw [show off + i * 6 + 6 = off + (i + 1) * 6 by omega]
                    exact hTr
                  · rw [hdr, Sx.sizes, List.map_cons, Rows.uptoBulkAll]
                    omega
                  · rw [hdr, Sx.wides, List.map_cons, Rows.uptoBulkAll]
                    omega
              obtain ⟨L, h1, h2, h3, h4⟩ := go (len + 1) 0 (by omega)
              refine ⟨L, h1, ?_, by simpa using h3, by simpa using h4⟩
              rw [Nat.zero_mul, Nat.add_zero] at h2
              exact h2
          obtain ⟨L, hLl, hTr, hs, hw⟩ := row
          refine ⟨⟨b0, z1, T, z3, z4, L⟩, some a, cap, by rw [scells, ← hLl], ⟨⟨by rw [hLl]; exact hl, hm⟩, hTr⟩, ?_, ?_⟩
          · rw [hy, Sx.size_eq]
            simp only [Rows.uptoBulk, Rows.uptoBulkAll, List.map_cons, List.map_nil, h3]
            omega
          · rw [hy, Sx.wide_eq]
            simp only [Rows.uptoBulk, Rows.uptoBulkAll, List.map_cons, List.map_nil, hty, ht0, ht1, ht2, hy0, hy2, h3]
            omega
theorem open_sexp {H : Type} {enc : TypeId × Value → H} {W : World} {base : Nat} {v : Value} {d : DataW H} {p : List MemPlace} (hv : Value.okWide Tryz.prog W .any base 27 v) (h : DataW.Trod enc Tryz.prog W 0 (fun _ => true) true 27 v d p) :
    ∃ x A c, v = sval x A c ∧ STree W AnyP x A c ∧ x.size ≤ Rows.uptoBulk d ∧ x.wide ≤ Rows.uptoBulk d := by
  obtain ⟨cs, rfl, _⟩ := okWide_struct Tryz.underlying27 hv
  obtain ⟨fuel, hf⟩ := h
  obtain ⟨x, A, c, e, h1, h2, h3⟩ := open_sx fuel fuel _ _ (Nat.le_refl _) hf
  refine ⟨x, A, c, ?_, h1, h2, h3⟩
  have e' : cs.toList = scells x A c := e
  rw [show cs = (scells x A c).toArray from by rw [← e']]
end Go.Proofs.YtcgaeknikfaghaaGreatDoor
namespace Go.Proofs.YtcgaeknikfaghaaGreatDoor
open Go.RowKit
theorem knan1 (z : Int) (w : World) : Calls Tryz.prog 256 #[.int .i64 z] w fun e w' => e = .returned (.bool false) ∧ w' = w := by
  go_enter Tryz.func256, Tryz.ntmps256
  go_wp2
  go_ret
  exact ⟨by simp, rfl⟩
theorem knan2 (z : Int) (w : World) : Calls Tryz.prog 243 #[.int .i64 z] w fun e w' => e = .returned (.bool false) ∧ w' = w := by
  go_enter Tryz.func243, Tryz.ntmps243
  go_wp2
  go_ret
  exact ⟨by simp, rfl⟩
theorem kless (x y : Int) (w : World) : Calls Tryz.prog 242 #[.int .i64 x, .int .i64 y] w fun e w' => e = .returned (.bool (decide (x < y))) ∧ w' = w := by
  have HN := Lib.hid fun w => knan1 x w
  obtain ⟨b, hb⟩ : ∃ b, decide (x < y) = b := ⟨_, rfl⟩
  rw [hb]
  go_enter Tryz.func242, Tryz.ntmps242
  go_wp2_with (go_at_call 256; refine (HN.out _).mono ?_; rintro e w1 ⟨rfl, rfl⟩)
  go_ret
  exact ⟨rfl, rfl⟩
theorem kbsearch (w : World) (A : Option Addr) (n c : Nat) (l : List Int) (h : NumS w A n l) (hn : n ≤ 1000000) (z : Int) (k : Nat) (hk : k ≤ n) (hlo : ∀ (i : Nat) x, i < k → l[i]? = some x → x < z) (hhi : ∀ (i : Nat) x, k ≤ i → l[i]? = some x → z ≤ x) :
    Calls Tryz.prog 231 #[.slice A n c, .int .i64 z] w fun e w' => (∃ b, e = .returned (.tuple #[.int .i64 (k : Int), .bool b])) ∧ w' = w := by
  have HH := Lib.hid h
  have HL := Lib.hid hlo
  have HU := Lib.hid hhi
  clear h hlo hhi
  go_enter Tryz.func231, Tryz.ntmps231
  go_wp2
  go_loopw [7, 8] (fun iv jv wr => ∃ i j : Nat, i ≤ k ∧ k ≤ j ∧ j ≤ n ∧ iv = .int .i64 (i : Nat) ∧ jv = .int .i64 (j : Nat) ∧ w = wr) (fun iv jv _ => (intOf jv).toNat - (intOf iv).toNat)
  case atStart => exact ⟨0, n, Nat.zero_le _, hk, Nat.le_refl _, rfl, rfl, rfl⟩
  case round =>
    obtain ⟨i, j, hik, hkj, hjn, rfl, rfl, rfl⟩ := hrel
    by_cases hlt : i < j
    · obtain ⟨q, hq⟩ : ∃ q, (i + j) / 2 = q := ⟨_, rfl⟩
      have hqi : i ≤ q := by omega
      have hqj : q < j := by omega
      have hd1 : decide ((i : Int) < (j : Int)) = true := decide_eq_true (by omega)
      obtain ⟨b, off, x, rfl, hx, _, _, hc⟩ := HH.out.get (i := q) (by omega)
      obtain ⟨hbl, cx⟩ := hc w (Below.refl _ w)
      have hqn : (q : Int) < (n : Int) := by omega
      have hq0 : (0 : Int) ≤ (q : Int) := by omega
      have hs : IntKind.i64.wrap ((i : Int) + (j : Int)) = (i : Int) + (j : Int) := IntWalk.i64_in _ (by omega)
      have hq2 : ((i : Int) + (j : Int)) / 2 = (q : Int) := by omega
      have hq3 : ((i : Int) + (j : Int)) >>> 1 = (q : Int) := by rw [Int.shiftRight_eq_div_pow]; omega
      have HLs := Lib.hid fun w => kless x z w
      by_cases hxz : x < z
      · have hqk : q < k := by
          rcases Nat.lt_or_ge q k with e | e
          · exact e
          · have := HU.out q x e hx
            omega
        rw [decide_eq_true hxz] at HLs
        clear hc hx hq HH HL HU hlt hxz
        go_wp2_with fail
        refine (HLs.out _).mono ?_
        rintro e w1 ⟨rfl, rfl⟩
        clear HLs
        go_wp2
        go_roundw
        case rel => exact ⟨q + 1, j, by omega, hkj, hjn, by go_num, rfl, by first | trivial | rfl⟩
        case measure => simp [intOf]; omega
      · have hqk : k ≤ q := by
          rcases Nat.lt_or_ge q k with e | e
          · have := HL.out q x e hx
            omega
          · exact e
        rw [decide_eq_false hxz] at HLs
        clear hc hx hq HH HL HU hlt hxz
        go_wp2_with fail
        refine (HLs.out _).mono ?_
        rintro e w1 ⟨rfl, rfl⟩
        clear HLs
        go_wp2
        go_roundw
        case rel => exact ⟨i, q, hik, hqk, by omega, rfl, by go_num, by first | trivial | rfl⟩
        case measure => simp [intOf]; omega
    · obtain rfl : i = k := by omega
      obtain rfl : j = i := by omega
      have hd1 : decide ((j : Int) < (j : Int)) = false := decide_eq_false (by omega)
      have HN := Lib.hid fun (x : Int) w => knan2 x w
      by_cases hjn2 : j < n
      · obtain ⟨b, off, x, rfl, hx, _, _, hc⟩ := HH.out.get hjn2
        obtain ⟨hbl, cx⟩ := hc w (Below.refl _ w)
        have hqn : (j : Int) < (n : Int) := by omega
        have hqd : decide ((j : Int) < (n : Int)) = true := decide_eq_true hqn
        have hq0 : (0 : Int) ≤ (j : Int) := by omega
        cases hxz : (x == z) with
        | true =>
          clear hc hx HH HL HU hlt hk hik hkj
          go_wp2
          go_ret2
          exact ⟨⟨_, rfl⟩, rfl⟩
        | false =>
          clear hc hx HH HL HU hlt hk hik hkj
          go_wp2_with (go_at_call 243; refine (HN.out _ _).mono ?_; rintro e w1 ⟨rfl, rfl⟩)
          go_ret2
          exact ⟨⟨_, rfl⟩, rfl⟩
      · have hqd : decide ((j : Int) < (n : Int)) = false := decide_eq_false (by omega)
        clear HH HL HU hlt hk hik hkj
        go_wp2
        go_ret2
        exact ⟨⟨_, rfl⟩, rfl⟩
end Go.Proofs.YtcgaeknikfaghaaGreatDoor
