/- several texts in one. -/
import Derived.Test.YtpjdfogieiokkaaDoorP1
import Derived.Test.YtpjdfogieiokkaaDoorR10
import Derived.Test.YtpjdfogieiokkaaDoorS4
import Derived.Test.YtpjdfogieiokkaaDoorY5
/- Tokens as s-expressions. Nothing of the program's text. -/
namespace Go.Proofs.YtpjdfogieiokkaaDoor

def Sx.atom (t : ITok) : Sx := ⟨false, t.1, t.2.1, t.2.2, t.2.2, []⟩
def Sx.node (a : Int) (L : List Sx) : Sx := ⟨true, 0, ByteArray.empty, 0, a, L⟩
mutual
/-- how deep it is -/
def Sx.deep : Sx → Nat
  | ⟨list, _, _, _, _, L⟩ => if list then Sx.deeps L + 1 else 0
def Sx.deeps : List Sx → Nat
  | [] => 0
  | x :: l => max (Sx.deep x) (Sx.deeps l)
end
theorem Sx.deep_list {x : Sx} (h : x.list = true) : x.deep = Sx.deeps x.L + 1 := by
  cases x
  subst h
  rw [Sx.deep, if_pos rfl]
theorem Sx.deep_atom {x : Sx} (h : x.list = false) : x.deep = 0 := by
  cases x
  subst h
  rw [Sx.deep, if_neg (by decide)]
theorem Sx.dep_deep : ∀ (m : Nat) (x : Sx), Sx.dep m x = min m x.deep
  | 0, x => by simp [Sx.dep]
  | m + 1, x => by
    have h : ∀ l : List Sx, (l.map (Sx.dep m)).foldl max 0 = min m (Sx.deeps l) := by
      intro l
      induction l with
      | nil => simp [Sx.deeps]
      | cons y l ih =>
        rw [List.map_cons, List.foldl_cons, foldl_max, ih, Sx.dep_deep m y, Sx.deeps]
        omega
    rw [Sx.dep, h]
    cases hx : x.list
    · rw [Sx.deep_atom hx]
      simp
    · rw [Sx.deep_list hx]
      simp
theorem Sx.deeps_app : ∀ l m : List Sx, Sx.deeps (l ++ m) = max (Sx.deeps l) (Sx.deeps m)
  | [], m => by simp [Sx.deeps]
  | x :: l, m => by rw [List.cons_append, Sx.deeps, Sx.deeps, Sx.deeps_app l m]; omega

/-- from a place on, where so many lists are open and so many were at most: how many tokens up to where none is open, and how many were open at most -/
def clos : Nat → Nat → List ITok → Option (Nat × Nat)
  | _, _, [] => none
  | n, most, t :: l =>
    let n' := if t.1 = 1 then n + 1 else if t.1 = 2 then n - 1 else n
    if n' = 0 then some (1, max most n') else (clos n' (max most n') l).map fun x => (x.1 + 1, x.2)
/-- these tokens say these s-expressions, one behind the other -/
inductive Reads : List ITok → List Sx → Prop
  | nil : Reads [] []
  | atom (t : ITok) (l : List ITok) (L : List Sx) : t.1 ≠ 1 → t.1 ≠ 2 → Reads l L → Reads (t :: l) (Sx.atom t :: L)
  | list (o c : ITok) (m l : List ITok) (M L : List Sx) : o.1 = 1 → c.1 = 2 → Reads m M → Reads l L → Reads (o :: (m ++ c :: l)) (Sx.node o.2.2 M :: L)
theorem clos_open {n most : Nat} {t : ITok} (l : List ITok) (h : t.1 = 1) : clos n most (t :: l) = (clos (n + 1) (max most (n + 1)) l).map fun x => (x.1 + 1, x.2) := by
  rw [clos]
  simp only [h, if_true]
  rw [if_neg (by omega)]
theorem clos_last {most : Nat} {t : ITok} (l : List ITok) (h : t.1 = 2) : clos 1 most (t :: l) = some (1, most) := by
  rw [clos]
  simp [h]
theorem clos_close {n most : Nat} {t : ITok} (l : List ITok) (h : t.1 = 2) (hm : n + 1 ≤ most) : clos (n + 2) most (t :: l) = (clos (n + 1) most l).map fun x => (x.1 + 1, x.2) := by
  rw [clos]
  have e : (if t.1 = 1 then n + 2 + 1 else if t.1 = 2 then n + 2 - 1 else n + 2) = n + 1 := by rw [if_neg (by omega), if_pos h]; omega
  simp only [e]
  rw [if_neg (by omega), Nat.max_eq_left hm]
theorem clos_atom {n most : Nat} {t : ITok} (l : List ITok) (h1 : t.1 ≠ 1) (h2 : t.1 ≠ 2) (hm : n + 1 ≤ most) : clos (n + 1) most (t :: l) = (clos (n + 1) most l).map fun x => (x.1 + 1, x.2) := by
  rw [clos]
  simp only [h1, h2, if_false]
  rw [if_neg (by omega), Nat.max_eq_left hm]
theorem map_shift (o : Option (Nat × Nat)) (a b : Nat) : (o.map fun x => (x.1 + a, x.2)).map (fun x => (x.1 + b, x.2)) = o.map fun x => (x.1 + (a + b), x.2) := by
  cases o
  · rfl
  · simp [Nat.add_assoc]
/-- what is even is passed over -/
theorem Reads.pass {m : List ITok} {M : List Sx} (h : Reads m M) : ∀ (n most : Nat) (r : List ITok), n + 1 ≤ most → clos (n + 1) most (m ++ r) = (clos (n + 1) (max most (n + 1 + Sx.deeps M)) r).map fun x => (x.1 + m.length, x.2) := by
  induction h with
  | nil =>
    intro n most r hm
    rw [Sx.deeps, Nat.add_zero, Nat.max_eq_left hm]
    cases h : clos (n + 1) most r <;> simp [h]
  | atom t l L h1 h2 _ ih =>
    intro n most r hm
    rw [List.cons_append, clos_atom _ h1 h2 hm, ih n most r hm, map_shift, Sx.deeps, Sx.deep_atom (x := Sx.atom t) rfl, List.length_cons, Nat.zero_max]
  | list o c m l M L h1 h2 _ _ i1 i2 =>
    intro n most r hm
    rw [List.cons_append, List.append_assoc, List.cons_append, clos_open _ h1, i1 (n + 1) _ _ (by omega), clos_close _ h2 (by omega), i2 n _ r (by omega), map_shift, map_shift, map_shift]
    rw [Sx.deeps, Sx.deep_list (x := Sx.node o.2.2 M) rfl]
    show Option.map _ (clos (n + 1) (max (max (max most (n + 1 + 1)) (n + 1 + 1 + Sx.deeps M)) (n + 1 + Sx.deeps L)) r) = Option.map _ (clos (n + 1) (max most (n + 1 + max (Sx.deeps M + 1) (Sx.deeps L))) r)
    rw [show max (max (max most (n + 1 + 1)) (n + 1 + 1 + Sx.deeps M)) (n + 1 + Sx.deeps L) = max most (n + 1 + max (Sx.deeps M + 1) (Sx.deeps L)) by omega]
    congr 1
    funext x
    rw [List.length_cons, List.length_append, List.length_cons]
    congr 1
    omega
theorem Reads.closing {m : List ITok} {M : List Sx} (h : Reads m M) {o c : ITok} (ho : o.1 = 1) (hc : c.1 = 2) (r : List ITok) : clos 0 0 (o :: (m ++ c :: r)) = some (m.length + 2, Sx.deeps M + 1) := by
  rw [clos_open _ ho, h.pass 0 _ _ (by omega), clos_last _ hc]
  simp
  omega
theorem clos_some : ∀ (k : Nat) (l : List ITok) (n most : Nat), l.length ≤ k → n + 1 ≤ most → clos (n + 1) most l ≠ none → ∃ m M c r, l = m ++ c :: r ∧ c.1 = 2 ∧ Reads m M := by
  intro k
  induction k with
  | zero =>
    intro l n most hl _ h
    obtain rfl : l = [] := List.eq_nil_of_length_eq_zero (by omega)
    exact absurd rfl h
  | succ k ih =>
    intro l n most hl hm h
    cases l with
    | nil => exact absurd rfl h
    | cons t l =>
      rw [List.length_cons] at hl
      by_cases h2 : t.1 = 2
      · exact ⟨[], [], t, l, rfl, h2, .nil⟩
      · by_cases h1 : t.1 = 1
        · rw [clos_open _ h1] at h
          have h' : clos (n + 1 + 1) (max most (n + 1 + 1)) l ≠ none := fun e => h (by rw [e]; rfl)
          obtain ⟨m, M, c, r, rfl, hc, hr⟩ := ih l (n + 1) _ (by omega) (by omega) h'
          rw [hr.pass _ _ _ (by omega), clos_close _ hc (by omega)] at h'
          rw [List.length_append, List.length_cons] at hl
          obtain ⟨m', M', c', r', rfl, hc', hr'⟩ := ih r n _ (by omega) (show n + 1 ≤ max (max most (n + 1 + 1)) (n + 1 + 1 + Sx.deeps M) by omega) (fun e => h' (by rw [e]; rfl))
          exact ⟨t :: (m ++ c :: m'), _, c', r', by simp, hc', .list t c m m' M M' h1 hc hr hr'⟩
        · rw [clos_atom _ h1 h2 hm] at h
          obtain ⟨m, M, c, r, rfl, hc, hr⟩ := ih l n most (by omega) hm (fun e => h (by rw [e]; rfl))
          exact ⟨t :: m, _, c, r, rfl, hc, .atom t m M h1 h2 hr⟩
theorem clos_reads {o : ITok} {l : List ITok} {s d : Nat} (ho : o.1 = 1) (h : clos 0 0 (o :: l) = some (s, d)) : ∃ m M c r, l = m ++ c :: r ∧ c.1 = 2 ∧ Reads m M ∧ s = m.length + 2 ∧ d = Sx.deeps M + 1 := by
  have h' := h
  rw [clos_open _ ho] at h'
  obtain ⟨m, M, c, r, rfl, hc, hr⟩ := clos_some l.length l 0 1 (Nat.le_refl _) (by omega) (fun e => by rw [show max 0 (0 + 1) = 1 from rfl, e] at h'; cases h')
  rw [hr.closing ho hc r] at h
  injection h with h
  injection h with h1 h2
  exact ⟨m, M, c, r, rfl, hc, hr, h1.symm, h2.symm⟩
theorem Reads.split {m m' : List ITok} {M M' : List Sx} (h : Reads m M) (h' : Reads m' M') {c c' : ITok} {l l' : List ITok} (hc : c.1 = 2) (hc' : c'.1 = 2) (e : m ++ c :: l = m' ++ c' :: l') : m = m' ∧ c = c' ∧ l = l' := by
  have h1 := h.closing (o := (1, ByteArray.empty, 0)) rfl hc l
  have h2 := h'.closing (o := (1, ByteArray.empty, 0)) rfl hc' l'
  rw [e, h2] at h1
  injection h1 with h1
  injection h1 with h1 _
  obtain ⟨e1, e2⟩ := List.append_inj e (by omega)
  injection e2 with e2 e3
  exact ⟨e1, e2, e3⟩
theorem Reads.inv {t : ITok} {l : List ITok} {M : List Sx} (h : Reads (t :: l) M) : (t.1 ≠ 1 ∧ t.1 ≠ 2 ∧ ∃ L, M = Sx.atom t :: L ∧ Reads l L) ∨ (t.1 = 1 ∧ ∃ c m M' l' L, l = m ++ c :: l' ∧ c.1 = 2 ∧ Reads m M' ∧ M = Sx.node t.2.2 M' :: L ∧ Reads l' L) := by
  cases h with
  | atom _ _ L h1 h2 h3 => exact .inl ⟨h1, h2, L, rfl, h3⟩
  | list _ c m l' M' L h1 h2 h3 h4 => exact .inr ⟨h1, c, m, M', l', L, rfl, h2, h3, rfl, h4⟩
theorem Reads.uniq {m : List ITok} {M : List Sx} (h : Reads m M) : ∀ M', Reads m M' → M = M' := by
  induction h with
  | nil => intro M' h'; cases h'; rfl
  | atom t l L h1 h2 _ ih =>
    intro M' h'
    rcases h'.inv with ⟨_, _, L', rfl, h4⟩ | ⟨h3, _⟩
    · rw [ih L' h4]
    · exact absurd h3 h1
  | list o c m l M L h1 h2 h3 _ i1 i2 =>
    intro M' h'
    rcases h'.inv with ⟨h4, _⟩ | ⟨_, c', m', N, l', L', e, hc', hr', rfl, hr2⟩
    · exact absurd h1 h4
    · obtain ⟨rfl, rfl, rfl⟩ := h3.split hr' h2 hc' e
      rw [i1 N hr', i2 L' hr2]
theorem Reads.app {m m' : List ITok} {M M' : List Sx} (h : Reads m M) (h' : Reads m' M') : Reads (m ++ m') (M ++ M') := by
  induction h with
  | nil => exact h'
  | atom t l L h1 h2 _ ih => exact .atom t _ _ h1 h2 ih
  | list o c m l M L h1 h2 h3 _ _ i2 =>
    rw [List.cons_append, List.append_assoc, List.cons_append, List.cons_append]
    exact .list o c m _ M _ h1 h2 h3 i2

/-- what tokens say, to where the script ends -/
inductive Says (z : Int) : List ITok → List SItem → Prop
  | nil : Says z [] []
  | close (t : ITok) (l : List ITok) (I : List SItem) : t.1 = 2 → Says z l I → Says z (t :: l) (⟨Sx.zero, 60, t.2.2⟩ :: I)
  | atom (t : ITok) (l : List ITok) (I : List SItem) : t.1 ≠ 1 → t.1 ≠ 2 → Says z l I → Says z (t :: l) (⟨Sx.atom t, 0, t.2.2⟩ :: I)
  | ends (t : ITok) (l : List ITok) : t.1 = 1 → clos 0 0 (t :: l) = none → Says z (t :: l) [⟨Sx.zero, 51, z⟩]
  | deep (o c : ITok) (m l : List ITok) (M : List Sx) (I : List SItem) : o.1 = 1 → c.1 = 2 → Reads m M → 64 < Sx.deeps M + 1 → Says z l I → Says z (o :: (m ++ c :: l)) (⟨Sx.zero, 2, o.2.2⟩ :: I)
  | list (o c : ITok) (m l : List ITok) (M : List Sx) (I : List SItem) : o.1 = 1 → c.1 = 2 → Reads m M → ¬ 64 < Sx.deeps M + 1 → Says z l I → Says z (o :: (m ++ c :: l)) (⟨Sx.node o.2.2 M, 0, o.2.2⟩ :: I)
theorem Says.inv {z : Int} {t : ITok} {l : List ITok} {I : List SItem} (h : Says z (t :: l) I) :
    (t.1 = 2 ∧ ∃ J, I = ⟨Sx.zero, 60, t.2.2⟩ :: J ∧ Says z l J) ∨ (t.1 ≠ 1 ∧ t.1 ≠ 2 ∧ ∃ J, I = ⟨Sx.atom t, 0, t.2.2⟩ :: J ∧ Says z l J) ∨ (t.1 = 1 ∧ clos 0 0 (t :: l) = none ∧ I = [⟨Sx.zero, 51, z⟩]) ∨
    (t.1 = 1 ∧ ∃ c m l' M J, l = m ++ c :: l' ∧ c.1 = 2 ∧ Reads m M ∧ Says z l' J ∧ I = (if 64 < Sx.deeps M + 1 then ⟨Sx.zero, 2, t.2.2⟩ else ⟨Sx.node t.2.2 M, 0, t.2.2⟩) :: J) := by
  cases h with
  | close _ _ J h1 h2 => exact .inl ⟨h1, J, rfl, h2⟩
  | atom _ _ J h1 h2 h3 => exact .inr (.inl ⟨h1, h2, J, rfl, h3⟩)
  | ends _ _ h1 h2 => exact .inr (.inr (.inl ⟨h1, h2, rfl⟩))
  | deep _ c m l' M J h1 h2 h3 h4 h5 => exact .inr (.inr (.inr ⟨h1, c, m, l', M, J, rfl, h2, h3, h5, by rw [if_pos h4]⟩))
  | list _ c m l' M J h1 h2 h3 h4 h5 => exact .inr (.inr (.inr ⟨h1, c, m, l', M, J, rfl, h2, h3, h5, by rw [if_neg h4]⟩))
theorem Says.uniq {z : Int} : ∀ (k : Nat) (l : List ITok) (I J : List SItem), l.length ≤ k → Says z l I → Says z l J → I = J := by
  intro k
  induction k with
  | zero =>
    intro l I J hl h h'
    obtain rfl : l = [] := List.eq_nil_of_length_eq_zero (by omega)
    cases h
    cases h'
    rfl
  | succ k ih =>
    intro l I J hl h h'
    cases l with
    | nil =>
      cases h
      cases h'
      rfl
    | cons t l =>
      rw [List.length_cons] at hl
      rcases h.inv with ⟨h1, I', rfl, h2⟩ | ⟨h1, h2, I', rfl, h3⟩ | ⟨h1, h2, rfl⟩ | ⟨h1, c, m, l', M, I', rfl, hc, hr, h3, rfl⟩
      · rcases h'.inv with ⟨_, J', rfl, g2⟩ | ⟨g1, g2, _⟩ | ⟨g1, _⟩ | ⟨g1, _⟩
        · rw [ih l I' J' (by omega) h2 g2]
        · exact absurd h1 g2
        · exact absurd (g1.symm.trans h1) (by decide)
        · exact absurd (g1.symm.trans h1) (by decide)
      · rcases h'.inv with ⟨g1, _⟩ | ⟨_, _, J', rfl, g3⟩ | ⟨g1, _⟩ | ⟨g1, _⟩
        · exact absurd g1 h2
        · rw [ih l I' J' (by omega) h3 g3]
        · exact absurd g1 h1
        · exact absurd g1 h1
      · rcases h'.inv with ⟨g1, _⟩ | ⟨g1, _⟩ | ⟨_, _, rfl⟩ | ⟨_, c, m, l', M, J', rfl, hc, hr, _⟩
        · exact absurd (h1.symm.trans g1) (by decide)
        · exact absurd h1 g1
        · rfl
        · rw [hr.closing h1 hc l'] at h2
          cases h2
      · rcases h'.inv with ⟨g1, _⟩ | ⟨g1, _⟩ | ⟨_, g2, _⟩ | ⟨_, c', m', l'', M', J', e, hc', hr', g3, rfl⟩
        · exact absurd (h1.symm.trans g1) (by decide)
        · exact absurd h1 g1
        · rw [hr.closing h1 hc l'] at g2
          cases g2
        · obtain ⟨rfl, rfl, rfl⟩ := hr.split hr' hc hc' e
          rw [hr.uniq M' hr']
          rw [List.length_append, List.length_cons] at hl
          rw [ih l' I' J' (by omega) h3 g3]
end Go.Proofs.YtpjdfogieiokkaaDoor

/- Lists laid into one room, by machines over tokens. Nothing of the program's text. -/
namespace Go.Proofs.YtpjdfogieiokkaaDoor

mutual
/-- token by token: how much each list has -/
def Sx.cnt : Sx → List Nat
  | ⟨list, _, _, _, _, L⟩ => if list then L.length :: (Sx.cnts L ++ [0]) else [0]
def Sx.cnts : List Sx → List Nat
  | [] => []
  | x :: l => Sx.cnt x ++ Sx.cnts l
end
/-- a list of numbers from a place on, 0 elsewhere -/
def atP (i : Nat) : List Nat → Nat → Nat
  | [], _ => 0
  | x :: c, q => (if q = i then x else 0) + atP (i + 1) c q
theorem atP_app : ∀ (c d : List Nat) (i q : Nat), atP i (c ++ d) q = atP i c q + atP (i + c.length) d q
  | [], d, i, q => by simp [atP]
  | x :: c, d, i, q => by rw [List.cons_append, atP, atP, atP_app c d, List.length_cons, show i + 1 + c.length = i + (c.length + 1) by omega]; omega
theorem atP_below : ∀ (c : List Nat) (i q : Nat), q < i → atP i c q = 0
  | [], _, _, _ => rfl
  | x :: c, i, q, h => by rw [atP, if_neg (by omega), atP_below c (i + 1) q (by omega)]
theorem atP_get : ∀ (c : List Nat) (i q : Nat), q < c.length → c[q]? = some (atP i c (i + q))
  | [], i, q, h => by simp at h
  | x :: c, i, 0, h => by rw [atP, Nat.add_zero, if_pos rfl, atP_below c (i + 1) i (by omega)]; rfl
  | x :: c, i, q + 1, h => by
    rw [atP, if_neg (by omega), List.getElem?_cons_succ, atP_get c (i + 1) q (by simpa using h), show i + 1 + q = i + (q + 1) by omega, Nat.zero_add]
theorem Sx.cnts_atom (t : ITok) (L : List Sx) : Sx.cnts (Sx.atom t :: L) = 0 :: Sx.cnts L := by
  rw [Sx.cnts, Sx.atom, Sx.cnt, if_neg (by decide)]
  rfl
theorem Sx.cnts_node (a : Int) (M L : List Sx) : Sx.cnts (Sx.node a M :: L) = M.length :: (Sx.cnts M ++ 0 :: Sx.cnts L) := by
  rw [Sx.cnts, Sx.node, Sx.cnt, if_pos rfl]
  simp
theorem Reads.cnts_len {m : List ITok} {M : List Sx} (h : Reads m M) : (Sx.cnts M).length = m.length := by
  induction h with
  | nil => rfl
  | atom t l L _ _ _ ih => rw [Sx.cnts, Sx.atom, Sx.cnt, if_neg (by decide), List.length_append, ih]; simp; omega
  | list o c m l M L _ _ _ _ i1 i2 =>
    rw [Sx.cnts, Sx.node, Sx.cnt, if_pos rfl, List.length_append, i2, List.length_cons, List.length_append, i1]
    simp
    omega

/-- how much each list has, counted: the open ones' places, innermost first -/
def crun : List ITok → Nat → (Nat → Nat) → List Nat → Nat → Option ((Nat → Nat) × Nat)
  | [], _, h, _, a => some (h, a)
  | t :: l, i, h, o, a =>
    if t.1 = 2 then
      match o with
      | [] => none
      | _ :: o => crun l (i + 1) h o a
    else
      match o with
      | [] => if t.1 = 1 then crun l (i + 1) h [i] a else none
      | j :: o => if t.1 = 1 then crun l (i + 1) (fun q => h q + if q = j then 1 else 0) (i :: j :: o) (a + 1) else crun l (i + 1) (fun q => h q + if q = j then 1 else 0) (j :: o) (a + 1)
theorem Reads.crun {m : List ITok} {M : List Sx} (h : Reads m M) : ∀ (i : Nat) (f : Nat → Nat) (j : Nat) (o : List Nat) (a : Nat) (r : List ITok),
    crun (m ++ r) i f (j :: o) a = Go.Proofs.YtpjdfogieiokkaaDoor.crun r (i + m.length) (fun q => f q + (if q = j then M.length else 0) + atP i (Sx.cnts M) q) (j :: o) (a + Sx.sizes M) := by
  induction h with
  | nil =>
    intro i f j o a r
    rw [List.nil_append, List.length_nil, Nat.add_zero, Sx.cnts, Sx.sizes, Nat.add_zero]
    congr 1
    funext q
    rw [atP, List.length_nil]
    split <;> rfl
  | atom t l L h1 h2 _ ih =>
    intro i f j o a r
    rw [List.cons_append, Go.Proofs.YtpjdfogieiokkaaDoor.crun, if_neg h2]
    rw [if_neg h1, ih, List.length_cons, Sx.sizes, Sx.size_eq]
    have e1 : i + 1 + l.length = i + (l.length + 1) := by omega
    have e2 : a + 1 + Sx.sizes L = a + (Sx.sizes (Sx.atom t).L + 1 + Sx.sizes L) := by
      show _ = a + (0 + 1 + Sx.sizes L)
      omega
    rw [e1, e2]
    congr 1
    funext q
    rw [Sx.cnts_atom, atP, List.length_cons]
    split <;> simp <;> omega
  | list o' c m l M L h1 h2 _ _ i1 i2 =>
    intro i f j o a r
    rw [List.cons_append, List.append_assoc, List.cons_append, Go.Proofs.YtpjdfogieiokkaaDoor.crun, if_neg (by omega)]
    rw [if_pos h1, i1, Go.Proofs.YtpjdfogieiokkaaDoor.crun, if_pos h2]
    rw [i2, List.length_cons, List.length_append, List.length_cons, Sx.sizes, Sx.size_eq]
    have e1 : i + 1 + m.length + 1 + l.length = i + (m.length + (l.length + 1) + 1) := by omega
    have e2 : a + 1 + Sx.sizes M + Sx.sizes L = a + (Sx.sizes (Sx.node o'.2.2 M).L + 1 + Sx.sizes L) := by
      show _ = a + (Sx.sizes M + 1 + Sx.sizes L)
      omega
    rw [e1, e2]
    congr 1
    funext q
    have hl := Reads.cnts_len (by assumption : Reads m M)
    rw [Sx.cnts_node, atP, atP_app, atP, List.length_cons, hl]
    split <;> split <;> simp <;> omega
/-- all of one list -/
theorem crun_all {m : List ITok} {M : List Sx} (h : Reads m M) {o c : ITok} (ho : o.1 = 1) (hc : c.1 = 2) : crun (o :: (m ++ [c])) 0 (fun _ => 0) [] 0 = some (fun q => atP 0 (M.length :: (Sx.cnts M ++ [0])) q, Sx.sizes M) := by
  rw [crun, if_neg (by omega)]
  rw [if_pos ho, h.crun, crun, if_pos hc]
  rw [crun, Nat.zero_add, Nat.zero_add]
  congr 2
  funext q
  rw [atP, atP_app, atP, atP]
  split <;> simp

/-- a list that is open: its place, where its room begins, how much it has room for, what it has -/
structure Fr where
  at_ : Int
  st : Nat
  n : Nat
  L : List Sx
/-- what a thing is added to -/
def Fr.add (f : Fr) (x : Sx) : Fr := { f with L := f.L ++ [x] }
/-- lists laid into a room: the open ones innermost first -/
def lrun (all : Nat) (H : Nat → Nat) : List ITok → Nat → Nat → List Fr → Option Sx
  | [], _, _, _ => none
  | t :: l, i, used, frs =>
    if t.1 = 1 then (if used + H i ≤ all then lrun all H l (i + 1) (used + H i) (⟨t.2.2, used, H i, []⟩ :: frs) else none)
    else if t.1 = 2 then
      match frs with
      | [] => none
      | [f] => some (Sx.node f.at_ f.L)
      | f :: g :: frs => if g.L.length < g.n then lrun all H l (i + 1) used (g.add (Sx.node f.at_ f.L) :: frs) else none
    else
      match frs with
      | [] => none
      | f :: frs => if f.L.length < f.n then lrun all H l (i + 1) used (f.add (Sx.atom t) :: frs) else none
section
variable {all : Nat} {H : Nat → Nat} {t : ITok} {l : List ITok} {i used : Nat}
theorem lrun_open {frs : List Fr} (h : t.1 = 1) : lrun all H (t :: l) i used frs = if used + H i ≤ all then lrun all H l (i + 1) (used + H i) (⟨t.2.2, used, H i, []⟩ :: frs) else none := by
  rw [lrun.eq_def]
  simp only [h, if_true]
theorem lrun_last {f : Fr} (h : t.1 = 2) : lrun all H (t :: l) i used [f] = some (Sx.node f.at_ f.L) := by
  rw [lrun.eq_def]
  simp [h]
theorem lrun_none (h1 : t.1 ≠ 1) : lrun all H (t :: l) i used [] = none := by
  rw [lrun.eq_def]
  simp [h1]
theorem lrun_close {f g : Fr} {frs : List Fr} (h : t.1 = 2) : lrun all H (t :: l) i used (f :: g :: frs) = if g.L.length < g.n then lrun all H l (i + 1) used (g.add (Sx.node f.at_ f.L) :: frs) else none := by
  rw [lrun.eq_def]
  simp [h]
theorem lrun_atom {f : Fr} {frs : List Fr} (h1 : t.1 ≠ 1) (h2 : t.1 ≠ 2) : lrun all H (t :: l) i used (f :: frs) = if f.L.length < f.n then lrun all H l (i + 1) used (f.add (Sx.atom t) :: frs) else none := by
  rw [lrun.eq_def]
  simp [h1, h2]
end
theorem Sx.len_sizes (M : List Sx) : M.length ≤ Sx.sizes M := Sx.sizes_length M
theorem Reads.lrun {all : Nat} {H : Nat → Nat} {m : List ITok} {M : List Sx} (h : Reads m M) : ∀ (i used : Nat) (f : Fr) (frs : List Fr) (r : List ITok),
    (∀ q, q < m.length → (Sx.cnts M)[q]? = some (H (i + q))) → used + (Sx.sizes M - M.length) ≤ all → f.L.length + M.length ≤ f.n →
    Go.Proofs.YtpjdfogieiokkaaDoor.lrun all H (m ++ r) i used (f :: frs) = Go.Proofs.YtpjdfogieiokkaaDoor.lrun all H r (i + m.length) (used + (Sx.sizes M - M.length)) ({ f with L := f.L ++ M } :: frs) := by
  induction h with
  | nil =>
    intro i used f frs r _ _ _
    simp [Sx.sizes]
  | atom t l L h1 h2 h3 ih =>
    intro i used f frs r hH hu hf
    have hs : Sx.sizes (Sx.atom t :: L) = Sx.sizes L + 1 := by rw [Sx.sizes, Sx.size_eq]; show 0 + 1 + _ = _; omega
    have hL := Sx.len_sizes L
    rw [hs, List.length_cons] at hu
    rw [List.length_cons] at hf
    rw [List.cons_append, lrun_atom h1 h2, if_pos (by omega), ih (i + 1) used (f.add (Sx.atom t)) frs r ?_ (by omega) (by simp [Fr.add]; omega)]
    · rw [hs, List.length_cons, List.length_cons, show i + 1 + l.length = i + (l.length + 1) by omega, show Sx.sizes L + 1 - (L.length + 1) = Sx.sizes L - L.length by omega]
      simp [Fr.add]
    · intro q hq
      have := hH (q + 1) (by simp; omega)
      rw [Sx.cnts, Sx.atom, Sx.cnt, if_neg (by decide)] at this
      rw [show i + 1 + q = i + (q + 1) by omega]
      simpa using this
  | list o' c m l M L h1 h2 h3 h4 i1 i2 =>
    intro i used f frs r hH hu hf
    have hs : Sx.sizes (Sx.node o'.2.2 M :: L) = Sx.sizes M + 1 + Sx.sizes L := by rw [Sx.sizes, Sx.size_eq]; rfl
    have hM := Sx.len_sizes M
    have hL := Sx.len_sizes L
    have hl := h3.cnts_len
    rw [hs, List.length_cons] at hu
    rw [List.length_cons] at hf
    rw [Sx.cnts, Sx.node, Sx.cnt, if_pos rfl] at hH
    have hH0 : H i = M.length := by
      have := hH 0 (by simp)
      simp at this
      omega
    rw [List.cons_append, List.append_assoc, List.cons_append, lrun_open h1, hH0, if_pos (by omega)]
    rw [i1 (i + 1) (used + M.length) ⟨o'.2.2, used, M.length, []⟩ (f :: frs) _ ?_ (by omega) (by simp)]
    · rw [List.nil_append, lrun_close h2, if_pos (by omega), i2 _ _ (f.add (Sx.node o'.2.2 M)) frs r ?_ (by omega) (by simp [Fr.add]; omega)]
      · rw [hs, List.length_cons, List.length_cons, List.length_append, List.length_cons, show i + 1 + m.length + 1 + l.length = i + (m.length + (l.length + 1) + 1) by omega,
          show used + M.length + (Sx.sizes M - M.length) + (Sx.sizes L - L.length) = used + (Sx.sizes M + 1 + Sx.sizes L - (L.length + 1)) by omega]
        simp [Fr.add]
      · intro q hq
        have := hH (m.length + 2 + q) (by simp; omega)
        rw [List.getElem?_append_right (by simp; omega)] at this
        simp only [List.length_cons, List.length_append, List.length_nil, hl] at this
        rw [show m.length + 2 + q - (m.length + (0 + 1) + 1) = q by omega] at this
        rw [this, show i + 1 + m.length + 1 + q = i + (m.length + 2 + q) by omega]
    · intro q hq
      have := hH (q + 1) (by simp; omega)
      rw [List.getElem?_append_left (by simp; omega), List.getElem?_cons_succ, List.getElem?_append_left (by omega)] at this
      rw [this, show i + 1 + q = i + (q + 1) by omega]
theorem lrun_all {m : List ITok} {M : List Sx} (h : Reads m M) {o c : ITok} (ho : o.1 = 1) (hc : c.1 = 2) : lrun (Sx.sizes M) (fun q => atP 0 (M.length :: (Sx.cnts M ++ [0])) q) (o :: (m ++ [c])) 0 0 [] = some (Sx.node o.2.2 M) := by
  have hM := Sx.len_sizes M
  have h0 : atP 0 (M.length :: (Sx.cnts M ++ [0])) 0 = M.length := by
    rw [atP, if_pos rfl, atP_below _ _ _ (by omega)]
    rfl
  rw [lrun_open ho, h0, if_pos (by omega), h.lrun _ _ _ _ _ ?_ (by omega) (by simp), lrun_last hc]
  · rfl
  · intro q hq
    have := atP_get (M.length :: (Sx.cnts M ++ [0])) 0 (q + 1) (by simp [h.cnts_len]; omega)
    rw [List.getElem?_cons_succ, List.getElem?_append_left (by rw [h.cnts_len]; exact hq)] at this
    rw [this, show 0 + 1 + q = 0 + (q + 1) by omega]
end Go.Proofs.YtpjdfogieiokkaaDoor

/- S-expressions as texts. Nothing of the program's text. -/
namespace Go.Proofs.YtpjdfogieiokkaaDoor

mutual
/-- its text, if it has one -/
def Sx.text : Sx → Option (List UInt8)
  | ⟨list, k, T, _, _, L⟩ => if list then (Sx.texts true L).map fun t => 40 :: (t ++ [41]) else if !decide (k = 1) && !decide (k = 2) && L.isEmpty && Lx.okShow k T.data.toList then some (Lx.show k T.data.toList) else none
/-- their texts, with a blank ahead of each but the first -/
def Sx.texts : Bool → List Sx → Option (List UInt8)
  | _, [] => some []
  | f, x :: l => match Sx.text x with
    | none => none
    | some t => (Sx.texts false l).map fun r => (if f then [] else [32]) ++ t ++ r
end
theorem Sx.text_list {x : Sx} (h : x.list = true) : x.text = (Sx.texts true x.L).map fun t => 40 :: (t ++ [41]) := by
  cases x
  subst h
  rw [Sx.text, if_pos rfl]
theorem Sx.text_atom {x : Sx} (h : x.list = false) : x.text = if !decide (x.k = 1) && !decide (x.k = 2) && x.L.isEmpty && Lx.okShow x.k x.T.data.toList then some (Lx.show x.k x.T.data.toList) else none := by
  cases x
  subst h
  rw [Sx.text, if_neg (by decide)]
mutual
/-- how long the longest of its tokens' texts is -/
def Sx.wide : Sx → Nat
  | ⟨_, _, T, _, _, L⟩ => max T.size (Sx.wides L)
def Sx.wides : List Sx → Nat
  | [] => 0
  | x :: l => max (Sx.wide x) (Sx.wides l)
end
theorem Sx.wide_eq (x : Sx) : x.wide = max x.T.size (Sx.wides x.L) := by cases x; rw [Sx.wide]
theorem Sx.wide_mem {l : List Sx} {x : Sx} (h : x ∈ l) : x.wide ≤ Sx.wides l := by
  induction l with
  | nil => cases h
  | cons y l ih =>
    rw [Sx.wides]
    rcases List.mem_cons.1 h with rfl | h
    · omega
    · have := ih h
      omega
theorem Lx.ok_len {k : Int} {s : List UInt8} (h : Lx.okShow k s = true) : (Lx.show k s).length ≤ 16384 := (Lx.okShow_whole h).2
theorem Sx.text_len : ∀ (n : Nat) (x : Sx) (t : List UInt8), x.size ≤ n → x.text = some t → t.length + 1 ≤ 16388 * x.size := by
  intro n
  induction n with
  | zero =>
    intro x t h
    exact absurd x.size_pos (by omega)
  | succ n ih =>
    intro x t h ht
    cases hx : x.list
    · rw [Sx.text_atom hx] at ht
      split at ht
      · rename_i hc
        injection ht with ht
        rw [Bool.and_eq_true] at hc
        have h1 := Lx.ok_len hc.2
        have h2 := x.size_pos
        rw [← ht]
        omega
      · cases ht
    · rw [Sx.text_list hx] at ht
      obtain ⟨r, hr, rfl⟩ := Option.map_eq_some_iff.1 ht
      have hl : ∀ (l : List Sx) (f : Bool) (r : List UInt8), (∀ y ∈ l, y.size ≤ n) → Sx.texts f l = some r → r.length ≤ 16388 * Sx.sizes l := by
        intro l
        induction l with
        | nil =>
          intro f r _ h
          rw [Sx.texts] at h
          injection h with h
          rw [← h]
          simp
        | cons y l ihl =>
          intro f r hy h
          rw [Sx.texts] at h
          cases e : y.text with
          | none => rw [e] at h; cases h
          | some ty =>
            rw [e] at h
            simp only at h
            obtain ⟨r', hr', rfl⟩ := Option.map_eq_some_iff.1 h
            have h1 := ih y ty (hy y List.mem_cons_self) e
            have h2 := ihl false r' (fun z hz => hy z (List.mem_cons_of_mem _ hz)) hr'
            rw [Sx.sizes]
            have hp := y.size_pos
            split <;> simp <;> omega
      have hz : ∀ y ∈ x.L, y.size ≤ n := fun y hy => by
        have := Sx.size_lt hy
        omega
      have h3 := hl x.L true r hz hr
      rw [x.size_eq]
      simp
      omega
/-- the texts of a list, element by element -/
theorem Sx.texts_len {l : List Sx} : ∀ {f : Bool} {r : List UInt8}, Sx.texts f l = some r → r.length ≤ 16388 * Sx.sizes l := by
  induction l with
  | nil =>
    intro f r h
    rw [Sx.texts] at h
    injection h with h
    rw [← h]
    simp
  | cons y l ihl =>
    intro f r h
    rw [Sx.texts] at h
    cases e : y.text with
    | none => rw [e] at h; cases h
    | some ty =>
      rw [e] at h
      simp only at h
      obtain ⟨r', hr', rfl⟩ := Option.map_eq_some_iff.1 h
      have h1 := Sx.text_len y.size y ty (Nat.le_refl _) e
      have h2 := ihl hr'
      rw [Sx.sizes]
      split <;> simp <;> omega
theorem Sx.texts_cons (f : Bool) (x : Sx) (l : List Sx) : Sx.texts f (x :: l) = match Sx.text x with
    | none => none
    | some t => (Sx.texts false l).map fun r => (if f then [] else [32]) ++ t ++ r := by rw [Sx.texts]
end Go.Proofs.YtpjdfogieiokkaaDoor
