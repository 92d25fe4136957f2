/- What a script says, printed line by line, is read as just that. Nothing of the program's text. -/
import Derived.Test.YtpjdfogieiokkaaDoorP6
namespace Go.Proofs.YtpjdfogieiokkaaDoor

mutual
/-- of how many tokens it is -/
def Sx.toks : Sx → Nat
  | ⟨list, _, _, _, _, L⟩ => if list then Sx.tokss L + 2 else 1
def Sx.tokss : List Sx → Nat
  | [] => 0
  | x :: l => Sx.toks x + Sx.tokss l
end
mutual
theorem Sx.toks_key (p : Bool) : ∀ x : Sx, (x.key p).toks = x.toks
  | ⟨list, k, T, ta, a, L⟩ => by
    cases list
    · rw [Sx.key, if_neg (by decide), Sx.toks, Sx.toks, if_neg (by decide), if_neg (by decide)]
    · rw [Sx.key, if_pos rfl, Sx.toks, Sx.toks, if_pos rfl, if_pos rfl, Sx.tokss_keys p L]
theorem Sx.tokss_keys (p : Bool) : ∀ l : List Sx, Sx.tokss (Sx.keys p l) = Sx.tokss l
  | [] => by rw [Sx.keys]
  | x :: l => by rw [Sx.keys, Sx.tokss, Sx.tokss, Sx.toks_key p x, Sx.tokss_keys p l]
end
theorem Sx.tokss_map {p : Bool} {l m : List Sx} (h : l.map (Sx.key p) = m.map (Sx.key p)) : Sx.tokss l = Sx.tokss m := by
  rw [← Sx.tokss_keys p l, ← Sx.tokss_keys p m, Sx.keys_map, Sx.keys_map, h]
theorem Reads.count {l : List ITok} {M : List Sx} (h : Reads l M) : l.length = Sx.tokss M := by
  induction h with
  | nil => rw [Sx.tokss]; rfl
  | atom t l L _ _ _ ih =>
    rw [List.length_cons, Sx.tokss, ih, Sx.atom, Sx.toks, if_neg (by decide)]
    omega
  | list o c m l M L _ _ _ _ i1 i2 =>
    rw [List.length_cons, List.length_append, List.length_cons, Sx.tokss, i1, i2, Sx.node, Sx.toks, if_pos rfl]
    omega
theorem Reads.small {l : List ITok} {M : List Sx} (h : Reads l M) (B : Nat) (hB : ∀ t ∈ l, t.2.1.size ≤ B) : Sx.sizes M ≤ l.length ∧ Sx.wides M ≤ B := by
  induction h with
  | nil => rw [Sx.sizes, Sx.wides]; exact ⟨Nat.le_refl _, Nat.zero_le _⟩
  | atom t l L _ _ _ ih =>
    obtain ⟨i1, i2⟩ := ih fun x hx => hB x (List.mem_cons_of_mem _ hx)
    have ht := hB t List.mem_cons_self
    rw [List.length_cons, Sx.sizes, Sx.wides, Sx.size_eq, Sx.wide_eq]
    simp only [Sx.atom, Sx.sizes, Sx.wides]
    omega
  | list o c m l M L _ _ _ _ i1 i2 =>
    obtain ⟨j1, j2⟩ := i1 fun x hx => hB x (by simp [hx])
    obtain ⟨k1, k2⟩ := i2 fun x hx => hB x (by simp [hx])
    rw [List.length_cons, List.length_append, List.length_cons, Sx.sizes, Sx.wides, Sx.size_eq, Sx.wide_eq]
    have : (Sx.node o.2.2 M).T.size = 0 := rfl
    have e : (Sx.node o.2.2 M).L = M := rfl
    rw [this, e]
    omega

/-- how long these tokens are, written each with one sign behind it -/
def jlen (l : List ITok) : Nat := (l.map fun t => (Lx.show t.1 t.2.1.data.toList).length + 1).sum
theorem jlen_cons (t : ITok) (l : List ITok) : jlen (t :: l) = (Lx.show t.1 t.2.1.data.toList).length + 1 + jlen l := by simp [jlen]
theorem jlen_app (l m : List ITok) : jlen (l ++ m) = jlen l + jlen m := by simp [jlen]
theorem jlen_joined (b : UInt8) : ∀ l : List ITok, (Lx.joined b (l.map iSays)).length = jlen l
  | [] => rfl
  | t :: l => by
    have e : Lx.show (iSays t).1 (iSays t).2 = Lx.show t.1 t.2.1.data.toList := rfl
    rw [List.map_cons, Lx.joined, List.length_append, List.length_cons, jlen_joined b l, jlen_cons, e]
    omega
def okT (t : ITok) : Prop := Lx.okShow t.1 t.2.1.data.toList = true
theorem okT.pos {t : ITok} (h : okT t) : 1 ≤ (Lx.show t.1 t.2.1.data.toList).length := by
  obtain ⟨c, r, e, _⟩ := (Lx.okShow_whole h).1.at_
  rw [e]
  simp
theorem Lx.dbl_least : ∀ l : List UInt8, l.length ≤ (Lx.dbl l).length
  | [] => Nat.le_refl _
  | c :: t => by
    have := Lx.dbl_least t
    rw [Lx.dbl_cons]
    split <;> · simp only [List.length_cons]; omega
theorem Lx.len_show (k : Int) (s : List UInt8) : s.length ≤ (Lx.show k s).length := by
  have := Lx.dbl_least s
  unfold Lx.show
  split
  · split
    · omega
    · simp; omega
  · split
    · simp; omega
    · omega
/-- what such tokens say has a text, not longer than they are -/
theorem Reads.texts {l : List ITok} {M : List Sx} (h : Reads l M) (hok : ∀ t ∈ l, okT t) : (∀ x ∈ M, ∃ t, x.text = some t) ∧ ∀ f, ∃ r, Sx.texts f M = some r ∧ r.length ≤ jlen l := by
  induction h with
  | nil => exact ⟨fun _ hx => absurd hx List.not_mem_nil, fun f => ⟨[], by rw [Sx.texts], Nat.zero_le _⟩⟩
  | atom t l L h1 h2 _ ih =>
    obtain ⟨i1, i2⟩ := ih fun x hx => hok x (List.mem_cons_of_mem _ hx)
    have ht : (Sx.atom t).text = some (Lx.show t.1 t.2.1.data.toList) := by
      rw [Sx.text_atom rfl]
      have hk : Lx.okShow (Sx.atom t).k (Sx.atom t).T.data.toList = true := hok t List.mem_cons_self
      have e1 : decide ((Sx.atom t).k = 1) = false := decide_eq_false h1
      have e2 : decide ((Sx.atom t).k = 2) = false := decide_eq_false h2
      have e3 : (Sx.atom t).L.isEmpty = true := rfl
      rw [hk, e1, e2, e3]
      rfl
    refine ⟨fun x hx => ?_, fun f => ?_⟩
    · rcases List.mem_cons.1 hx with rfl | hx
      · exact ⟨_, ht⟩
      · exact i1 x hx
    · obtain ⟨r, hr, hl⟩ := i2 false
      refine ⟨_, by rw [Sx.texts_cons, ht]; simp only; rw [hr]; rfl, ?_⟩
      rw [jlen_cons]
      split <;> simp <;> omega
  | list o c m l M L h1 h2 _ _ i1 i2 =>
    have hoo := (hok o List.mem_cons_self).pos
    have hoc := (hok c (by simp)).pos
    obtain ⟨j1, j2⟩ := i1 fun x hx => hok x (by simp [hx])
    obtain ⟨k1, k2⟩ := i2 fun x hx => hok x (by simp [hx])
    obtain ⟨q, hq, hql⟩ := j2 true
    have ht : (Sx.node o.2.2 M).text = some (40 :: (q ++ [41])) := by
      rw [Sx.text_list rfl]
      have : Sx.texts true (Sx.node o.2.2 M).L = some q := hq
      rw [this]
      rfl
    refine ⟨fun x hx => ?_, fun f => ?_⟩
    · rcases List.mem_cons.1 hx with rfl | hx
      · exact ⟨_, ht⟩
      · exact k1 x hx
    · obtain ⟨r, hr, hl⟩ := k2 false
      refine ⟨_, by rw [Sx.texts_cons, ht]; simp only; rw [hr]; rfl, ?_⟩
      rw [jlen_cons, jlen_app, jlen_cons]
      split <;> simp <;> omega

/-- these texts, a line each -/
def lnsX (M : List Sx) : List UInt8 := M.flatMap fun x => x.text.getD [] ++ [10]
theorem lnsX_cons (x : Sx) (M : List Sx) {t : List UInt8} (h : x.text = some t) : lnsX (x :: M) = t ++ 10 :: lnsX M := by simp [lnsX, h]
theorem lnsX_app (M M' : List Sx) : lnsX (M ++ M') = lnsX M ++ lnsX M' := by simp [lnsX]
theorem texts_lns : ∀ (M : List Sx) (r : List UInt8), Sx.texts false M = some r → r.length = (lnsX M).length
  | [], r, h => by
    rw [Sx.texts] at h
    injection h with h
    rw [← h]
    rfl
  | x :: M, r, h => by
    rw [Sx.texts_cons] at h
    cases e : x.text with
    | none => rw [e] at h; cases h
    | some t =>
      rw [e] at h
      simp only at h
      obtain ⟨r', hr', rfl⟩ := Option.map_eq_some_iff.1 h
      have := texts_lns M r' hr'
      rw [lnsX_cons x M e]
      simp
      omega
theorem Lexed.count {L : List Sx} {t m : List UInt8} {T : List (Int × List UInt8)} (h : Lexed L t m T) : T.length = Sx.tokss L := by
  obtain ⟨l, hl⟩ : ∃ l : List ITok, l.map iSays = T := by
    refine ⟨T.map fun x => (x.1, ⟨x.2.toArray⟩, 0), ?_⟩
    rw [List.map_map]
    exact (List.map_congr_left fun x _ => rfl).trans (List.map_id _)
  obtain ⟨M, h1, h2, _⟩ := h.2.2 l hl
  rw [← hl, List.length_map, h1.count, Sx.tokss_map h2]
/-- lines are read as what they are lines of -/
theorem lines_lexed : ∀ L : List Sx, (∀ x ∈ L, ∃ t, x.text = some t) → ∃ T : List (Int × List UInt8), T.length = Sx.tokss L ∧ (∀ n, ∃ Q : List Lx.Tok, Q.map Lx.says = T ∧ Lx.lex (n + T.length) (lnsX L) = (Q, 0, [])) ∧
    ∀ l : List ITok, l.map iSays = T → ∃ M, Reads l M ∧ M.map (Sx.key false) = L.map (Sx.key false) ∧ Sx.deeps M = Sx.deeps L
  | [], _ => by
    refine ⟨[], by rw [Sx.tokss]; rfl, fun n => ⟨[], rfl, Lx.lex_nil _ rfl⟩, fun l hl => ?_⟩
    obtain rfl : l = [] := by simpa using hl
    exact ⟨[], .nil, rfl, rfl⟩
  | x :: L, h => by
    obtain ⟨t, ht⟩ := h x List.mem_cons_self
    obtain ⟨T2, c2, q2, r2⟩ := lines_lexed L fun y hy => h y (List.mem_cons_of_mem _ hy)
    obtain ⟨T1, h1⟩ := Sx.lexed x.size x t (10 :: lnsX L) (Nat.le_refl _) ht (.inr ⟨10, _, rfl, Lx.ends_10⟩)
    have c1 := h1.count
    obtain ⟨_, q1, r1⟩ := h1
    rw [Sx.tokss, Sx.tokss, Nat.add_zero] at c1
    refine ⟨T1 ++ T2, by rw [List.length_append, Sx.tokss, c1, c2], fun n => ?_, fun l hl => ?_⟩
    · obtain ⟨Q2, e2, l2⟩ := q2 n
      obtain ⟨Q1, e1, l1⟩ := q1 (n + T2.length)
      refine ⟨Q1 ++ Q2, by rw [List.map_append, e1, e2], ?_⟩
      rw [lnsX_cons x L ht, List.length_append, show n + (T1.length + T2.length) = n + T2.length + T1.length by omega, l1, Lx.lex_skip _ (Lx.skip_blank (lnsX L) (by decide)), l2]
    · obtain ⟨a, b, rfl, ha, hb⟩ := List.map_eq_append_iff.1 hl
      obtain ⟨M1, m1, m2, m3⟩ := r1 a ha
      obtain ⟨M2, n1, n2, n3⟩ := r2 b hb
      refine ⟨M1 ++ M2, m1.app n1, ?_, ?_⟩
      · rw [List.map_append, m2, n2]
        rfl
      · rw [Sx.deeps_app, m3, n3]
        simp only [Sx.deeps]
        omega

/-- the items that are no errors -/
def okI (I : List SItem) : List SItem := I.filter fun x => decide (x.E = 0)
theorem okI_cons {x : SItem} (I : List SItem) (h : x.E = 0) : okI (x :: I) = x :: okI I := by simp [okI, h]
theorem okI_skip {x : SItem} (I : List SItem) (h : x.E ≠ 0) : okI (x :: I) = okI I := by simp [okI, h]
theorem okI_app (I J : List SItem) : okI (I ++ J) = okI I ++ okI J := by simp [okI]
theorem okI_E {I : List SItem} {x : SItem} (h : x ∈ okI I) : x ∈ I ∧ x.E = 0 := by simpa [okI] using h
theorem okI_cut (I : List SItem) : okI (cutEnd I) = okI I := by
  unfold cutEnd
  split
  · rename_i h
    obtain ⟨x, hx, hE⟩ := Option.map_eq_some_iff.1 h
    obtain ⟨J, rfl⟩ := List.getLast?_eq_some_iff.1 hx
    rw [List.dropLast_concat, okI_app, okI_skip [] (by rw [hE]; decide)]
    simp [okI]
  · rfl
theorem okI_read {I : List SItem} {E : Int} {p : Nat} : okI (readOf I E p) = okI I := by
  unfold readOf
  split
  · rfl
  · rename_i h
    rw [okI_app, okI_cut, okI_skip [] h]
    simp [okI]
theorem Says.oks {z : Int} {l : List ITok} {I : List SItem} (h : Says z l I) (hok : ∀ t ∈ l, okT t) :
    ∃ m : List ITok, Reads m ((okI I).map (·.X)) ∧ m.length ≤ l.length ∧ jlen m ≤ jlen l ∧ (∀ t ∈ m, t ∈ l) ∧ Sx.deeps ((okI I).map (·.X)) ≤ 64 := by
  induction h with
  | nil => exact ⟨[], .nil, Nat.le_refl _, Nat.le_refl _, fun _ h => h, Nat.zero_le _⟩
  | close t l I h1 _ ih =>
    obtain ⟨m, i1, i2, i3, i4, i5⟩ := ih fun x hx => hok x (List.mem_cons_of_mem _ hx)
    rw [okI_skip I (show (60 : Int) ≠ 0 by decide)]
    exact ⟨m, i1, by rw [List.length_cons]; omega, by rw [jlen_cons]; omega, fun x hx => List.mem_cons_of_mem _ (i4 x hx), i5⟩
  | atom t l I h1 h2 _ ih =>
    obtain ⟨m, i1, i2, i3, i4, i5⟩ := ih fun x hx => hok x (List.mem_cons_of_mem _ hx)
    rw [okI_cons I rfl, List.map_cons]
    refine ⟨t :: m, .atom t m _ h1 h2 i1, by rw [List.length_cons, List.length_cons]; omega, by rw [jlen_cons, jlen_cons]; omega, fun x hx => ?_, ?_⟩
    · rcases List.mem_cons.1 hx with rfl | hx
      · exact List.mem_cons_self
      · exact List.mem_cons_of_mem _ (i4 x hx)
    · rw [Sx.deeps, Sx.deep_atom rfl]
      omega
  | ends t l h1 h2 =>
    rw [okI_skip [] (show (51 : Int) ≠ 0 by decide)]
    exact ⟨[], .nil, Nat.zero_le _, Nat.zero_le _, fun _ h => absurd h List.not_mem_nil, Nat.zero_le _⟩
  | deep o c m l M I h1 hc hr hd _ ih =>
    obtain ⟨m', i1, i2, i3, i4, i5⟩ := ih fun x hx => hok x (by simp [hx])
    rw [okI_skip I (show (2 : Int) ≠ 0 by decide)]
    refine ⟨m', i1, by rw [List.length_cons, List.length_append, List.length_cons]; omega, by rw [jlen_cons, jlen_app, jlen_cons]; omega, fun x hx => ?_, i5⟩
    have := i4 x hx
    simp [this]
  | list o c m l M I h1 hc hr hd _ ih =>
    obtain ⟨m', i1, i2, i3, i4, i5⟩ := ih fun x hx => hok x (by simp [hx])
    rw [okI_cons I rfl, List.map_cons]
    refine ⟨o :: (m ++ c :: m'), .list o c m m' M _ h1 hc hr i1, ?_, ?_, fun x hx => ?_, ?_⟩
    · rw [List.length_cons, List.length_append, List.length_cons, List.length_cons, List.length_append, List.length_cons]
      omega
    · rw [jlen_cons, jlen_app, jlen_cons, jlen_cons, jlen_app, jlen_cons]
      omega
    · rcases List.mem_cons.1 hx with rfl | hx
      · exact List.mem_cons_self
      · rcases List.mem_append.1 hx with hx | hx
        · simp [hx]
        · rcases List.mem_cons.1 hx with rfl | hx
          · simp
          · have := i4 x hx
            simp [this]
    · rw [Sx.deeps, Sx.deep_list rfl]
      have : (Sx.node o.2.2 M).L = M := rfl
      rw [this]
      omega

/-- the lines of what is no error -/
def lnsI (R : List SItem) : List UInt8 := lnsX ((okI R).map (·.X))
theorem lnsI_app (R R' : List SItem) : lnsI (R ++ R') = lnsI R ++ lnsI R' := by rw [lnsI, okI_app, List.map_append, lnsX_app]; rfl
theorem lnsI_skip {x : SItem} (h : x.E ≠ 0) : lnsI [x] = [] := by rw [lnsI, okI_skip [] h]; rfl
theorem lnsI_one {x : SItem} (h : x.E = 0) {t : List UInt8} (ht : x.X.text = some t) : lnsI [x] = t ++ [10] := by
  rw [lnsI, okI_cons [] h]
  simp [okI, lnsX, ht]
theorem Sx.wides_mem {l : List Sx} {x : Sx} (h : x ∈ l) : x.wide ≤ Sx.wides l := Sx.wide_mem h
theorem Sx.deeps_mem {l : List Sx} {x : Sx} (h : x ∈ l) : x.deep ≤ Sx.deeps l := by
  induction l with
  | nil => cases h
  | cons y l ih =>
    rw [Sx.deeps]
    rcases List.mem_cons.1 h with rfl | h
    · omega
    · have := ih h
      omega
theorem ReadOf.again {s : ByteArray} {R : List SItem} (h : ReadOf s R) (hs : s.size ≤ 4000) :
    (∀ x ∈ R, x.E = 0 → ¬ 64 < Sx.dep 65 x.X ∧ (∃ t, x.X.text = some t) ∧ x.X.size ≤ 4000 ∧ x.X.wide ≤ 4000) ∧ (lnsI R).length ≤ 8000 ∧
    ∀ (V : ByteArray) (R' : List SItem), V.data.toList = lnsI R → ReadOf V R' → R'.map (SItem.key false) = (okI R).map (SItem.key false) := by
  obtain ⟨l, E, p, I, h1, h2, rfl⟩ := h
  obtain ⟨t1, t2, t3⟩ := h1.toks (by omega)
  have hlen : s.data.toList.length ≤ 4000 := by rw [len_bytes]; exact hs
  obtain ⟨a1, a2, _⟩ := Lx.again s.data.toList hlen
  have hsays : (l.map toI).map iSays = (Lx.lex 4000 s.data.toList).1.map Lx.says := by
    rw [← t1, List.map_map, List.map_map]
    exact List.map_congr_left fun x _ => rfl
  rw [← hsays] at a1 a2
  rw [jlen_joined] at a2
  have hok : ∀ t ∈ l.map toI, okT t := fun t ht => a1 (iSays t) (List.mem_map_of_mem ht)
  have hw : ∀ t ∈ l.map toI, t.2.1.size ≤ 4000 := by
    intro t ht
    have hm : iSays t ∈ (Lx.lex 4000 s.data.toList).1.map Lx.says := by rw [← hsays]; exact List.mem_map_of_mem ht
    obtain ⟨y, hy, e⟩ := List.mem_map.1 hm
    have k1 := ((Lx.lex_wholes 4000 s.data.toList).1 y hy).2
    have k2 := Lx.len_show y.1 y.2.1
    have k3 : y.2.1 = t.2.1.data.toList := congrArg Prod.snd e
    rw [k3, len_bytes] at k2
    rw [k3] at k1
    omega
  obtain ⟨m, m1, m2, m3, m4, m5⟩ := h2.oks hok
  rw [← okI_read (E := E) (p := p)] at m1 m5
  obtain ⟨R, hR⟩ : ∃ R, readOf I E p = R := ⟨_, rfl⟩
  rw [hR] at m1 m5 ⊢
  rw [List.length_map] at m2
  have hfew := h1.few
  obtain ⟨s1, s2⟩ := m1.small 4000 fun t ht => hw t (m4 t ht)
  obtain ⟨x1, x2⟩ := m1.texts fun t ht => hok t (m4 t ht)
  obtain ⟨r, hr, hrl⟩ := x2 false
  have hlns := texts_lns _ _ hr
  have hcount := m1.count
  refine ⟨fun x hx hE => ?_, by rw [lnsI]; omega, fun V R' hV hR' => ?_⟩
  · have hx' : x.X ∈ (okI R).map (·.X) := List.mem_map_of_mem (by simp [okI, hx, hE])
    have d1 := Sx.deeps_mem hx'
    have d2 := Sx.sizes_le hx'
    have d3 := Sx.wide_mem hx'
    refine ⟨?_, x1 _ hx', by omega, by omega⟩
    rw [Sx.dep_deep]
    omega
  · obtain ⟨T, c1, c2, c3⟩ := lines_lexed _ x1
    obtain ⟨l', E', p', I', g1, g2, rfl⟩ := hR'
    have hVs : V.size ≤ 16384 := by
      rw [← len_bytes, hV, lnsI]
      omega
    obtain ⟨u1, u2, u3⟩ := g1.toks hVs
    obtain ⟨Q, e1, e2⟩ := c2 (4000 - T.length)
    rw [show 4000 - T.length + T.length = 4000 by omega] at e2
    rw [hV, lnsI, e2] at u1 u2
    have hsays' : (l'.map toI).map iSays = T := by
      have u1' : l'.map (pureTok V) = Q := u1
      rw [← e1, ← u1', List.map_map, List.map_map]
      exact List.map_congr_left fun x _ => rfl
    obtain ⟨M, n1, n2, n3⟩ := c3 _ hsays'
    have hS := n1.says (z := (V.size : Nat)) (by rw [n3]; exact m5)
    have hI := Says.uniq _ _ _ _ (Nat.le_refl _) g2 hS
    rw [hI]
    unfold readOf
    rw [if_pos u2, List.map_map]
    have hk : ∀ (J : List SItem), (∀ x ∈ J, x.E = 0) → J.map (SItem.key false) = (J.map (·.X)).map fun X => (⟨X.key false, 0, 0⟩ : SItem) := by
      intro J hJ
      rw [List.map_map]
      refine List.map_congr_left fun x hx => ?_
      simp only [SItem.key, Function.comp, hJ x hx]
      rfl
    rw [hk (okI R) fun x hx => (okI_E hx).2]
    have e3 : ∀ (L : List Sx), (L.map fun X => (⟨X.key false, 0, 0⟩ : SItem)) = (L.map (Sx.key false)).map fun X => (⟨X, 0, 0⟩ : SItem) := by
      intro L
      rw [List.map_map]
      rfl
    rw [e3, ← n2, List.map_map]
    exact List.map_congr_left fun x _ => rfl
end Go.Proofs.YtpjdfogieiokkaaDoor
