/- Scripts as tokens: what was read is written, what is written is read. Nothing of the program's text. -/
import Derived.Test.YtpjdfogieiokkaaDoorY3
namespace Go.Proofs.YtpjdfogieiokkaaDoor

theorem Lx.quo_bar_inv : ∀ l : List UInt8, (Lx.quo 124 l).2.1 = 0 → l = (Lx.quo 124 l).1 ++ 124 :: (Lx.quo 124 l).2.2 ∧ ∀ d ∈ (Lx.quo 124 l).1, Lx.good d = true ∧ d.toNat ≠ 124
  | [], h => by simp [Lx.quo] at h
  | [c], h => by
    by_cases hg : Lx.good c = true
    · by_cases hc : c = 124
      · subst hc
        simp [Lx.quo, hg]
      · simp [Lx.quo, hg, hc] at h
    · simp [Lx.quo, hg] at h
  | c :: d :: t, h => by
    by_cases hg : Lx.good c = true
    · by_cases hc : c = 124
      · subst hc
        have e : Lx.quo 124 (124 :: d :: t) = ([], 0, d :: t) := by
          rw [Lx.quo, if_pos hg, if_pos rfl, if_neg (fun h => absurd h.1 (by decide))]
        rw [e]
        simp
      · have e : Lx.quo 124 (c :: d :: t) = (c :: (Lx.quo 124 (d :: t)).1, (Lx.quo 124 (d :: t)).2) := by
          rw [Lx.quo, if_pos hg, if_neg hc]
        rw [e] at h ⊢
        obtain ⟨i1, i2⟩ := Lx.quo_bar_inv (d :: t) h
        refine ⟨by rw [List.cons_append, ← i1], fun x hx => ?_⟩
        rcases List.mem_cons.1 hx with rfl | hx
        · exact ⟨hg, fun e => hc (Lx.byte_eq e)⟩
        · exact i2 x hx
    · have e : Lx.quo 124 (c :: d :: t) = ([], 50, c :: d :: t) := by rw [Lx.quo, if_neg hg]
      rw [e] at h
      simp at h
theorem Lx.quo_dbl_inv : ∀ l : List UInt8, (Lx.quo 34 l).2.1 = 0 → l = Lx.dbl (Lx.quo 34 l).1 ++ 34 :: (Lx.quo 34 l).2.2 ∧ ∀ d ∈ (Lx.quo 34 l).1, Lx.good d = true
  | [], h => by simp [Lx.quo] at h
  | [c], h => by
    by_cases hg : Lx.good c = true
    · by_cases hc : c = 34
      · subst hc
        simp [Lx.quo, hg, Lx.dbl]
      · simp [Lx.quo, hg, hc] at h
    · simp [Lx.quo, hg] at h
  | c :: d :: t, h => by
    by_cases hg : Lx.good c = true
    · by_cases hc : c = 34
      · subst hc
        by_cases hd : d = 34
        · subst hd
          have e : Lx.quo 34 (34 :: 34 :: t) = (34 :: (Lx.quo 34 t).1, (Lx.quo 34 t).2) := by
            rw [Lx.quo, if_pos hg, if_pos rfl, if_pos ⟨by decide, rfl⟩]
          rw [e] at h ⊢
          obtain ⟨i1, i2⟩ := Lx.quo_dbl_inv t h
          refine ⟨?_, fun x hx => ?_⟩
          · rw [Lx.dbl_cons, if_pos (by decide), List.cons_append, List.cons_append, ← i1]
          · rcases List.mem_cons.1 hx with rfl | hx
            · exact hg
            · exact i2 x hx
        · have e : Lx.quo 34 (34 :: d :: t) = ([], 0, d :: t) := by
            rw [Lx.quo, if_pos hg, if_pos rfl, if_neg (fun h => hd h.2)]
          rw [e]
          simp [Lx.dbl]
      · have e : Lx.quo 34 (c :: d :: t) = (c :: (Lx.quo 34 (d :: t)).1, (Lx.quo 34 (d :: t)).2) := by
          rw [Lx.quo, if_pos hg, if_neg hc]
        rw [e] at h ⊢
        obtain ⟨i1, i2⟩ := Lx.quo_dbl_inv (d :: t) h
        refine ⟨?_, fun x hx => ?_⟩
        · rw [Lx.dbl_cons, if_neg (fun e => hc (Lx.byte_eq e)), List.cons_append, ← i1]
        · rcases List.mem_cons.1 hx with rfl | hx
          · exact hg
          · exact i2 x hx
    · have e : Lx.quo 34 (c :: d :: t) = ([], 50, c :: d :: t) := by rw [Lx.quo, if_neg hg]
      rw [e] at h
      simp at h

theorem Lx.number_kinds (x : List UInt8) : Lx.number x = 0 ∨ Lx.number x = 4 ∨ Lx.number x = 5 := by
  unfold Lx.number
  dsimp only
  split
  · exact .inl rfl
  · split
    · exact .inr (.inl rfl)
    · split
      · exact .inr (.inr rfl)
      · exact .inl rfl

/-- what a token was read of -/
theorem Lx.one_src (c : UInt8) (t : List UInt8) (h : (Lx.one (c :: t)).2.2.1 = 0) :
    ((Lx.one (c :: t)).1 = 3 ∧ c :: t = 124 :: ((Lx.one (c :: t)).2.1 ++ 124 :: (Lx.one (c :: t)).2.2.2) ∧ ∀ d ∈ (Lx.one (c :: t)).2.1, Lx.good d = true ∧ d.toNat ≠ 124 ∧ d.toNat ≠ 92) ∨
    ((Lx.one (c :: t)).1 = 6 ∧ c :: t = 34 :: (Lx.dbl (Lx.one (c :: t)).2.1 ++ 34 :: (Lx.one (c :: t)).2.2.2) ∧ ∀ d ∈ (Lx.one (c :: t)).2.1, Lx.good d = true) ∨
    ((Lx.one (c :: t)).1 ≠ 6 ∧ (∃ u, (Lx.one (c :: t)).2.1 = c :: u) ∧ c :: t = (Lx.one (c :: t)).2.1 ++ (Lx.one (c :: t)).2.2.2 ∧ Lx.one (Lx.one (c :: t)).2.1 = ((Lx.one (c :: t)).1, (Lx.one (c :: t)).2.1, 0, []) ∧ ((Lx.one (c :: t)).1 = 3 → Lx.simple (Lx.one (c :: t)).2.1 = true)) := by
  have htd := Lx.take_drop Lx.name t
  obtain ⟨e1, e2⟩ := Lx.all_take Lx.name _ (Lx.take_all Lx.name t)
  by_cases h1 : c.toNat = 40
  · have e : Lx.one (c :: t) = (1, [c], 0, t) := by simp [Lx.one, h1]
    have e' : Lx.one [c] = (1, [c], 0, []) := by simp [Lx.one, h1]
    rw [e]
    exact .inr (.inr ⟨by simp, ⟨[], rfl⟩, rfl, e', fun h => absurd h (by simp)⟩)
  by_cases h2 : c.toNat = 41
  · have e : Lx.one (c :: t) = (2, [c], 0, t) := by simp [Lx.one, h2]
    have e' : Lx.one [c] = (2, [c], 0, []) := by simp [Lx.one, h2]
    rw [e]
    exact .inr (.inr ⟨by simp, ⟨[], rfl⟩, rfl, e', fun h => absurd h (by simp)⟩)
  by_cases h3 : c.toNat = 124 ∨ c.toNat = 34
  · rcases Lx.quo_err c t with q | q | q
    · rcases h3 with h3 | h3
      · obtain rfl : c = 124 := Lx.byte_eq h3
        obtain ⟨i1, i2⟩ := Lx.quo_bar_inv t q
        by_cases h92 : ((Lx.quo 124 t).1.any fun d => decide (d.toNat = 92)) = true
        · simp [Lx.one, q, h92] at h
        · have e : Lx.one (124 :: t) = (3, (Lx.quo 124 t).1, 0, (Lx.quo 124 t).2.2) := by
            simp only [Lx.one, q, h92]
            simp
          rw [e]
          refine .inl ⟨rfl, ?_, fun d hd => ⟨(i2 d hd).1, (i2 d hd).2, fun e => h92 (List.any_eq_true.2 ⟨d, hd, by simpa using e⟩)⟩⟩
          show 124 :: t = 124 :: ((Lx.quo 124 t).1 ++ 124 :: (Lx.quo 124 t).2.2)
          rw [← i1]
      · obtain rfl : c = 34 := Lx.byte_eq h3
        obtain ⟨i1, i2⟩ := Lx.quo_dbl_inv t q
        have e : Lx.one (34 :: t) = (6, (Lx.quo 34 t).1, 0, (Lx.quo 34 t).2.2) := by simp [Lx.one, q]
        rw [e]
        refine .inr (.inl ⟨rfl, ?_, i2⟩)
        show 34 :: t = 34 :: (Lx.dbl (Lx.quo 34 t).1 ++ 34 :: (Lx.quo 34 t).2.2)
        rw [← i1]
    · simp [Lx.one, h1, h2, h3, q] at h
    · simp [Lx.one, h1, h2, h3, q] at h
  have hsrc : c :: t = c :: t.takeWhile Lx.name ++ t.dropWhile Lx.name := by rw [List.cons_append, htd]
  by_cases h4 : Lx.digit c = true
  · by_cases hn : Lx.number (c :: t.takeWhile Lx.name) = 0
    · simp [Lx.one, h1, h2, h3, h4, hn] at h
    · have e : Lx.one (c :: t) = (Lx.number (c :: t.takeWhile Lx.name), c :: t.takeWhile Lx.name, 0, t.dropWhile Lx.name) := by simp [Lx.one, h1, h2, h3, h4, hn]
      have e' : Lx.one (c :: t.takeWhile Lx.name) = (Lx.number (c :: t.takeWhile Lx.name), c :: t.takeWhile Lx.name, 0, []) := by simp [Lx.one, h1, h2, h3, h4, hn, e1, e2]
      rw [e]
      have hk := Lx.number_kinds (c :: t.takeWhile Lx.name)
      exact .inr (.inr ⟨by show Lx.number _ ≠ 6; omega, ⟨_, rfl⟩, hsrc, e', fun h => absurd h (by show ¬ Lx.number _ = 3; omega)⟩)
  by_cases h5 : Lx.name c = true
  · have e : Lx.one (c :: t) = (3, c :: t.takeWhile Lx.name, 0, t.dropWhile Lx.name) := by simp [Lx.one, h1, h2, h3, h4, h5]
    have e' : Lx.one (c :: t.takeWhile Lx.name) = (3, c :: t.takeWhile Lx.name, 0, []) := by simp [Lx.one, h1, h2, h3, h4, h5, e1, e2]
    rw [e]
    refine .inr (.inr ⟨by simp, ⟨_, rfl⟩, hsrc, e', fun _ => ?_⟩)
    simp only [Lx.simple, List.headD_cons, List.all_cons, h5, Lx.take_all]
    simp [h4]
  by_cases h6 : c.toNat = 58
  · by_cases hn : (t.takeWhile Lx.name).isEmpty = true
    · simp only [Lx.one, h4, h5, h6, hn] at h
      simp at h
    · have e : Lx.one (c :: t) = (7, c :: t.takeWhile Lx.name, 0, t.dropWhile Lx.name) := by
        simp only [Lx.one, h4, h5, h6, hn]
        simp
      have e' : Lx.one (c :: t.takeWhile Lx.name) = (7, c :: t.takeWhile Lx.name, 0, []) := by
        simp only [Lx.one, h4, h5, h6, e1, e2, hn]
        simp
      rw [e]
      exact .inr (.inr ⟨by simp, ⟨_, rfl⟩, hsrc, e', fun h => absurd h (by simp)⟩)
  by_cases h7 : c.toNat = 35
  · by_cases hn : Lx.other (c :: t.takeWhile Lx.name) = true
    · have e : Lx.one (c :: t) = (8, c :: t.takeWhile Lx.name, 0, t.dropWhile Lx.name) := by
        simp only [Lx.one, h4, h5, h7, hn]
        simp
      have e' : Lx.one (c :: t.takeWhile Lx.name) = (8, c :: t.takeWhile Lx.name, 0, []) := by
        simp only [Lx.one, h4, h5, h7, e1, e2, hn]
        simp
      rw [e]
      exact .inr (.inr ⟨by simp, ⟨_, rfl⟩, hsrc, e', fun h => absurd h (by simp)⟩)
    · simp only [Lx.one, h4, h5, h7, hn] at h
      simp at h
  simp [Lx.one, h1, h2, h3, h4, h5, h6, h7] at h

/-- may a token be written? -/
def Lx.okShow (k : Int) (s : List UInt8) : Bool := decide ((Lx.show k s).length ≤ 16384) && decide ((Lx.lex 4000 (Lx.show k s)).2.1 = 0) && decide ((Lx.lex 4000 (Lx.show k s)).1.map Lx.says = [(k, s)])

theorem Lx.simple_one {s : List UInt8} (h : Lx.simple s = true) : Lx.Whole s 3 s := by
  cases s with
  | nil => simp [Lx.simple] at h
  | cons c t =>
    simp [Lx.simple] at h
    obtain ⟨h1, h2, h3⟩ := h
    obtain ⟨f1, f2, f3, f4, f5, f6, f7, f8, f9⟩ := Lx.name_facts h2
    obtain ⟨e1, e2⟩ := Lx.all_take Lx.name t (List.all_eq_true.2 h3)
    refine ⟨?_, c, t, rfl, f1, f2, f3⟩
    simp [Lx.one, f4, f5, f6, f7, h1, h2, e1, e2]
/-- what was read is written, and is not longer then -/
theorem Lx.token_whole (c : UInt8) (t : List UInt8) (h : (Lx.one (c :: t)).2.2.1 = 0) (hg : Lx.good c = true) (hb : Lx.blank c = false) (hr : c.toNat ≠ 59) :
    Lx.Whole (Lx.show (Lx.one (c :: t)).1 (Lx.one (c :: t)).2.1) (Lx.one (c :: t)).1 (Lx.one (c :: t)).2.1 ∧ (Lx.show (Lx.one (c :: t)).1 (Lx.one (c :: t)).2.1).length + (Lx.one (c :: t)).2.2.2.length ≤ (c :: t).length := by
  generalize hk : (Lx.one (c :: t)).1 = k
  generalize hs : (Lx.one (c :: t)).2.1 = s
  generalize hq : (Lx.one (c :: t)).2.2.2 = r
  have H := Lx.one_src c t h
  rw [hk, hs, hq] at H
  rcases H with ⟨rfl, h1, h2⟩ | ⟨rfl, h1, h2⟩ | ⟨h1, ⟨u, h2⟩, h3, h4, h5⟩
  · rw [h1]
    by_cases hsi : Lx.simple s = true
    · have e : Lx.show 3 s = s := by simp [Lx.show, hsi]
      rw [e]
      exact ⟨Lx.simple_one hsi, by simp; omega⟩
    · have e : Lx.show 3 s = 124 :: (s ++ [124]) := by simp [Lx.show, hsi]
      rw [e]
      have q := Lx.quo_bar s fun d hd => ⟨(h2 d hd).1, (h2 d hd).2.1⟩
      have h92 : (s.any fun d => decide (d.toNat = 92)) = false := by
        rw [List.any_eq_false]
        exact fun d hd => by simpa using (h2 d hd).2.2
      refine ⟨⟨?_, 124, s ++ [124], rfl, by decide, by decide, by decide⟩, by simp; omega⟩
      simp only [Lx.one, q, h92]
      simp
  · rw [h1]
    have e : Lx.show 6 s = 34 :: (Lx.dbl s ++ [34]) := by simp [Lx.show]
    rw [e]
    have q := Lx.quo_dbl s h2
    refine ⟨⟨?_, 34, Lx.dbl s ++ [34], rfl, by decide, by decide, by decide⟩, by simp; omega⟩
    simp [Lx.one, q]
  · have e : Lx.show k s = s := by
      unfold Lx.show
      split
      · rename_i h6
        rw [if_pos (h5 h6)]
      · simp
    rw [e]
    refine ⟨⟨h4, c, u, h2, hg, hb, hr⟩, ?_⟩
    rw [h3, List.length_append]
    exact Nat.le_refl _
/-- what is written is read -/
theorem Lx.okShow_whole {k : Int} {s : List UInt8} (h : Lx.okShow k s = true) : Lx.Whole (Lx.show k s) k s ∧ (Lx.show k s).length ≤ 16384 := by
  simp only [Lx.okShow, Bool.and_eq_true, decide_eq_true_eq] at h
  obtain ⟨⟨h1, h2⟩, h3⟩ := h
  refine ⟨?_, h1⟩
  generalize hx : Lx.show k s = x at h1 h2 h3 ⊢
  cases hs : Lx.skip false x with
  | nil => rw [Lx.lex_nil _ hs] at h3; simp at h3
  | cons c t =>
    cases hg : Lx.good c with
    | false => rw [Lx.lex_bad _ hs hg] at h2; simp at h2
    | true =>
      by_cases he : (Lx.one (c :: t)).2.2.1 = 0
      · obtain ⟨hb, hr⟩ := Lx.skip_head x false hs hg
        obtain ⟨p, hp⟩ := Lx.skip_end x false
        rw [hs] at hp
        rw [Lx.lex_ok 3999 hs hg he] at h3
        simp only [List.map_cons, List.cons.injEq, Prod.mk.injEq] at h3
        obtain ⟨⟨hk, hss⟩, _⟩ := h3
        have H := Lx.one_src c t he
        have H1 : Lx.one (c :: t) = ((Lx.one (c :: t)).1, (Lx.one (c :: t)).2.1, (Lx.one (c :: t)).2.2.1, (Lx.one (c :: t)).2.2.2) := rfl
        rw [hk, hss, he] at H1
        rw [hk, hss] at H
        generalize (Lx.one (c :: t)).2.2.2 = r at H H1
        have hlen : x.length = p.length + (c :: t).length := by rw [hp, List.length_append]
        have fin : p.length + r.length = 0 → Lx.Whole x k s := fun h0 => by
          obtain rfl : p = [] := List.eq_nil_of_length_eq_zero (by omega)
          obtain rfl : r = [] := List.eq_nil_of_length_eq_zero (by omega)
          rw [List.nil_append] at hp
          exact ⟨by rw [hp]; exact H1, c, t, hp, hg, hb, hr⟩
        rcases H with ⟨rfl, h4, h5⟩ | ⟨rfl, h4, h5⟩ | ⟨h4, ⟨u, h5⟩, h6, h7, h8⟩
        · rw [h4] at hlen
          simp only [Lx.show, if_pos] at hx
          split at hx
          · rw [← hx] at hlen
            simp at hlen
            omega
          · rw [← hx] at hlen
            simp at hlen
            exact fin (by omega)
        · rw [h4] at hlen
          have : Lx.show 6 s = 34 :: (Lx.dbl s ++ [34]) := by simp [Lx.show]
          rw [this] at hx
          rw [← hx] at hlen
          simp at hlen
          exact fin (by omega)
        · have e : Lx.show k s = s := by
            unfold Lx.show
            split
            · rename_i h9
              rw [if_pos (h8 h9)]
            · simp
          rw [e] at hx
          rw [h6, ← hx, List.length_append] at hlen
          exact fin (by omega)
      · rw [Lx.lex_err 3999 hs hg he] at h2
        exact absurd h2 he
theorem Lx.whole_okShow {k : Int} {s : List UInt8} (h : Lx.Whole (Lx.show k s) k s) (hl : (Lx.show k s).length ≤ 16384) : Lx.okShow k s = true := by
  simp only [Lx.okShow, Lx.whole_alone h 3999]
  simp [hl]

/-- all that was read is written, and not much longer -/
theorem Lx.lex_wholes : ∀ (n : Nat) (l : List UInt8), (∀ x ∈ (Lx.lex n l).1, Lx.Whole (Lx.show x.1 x.2.1) x.1 x.2.1 ∧ (Lx.show x.1 x.2.1).length ≤ l.length) ∧
    ∀ b, (Lx.joined b ((Lx.lex n l).1.map Lx.says)).length ≤ l.length + (Lx.lex n l).1.length := by
  intro n
  induction n with
  | zero =>
    intro l
    cases h : Lx.skip false l with
    | nil => rw [Lx.lex_nil 0 h]; simp [Lx.joined]
    | cons c t =>
      cases hg : Lx.good c with
      | false => rw [Lx.lex_bad 0 h hg]; simp [Lx.joined]
      | true => rw [Lx.lex_zero h hg]; simp [Lx.joined]
  | succ n ih =>
    intro l
    cases h : Lx.skip false l with
    | nil => rw [Lx.lex_nil _ h]; simp [Lx.joined]
    | cons c t =>
      cases hg : Lx.good c with
      | false => rw [Lx.lex_bad _ h hg]; simp [Lx.joined]
      | true =>
        by_cases he : (Lx.one (c :: t)).2.2.1 = 0
        · obtain ⟨hb, hr⟩ := Lx.skip_head l false h hg
          obtain ⟨w1, w2⟩ := Lx.token_whole c t he hg hb hr
          have hlen := Lx.skip_len l false
          rw [h] at hlen
          obtain ⟨i1, i2⟩ := ih (Lx.one (c :: t)).2.2.2
          rw [Lx.lex_ok n h hg he]
          refine ⟨fun x hx => ?_, fun b => ?_⟩
          · rcases List.mem_cons.1 hx with rfl | hx
            · exact ⟨w1, Nat.le_trans (Nat.le_trans (Nat.le_add_right _ _) w2) hlen⟩
            · exact ⟨(i1 x hx).1, by have := (i1 x hx).2; omega⟩
          · have := i2 b
            simp only [List.map_cons, Lx.joined, List.length_append, List.length_cons]
            rw [List.length_cons] at w2 hlen
            omega
        · rw [Lx.lex_err _ h hg he]; simp [Lx.joined]
end Go.Proofs.YtpjdfogieiokkaaDoor
