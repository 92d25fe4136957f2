/- Scripts as tokens: what stands behind a line feed. Nothing of the program's text. -/
import Derived.Test.YtpjdfogieiokkaaDoorY1
namespace Go.Proofs.YtpjdfogieiokkaaDoor

theorem Lx.one_app {b : UInt8} (hb : Lx.Ends b) (m : List UInt8) (c : UInt8) (t : List UInt8) :
    ((Lx.one (c :: t)).2.2.1 = 0 → Lx.one (c :: t ++ b :: m) = ((Lx.one (c :: t)).1, (Lx.one (c :: t)).2.1, 0, (Lx.one (c :: t)).2.2.2 ++ b :: m)) ∧
    ((Lx.one (c :: t)).2.2.1 ≠ 0 → (Lx.one (c :: t)).2.2.1 ≠ 51 → Lx.one (c :: t ++ b :: m) = (0, [], (Lx.one (c :: t)).2.2.1, (Lx.one (c :: t)).2.2.2 ++ b :: m)) ∧
    ((Lx.one (c :: t)).2.2.1 = 51 → (Lx.one (c :: t ++ [b])).2.2.1 = 51) := by
  obtain ⟨e1, e2⟩ := Lx.take_app Lx.name hb.nam m t
  rw [List.cons_append, List.cons_append]
  by_cases h1 : c.toNat = 40
  · simp [Lx.one, h1]
  by_cases h2 : c.toNat = 41
  · simp [Lx.one, h2]
  by_cases h3 : c.toNat = 124 ∨ c.toNat = 34
  · obtain ⟨q1, q2, q3⟩ := Lx.quo_app hb m c h3.symm t
    have q := Lx.quo_err c t
    rcases q with q | q | q
    · have hq := q1 q
      by_cases h34 : c.toNat = 34
      · simp [Lx.one, h34, q, hq]
      · by_cases h92 : ((Lx.quo c t).1.any fun d => decide (d.toNat = 92)) = true
        · have h124 : c.toNat = 124 := by omega
          simp only [Lx.one, h124, q, hq, h92]
          simp
        · have h124 : c.toNat = 124 := by omega
          simp only [Lx.one, h124, q, hq, h92]
          simp
    · have hq := q2 q
      simp only [Lx.one, h1, h2, h3, q, hq]
      simp
    · have hq := q3 q
      simp only [Lx.one, h1, h2, h3, q, hq]
      simp
  by_cases h4 : Lx.digit c = true
  · by_cases hn : Lx.number (c :: t.takeWhile Lx.name) = 0
    · simp [Lx.one, h1, h2, h3, h4, hn, e1]
    · simp [Lx.one, h1, h2, h3, h4, hn, e1, e2]
  by_cases h5 : Lx.name c = true
  · simp [Lx.one, h1, h2, h3, h4, h5, e1, e2]
  by_cases h6 : c.toNat = 58
  · by_cases hn : (t.takeWhile Lx.name).isEmpty = true
    · simp only [Lx.one, h4, h5, h6, e1, e2, hn]
      simp
    · simp only [Lx.one, h4, h5, h6, e1, e2, hn]
      simp
  by_cases h7 : c.toNat = 35
  · by_cases hn : Lx.other (c :: t.takeWhile Lx.name) = true
    · simp only [Lx.one, h4, h5, h7, e1, e2, hn]
      simp
    · simp only [Lx.one, h4, h5, h7, e1, e2, hn]
      simp
  simp [Lx.one, h1, h2, h3, h4, h5, h6, h7]
theorem Lx.drop_len (p : UInt8 → Bool) : ∀ l : List UInt8, (l.dropWhile p).length ≤ l.length
  | [] => Nat.le_refl _
  | c :: l => by
    rw [List.dropWhile_cons]
    split
    · exact Nat.le_succ_of_le (Lx.drop_len p l)
    · exact Nat.le_refl _
theorem Lx.one_len (c : UInt8) (t : List UInt8) (h : (Lx.one (c :: t)).2.2.1 = 0) : (Lx.one (c :: t)).2.2.2.length ≤ t.length := by
  have hd := Lx.drop_len Lx.name t
  have hq := Lx.quo_len c t
  unfold Lx.one at h ⊢
  dsimp only at h ⊢
  split <;> rename_i h1
  · exact Nat.le_refl _
  rw [if_neg h1] at h
  split <;> rename_i h2
  · exact Nat.le_refl _
  rw [if_neg h2] at h
  split <;> rename_i h3
  · rw [if_pos h3] at h
    split <;> rename_i h4
    · rw [if_pos h4] at h
      split <;> rename_i h5
      · exact hq
      · rw [if_neg h5] at h
        split <;> rename_i h6
        · rw [if_pos h6] at h; cases h
        · exact hq
    · rw [if_neg h4] at h
      split at h <;> cases h
  rw [if_neg h3] at h
  split <;> rename_i h4
  · rw [if_pos h4] at h
    split <;> rename_i h5
    · rw [if_pos h5] at h; cases h
    · exact hd
  rw [if_neg h4] at h
  split <;> rename_i h5
  · exact hd
  rw [if_neg h5] at h
  split <;> rename_i h6
  · rw [if_pos h6] at h
    split <;> rename_i h7
    · rw [if_pos h7] at h; cases h
    · exact hd
  rw [if_neg h6] at h
  split <;> rename_i h7
  · rw [if_pos h7] at h
    split <;> rename_i h8
    · exact hd
    · rw [if_neg h8] at h; cases h
  rw [if_neg h7] at h
  cases h

section
variable {k : Nat} {l t : List UInt8} {c : UInt8}
theorem Lx.lex_nil (k : Nat) (h : Lx.skip false l = []) : Lx.lex k l = ([], 0, []) := by
  unfold Lx.lex
  rw [h]
theorem Lx.lex_bad (k : Nat) (h : Lx.skip false l = c :: t) (hg : Lx.good c = false) : Lx.lex k l = ([], 50, c :: t) := by
  unfold Lx.lex
  rw [h]
  simp [hg]
theorem Lx.lex_zero (h : Lx.skip false l = c :: t) (hg : Lx.good c = true) : Lx.lex 0 l = ([], 2, c :: t) := by
  unfold Lx.lex
  rw [h]
  simp [hg]
theorem Lx.lex_err (k : Nat) (h : Lx.skip false l = c :: t) (hg : Lx.good c = true) (he : (Lx.one (c :: t)).2.2.1 ≠ 0) : Lx.lex (k + 1) l = ([], (Lx.one (c :: t)).2.2.1, (Lx.one (c :: t)).2.2.2) := by
  rw [Lx.lex, h]
  simp [hg, he]
theorem Lx.lex_ok (k : Nat) (h : Lx.skip false l = c :: t) (hg : Lx.good c = true) (he : (Lx.one (c :: t)).2.2.1 = 0) :
    Lx.lex (k + 1) l = (((Lx.one (c :: t)).1, (Lx.one (c :: t)).2.1, (c :: t).length) :: (Lx.lex k (Lx.one (c :: t)).2.2.2).1, (Lx.lex k (Lx.one (c :: t)).2.2.2).2) := by
  rw [Lx.lex, h]
  simp [hg, he]
end

/-- a token ahead of n more bytes -/
def Lx.up (n : Nat) (x : Lx.Tok) : Lx.Tok := (x.1, x.2.1, x.2.2 + n)
theorem Lx.lex_app (m : List UInt8) : ∀ (k : Nat) (l : List UInt8),
    ((Lx.lex k l).2.1 = 0 → Lx.lex k (l ++ 10 :: m) = ((Lx.lex k l).1.map (Lx.up (m.length + 1)) ++ (Lx.lex (k - (Lx.lex k l).1.length) m).1, (Lx.lex (k - (Lx.lex k l).1.length) m).2)) ∧
    ((Lx.lex k l).2.1 ≠ 0 → (Lx.lex k l).2.1 ≠ 51 → Lx.lex k (l ++ 10 :: m) = ((Lx.lex k l).1.map (Lx.up (m.length + 1)), (Lx.lex k l).2.1, (Lx.lex k l).2.2 ++ 10 :: m)) ∧
    ((Lx.lex k l).2.1 = 51 → (Lx.lex k (l ++ [10])).2.1 = 51) := by
  intro k
  induction k with
  | zero =>
    intro l
    cases h : Lx.skip false l with
    | nil =>
      have hs := Lx.skip_none m l false h
      refine ⟨fun _ => ?_, fun e => absurd (by rw [Lx.lex_nil 0 h]) e, fun e => by rw [Lx.lex_nil 0 h] at e; cases e⟩
      rw [Lx.lex_nil 0 h]
      show Lx.lex 0 (l ++ 10 :: m) = ([] ++ (Lx.lex 0 m).1, (Lx.lex 0 m).2)
      unfold Lx.lex
      rw [hs]
      simp
    | cons c t =>
      have hs := Lx.skip_some (10 :: m) l false h
      cases hg : Lx.good c with
      | false =>
        rw [Lx.lex_bad 0 h hg, Lx.lex_bad 0 hs hg]
        simp
      | true =>
        rw [Lx.lex_zero h hg, Lx.lex_zero hs hg]
        simp
  | succ k ih =>
    intro l
    cases h : Lx.skip false l with
    | nil =>
      have hs := Lx.skip_none m l false h
      refine ⟨fun _ => ?_, fun e => absurd (by rw [Lx.lex_nil _ h]) e, fun e => by rw [Lx.lex_nil _ h] at e; cases e⟩
      rw [Lx.lex_nil _ h]
      show Lx.lex (k + 1) (l ++ 10 :: m) = ([] ++ (Lx.lex (k + 1) m).1, (Lx.lex (k + 1) m).2)
      unfold Lx.lex
      rw [hs]
      simp
    | cons c t =>
      have hs := Lx.skip_some (10 :: m) l false h
      have hs1 := Lx.skip_some [10] l false h
      cases hg : Lx.good c with
      | false =>
        rw [Lx.lex_bad _ h hg, Lx.lex_bad _ hs hg]
        simp
      | true =>
        obtain ⟨o1, o2, o3⟩ := Lx.one_app Lx.ends_10 m c t
        obtain ⟨p1, p2, p3⟩ := Lx.one_app Lx.ends_10 [] c t
        rw [List.cons_append] at o1 o2 p1 p2 p3
        by_cases he : (Lx.one (c :: t)).2.2.1 = 0
        · obtain ⟨i1, i2, i3⟩ := ih (Lx.one (c :: t)).2.2.2
          have a1 := o1 he
          have b1 := p1 he
          have hl := Lx.lex_ok k h hg he
          have hm := Lx.lex_ok k hs hg (by rw [a1])
          have hm1 := Lx.lex_ok k hs1 hg (by rw [b1])
          rw [a1] at hm
          rw [b1] at hm1
          rw [hl, hm, hm1]
          refine ⟨fun e => ?_, fun e e' => ?_, fun e => i3 e⟩
          · rw [i1 e]
            simp [Lx.up]
            omega
          · rw [i2 e e']
            simp [Lx.up]
            omega
        · have hl := Lx.lex_err k h hg he
          by_cases h51 : (Lx.one (c :: t)).2.2.1 = 51
          · have hm1 := Lx.lex_err k hs1 hg (by rw [p3 h51]; decide)
            rw [hl]
            refine ⟨fun e => absurd e he, fun _ e => absurd h51 e, fun _ => ?_⟩
            rw [hm1]
            exact p3 h51
          · have a2 := o2 he h51
            have hm := Lx.lex_err k hs hg (by rw [a2]; exact he)
            rw [a2] at hm
            rw [hl, hm]
            exact ⟨fun e => absurd e he, fun _ _ => by simp, fun e => absurd e h51⟩

/-- as many tokens as there are bytes are enough -/
theorem Lx.lex_fuel : ∀ (n k k' : Nat) (l : List UInt8), l.length ≤ n → n ≤ k → n ≤ k' → Lx.lex k l = Lx.lex k' l
  | n, k, k', l, hn, hk, hk' => by
    cases h : Lx.skip false l with
    | nil => rw [Lx.lex_nil k h, Lx.lex_nil k' h]
    | cons c t =>
      have hlen := Lx.skip_len l false
      rw [h, List.length_cons] at hlen
      cases hg : Lx.good c with
      | false => rw [Lx.lex_bad k h hg, Lx.lex_bad k' h hg]
      | true =>
        match n, k, k' with
        | 0, _, _ => omega
        | n + 1, k + 1, k' + 1 =>
          by_cases he : (Lx.one (c :: t)).2.2.1 = 0
          · have hr := Lx.one_len c t he
            rw [Lx.lex_ok k h hg he, Lx.lex_ok k' h hg he, Lx.lex_fuel n k k' (Lx.one (c :: t)).2.2.2 (by omega) (by omega) (by omega)]
          · rw [Lx.lex_err k h hg he, Lx.lex_err k' h hg he]
theorem Lx.lex_many : ∀ (k : Nat) (l : List UInt8), (Lx.lex k l).1.length ≤ k ∧ (Lx.lex k l).1.length ≤ l.length := by
  intro k
  induction k with
  | zero =>
    intro l
    cases h : Lx.skip false l with
    | nil => rw [Lx.lex_nil 0 h]; simp
    | cons c t =>
      cases hg : Lx.good c with
      | false => rw [Lx.lex_bad 0 h hg]; simp
      | true => rw [Lx.lex_zero h hg]; simp
  | succ k ih =>
    intro l
    cases h : Lx.skip false l with
    | nil => rw [Lx.lex_nil _ h]; simp
    | cons c t =>
      cases hg : Lx.good c with
      | false => rw [Lx.lex_bad _ h hg]; simp
      | true =>
        by_cases he : (Lx.one (c :: t)).2.2.1 = 0
        · have hr := Lx.one_len c t he
          have hlen := Lx.skip_len l false
          rw [h, List.length_cons] at hlen
          obtain ⟨i1, i2⟩ := ih (Lx.one (c :: t)).2.2.2
          rw [Lx.lex_ok k h hg he]
          simp only [List.length_cons]
          omega
        · rw [Lx.lex_err k h hg he]; simp
end Go.Proofs.YtpjdfogieiokkaaDoor
