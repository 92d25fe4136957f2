/- Scripts as tokens: how tokens are written. Nothing of the program's text. -/
import Derived.Test.YtpjdfogieiokkaaDoorY2
namespace Go.Proofs.YtpjdfogieiokkaaDoor

def Lx.simple (s : List UInt8) : Bool := !s.isEmpty && !Lx.digit (s.headD 0) && s.all Lx.name
/-- a literal's text, each quote doubled -/
def Lx.dbl : List UInt8 → List UInt8
  | [] => []
  | c :: t => if c.toNat = 34 then c :: c :: Lx.dbl t else c :: Lx.dbl t
/-- how a token is written, if it may be -/
def Lx.show (k : Int) (s : List UInt8) : List UInt8 := if k = 3 then (if Lx.simple s then s else 124 :: (s ++ [124])) else if k = 6 then 34 :: (Lx.dbl s ++ [34]) else s
/-- x begins with a token, which is all of it -/
structure Lx.Whole (x : List UInt8) (k : Int) (s : List UInt8) : Prop where
  one : Lx.one x = (k, s, 0, [])
  at_ : ∃ c t, x = c :: t ∧ Lx.good c = true ∧ Lx.blank c = false ∧ c.toNat ≠ 59

theorem Lx.skip_token {c : UInt8} (t : List UInt8) (h1 : Lx.good c = true) (h2 : Lx.blank c = false) (h3 : c.toNat ≠ 59) : Lx.skip false (c :: t) = c :: t := by
  rw [Lx.skip_cons, if_pos h1, if_pos (by simp [h2, h3])]
theorem Lx.skip_blank {b : UInt8} (m : List UInt8) (hb : Lx.blank b = true) : Lx.skip false (b :: m) = Lx.skip false m := by
  have h1 : Lx.good b = true := by simp [Lx.good, hb]
  have h2 : b.toNat ≠ 59 := by simp [Lx.blank] at hb; omega
  rw [Lx.skip_cons, if_pos h1, if_neg (by simp [hb])]
  simp [h2]
/-- what is left is an end of what was there -/
theorem Lx.skip_end : ∀ (l : List UInt8) (r : Bool), ∃ p, l = p ++ Lx.skip r l
  | [], r => ⟨[], rfl⟩
  | d :: l, r => by
    rw [Lx.skip_cons]
    split
    · split
      · exact ⟨[], rfl⟩
      · obtain ⟨p, hp⟩ := Lx.skip_end l ((r && !decide (d.toNat = 10)) || decide (d.toNat = 59))
        exact ⟨d :: p, by rw [List.cons_append, ← hp]⟩
    · exact ⟨[], rfl⟩

theorem Lx.lex_skip (k : Nat) {l l' : List UInt8} (h : Lx.skip false l = Lx.skip false l') : Lx.lex k l = Lx.lex k l' := by
  cases k <;> · unfold Lx.lex; rw [h]
/-- a token, a blank, and more -/
theorem Lx.lex_whole {x s : List UInt8} {k : Int} (h : Lx.Whole x k s) {b : UInt8} (hb : Lx.Ends b) (hbl : Lx.blank b = true) (n : Nat) (m : List UInt8) :
    Lx.lex (n + 1) (x ++ b :: m) = ((k, s, x.length + 1 + m.length) :: (Lx.lex n m).1, (Lx.lex n m).2) := by
  obtain ⟨h1, c, t, rfl, h2, h3, h4⟩ := h
  have hs : Lx.skip false (c :: t ++ b :: m) = c :: (t ++ b :: m) := Lx.skip_token _ h2 h3 h4
  have ho := (Lx.one_app hb m c t).1 (by rw [h1])
  rw [h1, List.cons_append] at ho
  have hl := Lx.lex_ok n hs h2 (by rw [ho])
  rw [ho] at hl
  rw [hl]
  show (_ :: (Lx.lex n ([] ++ b :: m)).1, (Lx.lex n ([] ++ b :: m)).2) = _
  rw [List.nil_append, Lx.lex_skip n (Lx.skip_blank m hbl)]
  simp
  omega
theorem Lx.whole_alone {x s : List UInt8} {k : Int} (h : Lx.Whole x k s) (n : Nat) : Lx.lex (n + 1) x = ([(k, s, x.length)], 0, []) := by
  obtain ⟨h1, c, t, rfl, h2, h3, h4⟩ := h
  have hl := Lx.lex_ok n (Lx.skip_token t h2 h3 h4) h2 (by rw [h1])
  rw [hl, h1]
  show (_ :: (Lx.lex n []).1, (Lx.lex n []).2) = _
  rw [Lx.lex_nil n rfl]

/-- tokens, written with blanks behind them -/
def Lx.joined (b : UInt8) : List (Int × List UInt8) → List UInt8
  | [] => []
  | x :: l => Lx.show x.1 x.2 ++ b :: Lx.joined b l
/-- what a token says, without its place -/
abbrev Lx.says (x : Lx.Tok) : Int × List UInt8 := (x.1, x.2.1)
theorem Lx.lex_joined {b : UInt8} (hb : Lx.Ends b) (hbl : Lx.blank b = true) : ∀ (l : List (Int × List UInt8)) (n : Nat), (∀ x ∈ l, Lx.Whole (Lx.show x.1 x.2) x.1 x.2) → l.length ≤ n →
    (Lx.lex n (Lx.joined b l)).1.map Lx.says = l ∧ (Lx.lex n (Lx.joined b l)).2 = (0, [])
  | [], n, _, _ => by
    rw [Lx.joined, Lx.lex_nil n rfl]
    exact ⟨rfl, rfl⟩
  | x :: l, 0, _, h => by simp at h
  | x :: l, n + 1, hw, h => by
    obtain ⟨i1, i2⟩ := Lx.lex_joined hb hbl l n (fun y hy => hw y (List.mem_cons_of_mem _ hy)) (by simpa using h)
    rw [Lx.joined, Lx.lex_whole (hw x List.mem_cons_self) hb hbl]
    exact ⟨by rw [List.map_cons, i1], i2⟩

/-! what a token is made of -/
theorem Lx.name_facts {c : UInt8} (h : Lx.name c = true) : Lx.good c = true ∧ Lx.blank c = false ∧ c.toNat ≠ 59 ∧ c.toNat ≠ 40 ∧ c.toNat ≠ 41 ∧ c.toNat ≠ 124 ∧ c.toNat ≠ 34 ∧ c.toNat ≠ 58 ∧ c.toNat ≠ 35 := by
  simp [Lx.name, Lx.digit, Lx.marks] at h
  refine ⟨?_, ?_, ?_⟩
  · simp [Lx.good]
    right
    omega
  · simp [Lx.blank]
    omega
  · omega
theorem Lx.digit_name {c : UInt8} (h : Lx.digit c = true) : Lx.name c = true := by simp [Lx.name, h]
theorem Lx.take_all (p : UInt8 → Bool) : ∀ l : List UInt8, (l.takeWhile p).all p = true
  | [] => rfl
  | c :: l => by
    rw [List.takeWhile_cons]
    split
    · rename_i h
      rw [List.all_cons, h, Lx.take_all p l]
      rfl
    · rfl
theorem Lx.all_take (p : UInt8 → Bool) : ∀ l : List UInt8, l.all p = true → l.takeWhile p = l ∧ l.dropWhile p = []
  | [], _ => ⟨rfl, rfl⟩
  | c :: l, h => by
    rw [List.all_cons, Bool.and_eq_true] at h
    obtain ⟨h1, h2⟩ := Lx.all_take p l h.2
    simp [h.1, h1, h2]
theorem Lx.take_drop (p : UInt8 → Bool) : ∀ l : List UInt8, l.takeWhile p ++ l.dropWhile p = l
  | [] => rfl
  | c :: l => by
    rw [List.takeWhile_cons, List.dropWhile_cons]
    split
    · rw [List.cons_append, Lx.take_drop p l]
    · rfl

/-- what stands between bars -/
theorem Lx.quo_bar : ∀ (l : List UInt8), (∀ c ∈ l, Lx.good c = true ∧ c.toNat ≠ 124) → Lx.quo 124 (l ++ [124]) = (l, 0, [])
  | [], _ => by decide
  | [c], h => by
    obtain ⟨h1, h2⟩ := h c List.mem_cons_self
    have hne : c ≠ 124 := fun e => h2 (by rw [e]; decide)
    have hg : Lx.good 124 = true := by decide
    simp [Lx.quo, h1, hne, hg]
  | c :: d :: t, h => by
    obtain ⟨h1, h2⟩ := h c List.mem_cons_self
    have hne : c ≠ 124 := fun e => h2 (by rw [e]; decide)
    have := Lx.quo_bar (d :: t) (fun x hx => h x (List.mem_cons_of_mem _ hx))
    show Lx.quo 124 (c :: d :: (t ++ [124])) = _
    rw [Lx.quo, if_pos h1, if_neg hne]
    rw [List.cons_append] at this
    simp [this]
theorem Lx.dbl_cons (c : UInt8) (t : List UInt8) : Lx.dbl (c :: t) = if c.toNat = 34 then c :: c :: Lx.dbl t else c :: Lx.dbl t := rfl
theorem Lx.byte_eq {c : UInt8} {n : Nat} (h : c.toNat = n) : c = UInt8.ofNat n := by rw [← h]; simp
/-- what stands between quotes -/
theorem Lx.quo_dbl : ∀ (l : List UInt8), (∀ c ∈ l, Lx.good c = true) → Lx.quo 34 (Lx.dbl l ++ [34]) = (l, 0, [])
  | [], _ => by decide
  | c :: t, h => by
    have h1 := h c List.mem_cons_self
    have ih := Lx.quo_dbl t (fun x hx => h x (List.mem_cons_of_mem _ hx))
    rw [Lx.dbl_cons]
    split
    · rename_i hc
      obtain rfl : c = 34 := Lx.byte_eq hc
      show Lx.quo 34 (34 :: 34 :: (Lx.dbl t ++ [34])) = _
      rw [Lx.quo, if_pos h1, if_pos rfl, if_pos ⟨by decide, rfl⟩]
      simp [ih]
    · rename_i hc
      have hne : c ≠ 34 := fun e => hc (by rw [e]; decide)
      rw [List.cons_append]
      cases hd : Lx.dbl t ++ [34] with
      | nil => simp at hd
      | cons d u =>
        rw [Lx.quo, if_pos h1, if_neg hne]
        rw [hd] at ih
        simp [ih]
end Go.Proofs.YtpjdfogieiokkaaDoor
