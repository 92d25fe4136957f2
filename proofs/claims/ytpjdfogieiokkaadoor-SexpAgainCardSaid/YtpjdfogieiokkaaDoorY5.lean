/- Scripts as tokens: remarks between scripts, and what stands behind. Nothing of the program's text. -/
import Derived.Test.YtpjdfogieiokkaaDoorY4
namespace Go.Proofs.YtpjdfogieiokkaaDoor

/-- a remark up to its line feed is passed over -/
theorem Lx.skip_remark (b : List UInt8) : ∀ r : List UInt8, (∀ c ∈ r, 32 ≤ c.toNat ∧ c.toNat ≤ 126) → Lx.skip true (r ++ 10 :: b) = Lx.skip false b
  | [], _ => by
    rw [List.nil_append, Lx.skip_cons, if_pos (by decide)]
    have h3 : Lx.blank 10 = true := by decide
    simp [h3]
  | c :: r, h => by
    obtain ⟨h1, h2⟩ := h c List.mem_cons_self
    have hg : Lx.good c = true := by
      by_cases e : c.toNat = 32
      · simp [Lx.good, Lx.blank, e]
      · simp [Lx.good]
        right
        omega
    rw [List.cons_append, Lx.skip_cons, if_pos hg]
    have e : ((true && !decide (c.toNat = 10)) || decide (c.toNat = 59)) = true := by simp; omega
    rw [e]
    simp only [Bool.not_true, Bool.false_and, Bool.false_eq_true, if_false]
    exact Lx.skip_remark b r fun d hd => h d (List.mem_cons_of_mem _ hd)
theorem Lx.up_says (n : Nat) (x : Lx.Tok) : Lx.says (Lx.up n x) = Lx.says x := rfl
theorem Lx.map_up_says (n : Nat) (l : List Lx.Tok) : (l.map (Lx.up n)).map Lx.says = l.map Lx.says := by
  rw [List.map_map]
  rfl
/-- a remark, and blanks, between two scripts say nothing -/
theorem Lx.remarks (a b r : List UInt8) (ha : a.length ≤ 2000) (hb : b.length ≤ 2000) (hr : ∀ c ∈ r, 32 ≤ c.toNat ∧ c.toNat ≤ 126) (h : (Lx.lex 4000 a).2.1 = 0) :
    (Lx.lex 4000 (a ++ 10 :: 32 :: 59 :: (r ++ 10 :: b))).1.map Lx.says = (Lx.lex 4000 a).1.map Lx.says ++ (Lx.lex 4000 b).1.map Lx.says ∧ (Lx.lex 4000 (a ++ 10 :: 32 :: 59 :: (r ++ 10 :: b))).2.1 = (Lx.lex 4000 b).2.1 := by
  have h1 := (Lx.lex_app (32 :: 59 :: (r ++ 10 :: b)) 4000 a).1 h
  have hm := Lx.lex_many 4000 a
  have hs : Lx.skip false (32 :: 59 :: (r ++ 10 :: b)) = Lx.skip false b := by
    rw [Lx.skip_blank _ (by decide), Lx.skip_cons, if_pos (by decide)]
    have e : ((false && !decide ((59 : UInt8).toNat = 10)) || decide ((59 : UInt8).toNat = 59)) = true := by decide
    rw [e]
    simp only [Bool.not_true, Bool.false_and, Bool.false_eq_true, if_false]
    exact Lx.skip_remark b r hr
  rw [Lx.lex_skip _ hs, Lx.lex_fuel 2000 (4000 - (Lx.lex 4000 a).1.length) 4000 b hb (by omega) (by omega)] at h1
  rw [h1]
  exact ⟨by rw [List.map_append, Lx.map_up_says], rfl⟩
/-- what a script's tokens are does not hang on what stands behind a line feed -/
theorem Lx.heads (s m : List UInt8) :
    ((Lx.lex 4000 (s ++ [10])).2.1 ≠ 0 → (Lx.lex 4000 (s ++ [10])).2.1 = 51 ∨ (Lx.lex 4000 (s ++ [10])).2.1 = (Lx.lex 4000 (s ++ 10 :: m)).2.1) ∧
    ((Lx.lex 4000 (s ++ [10])).2.1 = 0 → ∃ y, (Lx.lex 4000 (s ++ 10 :: m)).1 = (Lx.lex 4000 (s ++ [10])).1.map (Lx.up m.length) ++ y) := by
  obtain ⟨a1, a2, a3⟩ := Lx.lex_app [] 4000 s
  obtain ⟨b1, b2, _⟩ := Lx.lex_app m 4000 s
  by_cases h0 : (Lx.lex 4000 s).2.1 = 0
  · have ea := a1 h0
    rw [Lx.lex_nil _ (show Lx.skip false [] = [] from rfl)] at ea
    refine ⟨fun h => absurd (by rw [ea]) h, fun _ => ?_⟩
    rw [b1 h0, ea]
    refine ⟨(Lx.lex (4000 - (Lx.lex 4000 s).1.length) m).1, ?_⟩
    simp only [List.append_nil, List.map_map]
    congr 1
    apply List.map_congr_left
    intro x _
    simp [Lx.up]
    omega
  · by_cases h51 : (Lx.lex 4000 s).2.1 = 51
    · have e := a3 h51
      exact ⟨fun _ => .inl e, fun h => by rw [e] at h; cases h⟩
    · rw [a2 h0 h51, b2 h0 h51]
      exact ⟨fun _ => .inr rfl, fun h => absurd h h0⟩

theorem Lx.dbl_most : ∀ l : List UInt8, (Lx.dbl l).length ≤ 2 * l.length
  | [] => Nat.le_refl _
  | c :: t => by
    have := Lx.dbl_most t
    rw [Lx.dbl_cons]
    split <;> · simp only [List.length_cons]; omega
theorem Lx.show_len (k : Int) (s : List UInt8) : (Lx.show k s).length ≤ 2 * s.length + 2 := by
  have := Lx.dbl_most s
  unfold Lx.show
  split
  · split
    · omega
    · simp; omega
  · split
    · simp; omega
    · omega
theorem Lx.joined_len (b : UInt8) (m : Nat) : ∀ l : List (Int × List UInt8), (∀ x ∈ l, x.2.length ≤ m) → (Lx.joined b l).length ≤ l.length * (2 * m + 3)
  | [], _ => by simp [Lx.joined]
  | x :: l, h => by
    have h1 := Lx.show_len x.1 x.2
    have h2 := h x List.mem_cons_self
    have h3 := Lx.joined_len b m l fun y hy => h y (List.mem_cons_of_mem _ hy)
    rw [Lx.joined, List.length_append, List.length_cons, List.length_cons, Nat.succ_mul]
    omega
/-- what is written of tokens, with blanks between them, are these tokens -/
theorem Lx.back {b : UInt8} (hb : Lx.Ends b) (hbl : Lx.blank b = true) (l : List (Int × List UInt8)) (h : ∀ x ∈ l, Lx.okShow x.1 x.2 = true) (hl : l.length ≤ 4000) :
    (Lx.lex 4000 (Lx.joined b l)).1.map Lx.says = l ∧ (Lx.lex 4000 (Lx.joined b l)).2 = (0, []) :=
  Lx.lex_joined hb hbl l 4000 (fun x hx => (Lx.okShow_whole (h x hx)).1) hl
/-- what a script is cut into may be written, and is cut into the same then -/
theorem Lx.again (l : List UInt8) (hl : l.length ≤ 4000) :
    (∀ x ∈ (Lx.lex 4000 l).1.map Lx.says, Lx.okShow x.1 x.2 = true) ∧ (Lx.joined 32 ((Lx.lex 4000 l).1.map Lx.says)).length ≤ 8000 ∧
    (Lx.lex 4000 (Lx.joined 32 ((Lx.lex 4000 l).1.map Lx.says))).1.map Lx.says = (Lx.lex 4000 l).1.map Lx.says ∧ (Lx.lex 4000 (Lx.joined 32 ((Lx.lex 4000 l).1.map Lx.says))).2 = (0, []) := by
  obtain ⟨h1, h2⟩ := Lx.lex_wholes 4000 l
  have hm := Lx.lex_many 4000 l
  have hok : ∀ x ∈ (Lx.lex 4000 l).1.map Lx.says, Lx.okShow x.1 x.2 = true := fun x hx => by
    obtain ⟨y, hy, rfl⟩ := List.mem_map.1 hx
    exact Lx.whole_okShow (h1 y hy).1 (Nat.le_trans (h1 y hy).2 (by omega))
  have h3 := h2 32
  refine ⟨hok, by omega, ?_⟩
  exact Lx.back Lx.ends_32 (by decide) _ hok (by rw [List.length_map]; exact hm.1)
end Go.Proofs.YtpjdfogieiokkaaDoor
