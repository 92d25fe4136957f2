/- Scripts as tokens, over lists of bytes. Nothing of the program's text. -/
import Derived.WalkKit
namespace Go.Proofs.YtpjdfogieiokkaaDoor

def Lx.blank (c : UInt8) : Bool := decide (c.toNat = 9) || decide (c.toNat = 10) || decide (c.toNat = 13) || decide (c.toNat = 32)
def Lx.digit (c : UInt8) : Bool := decide (48 ≤ c.toNat) && decide (c.toNat ≤ 57)
/-- the bytes of names that are no letters and no digits -/
def Lx.marks : List Nat := [126, 33, 64, 36, 37, 94, 38, 42, 95, 45, 43, 61, 60, 62, 46, 63, 47]
def Lx.name (c : UInt8) : Bool := (decide (97 ≤ c.toNat) && decide (c.toNat ≤ 122)) || (decide (65 ≤ c.toNat) && decide (c.toNat ≤ 90)) || Lx.digit c || Lx.marks.contains c.toNat
def Lx.good (c : UInt8) : Bool := Lx.blank c || (decide (33 ≤ c.toNat) && decide (c.toNat ≤ 126))
def Lx.hex (c : UInt8) : Bool := Lx.digit c || (decide (97 ≤ c.toNat) && decide (c.toNat ≤ 102)) || (decide (65 ≤ c.toNat) && decide (c.toNat ≤ 70))
def Lx.bit (c : UInt8) : Bool := decide (c.toNat = 48) || decide (c.toNat = 49)
/-- what is left where the next token would begin, or a byte stands that no script has; r: within a remark -/
def Lx.skip : Bool → List UInt8 → List UInt8
  | _, [] => []
  | r, c :: t => if Lx.good c then
      let r' := (r && !decide (c.toNat = 10)) || decide (c.toNat = 59)
      if !r' && !Lx.blank c then c :: t else Lx.skip r' t
    else c :: t
/-- what stands up to the byte q: the text, the error (0, 50, 51), what is left behind it, or where the byte stands that no script has -/
def Lx.quo (q : UInt8) : List UInt8 → List UInt8 × Int × List UInt8
  | [] => ([], 51, [])
  | [c] => if Lx.good c then (if c = q then ([], 0, []) else ([c], 51, [])) else ([], 50, [c])
  | c :: d :: t => if Lx.good c then
      (if c = q then
        (if q.toNat = 34 ∧ d = q then let x := Lx.quo q t; (q :: x.1, x.2) else ([], 0, d :: t))
      else let x := Lx.quo q (d :: t); (c :: x.1, x.2))
    else ([], 50, c :: d :: t)
def Lx.digits (x : List UInt8) : Bool := !x.isEmpty && x.all Lx.digit
/-- the kind of a number: 4, 5; 0: it is none -/
def Lx.number (x : List UInt8) : Int :=
  let w := x.takeWhile fun c => !decide (c.toNat = 46)
  if !Lx.digits w || (decide (1 < w.length) && decide ((x.headD 0).toNat = 48)) then 0
  else match x.dropWhile fun c => !decide (c.toNat = 46) with
    | [] => 4
    | _ :: p => if Lx.digits p then 5 else 0
/-- bits, or hexadecimal digits -/
def Lx.other : List UInt8 → Bool
  | _ :: d :: y => (decide (d.toNat = 120) || decide (d.toNat = 98)) && !y.isEmpty && y.all fun c => Lx.hex c && (!decide (d.toNat = 98) || Lx.bit c)
  | _ => false
/-- the token that begins here: its kind, its text, the error, what is left behind it (or: where the error stands) -/
def Lx.one (l : List UInt8) : Int × List UInt8 × Int × List UInt8 :=
  match l with
  | [] => (0, [], 50, [])
  | c :: t =>
    if c.toNat = 40 then (1, [c], 0, t)
    else if c.toNat = 41 then (2, [c], 0, t)
    else if c.toNat = 124 ∨ c.toNat = 34 then
      let x := Lx.quo c t
      if x.2.1 = 0 then
        (if c.toNat = 34 then (6, x.1, 0, x.2.2)
        else if x.1.any (fun d => decide (d.toNat = 92)) then (0, [], 8, l) else (3, x.1, 0, x.2.2))
      else if x.2.1 = 50 then (0, [], 50, x.2.2) else (0, [], 51, l)
    else if Lx.digit c then
      (if Lx.number (c :: t.takeWhile Lx.name) = 0 then (0, [], 8, l) else (Lx.number (c :: t.takeWhile Lx.name), c :: t.takeWhile Lx.name, 0, t.dropWhile Lx.name))
    else if Lx.name c then (3, c :: t.takeWhile Lx.name, 0, t.dropWhile Lx.name)
    else if c.toNat = 58 then (if (t.takeWhile Lx.name).isEmpty then (0, [], 8, l) else (7, c :: t.takeWhile Lx.name, 0, t.dropWhile Lx.name))
    else if c.toNat = 35 then (if Lx.other (c :: t.takeWhile Lx.name) then (8, c :: t.takeWhile Lx.name, 0, t.dropWhile Lx.name) else (0, [], 8, l))
    else (0, [], 50, l)
/-- a token: its kind, its text, how many bytes stand from its beginning on -/
abbrev Lx.Tok := Int × List UInt8 × Nat
/-- the tokens, at most k of them, the error, what is left where it stands -/
def Lx.lex : Nat → List UInt8 → List Lx.Tok × Int × List UInt8
  | k, l => match Lx.skip false l with
    | [] => ([], 0, [])
    | c :: t => if Lx.good c then
        match k with
        | 0 => ([], 2, c :: t)
        | k + 1 =>
          let x := Lx.one (c :: t)
          if x.2.2.1 = 0 then
            let y := Lx.lex k x.2.2.2
            ((x.1, x.2.1, (c :: t).length) :: y.1, y.2)
          else ([], x.2.2.1, x.2.2.2)
      else ([], 50, c :: t)

/-- a byte at which names end, and which is no quote -/
structure Lx.Ends (b : UInt8) : Prop where
  nam : Lx.name b = false
  quo : b.toNat ≠ 34
  bar : b.toNat ≠ 124
  goo : Lx.good b = true
theorem Lx.ends_10 : Lx.Ends 10 := ⟨by decide, by decide, by decide, by decide⟩
theorem Lx.ends_32 : Lx.Ends 32 := ⟨by decide, by decide, by decide, by decide⟩

theorem Lx.take_app (p : UInt8 → Bool) {b : UInt8} (hb : p b = false) (m : List UInt8) : ∀ l : List UInt8, (l ++ b :: m).takeWhile p = l.takeWhile p ∧ (l ++ b :: m).dropWhile p = l.dropWhile p ++ b :: m
  | [] => by simp [hb]
  | c :: l => by
    obtain ⟨h1, h2⟩ := Lx.take_app p hb m l
    by_cases hc : p c = true
    · simp only [List.cons_append, List.takeWhile_cons, List.dropWhile_cons, hc, if_pos, h1, h2, and_self]
    · simp only [List.cons_append, List.takeWhile_cons, List.dropWhile_cons, hc, Bool.false_eq_true, if_neg, not_false_eq_true, and_self]

theorem Lx.skip_cons (r : Bool) (c : UInt8) (t : List UInt8) : Lx.skip r (c :: t) = if Lx.good c then (if !((r && !decide (c.toNat = 10)) || decide (c.toNat = 59)) && !Lx.blank c then c :: t else Lx.skip ((r && !decide (c.toNat = 10)) || decide (c.toNat = 59)) t) else c :: t := rfl
theorem Lx.skip_some {c : UInt8} {t : List UInt8} (m : List UInt8) : ∀ (l : List UInt8) (r : Bool), Lx.skip r l = c :: t → Lx.skip r (l ++ m) = c :: (t ++ m)
  | [], r, h => by cases h
  | d :: l, r, h => by
    rw [List.cons_append, Lx.skip_cons]
    rw [Lx.skip_cons] at h
    split at h
    · rename_i hg
      rw [if_pos hg]
      split at h
      · rename_i hr
        rw [if_pos hr]
        injection h with h1 h2
        rw [h1, h2]
      · rename_i hr
        rw [if_neg hr]
        exact Lx.skip_some m l _ h
    · rename_i hg
      rw [if_neg hg]
      injection h with h1 h2
      rw [h1, h2]
theorem Lx.skip_none (m : List UInt8) : ∀ (l : List UInt8) (r : Bool), Lx.skip r l = [] → Lx.skip r (l ++ 10 :: m) = Lx.skip false m
  | [], r, _ => by
    rw [List.nil_append, Lx.skip_cons, if_pos (by decide)]
    have h3 : Lx.blank 10 = true := by decide
    simp [h3]
  | d :: l, r, h => by
    rw [List.cons_append, Lx.skip_cons]
    rw [Lx.skip_cons] at h
    split at h
    · rename_i hg
      rw [if_pos hg]
      split at h
      · cases h
      · rename_i hr
        rw [if_neg hr]
        exact Lx.skip_none m l _ h
    · cases h
theorem Lx.skip_len : ∀ (l : List UInt8) (r : Bool), (Lx.skip r l).length ≤ l.length
  | [], r => Nat.le_refl _
  | d :: l, r => by
    rw [Lx.skip_cons]
    split
    · split
      · exact Nat.le_refl _
      · exact Nat.le_succ_of_le (Lx.skip_len l _)
    · exact Nat.le_refl _
/-- where a token would begin -/
theorem Lx.skip_head {c : UInt8} {t : List UInt8} : ∀ (l : List UInt8) (r : Bool), Lx.skip r l = c :: t → Lx.good c = true → Lx.blank c = false ∧ c.toNat ≠ 59
  | [], r, h, _ => by cases h
  | d :: l, r, h, hc => by
    rw [Lx.skip_cons] at h
    split at h
    · split at h
      · rename_i hr
        injection h with h1 h2
        subst h1
        simp at hr
        exact ⟨by simpa using hr.2, hr.1.2⟩
      · exact Lx.skip_head l _ h hc
    · rename_i hg
      injection h with h1 h2
      subst h1
      exact absurd hc hg

theorem Lx.quo_err (q : UInt8) : ∀ l : List UInt8, (Lx.quo q l).2.1 = 0 ∨ (Lx.quo q l).2.1 = 50 ∨ (Lx.quo q l).2.1 = 51
  | [] => .inr (.inr rfl)
  | [c] => by
    unfold Lx.quo
    split
    · split
      · exact .inl rfl
      · exact .inr (.inr rfl)
    · exact .inr (.inl rfl)
  | c :: d :: t => by
    unfold Lx.quo
    split
    · split
      · split
        · exact Lx.quo_err q t
        · exact .inl rfl
      · exact Lx.quo_err q (d :: t)
    · exact .inr (.inl rfl)
theorem Lx.quo_app {b : UInt8} (hb : Lx.Ends b) (m : List UInt8) (q : UInt8) (hq : q.toNat = 34 ∨ q.toNat = 124) : ∀ l : List UInt8,
    ((Lx.quo q l).2.1 = 0 → Lx.quo q (l ++ b :: m) = ((Lx.quo q l).1, 0, (Lx.quo q l).2.2 ++ b :: m)) ∧
    ((Lx.quo q l).2.1 = 50 → Lx.quo q (l ++ b :: m) = ((Lx.quo q l).1, 50, (Lx.quo q l).2.2 ++ b :: m)) ∧
    ((Lx.quo q l).2.1 = 51 → (Lx.quo q (l ++ [b])).2.1 = 51)
  | [] => by
    have hne : b ≠ q := fun e => by rw [e] at hb; rcases hq with h | h; exact hb.quo h; exact hb.bar h
    refine ⟨fun h => by simp [Lx.quo] at h, fun h => by simp [Lx.quo] at h, fun _ => ?_⟩
    simp [Lx.quo, hb.goo, hne]
  | [c] => by
    have hne : b ≠ q := fun e => by rw [e] at hb; rcases hq with h | h; exact hb.quo h; exact hb.bar h
    by_cases hg : Lx.good c = true
    · by_cases hc : c = q
      · subst hc
        refine ⟨fun _ => ?_, fun h => by simp [Lx.quo, hg] at h, fun h => by simp [Lx.quo, hg] at h⟩
        simp [Lx.quo, hg, hne]
      · refine ⟨fun h => by simp [Lx.quo, hg, hc] at h, fun h => by simp [Lx.quo, hg, hc] at h, fun _ => ?_⟩
        simp [Lx.quo, hg, hc, hb.goo, hne]
    · refine ⟨fun h => by simp [Lx.quo, hg] at h, fun _ => by simp [Lx.quo, hg], fun h => by simp [Lx.quo, hg] at h⟩
  | c :: d :: t => by
    by_cases hg : Lx.good c = true
    · by_cases hc : c = q
      · subst hc
        by_cases hd : c.toNat = 34 ∧ d = c
        · obtain ⟨h1, h2, h3⟩ := Lx.quo_app hb m c hq t
          have e : Lx.quo c (c :: d :: t) = (c :: (Lx.quo c t).1, (Lx.quo c t).2) := by rw [Lx.quo]; simp [hg, hd]
          have e2 : ∀ m' : List UInt8, Lx.quo c (c :: d :: t ++ m') = (c :: (Lx.quo c (t ++ m')).1, (Lx.quo c (t ++ m')).2) := fun m' => by
            show Lx.quo c (c :: d :: (t ++ m')) = _
            rw [Lx.quo]; simp [hg, hd]
          refine ⟨fun h => ?_, fun h => ?_, fun h => ?_⟩
          · rw [e] at h; rw [e2, h1 h, e]
          · rw [e] at h; rw [e2, h2 h, e]
          · rw [e] at h; rw [e2]; exact h3 h
        · have e : ∀ m' : List UInt8, Lx.quo c (c :: d :: t ++ m') = ([], 0, d :: t ++ m') := fun m' => by
            show Lx.quo c (c :: d :: (t ++ m')) = _
            rw [Lx.quo]; simp [hg, hd]
          have e0 := e []
          rw [List.append_nil, List.append_nil] at e0
          refine ⟨fun _ => by rw [e, e0], fun h => by rw [e0] at h; simp at h, fun h => by rw [e0] at h; simp at h⟩
      · obtain ⟨h1, h2, h3⟩ := Lx.quo_app hb m q hq (d :: t)
        have e : ∀ m' : List UInt8, Lx.quo q (c :: d :: t ++ m') = (c :: (Lx.quo q (d :: t ++ m')).1, (Lx.quo q (d :: t ++ m')).2) := fun m' => by
          show Lx.quo q (c :: d :: (t ++ m')) = _
          rw [Lx.quo]; simp [hg, hc]
        have e0 := e []
        rw [List.append_nil, List.append_nil] at e0
        refine ⟨fun h => ?_, fun h => ?_, fun h => ?_⟩
        · rw [e0] at h; rw [e, h1 h, e0]
        · rw [e0] at h; rw [e, h2 h, e0]
        · rw [e0] at h; rw [e]; exact h3 h
    · have e : ∀ m' : List UInt8, Lx.quo q (c :: d :: t ++ m') = ([], 50, c :: d :: t ++ m') := fun m' => by
        show Lx.quo q (c :: d :: (t ++ m')) = _
        rw [Lx.quo]; simp [hg]
      have e0 := e []
      rw [List.append_nil] at e0
      refine ⟨fun h => by rw [e0] at h; simp at h, fun _ => by rw [e, e0], fun h => by rw [e0] at h; simp at h⟩
theorem Lx.quo_len (q : UInt8) : ∀ l : List UInt8, (Lx.quo q l).2.2.length ≤ l.length
  | [] => Nat.le_refl _
  | [c] => by
    unfold Lx.quo
    split
    · split <;> simp
    · simp
  | c :: d :: t => by
    unfold Lx.quo
    split
    · split
      · split
        · exact Nat.le_succ_of_le (Nat.le_succ_of_le (Lx.quo_len q t))
        · simp
      · exact Nat.le_succ_of_le (Lx.quo_len q (d :: t))
    · simp
end Go.Proofs.YtpjdfogieiokkaaDoor
