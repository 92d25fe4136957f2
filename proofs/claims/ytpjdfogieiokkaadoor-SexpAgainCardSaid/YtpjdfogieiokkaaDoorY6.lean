/- Scripts as tokens: quotes doubled and single again, as a library's replacing does; what stands between bars, between quotes. Nothing of the program's text. -/
import Derived.Test.YtpjdfogieiokkaaDoorY4
import Derived.Lib.Replace
namespace Go.Proofs.YtpjdfogieiokkaaDoor

/-- all is replaced -/
def Lx.rep (old new s : List UInt8) : List UInt8 := Lib.replaceK old new (Lib.count s old) s
theorem Lx.rep_all (s old new : List UInt8) (h : (old == new) = false) : Lib.replaceAll s old new = Lx.rep old new s := by
  unfold Lib.replaceAll Lib.replace Lib.replaceNum Lx.rep
  rw [h, if_neg (by decide), if_pos (.inl (by decide))]
theorem Lx.rep_nil (old new : List UInt8) (h : old ≠ []) : Lx.rep old new [] = [] := by
  have hi : Lib.index [] old = -1 := Lib.index_none (fun j _ => by
    unfold Lib.occAt
    cases old with
    | nil => exact absurd rfl h
    | cons c t => simp)
  unfold Lx.rep
  rw [Lib.count_miss hi]
  rfl
theorem Lx.rep_hit (old new s : List UInt8) (h : old ≠ []) (hp : old.isPrefixOf s = true) : Lx.rep old new s = new ++ Lx.rep old new (s.drop old.length) := by
  have hi : Lib.index s old = ((0 : Nat) : Int) := Lib.index_first (Nat.zero_le _) (by simpa [Lib.occAt] using hp) (fun j hj => absurd hj (Nat.not_lt_zero _))
  unfold Lx.rep
  rw [Lib.count_hit h hi, Nat.zero_add, Nat.add_comm, Lib.replaceK_hit old new _ s 0 hi]
  simp
theorem Lx.index_miss (old : List UInt8) (c : UInt8) (t : List UInt8) (hp : old.isPrefixOf (c :: t) = false) : Lib.index (c :: t) old = if Lib.index t old = -1 then -1 else Lib.index t old + 1 := by
  rw [Lib.index, hp]
  simp
theorem Lx.rep_miss (old new : List UInt8) (c : UInt8) (t : List UInt8) (h : old ≠ []) (hp : old.isPrefixOf (c :: t) = false) : Lx.rep old new (c :: t) = c :: Lx.rep old new t := by
  have hi := Lx.index_miss old c t hp
  unfold Lx.rep
  by_cases hm : Lib.index t old = -1
  · rw [if_pos hm] at hi
    rw [Lib.count_miss hi, Lib.count_miss hm]
    rfl
  · rw [if_neg hm] at hi
    obtain ⟨i, hti⟩ : ∃ i : Nat, Lib.index t old = i := ⟨(Lib.index t old).toNat, by have := Lib.index_ge t old; omega⟩
    have hci : Lib.index (c :: t) old = ((i + 1 : Nat) : Int) := by rw [hi, hti]; omega
    have e : (c :: t).drop (i + 1 + old.length) = t.drop (i + old.length) := by rw [show i + 1 + old.length = (i + old.length) + 1 by omega, List.drop_succ_cons]
    rw [Lib.count_hit h hci, Lib.count_hit h hti, e]
    generalize Lib.count (t.drop (i + old.length)) old = k
    rw [Nat.add_comm 1 k, Lib.replaceK_hit old new _ _ _ hci, Lib.replaceK_hit old new _ _ _ hti, e, List.take_succ_cons]
    simp
theorem Lx.no_pre1 {c : UInt8} {t : List UInt8} (hc : ¬ c.toNat = 34) : List.isPrefixOf [34] (c :: t) = false := by
  have : ((34 : UInt8) == c) = false := beq_eq_false_iff_ne.2 fun e => hc (by rw [← e]; rfl)
  rw [List.isPrefixOf, this]
  rfl
theorem Lx.no_pre2 {c : UInt8} {t : List UInt8} (hc : ¬ c.toNat = 34) : List.isPrefixOf [34, 34] (c :: t) = false := by
  have : ((34 : UInt8) == c) = false := beq_eq_false_iff_ne.2 fun e => hc (by rw [← e]; rfl)
  rw [List.isPrefixOf, this]
  rfl
theorem Lx.rep_dbl : ∀ l : List UInt8, Lx.rep [34] [34, 34] l = Lx.dbl l
  | [] => Lx.rep_nil _ _ (by simp)
  | c :: t => by
    rw [Lx.dbl_cons]
    split
    · rename_i hc
      obtain rfl : c = 34 := Lx.byte_eq hc
      rw [Lx.rep_hit [34] [34, 34] (34 :: t) (by simp) (by simp), List.length_singleton, List.drop_succ_cons, List.drop_zero, Lx.rep_dbl t]
      rfl
    · rename_i hc
      rw [Lx.rep_miss [34] [34, 34] c t (by simp) (Lx.no_pre1 hc), Lx.rep_dbl t]
theorem Lx.rep_undbl : ∀ l : List UInt8, Lx.rep [34, 34] [34] (Lx.dbl l) = l
  | [] => Lx.rep_nil _ _ (by simp)
  | c :: t => by
    rw [Lx.dbl_cons]
    split
    · rename_i hc
      obtain rfl : c = 34 := Lx.byte_eq hc
      rw [Lx.rep_hit [34, 34] [34] (34 :: 34 :: Lx.dbl t) (by simp) (by simp)]
      show [34] ++ Lx.rep [34, 34] [34] (Lx.dbl t) = _
      rw [Lx.rep_undbl t]
      rfl
    · rename_i hc
      rw [Lx.rep_miss [34, 34] [34] c (Lx.dbl t) (by simp) (Lx.no_pre2 hc), Lx.rep_undbl t]
theorem Lx.dbl_app : ∀ l m : List UInt8, Lx.dbl (l ++ m) = Lx.dbl l ++ Lx.dbl m
  | [], _ => rfl
  | c :: t, m => by
    rw [List.cons_append, Lx.dbl_cons, Lx.dbl_cons, Lx.dbl_app t m]
    split <;> rfl
theorem Lx.dbl_none : ∀ l : List UInt8, (∀ c ∈ l, c.toNat ≠ 34) → Lx.dbl l = l
  | [], _ => rfl
  | c :: t, h => by
    rw [Lx.dbl_cons, if_neg (h c List.mem_cons_self), Lx.dbl_none t fun d hd => h d (List.mem_cons_of_mem _ hd)]

theorem Lx.quo_plain' {q c : UInt8} (t : List UInt8) (hg : Lx.good c = true) (hc : c ≠ q) : Lx.quo q (c :: t) = (c :: (Lx.quo q t).1, (Lx.quo q t).2) := by
  cases t with
  | nil => simp [Lx.quo, hg, hc]
  | cons d t => rw [Lx.quo, if_pos hg, if_neg hc]
theorem Lx.quo_bad' {q c : UInt8} (t : List UInt8) (hg : Lx.good c = false) : Lx.quo q (c :: t) = ([], 50, c :: t) := by
  cases t <;> simp [Lx.quo, hg]
abbrev Lx.but (n : Nat) (c : UInt8) : Bool := !decide (c.toNat = n) && Lx.good c
/-- up to the first byte that is q's, or that no script has -/
theorem Lx.quo_span (q : UInt8) : ∀ l : List UInt8, Lx.quo q l = ((l.takeWhile (Lx.but q.toNat)) ++ (Lx.quo q (l.dropWhile (Lx.but q.toNat))).1, (Lx.quo q (l.dropWhile (Lx.but q.toNat))).2)
  | [] => rfl
  | c :: t => by
    by_cases hg : Lx.good c = true
    · by_cases hc : c = q
      · have e : Lx.but q.toNat c = false := by simp [Lx.but, hc]
        rw [List.takeWhile_cons, List.dropWhile_cons, e]
        rfl
      · have hne : c.toNat ≠ q.toNat := fun e => hc (UInt8.toNat_inj.1 e)
        have e : Lx.but q.toNat c = true := by simp [Lx.but, hne, hg]
        rw [List.takeWhile_cons, List.dropWhile_cons, e, Lx.quo_plain' t hg hc, Lx.quo_span q t]
        simp
    · have e : Lx.but q.toNat c = false := by simp [Lx.but, hg]
      rw [List.takeWhile_cons, List.dropWhile_cons, e]
      rfl
theorem Lx.but_stops {n : Nat} {l t : List UInt8} {c : UInt8} (h : l.dropWhile (Lx.but n) = c :: t) : c.toNat = n ∨ Lx.good c = false := by
  induction l with
  | nil => cases h
  | cons d l ih =>
    rw [List.dropWhile_cons] at h
    split at h
    · exact ih h
    · rename_i hd
      injection h with h1 h2
      subst h1
      simp [Lx.but] at hd
      by_cases e : d.toNat = n
      · exact .inl e
      · exact .inr (hd e)
theorem Lx.but_take (n : Nat) (l : List UInt8) : ∀ c ∈ l.takeWhile (Lx.but n), c.toNat ≠ n := fun c hc => by
  have := List.all_eq_true.1 (Lx.take_all (Lx.but n) l) c hc
  simp [Lx.but] at this
  exact this.1

/-- bits, hexadecimal digits -/
theorem Lx.other_by (a d : UInt8) (y : List UInt8) (hy : y ≠ []) : Lx.other (a :: d :: y) = ((decide (d.toNat = 120) && y.all Lx.hex) || (decide (d.toNat = 98) && y.all Lx.bit)) := by
  have hye : y.isEmpty = false := by
    cases y with
    | nil => exact absurd rfl hy
    | cons _ _ => rfl
  have hb : ∀ c, Lx.bit c = true → Lx.hex c = true := fun c h => by
    simp [Lx.bit] at h
    simp [Lx.hex, Lx.digit]
    omega
  have e : Lx.other (a :: d :: y) = ((decide (d.toNat = 120) || decide (d.toNat = 98)) && !y.isEmpty && y.all fun c => Lx.hex c && (!decide (d.toNat = 98) || Lx.bit c)) := rfl
  rw [e, hye]
  by_cases h1 : d.toNat = 120
  · simp [h1]
  · by_cases h2 : d.toNat = 98
    · simp only [h2, decide_true, Bool.or_true, Bool.not_false, Bool.true_and, Bool.not_true, Bool.false_or]
      have h3 : (y.all fun c => Lx.hex c && Lx.bit c) = y.all Lx.bit := by
        rw [Bool.eq_iff_iff, List.all_eq_true, List.all_eq_true]
        constructor
        · intro h c hc
          have := h c hc
          rw [Bool.and_eq_true] at this
          exact this.2
        · intro h c hc
          rw [h c hc, hb c (h c hc)]
          rfl
      rw [h3]
      simp
    · simp [h1, h2]
theorem Lx.other_short (a : UInt8) (y : List UInt8) (hy : y.length < 2) : Lx.other (a :: y) = false := by
  match y, hy with
  | [], _ => rfl
  | [d], _ => simp [Lx.other]
  | _ :: _ :: _, h => simp at h; omega
theorem Lx.index_any (n : UInt8) : ∀ l : List UInt8, decide (0 ≤ Lib.indexByte l n) = l.any fun d => decide (d.toNat = n.toNat)
  | [] => rfl
  | c :: t => by
    have ih := Lx.index_any n t
    have hg := Lib.indexByte_ge t n
    rw [Lib.indexByte, List.any_cons, ← ih]
    by_cases h : c = n
    · simp [h]
    · have hn : c.toNat ≠ n.toNat := fun e => h (UInt8.toNat_inj.1 e)
      have hb : (c == n) = false := beq_eq_false_iff_ne.2 h
      rw [hb, decide_eq_false hn, Bool.false_or]
      simp only [Bool.false_eq_true, if_false]
      by_cases hm : Lib.indexByte t n = -1
      · simp [hm]
      · have : (Lib.indexByte t n == -1) = false := beq_eq_false_iff_ne.2 hm
        rw [this]
        simp only [Bool.false_eq_true, if_false]
        rw [decide_eq_true (by omega), decide_eq_true (by omega)]
end Go.Proofs.YtpjdfogieiokkaaDoor
