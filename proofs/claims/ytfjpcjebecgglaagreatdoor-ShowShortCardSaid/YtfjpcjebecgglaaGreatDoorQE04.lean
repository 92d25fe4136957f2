/- What the proofs of this claim use, text by text. -/
import Derived.Test.YtfjpcjebecgglaaGreatDoorQE01
import Derived.Test.YtfjpcjebecgglaaGreatDoorRows
import Derived.WalkSpells
import Derived.WalkLawsBesides
import Derived.KernelRfl
import Derived.BigQuiet
import Derived.Laws.IdiomStrings
import Derived.Deep.QuietTactic
import Derived.StillTailTactics
set_option linter.unusedSimpArgs false
set_option linter.unusedVariables false
set_option maxRecDepth 100000
set_option maxHeartbeats 25600000
namespace Go.Proofs.YtfjpcjebecgglaaGreatDoor
theorem Lx.quo_bar_inv : ∀ l : List UInt8, (Lx.quo 124 l).2.1 = 0 → l = (Lx.quo 124 l).1 ++ 124 :: (Lx.quo 124 l).2.2 ∧ ∀ d ∈ (Lx.quo 124 l).1, Lx.good d = true ∧ d.toNat ≠ 124
  | [], h => by simp [Lx.quo] at h
  | [c], h => by
    by_cases hg : Lx.good c = true
    · by_cases hc : c = 124
      · subst hc
        simp [Lx.quo, hg]
      · simp [Lx.quo, hg, hc] at h
    · simp [Lx.quo, hg] at h
  | c :: d :: t, h => by
    by_cases hg : Lx.good c = true
    · by_cases hc : c = 124
      · subst hc
        have e : Lx.quo 124 (124 :: d :: t) = ([], 0, d :: t) := by
          rw [Lx.quo, if_pos hg, if_pos rfl, if_neg (fun h => absurd h.1 (by decide))]
        rw [e]
        simp
      · have e : Lx.quo 124 (c :: d :: t) = (c :: (Lx.quo 124 (d :: t)).1, (Lx.quo 124 (d :: t)).2) := by
          rw [Lx.quo, if_pos hg, if_neg hc]
        rw [e] at h ⊢
        obtain ⟨i1, i2⟩ := Lx.quo_bar_inv (d :: t) h
        refine ⟨by rw [List.cons_append, ← i1], fun x hx => ?_⟩
        rcases List.mem_cons.1 hx with rfl | hx
        · exact ⟨hg, fun e => hc (Lx.byte_eq e)⟩
        · exact i2 x hx
    · have e : Lx.quo 124 (c :: d :: t) = ([], 50, c :: d :: t) := by rw [Lx.quo, if_neg hg]
      rw [e] at h
      simp at h
theorem Lx.quo_dbl_inv : ∀ l : List UInt8, (Lx.quo 34 l).2.1 = 0 → l = Lx.dbl (Lx.quo 34 l).1 ++ 34 :: (Lx.quo 34 l).2.2 ∧ ∀ d ∈ (Lx.quo 34 l).1, Lx.good d = true
  | [], h => by simp [Lx.quo] at h
  | [c], h => by
    by_cases hg : Lx.good c = true
    · by_cases hc : c = 34
      · subst hc
        simp [Lx.quo, hg, Lx.dbl]
      · simp [Lx.quo, hg, hc] at h
    · simp [Lx.quo, hg] at h
  | c :: d :: t, h => by
    by_cases hg : Lx.good c = true
    · by_cases hc : c = 34
      · subst hc
        by_cases hd : d = 34
        · subst hd
          have e : Lx.quo 34 (34 :: 34 :: t) = (34 :: (Lx.quo 34 t).1, (Lx.quo 34 t).2) := by
            rw [Lx.quo, if_pos hg, if_pos rfl, if_pos ⟨by decide, rfl⟩]
          rw [e] at h ⊢
          obtain ⟨i1, i2⟩ := Lx.quo_dbl_inv t h
          refine ⟨?_, fun x hx => ?_⟩
          · rw [Lx.dbl_cons, if_pos (by decide), List.cons_append, List.cons_append, ← i1]
          · rcases List.mem_cons.1 hx with rfl | hx
            · exact hg
            · exact i2 x hx
        · have e : Lx.quo 34 (34 :: d :: t) = ([], 0, d :: t) := by
            rw [Lx.quo, if_pos hg, if_pos rfl, if_neg (fun h => hd h.2)]
          rw [e]
          simp [Lx.dbl]
      · have e : Lx.quo 34 (c :: d :: t) = (c :: (Lx.quo 34 (d :: t)).1, (Lx.quo 34 (d :: t)).2) := by
          rw [Lx.quo, if_pos hg, if_neg hc]
        rw [e] at h ⊢
        obtain ⟨i1, i2⟩ := Lx.quo_dbl_inv (d :: t) h
        refine ⟨?_, fun x hx => ?_⟩
        · rw [Lx.dbl_cons, if_neg (fun e => hc (Lx.byte_eq e)), List.cons_append, ← i1]
        · rcases List.mem_cons.1 hx with rfl | hx
          · exact hg
          · exact i2 x hx
    · have e : Lx.quo 34 (c :: d :: t) = ([], 50, c :: d :: t) := by rw [Lx.quo, if_neg hg]
      rw [e] at h
      simp at h
theorem Lx.number_kinds (x : List UInt8) : Lx.number x = 0 ∨ Lx.number x = 4 ∨ Lx.number x = 5 := by
  unfold Lx.number
  dsimp only
  split
  · exact .inl rfl
  · split
    · exact .inr (.inl rfl)
    · split
      · exact .inr (.inr rfl)
      · exact .inl rfl
theorem Lx.one_src (c : UInt8) (t : List UInt8) (h : (Lx.one (c :: t)).2.2.1 = 0) :
    ((Lx.one (c :: t)).1 = 3 ∧ c :: t = 124 :: ((Lx.one (c :: t)).2.1 ++ 124 :: (Lx.one (c :: t)).2.2.2) ∧ ∀ d ∈ (Lx.one (c :: t)).2.1, Lx.good d = true ∧ d.toNat ≠ 124 ∧ d.toNat ≠ 92) ∨
    ((Lx.one (c :: t)).1 = 6 ∧ c :: t = 34 :: (Lx.dbl (Lx.one (c :: t)).2.1 ++ 34 :: (Lx.one (c :: t)).2.2.2) ∧ ∀ d ∈ (Lx.one (c :: t)).2.1, Lx.good d = true) ∨
    ((Lx.one (c :: t)).1 ≠ 6 ∧ (∃ u, (Lx.one (c :: t)).2.1 = c :: u) ∧ c :: t = (Lx.one (c :: t)).2.1 ++ (Lx.one (c :: t)).2.2.2 ∧ Lx.one (Lx.one (c :: t)).2.1 = ((Lx.one (c :: t)).1, (Lx.one (c :: t)).2.1, 0, []) ∧ ((Lx.one (c :: t)).1 = 3 → Lx.simple (Lx.one (c :: t)).2.1 = true)) := by
  have htd := Lx.take_drop Lx.name t
  obtain ⟨e1, e2⟩ := Lx.all_take Lx.name _ (Lx.take_all Lx.name t)
  by_cases h1 : c.toNat = 40
  · have e : Lx.one (c :: t) = (1, [c], 0, t) := by simp [Lx.one, h1]
    have e' : Lx.one [c] = (1, [c], 0, []) := by simp [Lx.one, h1]
    rw [e]
    exact .inr (.inr ⟨by simp, ⟨[], rfl⟩, rfl, e', fun h => absurd h (by simp)⟩)
  by_cases h2 : c.toNat = 41
  · have e : Lx.one (c :: t) = (2, [c], 0, t) := by simp [Lx.one, h2]
    have e' : Lx.one [c] = (2, [c], 0, []) := by simp [Lx.one, h2]
    rw [e]
    exact .inr (.inr ⟨by simp, ⟨[], rfl⟩, rfl, e', fun h => absurd h (by simp)⟩)
  by_cases h3 : c.toNat = 124 ∨ c.toNat = 34
  · rcases Lx.quo_err c t with q | q | q
    · rcases h3 with h3 | h3
      · obtain rfl : c = 124 := Lx.byte_eq h3
        obtain ⟨i1, i2⟩ := Lx.quo_bar_inv t q
        by_cases h92 : ((Lx.quo 124 t).1.any fun d => decide (d.toNat = 92)) = true
        · simp [Lx.one, q, h92] at h
        · have e : Lx.one (124 :: t) = (3, (Lx.quo 124 t).1, 0, (Lx.quo 124 t).2.2) := by
            simp only [Lx.one, q, h92]
            simp
          rw [e]
          refine .inl ⟨rfl, ?_, fun d hd => ⟨(i2 d hd).1, (i2 d hd).2, fun e => h92 (List.any_eq_true.2 ⟨d, hd, by simpa using e⟩)⟩⟩
          show 124 :: t = 124 :: ((Lx.quo 124 t).1 ++ 124 :: (Lx.quo 124 t).2.2)
          rw [← i1]
      · obtain rfl : c = 34 := Lx.byte_eq h3
        obtain ⟨i1, i2⟩ := Lx.quo_dbl_inv t q
        have e : Lx.one (34 :: t) = (6, (Lx.quo 34 t).1, 0, (Lx.quo 34 t).2.2) := by simp [Lx.one, q]
        rw [e]
        refine .inr (.inl ⟨rfl, ?_, i2⟩)
        show 34 :: t = 34 :: (Lx.dbl (Lx.quo 34 t).1 ++ 34 :: (Lx.quo 34 t).2.2)
        rw [← i1]
    · simp [Lx.one, h1, h2, h3, q] at h
    · simp [Lx.one, h1, h2, h3, q] at h
  have hsrc : c :: t = c :: t.takeWhile Lx.name ++ t.dropWhile Lx.name := by rw [List.cons_append, htd]
  by_cases h4 : Lx.digit c = true
  · by_cases hn : Lx.number (c :: t.takeWhile Lx.name) = 0
    · simp [Lx.one, h1, h2, h3, h4, hn] at h
    · have e : Lx.one (c :: t) = (Lx.number (c :: t.takeWhile Lx.name), c :: t.takeWhile Lx.name, 0, t.dropWhile Lx.name) := by simp [Lx.one, h1, h2, h3, h4, hn]
      have e' : Lx.one (c :: t.takeWhile Lx.name) = (Lx.number (c :: t.takeWhile Lx.name), c :: t.takeWhile Lx.name, 0, []) := by simp [Lx.one, h1, h2, h3, h4, hn, e1, e2]
      rw [e]
      have hk := Lx.number_kinds (c :: t.takeWhile Lx.name)
      exact .inr (.inr ⟨by show Lx.number _ ≠ 6; omega, ⟨_, rfl⟩, hsrc, e', fun h => absurd h (by show ¬ Lx.number _ = 3; omega)⟩)
  by_cases h5 : Lx.name c = true
  · have e : Lx.one (c :: t) = (3, c :: t.takeWhile Lx.name, 0, t.dropWhile Lx.name) := by simp [Lx.one, h1, h2, h3, h4, h5]
    have e' : Lx.one (c :: t.takeWhile Lx.name) = (3, c :: t.takeWhile Lx.name, 0, []) := by simp [Lx.one, h1, h2, h3, h4, h5, e1, e2]
    rw [e]
    refine .inr (.inr ⟨by simp, ⟨_, rfl⟩, hsrc, e', fun _ => ?_⟩)
    simp only [Lx.simple, List.headD_cons, List.all_cons, h5, Lx.take_all]
    simp [h4]
  by_cases h6 : c.toNat = 58
  · by_cases hn : (t.takeWhile Lx.name).isEmpty = true
    · simp only [Lx.one, h4, h5, h6, hn] at h
      simp at h
    · have e : Lx.one (c :: t) = (7, c :: t.takeWhile Lx.name, 0, t.dropWhile Lx.name) := by
        simp only [Lx.one, h4, h5, h6, hn]
        simp
      have e' : Lx.one (c :: t.takeWhile Lx.name) = (7, c :: t.takeWhile Lx.name, 0, []) := by
        simp only [Lx.one, h4, h5, h6, e1, e2, hn]
        simp
      rw [e]
      exact .inr (.inr ⟨by simp, ⟨_, rfl⟩, hsrc, e', fun h => absurd h (by simp)⟩)
  by_cases h7 : c.toNat = 35
  · by_cases hn : Lx.other (c :: t.takeWhile Lx.name) = true
    · have e : Lx.one (c :: t) = (8, c :: t.takeWhile Lx.name, 0, t.dropWhile Lx.name) := by
        simp only [Lx.one, h4, h5, h7, hn]
        simp
      have e' : Lx.one (c :: t.takeWhile Lx.name) = (8, c :: t.takeWhile Lx.name, 0, []) := by
        simp only [Lx.one, h4, h5, h7, e1, e2, hn]
        simp
      rw [e]
      exact .inr (.inr ⟨by simp, ⟨_, rfl⟩, hsrc, e', fun h => absurd h (by simp)⟩)
    · simp only [Lx.one, h4, h5, h7, hn] at h
      simp at h
  simp [Lx.one, h1, h2, h3, h4, h5, h6, h7] at h
def Lx.okShow (k : Int) (s : List UInt8) : Bool := decide ((Lx.show k s).length ≤ 16384) && decide ((Lx.lex 4000 (Lx.show k s)).2.1 = 0) && decide ((Lx.lex 4000 (Lx.show k s)).1.map Lx.says = [(k, s)])
theorem Lx.okShow_whole {k : Int} {s : List UInt8} (h : Lx.okShow k s = true) : Lx.Whole (Lx.show k s) k s ∧ (Lx.show k s).length ≤ 16384 := by
  simp only [Lx.okShow, Bool.and_eq_true, decide_eq_true_eq] at h
  obtain ⟨⟨h1, h2⟩, h3⟩ := h
  refine ⟨?_, h1⟩
  generalize hx : Lx.show k s = x at h1 h2 h3 ⊢
  cases hs : Lx.skip false x with
  | nil => rw [Lx.lex_nil _ hs] at h3; simp at h3
  | cons c t =>
    cases hg : Lx.good c with
    | false => rw [Lx.lex_bad _ hs hg] at h2; simp at h2
    | true =>
      by_cases he : (Lx.one (c :: t)).2.2.1 = 0
      · obtain ⟨hb, hr⟩ := Lx.skip_head x false hs hg
        obtain ⟨p, hp⟩ := Lx.skip_end x false
        rw [hs] at hp
        rw [Lx.lex_ok 3999 hs hg he] at h3
        simp only [List.map_cons, List.cons.injEq, Prod.mk.injEq] at h3
        obtain ⟨⟨hk, hss⟩, _⟩ := h3
        have H := Lx.one_src c t he
        have H1 : Lx.one (c :: t) = ((Lx.one (c :: t)).1, (Lx.one (c :: t)).2.1, (Lx.one (c :: t)).2.2.1, (Lx.one (c :: t)).2.2.2) := rfl
        rw [hk, hss, he] at H1
        rw [hk, hss] at H
        generalize (Lx.one (c :: t)).2.2.2 = r at H H1
        have hlen : x.length = p.length + (c :: t).length := by rw [hp, List.length_append]
        have fin : p.length + r.length = 0 → Lx.Whole x k s := fun h0 => by
          obtain rfl : p = [] := List.eq_nil_of_length_eq_zero (by omega)
          obtain rfl : r = [] := List.eq_nil_of_length_eq_zero (by omega)
          rw [List.nil_append] at hp
          exact ⟨by rw [hp]; exact H1, c, t, hp, hg, hb, hr⟩
        rcases H with ⟨rfl, h4, h5⟩ | ⟨rfl, h4, h5⟩ | ⟨h4, ⟨u, h5⟩, h6, h7, h8⟩
        · rw [h4] at hlen
          simp only [Lx.show, if_pos] at hx
          split at hx
          · rw [← hx] at hlen
            simp at hlen
            omega
          · rw [← hx] at hlen
            simp at hlen
            exact fin (by omega)
        · rw [h4] at hlen
          have : Lx.show 6 s = 34 :: (Lx.dbl s ++ [34]) := by simp [Lx.show]
          rw [this] at hx
          rw [← hx] at hlen
          simp at hlen
          exact fin (by omega)
        · have e : Lx.show k s = s := by
            unfold Lx.show
            split
            · rename_i h9
              rw [if_pos (h8 h9)]
            · simp
          rw [e] at hx
          rw [h6, ← hx, List.length_append] at hlen
          exact fin (by omega)
      · rw [Lx.lex_err 3999 hs hg he] at h2
        exact absurd h2 he
end Go.Proofs.YtfjpcjebecgglaaGreatDoor
namespace Go.Proofs.YtfjpcjebecgglaaGreatDoor
open Go.RowKit
theorem ret_b {a b : Bool} (h : a = b) : Ending.returned (.bool a) = .returned (.bool b) := by rw [h]
end Go.Proofs.YtfjpcjebecgglaaGreatDoor
namespace Go.Proofs.YtfjpcjebecgglaaGreatDoor
open Go.RowKit
theorem drop_at (s : ByteArray) {i : Nat} (h : i < s.size) : s.data.toList.drop i = s[i] :: s.data.toList.drop (i + 1) := by
  have h' : i < s.data.toList.length := by rw [Array.length_toList]; exact h
  rw [List.drop_eq_getElem_cons h']
  congr 1
theorem drop_end (s : ByteArray) : s.data.toList.drop s.size = [] := by
  apply List.drop_eq_nil_of_le
  rw [Array.length_toList]
  exact Nat.le_refl _
theorem nil_bytes {s : ByteArray} (h : s.size = 0) : s.data.toList = [] ∧ s.toList = [] := by
  have e : s.data.toList = [] := List.eq_nil_of_length_eq_zero (by rw [Array.length_toList]; exact h)
  exact ⟨e, by rw [ByteArray.toList_eq, e]⟩
theorem some_bytes {s : ByteArray} (h : 0 < s.size) : s.data.toList.isEmpty = false ∧ s.toList.isEmpty = false ∧ (s.toList == []) = false := by
  have e : s.data.toList.isEmpty = false := by
    cases hl : s.data.toList with
    | nil =>
      have : s.data.toList.length = 0 := by rw [hl]; rfl
      rw [Array.length_toList] at this
      exact absurd h (by show ¬ 0 < s.data.size; omega)
    | cons _ _ => rfl
  refine ⟨e, by rw [ByteArray.toList_eq]; exact e, ?_⟩
  rw [ByteArray.toList_eq]
  cases hl : s.data.toList with
  | nil => rw [hl] at e; cases e
  | cons _ _ => rfl
end Go.Proofs.YtfjpcjebecgglaaGreatDoor
namespace Go.Proofs.YtfjpcjebecgglaaGreatDoor
open Go.RowKit
theorem cut_bytes (s : ByteArray) (a b : Nat) (hb : b ≤ s.size) (ha : a ≤ b) : (s.extract a b).data.toList = (s.data.toList.drop a).take (b - a) ∧ (s.extract a b).size = b - a := by
  have hsz : (s.extract a b).size = b - a := by rw [ByteArray.size_extract]; omega
  refine ⟨?_, hsz⟩
  rw [ByteArray.data_extract, Array.toList_extract]
theorem slice_to (s : ByteArray) (p : Nat) (hp : p ≤ s.size) (w : World) : (Instr.slice 9 (.string s) none (some (.int .i64 (p : Int))) none).run Tryz.prog w = .ok (.string (s.extract 0 p)) w := by
  rw [run_slice_string_to_if _ _ _ _ _ Tryz.underlying9, if_pos (by omega)]
  rfl
theorem slice_from (s : ByteArray) (p : Nat) (hp : p ≤ s.size) (w : World) : (Instr.slice 9 (.string s) (some (.int .i64 (p : Int))) none none).run Tryz.prog w = .ok (.string (s.extract p s.size)) w := by
  rw [run_slice_string_from_if _ _ _ _ _ Tryz.underlying9, if_pos (by omega)]
  rfl
abbrev Lx.nopt (c : UInt8) : Bool := !decide (c.toNat = 46)
end Go.Proofs.YtfjpcjebecgglaaGreatDoor
namespace Go.Proofs.YtfjpcjebecgglaaGreatDoor
open Go.RowKit
theorem Lx.quo_bad {q c : UInt8} (t : List UInt8) (hg : Lx.good c = false) : Lx.quo q (c :: t) = ([], 50, c :: t) := by
  cases t <;> simp [Lx.quo, hg]
theorem Lx.quo_last {q : UInt8} (t : List UInt8) (hg : Lx.good q = true) (h : ¬ (q.toNat = 34 ∧ ∃ u, t = q :: u)) : Lx.quo q (q :: t) = ([], 0, t) := by
  cases t with
  | nil => simp [Lx.quo, hg]
  | cons d t => rw [Lx.quo, if_pos hg, if_pos rfl, if_neg (fun e => h ⟨e.1, t, by rw [e.2]⟩)]
theorem Lx.quo_twice {q : UInt8} (t : List UInt8) (hg : Lx.good q = true) (h : q.toNat = 34) : Lx.quo q (q :: q :: t) = (q :: (Lx.quo q t).1, (Lx.quo q t).2) := by
  rw [Lx.quo, if_pos hg, if_pos rfl, if_pos ⟨h, rfl⟩]
end Go.Proofs.YtfjpcjebecgglaaGreatDoor
namespace Go.Proofs.YtfjpcjebecgglaaGreatDoor
open Go.RowKit
theorem slice_both (s : ByteArray) (a b : Nat) (hb : b ≤ s.size) (ha : a ≤ b) (w : World) : (Instr.slice 9 (.string s) (some (.int .i64 (a : Int))) (some (.int .i64 (b : Int))) none).run Tryz.prog w = .ok (.string (s.extract a b)) w := by
  rw [run_slice_string_if _ _ _ _ _ _ _ Tryz.underlying9, if_pos (by omega), if_pos (by omega)]
  rfl
theorem text_of (s : ByteArray) (a k : Nat) (ha : a < s.size) (h1 : a + 1 ≤ k) (h2 : k ≤ s.size) (h3 : s.data.toList.drop k = (s.data.toList.drop (a + 1)).dropWhile Lx.name) :
    (s.extract a k).data.toList = s[a] :: (s.data.toList.drop (a + 1)).takeWhile Lx.name := by
  have h := Lx.take_drop Lx.name (s.data.toList.drop (a + 1))
  rw [(cut_bytes s a k h2 (by omega)).1, drop_at s ha, show k - a = (k - (a + 1)) + 1 by omega, List.take_succ_cons]
  congr 1
  rw [← h3] at h
  have hl := congrArg List.length h
  rw [List.length_append, List.length_drop, List.length_drop] at hl
  have hsz : s.data.toList.length = s.size := by rw [Array.length_toList]; rfl
  rw [hsz] at hl
  have : ((s.data.toList.drop (a + 1)).takeWhile Lx.name).length = k - (a + 1) := by omega
  rw [← this]
  have h' := congrArg (List.take ((s.data.toList.drop (a + 1)).takeWhile Lx.name).length) h
  rw [List.take_left] at h'
  exact h'.symm
end Go.Proofs.YtfjpcjebecgglaaGreatDoor
namespace Go.Proofs.YtfjpcjebecgglaaGreatDoor
open Go.RowKit
theorem len_bytes (s : ByteArray) : s.data.toList.length = s.size := by rw [Array.length_toList]; rfl
theorem drop_inj (s : ByteArray) {k k' : Nat} (h : k ≤ s.size) (h' : k' ≤ s.size) (e : s.data.toList.drop k = s.data.toList.drop k') : k = k' := by
  have := congrArg List.length e
  rw [List.length_drop, List.length_drop, len_bytes] at this
  omega
end Go.Proofs.YtfjpcjebecgglaaGreatDoor
namespace Go.Proofs.YtfjpcjebecgglaaGreatDoor
open Go.RowKit
abbrev MTok := Int × ByteArray × Nat
abbrev tcells (x : MTok) : List Value := [.int .i64 x.1, .string x.2.1, .int .i64 (x.2.2 : Nat)]
abbrev tksOf (l : List MTok) : List Value := l.flatMap tcells
theorem infoT : (Tryz.prog.info? 46).map (fun i => (i.zero, i.size, i.bytes)) = some (some (.agg #[.int .i64 0, .string ByteArray.empty, .int .i64 0]), 3, 32) := by kernel_rfl
def OwnL (w : World) (B : Nat) (A : Option Addr) (c : Nat) (l : List MTok) : Prop := w.ownsRow B 46 3 (.slice A l.length c) l.length (tksOf l)
theorem OwnL.nil (w : World) (B : Nat) : OwnL w B none 0 [] := World.ownsRow_nil _ _ _ _
theorem cell_three_new (w : World) (x y z : Value) (t : TypeId) : ∀ j u, [x, y, z][j]? = some u → (w.alloc (.cells #[x, y, z] t)).cell? ((⟨w.heap.size, 0, none⟩ : Addr).add j) = some u := by
  intro j u hu
  have l := Lies.new w t #[x, y, z]
  rw [addr_add, Nat.zero_add, l.cell j, ← hu]
  simp
theorem appendL (w : World) {ops : Array Oper} {rest : List Oper} {o : Oper} {a : Act} {Q : Exit → Act → World → Prop} (hgd : o.guard = none) (s x : Operand)
    (ho : o.op = .call { callee := .builtin .append, args := #[s, x], argTypes := #[196, 196] }) (B : Nat) (A : Option Addr) (c : Nat) (l : List MTok) (n : Nat) (hn : l.length = n) (d : MTok) (g : Nat) (hg : w.heap.size = g)
    (hs : a.eval s = .slice A n c) (hown : OwnL w B A c l) (hx : a.eval x = .slice (some ⟨g, 0, none⟩) 1 1) (hl : n ≤ 1000000) (hB : B ≤ w.heap.size)
    (h : ∀ A' c' w', OwnL w' B A' c' (l ++ [d]) → w.grownBy w' (Value.slice A n c).ownBlock → wpList Tryz.prog ops Q rest (a.put o.dst (.slice A' (n + 1) c')) w') :
    wpList Tryz.prog ops Q (o :: rest) a (w.alloc (.cells #[.int .i64 d.1, .string d.2.1, .int .i64 (d.2.2 : Nat)] 46)) := by
  subst hn
  subst hg
  obtain ⟨i0, hi, hz0, hz1, hz2⟩ := info_parts infoT
  refine wpList_append_own_at _ hgd s x 196 ho B 46 i0 (.agg #[.int .i64 0, .string ByteArray.empty, .int .i64 0]) 3 32 Tryz.underlying196 hi hz0 hz1 hz2 rfl (by decide) _ l.length (tksOf l) hs (World.ownsRow.alloc hown _) ⟨w.heap.size, 0, none⟩ 1 1 (tcells d) hx rfl (cell_three_new _ _ _ _ _) (fun u hu => by simp at hu; rcases hu with rfl | rfl | rfl <;> rfl) (by unfold maxLen; omega) (by omega) (by simp; omega) ?_
  intro v' w' q1 q2 _ _
  obtain ⟨A', c', rfl⟩ := own_form q1
  refine h A' c' w' ?_ ?_
  · unfold OwnL
    have e : tksOf l ++ tcells d = tksOf (l ++ [d]) := by simp [tksOf]
    rw [e] at q1
    rw [List.length_append]
    exact q1
  · exact ⟨q2.os, q2.tape, q2.output, Nat.le_trans (by simp) q2.size, fun k hk hne => (q2.block k (by simp; omega) hne).trans (Below.heap_alloc w _ k hk)⟩
def pureTok (s : ByteArray) (x : MTok) : Lx.Tok := (x.1, x.2.1.data.toList, s.size - x.2.2)
structure LSaid (s : ByteArray) (w : World) (A : Option Addr) (c : Nat) (l : List MTok) (E : Int) (p : Nat) (w' : World) : Prop where
  own : OwnL w' w.heap.size A c l
  below : Below w.heap.size w w'
  at_ : ∀ x ∈ l, x.2.2 ≤ s.size
  le : p ≤ s.size
  few : l.length ≤ 4000
  long : 16384 < s.size → l = [] ∧ E = 2 ∧ p = 0
  toks : s.size ≤ 16384 → l.map (pureTok s) = (Lx.lex 4000 s.data.toList).1 ∧ E = (Lx.lex 4000 s.data.toList).2.1 ∧ s.data.toList.drop p = (Lx.lex 4000 s.data.toList).2.2
theorem OwnL.kept {w w' : World} {B : Nat} {A : Option Addr} {c : Nat} {l : List MTok} (h : OwnL w B A c l) (hb : Below w.heap.size w w') : OwnL w' B A c l :=
  (Turn.of_below (F := fun _ => False) hb).own h (fun _ _ => id)
end Go.Proofs.YtfjpcjebecgglaaGreatDoor
namespace Go.Proofs.YtfjpcjebecgglaaGreatDoor
open Go.RowKit
abbrev ITok := Int × ByteArray × Int
structure TokS (w : World) (A : Option Addr) (n : Nat) (l : List ITok) : Prop where
  len : l.length = n
  at_ : 0 < n → ∃ b off, A = some ⟨b, off, none⟩ ∧ b < w.heap.size ∧ ∀ (i : Nat) (x : ITok), l[i]? = some x → w.cell? ⟨b, off + i * 3, none⟩ = some (.int .i64 x.1) ∧ w.cell? ⟨b, off + i * 3 + 1, none⟩ = some (.string x.2.1) ∧ w.cell? ⟨b, off + i * 3 + 2, none⟩ = some (.int .i64 x.2.2)
theorem TokS.get {w : World} {A : Option Addr} {n i : Nat} {l : List ITok} (h : TokS w A n l) (hi : i < n) :
    ∃ b off x, A = some ⟨b, off, none⟩ ∧ l[i]? = some x ∧ l.drop i = x :: l.drop (i + 1) ∧ ∀ W, Below w.heap.size w W → b < W.heap.size ∧ W.cell? ⟨b, off + i * 3, none⟩ = some (.int .i64 x.1) ∧ W.cell? ⟨b, off + i * 3 + 1, none⟩ = some (.string x.2.1) ∧ W.cell? ⟨b, off + i * 3 + 2, none⟩ = some (.int .i64 x.2.2) := by
  obtain ⟨b, off, e, hlt, hc⟩ := h.at_ (by omega)
  have hi' : i < l.length := by rw [h.len]; exact hi
  refine ⟨b, off, l[i], e, List.getElem?_eq_getElem hi', List.drop_eq_getElem_cons hi', fun W hW => ?_⟩
  have := (hc i _ (List.getElem?_eq_getElem hi'))
  exact ⟨Nat.lt_of_lt_of_le hlt hW.size, (hW.cell (p := ⟨b, off + i * 3, none⟩) hlt).trans this.1, (hW.cell (p := ⟨b, off + i * 3 + 1, none⟩) hlt).trans this.2.1, (hW.cell (p := ⟨b, off + i * 3 + 2, none⟩) hlt).trans this.2.2⟩
def toI (x : MTok) : ITok := (x.1, x.2.1, (x.2.2 : Int))
theorem tks_get : ∀ (l : List MTok) (i : Nat) (x : MTok), l[i]? = some x → (tksOf l)[i * 3]? = some (.int .i64 x.1) ∧ (tksOf l)[i * 3 + 1]? = some (.string x.2.1) ∧ (tksOf l)[i * 3 + 2]? = some (.int .i64 (x.2.2 : Nat))
  | [], i, x, h => by simp at h
  | y :: l, 0, x, h => by
    obtain rfl : y = x := by simpa using h
    simp [tksOf]
  | y :: l, i + 1, x, h => by
    obtain ⟨h1, h2, h3⟩ := tks_get l i x (by simpa using h)
    have e : ∀ j, (tksOf (y :: l))[(i + 1) * 3 + j]? = (tksOf l)[i * 3 + j]? := fun j => by
      rw [tksOf, List.flatMap_cons, show (i + 1) * 3 + j = (tcells y).length + (i * 3 + j) by simp; omega, List.getElem?_append_right (by omega), Nat.add_sub_cancel_left]
    exact ⟨(e 0).trans h1, (e 1).trans h2, (e 2).trans h3⟩
theorem OwnL.toks {w : World} {B : Nat} {A : Option Addr} {c : Nat} {l : List MTok} (h : OwnL w B A c l) : TokS w A l.length (l.map toI) := by
  refine ⟨by rw [List.length_map], fun hn => ?_⟩
  rcases h.2 with ⟨_, h0⟩ | ⟨g, cap, cur, e, _, hg, _⟩
  · omega
  · injection e with e1 e2 e3
    subst e1
    refine ⟨g, 0, rfl, (Array.getElem?_eq_some_iff.1 hg).1, fun i x hx => ?_⟩
    rw [List.getElem?_map] at hx
    obtain ⟨y, hy, rfl⟩ := Option.map_eq_some_iff.1 hx
    obtain ⟨q1, q2, q3⟩ := tks_get l i y hy
    have r := fun j u (hu : (tksOf l)[j]? = some u) => h.cells (g := g) rfl j u hu
    have a : ∀ j, (⟨g, 0, none⟩ : Addr).add j = ⟨g, 0 + j, none⟩ := fun j => addr_add g 0 j
    have r1 := r _ _ q1
    have r2 := r _ _ q2
    have r3 := r _ _ q3
    rw [a] at r1 r2 r3
    exact ⟨r1, by rw [Nat.add_assoc]; exact r2, by rw [Nat.add_assoc]; exact r3⟩
end Go.Proofs.YtfjpcjebecgglaaGreatDoor
namespace Go.Proofs.YtfjpcjebecgglaaGreatDoor
open Go.RowKit
abbrev sval (x : Sx) (A : Option Addr) (c : Nat) : Value := .agg #[.bool x.list, .int .i64 x.k, .string x.T, .int .i64 x.ta, .int .i64 x.at_, .slice A x.L.length c]
abbrev scells (x : Sx) (A : Option Addr) (c : Nat) : List Value := [.bool x.list, .int .i64 x.k, .string x.T, .int .i64 x.ta, .int .i64 x.at_, .slice A x.L.length c]
structure SAt (w : World) (b off : Nat) (x : Sx) (A : Option Addr) (c : Nat) : Prop where
  lt : b < w.heap.size
  c0 : w.cell? ⟨b, off, none⟩ = some (.bool x.list)
  c1 : w.cell? ⟨b, off + 1, none⟩ = some (.int .i64 x.k)
  c2 : w.cell? ⟨b, off + 2, none⟩ = some (.string x.T)
  c3 : w.cell? ⟨b, off + 3, none⟩ = some (.int .i64 x.ta)
  c4 : w.cell? ⟨b, off + 4, none⟩ = some (.int .i64 x.at_)
  c5 : w.cell? ⟨b, off + 5, none⟩ = some (.slice A x.L.length c)
theorem SAt.kept {w w' : World} {b off : Nat} {x : Sx} {A : Option Addr} {c : Nat} (h : SAt w b off x A c) (hs : w.heap.size ≤ w'.heap.size) (hc : ∀ j, j < 6 → w'.cell? ⟨b, off + j, none⟩ = w.cell? ⟨b, off + j, none⟩) : SAt w' b off x A c :=
  ⟨Nat.lt_of_lt_of_le h.lt hs, (hc 0 (by decide)).trans h.c0, (hc 1 (by decide)).trans h.c1, (hc 2 (by decide)).trans h.c2, (hc 3 (by decide)).trans h.c3, (hc 4 (by decide)).trans h.c4, (hc 5 (by decide)).trans h.c5⟩
theorem SAt.below {w w' : World} {b off : Nat} {x : Sx} {A : Option Addr} {c : Nat} (h : SAt w b off x A c) (hb : Below w.heap.size w w') : SAt w' b off x A c :=
  h.kept hb.size fun _ _ => hb.cell h.lt
inductive TreeL (w : World) (G : Nat → Nat → Prop) : Option Addr → List Sx → Prop
  | nil (A : Option Addr) : TreeL w G A []
  | cons (b off : Nat) (x : Sx) (l : List Sx) (A : Option Addr) (c : Nat) : SAt w b off x A c → G b off → x.L.length ≤ c ∧ c ≤ maxLen → TreeL w G A x.L → TreeL w G (some ⟨b, off + 6, none⟩) l → TreeL w G (some ⟨b, off, none⟩) (x :: l)
theorem TreeL.imp {w w' : World} {G G' : Nat → Nat → Prop} {A : Option Addr} {l : List Sx} (h : TreeL w G A l) (hs : w.heap.size ≤ w'.heap.size) (hc : ∀ b off, b < w.heap.size → G b off → ∀ j, j < 6 → w'.cell? ⟨b, off + j, none⟩ = w.cell? ⟨b, off + j, none⟩) (hG : ∀ b off, b < w.heap.size → G b off → G' b off) : TreeL w' G' A l := by
  induction h with
  | nil A => exact .nil A
  | cons b off x l A c h1 h2 h3 _ _ i1 i2 => exact .cons b off x l A c (h1.kept hs (hc b off h1.lt h2)) (hG b off h1.lt h2) h3 i1 i2
theorem TreeL.kept {w w' : World} {G : Nat → Nat → Prop} {A : Option Addr} {l : List Sx} (h : TreeL w G A l) (hb : Below w.heap.size w w') : TreeL w' G A l :=
  h.imp hb.size (fun b off hlt _ j _ => hb.cell (p := ⟨b, off + j, none⟩) hlt) fun _ _ _ h => h
theorem TreeL.mono {w : World} {G G' : Nat → Nat → Prop} {A : Option Addr} {l : List Sx} (h : TreeL w G A l) (hG : ∀ b off, b < w.heap.size → G b off → G' b off) : TreeL w G' A l := h.imp (Nat.le_refl _) (fun _ _ _ _ _ _ => rfl) hG
theorem TreeL.get {w : World} {G : Nat → Nat → Prop} {A : Option Addr} {l : List Sx} (h : TreeL w G A l) : ∀ {i : Nat}, i < l.length → ∃ b off x A' c', A = some ⟨b, off, none⟩ ∧ l[i]? = some x ∧ SAt w b (off + i * 6) x A' c' ∧ G b (off + i * 6) ∧ (x.L.length ≤ c' ∧ c' ≤ maxLen) ∧ TreeL w G A' x.L := by
  induction h with
  | nil A => intro i hi; simp at hi
  | cons b off x l A c h1 h2 h3 h4 _ _ i2 =>
    intro i hi
    cases i with
    | zero => exact ⟨b, off, x, A, c, rfl, rfl, by simpa using h1, by simpa using h2, h3, h4⟩
    | succ i =>
      obtain ⟨b', off', y, A', c', e, hy, q1, q2, q3, q4⟩ := i2 (i := i) (by simpa using hi)
      injection e with e
      injection e with e1 e2 _
      subst e1
      subst e2
      exact ⟨b, off, y, A', c', rfl, by simpa using hy, by rw [show off + (i + 1) * 6 = off + 6 + i * 6 by omega]; exact q1, by rw [show off + (i + 1) * 6 = off + 6 + i * 6 by omega]; exact q2, q3, q4⟩
structure STree (w : World) (G : Nat → Nat → Prop) (x : Sx) (A : Option Addr) (c : Nat) : Prop where
  le : x.L.length ≤ c ∧ c ≤ maxLen
  tree : TreeL w G A x.L
theorem STree.kept {w w' : World} {G : Nat → Nat → Prop} {x : Sx} {A : Option Addr} {c : Nat} (h : STree w G x A c) (hb : Below w.heap.size w w') : STree w' G x A c := ⟨h.le, h.tree.kept hb⟩
theorem STree.get {w : World} {G : Nat → Nat → Prop} {x : Sx} {A : Option Addr} {c : Nat} (h : STree w G x A c) {i : Nat} (hi : i < x.L.length) :
    ∃ b off y A' c', A = some ⟨b, off, none⟩ ∧ x.L[i]? = some y ∧ x.L.drop i = y :: x.L.drop (i + 1) ∧ y ∈ x.L ∧ SAt w b (off + i * 6) y A' c' ∧ STree w G y A' c' := by
  obtain ⟨b, off, y, A', c', e, hy, q1, q2, q3, q4⟩ := h.tree.get hi
  refine ⟨b, off, y, A', c', e, hy, ?_, List.mem_of_getElem? hy, q1, q3, q4⟩
  obtain ⟨hi', rfl⟩ := List.getElem?_eq_some_iff.1 hy
  exact List.drop_eq_getElem_cons hi'
abbrev sbox (x : Sx) (A : Option Addr) (c : Nat) : Obj := .cells #[.bool x.list, .int .i64 x.k, .string x.T, .int .i64 x.ta, .int .i64 x.at_, .slice A x.L.length c] 49
theorem sbox_at (w : World) (x : Sx) (A : Option Addr) (c : Nat) : SAt (w.alloc (sbox x A c)) w.heap.size 0 x A c := by
  have h := Lies.new w 49 #[.bool x.list, .int .i64 x.k, .string x.T, .int .i64 x.ta, .int .i64 x.at_, .slice A x.L.length c]
  exact ⟨h.lt, h.cell 0, h.cell 1, h.cell 2, h.cell 3, h.cell 4, h.cell 5⟩
end Go.Proofs.YtfjpcjebecgglaaGreatDoor
namespace Go.Proofs.YtfjpcjebecgglaaGreatDoor
open Go.RowKit
abbrev AnyP : Nat → Nat → Prop := fun _ _ => True
theorem sbox_in {w W0 : World} {x : Sx} {A : Option Addr} {c n : Nat} {l : Bool} (hn : x.L.length = n) (hl : x.list = l) (h : STree w AnyP x A c)
    (hW0 : w.alloc (Obj.cells #[Value.bool l, Value.int IntKind.i64 x.k, Value.string x.T, Value.int IntKind.i64 x.ta, Value.int IntKind.i64 x.at_, Value.slice A n c] 49) = W0) :
    Below w.heap.size w W0 ∧ STree W0 AnyP x A c ∧ SAt W0 w.heap.size 0 x A c := by
  have e : w.alloc (sbox x A c) = W0 := by rw [← hW0, sbox, hn, hl]
  rw [← e]
  exact ⟨(Below.refl _ w).alloc (Nat.le_refl _) _, h.kept ((Below.refl _ w).alloc (Nat.le_refl _) _), sbox_at w x A c⟩
end Go.Proofs.YtfjpcjebecgglaaGreatDoor
namespace Go.Proofs.YtfjpcjebecgglaaGreatDoor
mutual
def Sx.deep : Sx → Nat
  | ⟨list, _, _, _, _, L⟩ => if list then Sx.deeps L + 1 else 0
def Sx.deeps : List Sx → Nat
  | [] => 0
  | x :: l => max (Sx.deep x) (Sx.deeps l)
end
end Go.Proofs.YtfjpcjebecgglaaGreatDoor
namespace Go.Proofs.YtfjpcjebecgglaaGreatDoor
section
variable {all : Nat} {H : Nat → Nat} {t : ITok} {l : List ITok} {i used : Nat}
end
end Go.Proofs.YtfjpcjebecgglaaGreatDoor
namespace Go.Proofs.YtfjpcjebecgglaaGreatDoor
mutual
def Sx.text : Sx → Option (List UInt8)
  | ⟨list, k, T, _, _, L⟩ => if list then (Sx.texts true L).map fun t => 40 :: (t ++ [41]) else if !decide (k = 1) && !decide (k = 2) && L.isEmpty && Lx.okShow k T.data.toList then some (Lx.show k T.data.toList) else none
def Sx.texts : Bool → List Sx → Option (List UInt8)
  | _, [] => some []
  | f, x :: l => match Sx.text x with
    | none => none
    | some t => (Sx.texts false l).map fun r => (if f then [] else [32]) ++ t ++ r
end
theorem Sx.text_list {x : Sx} (h : x.list = true) : x.text = (Sx.texts true x.L).map fun t => 40 :: (t ++ [41]) := by
  cases x
  subst h
  rw [Sx.text, if_pos rfl]
theorem Sx.text_atom {x : Sx} (h : x.list = false) : x.text = if !decide (x.k = 1) && !decide (x.k = 2) && x.L.isEmpty && Lx.okShow x.k x.T.data.toList then some (Lx.show x.k x.T.data.toList) else none := by
  cases x
  subst h
  rw [Sx.text, if_neg (by decide)]
mutual
def Sx.wide : Sx → Nat
  | ⟨_, _, T, _, _, L⟩ => max T.size (Sx.wides L)
def Sx.wides : List Sx → Nat
  | [] => 0
  | x :: l => max (Sx.wide x) (Sx.wides l)
end
theorem Sx.wide_eq (x : Sx) : x.wide = max x.T.size (Sx.wides x.L) := by cases x; rw [Sx.wide]
theorem Sx.wide_mem {l : List Sx} {x : Sx} (h : x ∈ l) : x.wide ≤ Sx.wides l := by
  induction l with
  | nil => cases h
  | cons y l ih =>
    rw [Sx.wides]
    rcases List.mem_cons.1 h with rfl | h
    · omega
    · have := ih h
      omega
theorem Lx.ok_len {k : Int} {s : List UInt8} (h : Lx.okShow k s = true) : (Lx.show k s).length ≤ 16384 := (Lx.okShow_whole h).2
theorem Sx.text_len : ∀ (n : Nat) (x : Sx) (t : List UInt8), x.size ≤ n → x.text = some t → t.length + 1 ≤ 16388 * x.size := by
  intro n
  induction n with
  | zero =>
    intro x t h
    exact absurd x.size_pos (by omega)
  | succ n ih =>
    intro x t h ht
    cases hx : x.list
    · rw [Sx.text_atom hx] at ht
      split at ht
      · rename_i hc
        injection ht with ht
        rw [Bool.and_eq_true] at hc
        have h1 := Lx.ok_len hc.2
        have h2 := x.size_pos
        rw [← ht]
        omega
      · cases ht
    · rw [Sx.text_list hx] at ht
      obtain ⟨r, hr, rfl⟩ := Option.map_eq_some_iff.1 ht
      have hl : ∀ (l : List Sx) (f : Bool) (r : List UInt8), (∀ y ∈ l, y.size ≤ n) → Sx.texts f l = some r → r.length ≤ 16388 * Sx.sizes l := by
        intro l
        induction l with
        | nil =>
          intro f r _ h
          rw [Sx.texts] at h
          injection h with h
          rw [← h]
          simp
        | cons y l ihl =>
          intro f r hy h
          rw [Sx.texts] at h
          cases e : y.text with
          | none => rw [e] at h; cases h
          | some ty =>
            rw [e] at h
            simp only at h
            obtain ⟨r', hr', rfl⟩ := Option.map_eq_some_iff.1 h
            have h1 := ih y ty (hy y List.mem_cons_self) e
            have h2 := ihl false r' (fun z hz => hy z (List.mem_cons_of_mem _ hz)) hr'
            rw [Sx.sizes]
            have hp := y.size_pos
            split <;> simp <;> omega
      have hz : ∀ y ∈ x.L, y.size ≤ n := fun y hy => by
        have := Sx.size_lt hy
        omega
      have h3 := hl x.L true r hz hr
      rw [x.size_eq]
      simp
      omega
theorem Sx.texts_cons (f : Bool) (x : Sx) (l : List Sx) : Sx.texts f (x :: l) = match Sx.text x with
    | none => none
    | some t => (Sx.texts false l).map fun r => (if f then [] else [32]) ++ t ++ r := by rw [Sx.texts]
end Go.Proofs.YtfjpcjebecgglaaGreatDoor
