/- What the proofs of this claim use, text by text. -/
import Derived.Test.YtcgaeknikfaghaaGreatDoorQC01
import Derived.BigQuiet
import Derived.OrdersIn
import Derived.RangeFuncCalls
import Derived.StillTail
import Derived.TacticsIn
import Derived.WalkKit
import Derived.Test.YtcgaeknikfaghaaGreatDoorRows
import Derived.WalkSpells
import Derived.WalkLawsBesides
import Derived.KernelRfl
import Derived.Deep.QuietTactic
import Derived.StillTailTactics
set_option linter.unusedSimpArgs false
set_option linter.unusedVariables false
set_option maxRecDepth 100000
set_option maxHeartbeats 25600000
namespace Go.Proofs.YtcgaeknikfaghaaGreatDoor
open Go.RowKit
section
variable {P : Program} {C : World → Prop}
theorem calm_region {id : Nat} {Q : Exit → Act → World → Prop} {a : Act} {w : World} {l : List Oper} (hm : P.follows .mixedOrders = true) (hB : Region.lexB .any l.toArray = true) (hC : C w.drew)
    (h : wpQuiet P l.toArray C (fun a' => ∀ w', C w' → Q .normal a' w') l a) : (Code.region id l.toArray true).wp P Q a w :=
  wp_region_quiet hm hB hC (by simpa using h)
variable {ops : Array Oper} {md : Region.Mode}
end
structure Lat (w : World) : Type where
  at_ : World
  ok : Below w.heap.size w at_
instance latIn (w : World) : Nonempty (Lat w) := ⟨⟨w, Below.refl _ _⟩⟩
abbrev Latr (w : World) : World → Prop := fun w' => ∃ s : Lat w, w' = s.at_
theorem latr_drew {w w2 : World} (h : Below w.heap.size w w2) : Latr w w2.drew := ⟨⟨w2.drew, h.trans (show Below w.heap.size w2 w2.drew from ⟨rfl, rfl, rfl, Nat.le_refl _, fun _ _ => rfl⟩)⟩, rfl⟩
theorem calm_call {P : Program} {f : FuncId} {args : Array Value} {w : World} {s : Lat w} {v : Value} (h : Calls P f args s.at_ fun e w' => e = .returned v ∧ Below s.at_.heap.size s.at_ w') : Calls P f args s.at_ fun e w'' => e = .returned v ∧ ∃ s' : Lat w, w'' = s'.at_ :=
  h.mono fun _ w'' ⟨he, hb⟩ => ⟨he, ⟨w'', s.ok.trans (hb.mono s.ok.size)⟩, rfl⟩
end Go.Proofs.YtcgaeknikfaghaaGreatDoor
namespace Go.Proofs.YtcgaeknikfaghaaGreatDoor
structure Sx where
  list : Bool
  k : Int
  T : ByteArray
  ta : Int
  at_ : Int
  L : List Sx
def Sx.zero : Sx := ⟨false, 0, ByteArray.empty, 0, 0, []⟩
def Sx.dep : Nat → Sx → Nat
  | 0, _ => 0
  | m + 1, x => if x.list then (x.L.map (Sx.dep m)).foldl max 0 + 1 else 0
mutual
def Sx.size : Sx → Nat
  | ⟨_, _, _, _, _, L⟩ => Sx.sizes L + 1
def Sx.sizes : List Sx → Nat
  | [] => 0
  | x :: l => Sx.size x + Sx.sizes l
end
theorem Sx.sizes_app : ∀ l m : List Sx, Sx.sizes (l ++ m) = Sx.sizes l + Sx.sizes m
  | [], m => by simp [Sx.sizes]
  | x :: l, m => by rw [List.cons_append, Sx.sizes, Sx.sizes, Sx.sizes_app l m]; omega
theorem Sx.size_eq (x : Sx) : x.size = Sx.sizes x.L + 1 := by cases x; rw [Sx.size]
theorem Sx.sizes_get {l : List Sx} {i : Nat} {x : Sx} (h : l[i]? = some x) : x.size + Sx.sizes (l.drop (i + 1)) = Sx.sizes (l.drop i) := by
  obtain ⟨hi, rfl⟩ := List.getElem?_eq_some_iff.1 h
  rw [List.drop_eq_getElem_cons hi, Sx.sizes]
theorem Sx.sizes_le {l : List Sx} {x : Sx} (h : x ∈ l) : x.size ≤ Sx.sizes l := by
  obtain ⟨a, b, rfl⟩ := List.append_of_mem h
  rw [Sx.sizes_app, Sx.sizes]
  omega
theorem Sx.size_lt {x y : Sx} (h : y ∈ x.L) : y.size < x.size := by
  have := Sx.sizes_le h
  rw [x.size_eq]
  omega
theorem Sx.size_pos (x : Sx) : 0 < x.size := by rw [x.size_eq]; omega
theorem Sx.sizes_length (l : List Sx) : l.length ≤ Sx.sizes l := by
  induction l with
  | nil => simp
  | cons x l ih => have := x.size_pos; rw [Sx.sizes, List.length_cons]; omega
theorem foldl_max (l : List Nat) : ∀ a : Nat, l.foldl max a = max a (l.foldl max 0) := by
  induction l with
  | nil => intro a; simp
  | cons x l ih => intro a; rw [List.foldl_cons, List.foldl_cons, ih, ih (max 0 x)]; omega
theorem Sx.dep_le : ∀ (m : Nat) (x : Sx), Sx.dep m x ≤ m
  | 0, x => Nat.le_refl _
  | m + 1, x => by
    rw [Sx.dep]
    split
    · have : ∀ (l : List Sx), (l.map (Sx.dep m)).foldl max 0 ≤ m := by
        intro l
        induction l with
        | nil => simp
        | cons y l ih =>
          rw [List.map_cons, List.foldl_cons, foldl_max]
          have := Sx.dep_le m y
          omega
      exact Nat.succ_le_succ (this _)
    · omega
end Go.Proofs.YtcgaeknikfaghaaGreatDoor
namespace Go.Proofs.YtcgaeknikfaghaaGreatDoor
def Lx.blank (c : UInt8) : Bool := decide (c.toNat = 9) || decide (c.toNat = 10) || decide (c.toNat = 13) || decide (c.toNat = 32)
def Lx.digit (c : UInt8) : Bool := decide (48 ≤ c.toNat) && decide (c.toNat ≤ 57)
def Lx.marks : List Nat := [126, 33, 64, 36, 37, 94, 38, 42, 95, 45, 43, 61, 60, 62, 46, 63, 47]
def Lx.name (c : UInt8) : Bool := (decide (97 ≤ c.toNat) && decide (c.toNat ≤ 122)) || (decide (65 ≤ c.toNat) && decide (c.toNat ≤ 90)) || Lx.digit c || Lx.marks.contains c.toNat
def Lx.good (c : UInt8) : Bool := Lx.blank c || (decide (33 ≤ c.toNat) && decide (c.toNat ≤ 126))
def Lx.hex (c : UInt8) : Bool := Lx.digit c || (decide (97 ≤ c.toNat) && decide (c.toNat ≤ 102)) || (decide (65 ≤ c.toNat) && decide (c.toNat ≤ 70))
def Lx.bit (c : UInt8) : Bool := decide (c.toNat = 48) || decide (c.toNat = 49)
def Lx.skip : Bool → List UInt8 → List UInt8
  | _, [] => []
  | r, c :: t => if Lx.good c then
      let r' := (r && !decide (c.toNat = 10)) || decide (c.toNat = 59)
      if !r' && !Lx.blank c then c :: t else Lx.skip r' t
    else c :: t
def Lx.quo (q : UInt8) : List UInt8 → List UInt8 × Int × List UInt8
  | [] => ([], 51, [])
  | [c] => if Lx.good c then (if c = q then ([], 0, []) else ([c], 51, [])) else ([], 50, [c])
  | c :: d :: t => if Lx.good c then
      (if c = q then
        (if q.toNat = 34 ∧ d = q then let x := Lx.quo q t; (q :: x.1, x.2) else ([], 0, d :: t))
      else let x := Lx.quo q (d :: t); (c :: x.1, x.2))
    else ([], 50, c :: d :: t)
def Lx.digits (x : List UInt8) : Bool := !x.isEmpty && x.all Lx.digit
def Lx.number (x : List UInt8) : Int :=
  let w := x.takeWhile fun c => !decide (c.toNat = 46)
  if !Lx.digits w || (decide (1 < w.length) && decide ((x.headD 0).toNat = 48)) then 0
  else match x.dropWhile fun c => !decide (c.toNat = 46) with
    | [] => 4
    | _ :: p => if Lx.digits p then 5 else 0
def Lx.other : List UInt8 → Bool
  | _ :: d :: y => (decide (d.toNat = 120) || decide (d.toNat = 98)) && !y.isEmpty && y.all fun c => Lx.hex c && (!decide (d.toNat = 98) || Lx.bit c)
  | _ => false
def Lx.one (l : List UInt8) : Int × List UInt8 × Int × List UInt8 :=
  match l with
  | [] => (0, [], 50, [])
  | c :: t =>
    if c.toNat = 40 then (1, [c], 0, t)
    else if c.toNat = 41 then (2, [c], 0, t)
    else if c.toNat = 124 ∨ c.toNat = 34 then
      let x := Lx.quo c t
      if x.2.1 = 0 then
        (if c.toNat = 34 then (6, x.1, 0, x.2.2)
        else if x.1.any (fun d => decide (d.toNat = 92)) then (0, [], 8, l) else (3, x.1, 0, x.2.2))
      else if x.2.1 = 50 then (0, [], 50, x.2.2) else (0, [], 51, l)
    else if Lx.digit c then
      (if Lx.number (c :: t.takeWhile Lx.name) = 0 then (0, [], 8, l) else (Lx.number (c :: t.takeWhile Lx.name), c :: t.takeWhile Lx.name, 0, t.dropWhile Lx.name))
    else if Lx.name c then (3, c :: t.takeWhile Lx.name, 0, t.dropWhile Lx.name)
    else if c.toNat = 58 then (if (t.takeWhile Lx.name).isEmpty then (0, [], 8, l) else (7, c :: t.takeWhile Lx.name, 0, t.dropWhile Lx.name))
    else if c.toNat = 35 then (if Lx.other (c :: t.takeWhile Lx.name) then (8, c :: t.takeWhile Lx.name, 0, t.dropWhile Lx.name) else (0, [], 8, l))
    else (0, [], 50, l)
abbrev Lx.Tok := Int × List UInt8 × Nat
def Lx.lex : Nat → List UInt8 → List Lx.Tok × Int × List UInt8
  | k, l => match Lx.skip false l with
    | [] => ([], 0, [])
    | c :: t => if Lx.good c then
        match k with
        | 0 => ([], 2, c :: t)
        | k + 1 =>
          let x := Lx.one (c :: t)
          if x.2.2.1 = 0 then
            let y := Lx.lex k x.2.2.2
            ((x.1, x.2.1, (c :: t).length) :: y.1, y.2)
          else ([], x.2.2.1, x.2.2.2)
      else ([], 50, c :: t)
theorem Lx.skip_cons (r : Bool) (c : UInt8) (t : List UInt8) : Lx.skip r (c :: t) = if Lx.good c then (if !((r && !decide (c.toNat = 10)) || decide (c.toNat = 59)) && !Lx.blank c then c :: t else Lx.skip ((r && !decide (c.toNat = 10)) || decide (c.toNat = 59)) t) else c :: t := rfl
theorem Lx.skip_len : ∀ (l : List UInt8) (r : Bool), (Lx.skip r l).length ≤ l.length
  | [], r => Nat.le_refl _
  | d :: l, r => by
    rw [Lx.skip_cons]
    split
    · split
      · exact Nat.le_refl _
      · exact Nat.le_succ_of_le (Lx.skip_len l _)
    · exact Nat.le_refl _
theorem Lx.quo_err (q : UInt8) : ∀ l : List UInt8, (Lx.quo q l).2.1 = 0 ∨ (Lx.quo q l).2.1 = 50 ∨ (Lx.quo q l).2.1 = 51
  | [] => .inr (.inr rfl)
  | [c] => by
    unfold Lx.quo
    split
    · split
      · exact .inl rfl
      · exact .inr (.inr rfl)
    · exact .inr (.inl rfl)
  | c :: d :: t => by
    unfold Lx.quo
    split
    · split
      · split
        · exact Lx.quo_err q t
        · exact .inl rfl
      · exact Lx.quo_err q (d :: t)
    · exact .inr (.inl rfl)
theorem Lx.quo_len (q : UInt8) : ∀ l : List UInt8, (Lx.quo q l).2.2.length ≤ l.length
  | [] => Nat.le_refl _
  | [c] => by
    unfold Lx.quo
    split
    · split <;> simp
    · simp
  | c :: d :: t => by
    unfold Lx.quo
    split
    · split
      · split
        · exact Nat.le_succ_of_le (Nat.le_succ_of_le (Lx.quo_len q t))
        · simp
      · exact Nat.le_succ_of_le (Lx.quo_len q (d :: t))
    · simp
end Go.Proofs.YtcgaeknikfaghaaGreatDoor
namespace Go.Proofs.YtcgaeknikfaghaaGreatDoor
theorem Lx.drop_len (p : UInt8 → Bool) : ∀ l : List UInt8, (l.dropWhile p).length ≤ l.length
  | [] => Nat.le_refl _
  | c :: l => by
    rw [List.dropWhile_cons]
    split
    · exact Nat.le_succ_of_le (Lx.drop_len p l)
    · exact Nat.le_refl _
theorem Lx.one_len (c : UInt8) (t : List UInt8) (h : (Lx.one (c :: t)).2.2.1 = 0) : (Lx.one (c :: t)).2.2.2.length ≤ t.length := by
  have hd := Lx.drop_len Lx.name t
  have hq := Lx.quo_len c t
  unfold Lx.one at h ⊢
  dsimp only at h ⊢
  split <;> rename_i h1
  · exact Nat.le_refl _
  rw [if_neg h1] at h
  split <;> rename_i h2
  · exact Nat.le_refl _
  rw [if_neg h2] at h
  split <;> rename_i h3
  · rw [if_pos h3] at h
    split <;> rename_i h4
    · rw [if_pos h4] at h
      split <;> rename_i h5
      · exact hq
      · rw [if_neg h5] at h
        split <;> rename_i h6
        · rw [if_pos h6] at h; cases h
        · exact hq
    · rw [if_neg h4] at h
      split at h <;> cases h
  rw [if_neg h3] at h
  split <;> rename_i h4
  · rw [if_pos h4] at h
    split <;> rename_i h5
    · rw [if_pos h5] at h; cases h
    · exact hd
  rw [if_neg h4] at h
  split <;> rename_i h5
  · exact hd
  rw [if_neg h5] at h
  split <;> rename_i h6
  · rw [if_pos h6] at h
    split <;> rename_i h7
    · rw [if_pos h7] at h; cases h
    · exact hd
  rw [if_neg h6] at h
  split <;> rename_i h7
  · rw [if_pos h7] at h
    split <;> rename_i h8
    · exact hd
    · rw [if_neg h8] at h; cases h
  rw [if_neg h7] at h
  cases h
section
variable {k : Nat} {l t : List UInt8} {c : UInt8}
theorem Lx.lex_nil (k : Nat) (h : Lx.skip false l = []) : Lx.lex k l = ([], 0, []) := by
  unfold Lx.lex
  rw [h]
theorem Lx.lex_bad (k : Nat) (h : Lx.skip false l = c :: t) (hg : Lx.good c = false) : Lx.lex k l = ([], 50, c :: t) := by
  unfold Lx.lex
  rw [h]
  simp [hg]
theorem Lx.lex_zero (h : Lx.skip false l = c :: t) (hg : Lx.good c = true) : Lx.lex 0 l = ([], 2, c :: t) := by
  unfold Lx.lex
  rw [h]
  simp [hg]
theorem Lx.lex_err (k : Nat) (h : Lx.skip false l = c :: t) (hg : Lx.good c = true) (he : (Lx.one (c :: t)).2.2.1 ≠ 0) : Lx.lex (k + 1) l = ([], (Lx.one (c :: t)).2.2.1, (Lx.one (c :: t)).2.2.2) := by
  rw [Lx.lex, h]
  simp [hg, he]
theorem Lx.lex_ok (k : Nat) (h : Lx.skip false l = c :: t) (hg : Lx.good c = true) (he : (Lx.one (c :: t)).2.2.1 = 0) :
    Lx.lex (k + 1) l = (((Lx.one (c :: t)).1, (Lx.one (c :: t)).2.1, (c :: t).length) :: (Lx.lex k (Lx.one (c :: t)).2.2.2).1, (Lx.lex k (Lx.one (c :: t)).2.2.2).2) := by
  rw [Lx.lex, h]
  simp [hg, he]
end
theorem Lx.lex_fuel : ∀ (n k k' : Nat) (l : List UInt8), l.length ≤ n → n ≤ k → n ≤ k' → Lx.lex k l = Lx.lex k' l
  | n, k, k', l, hn, hk, hk' => by
    cases h : Lx.skip false l with
    | nil => rw [Lx.lex_nil k h, Lx.lex_nil k' h]
    | cons c t =>
      have hlen := Lx.skip_len l false
      rw [h, List.length_cons] at hlen
      cases hg : Lx.good c with
      | false => rw [Lx.lex_bad k h hg, Lx.lex_bad k' h hg]
      | true =>
        match n, k, k' with
        | 0, _, _ => omega
        | n + 1, k + 1, k' + 1 =>
          by_cases he : (Lx.one (c :: t)).2.2.1 = 0
          · have hr := Lx.one_len c t he
            rw [Lx.lex_ok k h hg he, Lx.lex_ok k' h hg he, Lx.lex_fuel n k k' (Lx.one (c :: t)).2.2.2 (by omega) (by omega) (by omega)]
          · rw [Lx.lex_err k h hg he, Lx.lex_err k' h hg he]
end Go.Proofs.YtcgaeknikfaghaaGreatDoor
namespace Go.Proofs.YtcgaeknikfaghaaGreatDoor
theorem Lx.skip_end : ∀ (l : List UInt8) (r : Bool), ∃ p, l = p ++ Lx.skip r l
  | [], r => ⟨[], rfl⟩
  | d :: l, r => by
    rw [Lx.skip_cons]
    split
    · split
      · exact ⟨[], rfl⟩
      · obtain ⟨p, hp⟩ := Lx.skip_end l ((r && !decide (d.toNat = 10)) || decide (d.toNat = 59))
        exact ⟨d :: p, by rw [List.cons_append, ← hp]⟩
    · exact ⟨[], rfl⟩
theorem Lx.digit_name {c : UInt8} (h : Lx.digit c = true) : Lx.name c = true := by simp [Lx.name, h]
theorem Lx.take_all (p : UInt8 → Bool) : ∀ l : List UInt8, (l.takeWhile p).all p = true
  | [] => rfl
  | c :: l => by
    rw [List.takeWhile_cons]
    split
    · rename_i h
      rw [List.all_cons, h, Lx.take_all p l]
      rfl
    · rfl
theorem Lx.take_drop (p : UInt8 → Bool) : ∀ l : List UInt8, l.takeWhile p ++ l.dropWhile p = l
  | [] => rfl
  | c :: l => by
    rw [List.takeWhile_cons, List.dropWhile_cons]
    split
    · rw [List.cons_append, Lx.take_drop p l]
    · rfl
theorem Lx.byte_eq {c : UInt8} {n : Nat} (h : c.toNat = n) : c = UInt8.ofNat n := by rw [← h]; simp
end Go.Proofs.YtcgaeknikfaghaaGreatDoor
namespace Go.Proofs.YtcgaeknikfaghaaGreatDoor
open Go.RowKit
theorem ret_b {a b : Bool} (h : a = b) : Ending.returned (.bool a) = .returned (.bool b) := by rw [h]
theorem rdigit (c : UInt8) (w : World) : Calls Tryz.prog 155 #[.int .u8 (c.toNat : Nat)] w fun e w' => e = .returned (.bool (Lx.digit c)) ∧ w' = w := by
  go_enter Tryz.func155, Tryz.ntmps155
  go_wp2
  all_goals
    go_ret
    exact ⟨ret_b (by rw [Bool.eq_iff_iff]; simp [Lx.digit] <;> omega), rfl⟩
theorem rblank (c : UInt8) (w : World) : Calls Tryz.prog 152 #[.int .u8 (c.toNat : Nat)] w fun e w' => e = .returned (.bool (Lx.blank c)) ∧ w' = w := by
  go_enter Tryz.func152, Tryz.ntmps152
  go_wp2
  all_goals
    go_ret
    exact ⟨ret_b (by rw [Bool.eq_iff_iff]; simp [Lx.blank] <;> omega), rfl⟩
theorem rgood (c : UInt8) (w : World) : Calls Tryz.prog 127 #[.int .u8 (c.toNat : Nat)] w fun e w' => e = .returned (.bool (Lx.good c)) ∧ w' = w := by
  have HB := Lib.hid (rblank c w)
  obtain ⟨bl, hbl⟩ : ∃ b, Hid (Lx.blank c = b) := ⟨_, rfl⟩
  rw [hbl.out] at HB
  cases bl
  all_goals
    go_enter Tryz.func127, Tryz.ntmps127
    go_wp2_with (go_at_call 152; refine HB.out.mono ?_; rintro e w1 ⟨rfl, rfl⟩)
  all_goals
    go_ret
    exact ⟨ret_b (by rw [Lx.good, hbl.out, Bool.eq_iff_iff]; simp <;> omega), rfl⟩
theorem marks_at {i : Nat} (h : i < 17) : ((⟨#[126, 33, 64, 36, 37, 94, 38, 42, 95, 45, 43, 61, 60, 62, 46, 63, 47]⟩ : ByteArray)[i]'h).toNat = Lx.marks[i]'h := by
  have : ∀ i : Fin 17, ((⟨#[126, 33, 64, 36, 37, 94, 38, 42, 95, 45, 43, 61, 60, 62, 46, 63, 47]⟩ : ByteArray)[i.1]'i.2).toNat = Lx.marks[i.1]'i.2 := by decide
  exact this ⟨i, h⟩
theorem rname (c : UInt8) (w : World) : Calls Tryz.prog 157 #[.int .u8 (c.toNat : Nat)] w fun e w' => e = .returned (.bool (Lx.name c)) ∧ w' = w := by
  have HB := Lib.hid (rdigit c w)
  by_cases h1 : 97 ≤ c.toNat ∧ c.toNat ≤ 122
  · have a1 : (97 : Int) ≤ c.toNat := by omega
    have a2 : (c.toNat : Int) ≤ 122 := by omega
    have e : Lx.name c = true := by simp [Lx.name, h1]
    rw [e]
    go_enter Tryz.func157, Tryz.ntmps157
    go_wp2
    go_ret
    exact ⟨rfl, rfl⟩
  by_cases h2 : 65 ≤ c.toNat ∧ c.toNat ≤ 90
  · have a1 : ¬ (97 : Int) ≤ c.toNat := by omega
    have a2 : (65 : Int) ≤ c.toNat := by omega
    have a3 : (c.toNat : Int) ≤ 90 := by omega
    have e : Lx.name c = true := by simp [Lx.name, h2]
    rw [e]
    go_enter Tryz.func157, Tryz.ntmps157
    go_wp2
    go_ret
    exact ⟨rfl, rfl⟩
  by_cases h3 : Lx.digit c = true
  · have h3' : c.toNat ≤ 57 := by simp [Lx.digit] at h3; omega
    have a1 : ¬ (97 : Int) ≤ c.toNat := by omega
    have a2 : ¬ (65 : Int) ≤ c.toNat := by omega
    have e : Lx.name c = true := Lx.digit_name h3
    rw [e]
    rw [h3] at HB
    go_enter Tryz.func157, Tryz.ntmps157
    go_wp2_with (go_at_call 155; refine HB.out.mono ?_; rintro e w1 ⟨rfl, rfl⟩)
    go_ret
    exact ⟨rfl, rfl⟩
  have HN : Hid (Lx.name c = Lx.marks.contains c.toNat) := by
    show Lx.name c = Lx.marks.contains c.toNat
    have e1 : (decide (97 ≤ c.toNat) && decide (c.toNat ≤ 122)) = false := by rw [Bool.eq_false_iff]; simpa using h1
    have e2 : (decide (65 ≤ c.toNat) && decide (c.toNat ≤ 90)) = false := by rw [Bool.eq_false_iff]; simpa using h2
    rw [Lx.name, e1, e2, Bool.eq_false_iff.2 h3]
    simp
  have HM : Hid (∀ (i : Nat) (h : i < 17), ((⟨#[126, 33, 64, 36, 37, 94, 38, 42, 95, 45, 43, 61, 60, 62, 46, 63, 47]⟩ : ByteArray)[i]'h).toNat = Lx.marks[i]'h) := fun _ h => marks_at h
  rw [Bool.eq_false_iff.2 h3] at HB
  rw [HN.out]
  obtain ⟨k, HK⟩ : ∃ k, Hid (k = Lx.marks.contains c.toNat) := ⟨_, rfl⟩
  rw [← HK.out]
  have hw : (122 : Int) < c.toNat ∨ (90 : Int) < c.toNat ∧ (c.toNat : Int) < 97 ∨ (c.toNat : Int) < 65 := by omega
  rcases hw with a | ⟨a, a'⟩ | a
  all_goals
    first | have b1 : (97 : Int) ≤ c.toNat := by omega | have b1 : ¬ (97 : Int) ≤ c.toNat := by omega
    first | have b2 : (65 : Int) ≤ c.toNat := by omega | have b2 : ¬ (65 : Int) ≤ c.toNat := by omega
    first | have b3 : ¬ (c.toNat : Int) ≤ 90 := by omega | skip
    first | have b4 : ¬ (c.toNat : Int) ≤ 122 := by omega | skip
    clear h1 h2 h3 HN
    go_enter Tryz.func157, Tryz.ntmps157
    go_wp2_with (go_at_call 155; refine HB.out.mono ?_; rintro e w1 ⟨rfl, rfl⟩)
    generalize hS : (⟨#[126, 33, 64, 36, 37, 94, 38, 42, 95, 45, 43, 61, 60, 62, 46, 63, 47]⟩ : ByteArray) = S
    have hsz : S.size = 17 := by rw [← hS]; rfl
    have HS : Hid (∀ i (h : i < S.size) (h' : i < 17), S[i].toNat = Lx.marks[i]'h') := by
      subst hS
      exact fun i h h' => HM.out i h'
    clear hS HM
    go_loopw [4] (fun iv wr => ∃ i : Nat, i ≤ 17 ∧ iv = .int .i64 (i : Nat) ∧ wr = w1 ∧ Hid (k = (Lx.marks.drop i).contains c.toNat)) (fun iv _ => 17 - (intOf iv).toNat)
    case atStart => exact ⟨0, by omega, rfl, rfl, HK⟩
    case round =>
      obtain ⟨i, hi, rfl, rfl, HI⟩ := hrel
      by_cases hlt : i < 17
      · have HV : Hid (S[i].toNat = Lx.marks[i]) := HS.out i (by omega) hlt
        have HD : Hid ((Lx.marks.drop i).contains c.toNat = ((Lx.marks[i] == c.toNat) || (Lx.marks.drop (i + 1)).contains c.toNat)) := by
          show _ = _
          rw [List.drop_eq_getElem_cons hlt, List.contains_cons, Bool.beq_comm]
        by_cases he : S[i].toNat = c.toNat
        · have hb : ((S[i].toNat : Int) == (c.toNat : Int)) = true := beq_iff_eq.2 (by omega)
          have hk : k = true := by
            rw [HI.out, HD.out, ← HV.out, he]
            simp
          clear HI HD HV HS he HK
          subst hk
          go_wp2
          go_ret
          exact ⟨rfl, rfl⟩
        · have hb : ((S[i].toNat : Int) == (c.toNat : Int)) = false := by
            rw [beq_eq_false_iff_ne]
            omega
          have HI2 : Hid (k = (Lx.marks.drop (i + 1)).contains c.toNat) := by
            show _ = _
            rw [HI.out, HD.out, ← HV.out, beq_eq_false_iff_ne.2 he, Bool.false_or]
          clear HI HD HV HS he HK
          go_wp2
          go_roundw
          case rel => exact ⟨i + 1, by omega, by go_num, by trivial, HI2⟩
          case measure => simp [intOf]; omega
      · obtain rfl : i = 17 := by omega
        have hk : k = false := HI.out
        subst hk
        clear HI HK HS
        go_wp2
        go_ret
        exact ⟨rfl, rfl⟩
end Go.Proofs.YtcgaeknikfaghaaGreatDoor
namespace Go.Proofs.YtcgaeknikfaghaaGreatDoor
open Go.RowKit
abbrev sval (x : Sx) (A : Option Addr) (c : Nat) : Value := .agg #[.bool x.list, .int .i64 x.k, .string x.T, .int .i64 x.ta, .int .i64 x.at_, .slice A x.L.length c]
abbrev scells (x : Sx) (A : Option Addr) (c : Nat) : List Value := [.bool x.list, .int .i64 x.k, .string x.T, .int .i64 x.ta, .int .i64 x.at_, .slice A x.L.length c]
structure SAt (w : World) (b off : Nat) (x : Sx) (A : Option Addr) (c : Nat) : Prop where
  lt : b < w.heap.size
  c0 : w.cell? ⟨b, off, none⟩ = some (.bool x.list)
  c1 : w.cell? ⟨b, off + 1, none⟩ = some (.int .i64 x.k)
  c2 : w.cell? ⟨b, off + 2, none⟩ = some (.string x.T)
  c3 : w.cell? ⟨b, off + 3, none⟩ = some (.int .i64 x.ta)
  c4 : w.cell? ⟨b, off + 4, none⟩ = some (.int .i64 x.at_)
  c5 : w.cell? ⟨b, off + 5, none⟩ = some (.slice A x.L.length c)
theorem SAt.kept {w w' : World} {b off : Nat} {x : Sx} {A : Option Addr} {c : Nat} (h : SAt w b off x A c) (hs : w.heap.size ≤ w'.heap.size) (hc : ∀ j, j < 6 → w'.cell? ⟨b, off + j, none⟩ = w.cell? ⟨b, off + j, none⟩) : SAt w' b off x A c :=
  ⟨Nat.lt_of_lt_of_le h.lt hs, (hc 0 (by decide)).trans h.c0, (hc 1 (by decide)).trans h.c1, (hc 2 (by decide)).trans h.c2, (hc 3 (by decide)).trans h.c3, (hc 4 (by decide)).trans h.c4, (hc 5 (by decide)).trans h.c5⟩
theorem SAt.below {w w' : World} {b off : Nat} {x : Sx} {A : Option Addr} {c : Nat} (h : SAt w b off x A c) (hb : Below w.heap.size w w') : SAt w' b off x A c :=
  h.kept hb.size fun _ _ => hb.cell h.lt
inductive TreeL (w : World) (G : Nat → Nat → Prop) : Option Addr → List Sx → Prop
  | nil (A : Option Addr) : TreeL w G A []
  | cons (b off : Nat) (x : Sx) (l : List Sx) (A : Option Addr) (c : Nat) : SAt w b off x A c → G b off → x.L.length ≤ c ∧ c ≤ maxLen → TreeL w G A x.L → TreeL w G (some ⟨b, off + 6, none⟩) l → TreeL w G (some ⟨b, off, none⟩) (x :: l)
theorem TreeL.imp {w w' : World} {G G' : Nat → Nat → Prop} {A : Option Addr} {l : List Sx} (h : TreeL w G A l) (hs : w.heap.size ≤ w'.heap.size) (hc : ∀ b off, b < w.heap.size → G b off → ∀ j, j < 6 → w'.cell? ⟨b, off + j, none⟩ = w.cell? ⟨b, off + j, none⟩) (hG : ∀ b off, b < w.heap.size → G b off → G' b off) : TreeL w' G' A l := by
  induction h with
  | nil A => exact .nil A
  | cons b off x l A c h1 h2 h3 _ _ i1 i2 => exact .cons b off x l A c (h1.kept hs (hc b off h1.lt h2)) (hG b off h1.lt h2) h3 i1 i2
theorem TreeL.kept {w w' : World} {G : Nat → Nat → Prop} {A : Option Addr} {l : List Sx} (h : TreeL w G A l) (hb : Below w.heap.size w w') : TreeL w' G A l :=
  h.imp hb.size (fun b off hlt _ j _ => hb.cell (p := ⟨b, off + j, none⟩) hlt) fun _ _ _ h => h
theorem TreeL.mono {w : World} {G G' : Nat → Nat → Prop} {A : Option Addr} {l : List Sx} (h : TreeL w G A l) (hG : ∀ b off, b < w.heap.size → G b off → G' b off) : TreeL w G' A l := h.imp (Nat.le_refl _) (fun _ _ _ _ _ _ => rfl) hG
theorem TreeL.get {w : World} {G : Nat → Nat → Prop} {A : Option Addr} {l : List Sx} (h : TreeL w G A l) : ∀ {i : Nat}, i < l.length → ∃ b off x A' c', A = some ⟨b, off, none⟩ ∧ l[i]? = some x ∧ SAt w b (off + i * 6) x A' c' ∧ G b (off + i * 6) ∧ (x.L.length ≤ c' ∧ c' ≤ maxLen) ∧ TreeL w G A' x.L := by
  induction h with
  | nil A => intro i hi; simp at hi
  | cons b off x l A c h1 h2 h3 h4 _ _ i2 =>
    intro i hi
    cases i with
    | zero => exact ⟨b, off, x, A, c, rfl, rfl, by simpa using h1, by simpa using h2, h3, h4⟩
    | succ i =>
      obtain ⟨b', off', y, A', c', e, hy, q1, q2, q3, q4⟩ := i2 (i := i) (by simpa using hi)
      injection e with e
      injection e with e1 e2 _
      subst e1
      subst e2
      exact ⟨b, off, y, A', c', rfl, by simpa using hy, by rw [show off + (i + 1) * 6 = off + 6 + i * 6 by omega]; exact q1, by rw [show off + (i + 1) * 6 = off + 6 + i * 6 by omega]; exact q2, q3, q4⟩
structure STree (w : World) (G : Nat → Nat → Prop) (x : Sx) (A : Option Addr) (c : Nat) : Prop where
  le : x.L.length ≤ c ∧ c ≤ maxLen
  tree : TreeL w G A x.L
theorem STree.kept {w w' : World} {G : Nat → Nat → Prop} {x : Sx} {A : Option Addr} {c : Nat} (h : STree w G x A c) (hb : Below w.heap.size w w') : STree w' G x A c := ⟨h.le, h.tree.kept hb⟩
theorem STree.get {w : World} {G : Nat → Nat → Prop} {x : Sx} {A : Option Addr} {c : Nat} (h : STree w G x A c) {i : Nat} (hi : i < x.L.length) :
    ∃ b off y A' c', A = some ⟨b, off, none⟩ ∧ x.L[i]? = some y ∧ x.L.drop i = y :: x.L.drop (i + 1) ∧ y ∈ x.L ∧ SAt w b (off + i * 6) y A' c' ∧ STree w G y A' c' := by
  obtain ⟨b, off, y, A', c', e, hy, q1, q2, q3, q4⟩ := h.tree.get hi
  refine ⟨b, off, y, A', c', e, hy, ?_, List.mem_of_getElem? hy, q1, q3, q4⟩
  obtain ⟨hi', rfl⟩ := List.getElem?_eq_some_iff.1 hy
  exact List.drop_eq_getElem_cons hi'
abbrev sbox (x : Sx) (A : Option Addr) (c : Nat) : Obj := .cells #[.bool x.list, .int .i64 x.k, .string x.T, .int .i64 x.ta, .int .i64 x.at_, .slice A x.L.length c] 27
theorem sbox_at (w : World) (x : Sx) (A : Option Addr) (c : Nat) : SAt (w.alloc (sbox x A c)) w.heap.size 0 x A c := by
  have h := Lies.new w 27 #[.bool x.list, .int .i64 x.k, .string x.T, .int .i64 x.ta, .int .i64 x.at_, .slice A x.L.length c]
  exact ⟨h.lt, h.cell 0, h.cell 1, h.cell 2, h.cell 3, h.cell 4, h.cell 5⟩
theorem rdepth : ∀ (m : Nat) (x : Sx) (A : Option Addr) (c : Nat) (w : World), m ≤ 1000 → STree w (fun _ _ => True) x A c →
    Calls Tryz.prog 62 #[sval x A c, .int .i64 (m : Nat)] w fun e w' => e = .returned (.int .i64 (Sx.dep m x : Nat)) ∧ Below w.heap.size w w' := by
  intro m
  induction m with
  | zero =>
    intro x A c w hm h
    obtain ⟨xl, xk, xt, xta, xa, L⟩ := x
    rw [Sx.dep]
    clear h
    cases xl
    all_goals
      go_enter Tryz.func62, Tryz.ntmps62
      go_wp2
      go_ret
      exact ⟨rfl, (Below.refl _ w).alloc (Nat.le_refl _) _⟩
  | succ m ih =>
    intro x A c w hm h
    by_cases hx : x.list = true
    case neg =>
      obtain ⟨xl, xk, xt, xta, xa, L⟩ := x
      obtain rfl : xl = false := by simpa using hx
      rw [Sx.dep, if_neg (by exact hx)]
      clear h hx
      go_enter Tryz.func62, Tryz.ntmps62
      go_wp2
      go_ret
      exact ⟨rfl, (Below.refl _ w).alloc (Nat.le_refl _) _⟩
    case pos =>
      obtain ⟨X, HX⟩ : ∃ X : Nat, Hid (Sx.dep (m + 1) x = X) := ⟨_, rfl⟩
      rw [HX.out]
      have HD : Hid ((x.L.map (Sx.dep m)).foldl max 0 + 1 = X) := by show _ = _; rw [← HX.out, Sx.dep, if_pos hx]
      have hm0 : ((m : Int) + 1 == 0) = false := beq_eq_false_iff_ne.2 (by omega)
      obtain ⟨n, hn⟩ : ∃ n, x.L.length = n := ⟨_, rfl⟩
      have HN := Lib.hid hn
      have hmm : ((m + 1 : Nat) : Int) = (m : Int) + 1 := by omega
      rw [hmm]
      unfold sval
      have hl : n ≤ maxLen := hn ▸ Nat.le_trans h.le.1 h.le.2
      rw [hn]
      rw [hx]
      unfold maxLen at hl
      clear hn hmm
      go_enter Tryz.func62, Tryz.ntmps62
      go_wp2
      generalize hW0 : w.alloc (Obj.cells #[Value.bool true, Value.int IntKind.i64 x.k, Value.string x.T, Value.int IntKind.i64 x.ta, Value.int IntKind.i64 x.at_, Value.slice A n c] 27) = W0
      have HB0 : Hid (Below w.heap.size w W0 ∧ STree W0 (fun _ _ => True) x A c ∧ SAt W0 w.heap.size 0 x A c) := by
        have e : w.alloc (sbox x A c) = W0 := by rw [← hW0, sbox, HN.out, hx]
        rw [← e]
        exact ⟨(Below.refl _ w).alloc (Nat.le_refl _) _, h.kept ((Below.refl _ w).alloc (Nat.le_refl _) _), sbox_at w x A c⟩
      clear h hW0 HX
      go_loopw [5, 6] (fun av iv wr => ∃ i a : Nat, i ≤ n ∧ a ≤ m ∧ iv = .int .i64 (i : Nat) ∧ av = .int .i64 (a : Nat) ∧ Below W0.heap.size W0 wr ∧ Hid ((((x.L.drop i).map (Sx.dep m)).foldl max a) + 1 = X)) (fun _ iv _ => n - (intOf iv).toNat)
      case atStart => exact ⟨0, 0, Nat.zero_le _, Nat.zero_le _, rfl, rfl, Below.refl _ _, by show _ = _; rw [List.drop_zero]; exact HD.out⟩
      case round =>
        obtain ⟨i, a, hi, ha, rfl, rfl, hb, HI⟩ := hrel
        obtain ⟨hb1, ht1, hbx1⟩ := HB0.out
        have hbx2 := hbx1.below hb
        obtain ⟨z, z0, z1, z2, z3, z4, z5⟩ := hbx2
        rw [HN.out] at z5
        simp only [Nat.zero_add] at z0 z1 z2 z3 z4 z5
        have HB := Lib.hid (hb1.trans (hb.mono hb1.size))
        by_cases hlt : i < n
        · obtain ⟨b, off, y, A', c', rfl, hy, hdr, hym, hs, hty⟩ := (ht1.kept hb).get (i := i) (by rw [HN.out]; exact hlt)
          obtain ⟨y_, y0, y1, y2, y3, y4, y5⟩ := hs
          have hIH := Lib.hid fun W (hW : Below wr.heap.size wr W) => ih y A' c' W (by omega) (hty.kept hW)
          have hd := HI.out
          rw [hdr, List.map_cons, List.foldl_cons] at hd
          obtain ⟨d, hd'⟩ : ∃ d, Sx.dep m y = d := ⟨_, rfl⟩
          have hdm := Sx.dep_le m y
          rw [hd'] at hd hdm
          rw [hd'] at hIH
          have HD2 := Lib.hid hd
          have HBr := Lib.hid hb
          have hlt' : (i : Int) < (n : Int) := by omega
          have hi0 : (0 : Int) ≤ (i : Int) := by omega
          clear hd hd' HI ht1 hbx1 hb1 hty hdr hy hb hym
          go_wp2_with (go_at_call 62; refine (hIH.out _ (Below.refl _ _)).mono ?_; rintro e w2 ⟨rfl, b2⟩)
          · go_roundw
            case rel => exact ⟨i + 1, d, by omega, hdm, by go_num, rfl, HBr.out.trans (b2.mono HBr.out.size), by rw [show max a d = d by omega] at HD2; exact HD2⟩
            case measure => simp [intOf]; omega
          · go_roundw
            case rel => exact ⟨i + 1, a, by omega, ha, by go_num, rfl, HBr.out.trans (b2.mono HBr.out.size), by rw [show max a d = a by omega] at HD2; exact HD2⟩
            case measure => simp [intOf]; omega
        · obtain rfl : i = n := by omega
          have hX : a + 1 = X := by
            have := HI.out
            rw [List.drop_of_length_le (by rw [HN.out]; exact Nat.le_refl _)] at this
            exact this
          have hXi : (a : Int) + 1 = (X : Int) := by omega
          clear HI hX
          go_wp2
          go_ret
          exact ⟨rfl, HB.out⟩
end Go.Proofs.YtcgaeknikfaghaaGreatDoor
namespace Go.Proofs.YtcgaeknikfaghaaGreatDoor
open Go.RowKit
abbrev AnyP : Nat → Nat → Prop := fun _ _ => True
theorem sbox_in {w W0 : World} {x : Sx} {A : Option Addr} {c n : Nat} {l : Bool} (hn : x.L.length = n) (hl : x.list = l) (h : STree w AnyP x A c)
    (hW0 : w.alloc (Obj.cells #[Value.bool l, Value.int IntKind.i64 x.k, Value.string x.T, Value.int IntKind.i64 x.ta, Value.int IntKind.i64 x.at_, Value.slice A n c] 27) = W0) :
    Below w.heap.size w W0 ∧ STree W0 AnyP x A c ∧ SAt W0 w.heap.size 0 x A c := by
  have e : w.alloc (sbox x A c) = W0 := by rw [← hW0, sbox, hn, hl]
  rw [← e]
  exact ⟨(Below.refl _ w).alloc (Nat.le_refl _) _, h.kept ((Below.refl _ w).alloc (Nat.le_refl _) _), sbox_at w x A c⟩
theorem rDepth (x : Sx) (A : Option Addr) (c : Nat) (w : World) (h : STree w AnyP x A c) :
    Calls Tryz.prog 30 #[sval x A c] w fun e w' => e = .returned (.int .i64 (Sx.dep 65 x : Nat)) ∧ Below w.heap.size w w' := by
  have hb0 := (Below.refl _ w).alloc (Nat.le_refl _) (sbox x A c)
  have H := Lib.hid (rdepth 65 x A c _ (by decide) (h.kept hb0))
  obtain ⟨X, hX⟩ : ∃ X : Nat, Sx.dep 65 x = X := ⟨_, rfl⟩
  rw [hX] at H ⊢
  have HB := Lib.hid hb0
  clear hb0 hX h
  go_enter Tryz.func30, Tryz.ntmps30
  go_wp2_with (go_at_call 62; refine H.out.mono ?_; rintro e w2 ⟨rfl, b2⟩)
  go_ret
  exact ⟨rfl, HB.out.trans (b2.mono HB.out.size)⟩
theorem rsize : ∀ (k : Nat) (x : Sx) (A : Option Addr) (c : Nat) (w : World), x.size ≤ k → k ≤ 1000000000 → STree w AnyP x A c →
    Calls Tryz.prog 24 #[sval x A c] w fun e w' => (∃ z : Nat, e = .returned (.int .i64 (z : Nat)) ∧ z ≤ x.size ∧ (x.size ≤ 5000 → z = x.size) ∧ (5000 < x.size → 5000 < z)) ∧ Below w.heap.size w w' := by
  intro k
  induction k with
  | zero =>
    intro x A c w hk
    exact absurd x.size_pos (by omega)
  | succ k ih =>
    intro x A c w hk hk9 h
    obtain ⟨n, hn⟩ : ∃ n, x.L.length = n := ⟨_, rfl⟩
    have HN := Lib.hid hn
    have hl : n ≤ maxLen := hn ▸ Nat.le_trans h.le.1 h.le.2
    unfold maxLen at hl
    obtain ⟨X, hX⟩ : ∃ X, x.size = X := ⟨_, rfl⟩
    have HX := Lib.hid hX
    have hXs := x.size_eq
    rw [hX] at hk hXs ⊢
    have HXs := Lib.hid hXs
    unfold sval
    rw [hn]
    clear hn hX hXs
    go_enter Tryz.func24, Tryz.ntmps24
    go_wp2
    generalize hW0 : w.alloc (Obj.cells #[Value.bool x.list, Value.int IntKind.i64 x.k, Value.string x.T, Value.int IntKind.i64 x.ta, Value.int IntKind.i64 x.at_, Value.slice A n c] 27) = W0
    have HB0 := Lib.hid (sbox_in HN.out rfl h hW0)
    clear h hW0
    go_loopw [3, 4] (fun zv iv wr => ∃ i z : Nat, i ≤ n ∧ zv = .int .i64 (z : Nat) ∧ iv = .int .i64 (i : Nat) ∧ Below W0.heap.size W0 wr ∧ z + Sx.sizes (x.L.drop i) ≤ X ∧ Hid ((X ≤ 5000 → z + Sx.sizes (x.L.drop i) = X) ∧ (5000 < X → z ≤ 5000 → 5000 < z + Sx.sizes (x.L.drop i)))) (fun _ iv _ => n - (intOf iv).toNat)
    case atStart => exact ⟨0, 1, Nat.zero_le _, rfl, rfl, Below.refl _ _, by rw [List.drop_zero]; have := HXs.out; omega, by show _ ∧ _; rw [List.drop_zero]; have := HXs.out; constructor <;> omega⟩
    case round =>
      obtain ⟨i, z, hi, rfl, rfl, hb, hz, HI⟩ := hrel
      obtain ⟨hb1, ht1, hbx1⟩ := HB0.out
      have hbx2 := hbx1.below hb
      obtain ⟨q, q0, q1, q2, q3, q4, q5⟩ := hbx2
      rw [HN.out] at q5
      simp only [Nat.zero_add] at q0 q1 q2 q3 q4 q5
      have HB := Lib.hid (hb1.trans (hb.mono hb1.size))
      have hzX : z ≤ X := by omega
      by_cases hlt : i < n
      · by_cases h5 : z ≤ 5000
        · obtain ⟨b, off, y, A', c', rfl, hy, hdr, hym, hs, hty⟩ := (ht1.kept hb).get (i := i) (by rw [HN.out]; exact hlt)
          obtain ⟨y_, y0, y1, y2, y3, y4, y5⟩ := hs
          have hyX := Sx.size_lt hym
          rw [HX.out] at hyX
          have hsz := Sx.sizes_get hy
          have hIH := Lib.hid (ih y A' c' wr (by omega) (by omega) hty)
          obtain ⟨d, hd⟩ : ∃ d, y.size = d := ⟨_, rfl⟩
          have hd0 := y.size_pos
          rw [hd] at hIH hsz hyX hd0
          obtain ⟨r, hr⟩ : ∃ r, Sx.sizes (x.L.drop (i + 1)) = r := ⟨_, rfl⟩
          have HR := Lib.hid hr
          rw [hr] at hsz
          rw [← hsz] at hz HI
          have hz' := Lib.hid hz
          have HBr := Lib.hid hb
          have hlt' : (i : Int) < (n : Int) := by omega
          have hi0 : (0 : Int) ≤ (i : Int) := by omega
          have h5' : (z : Int) ≤ 5000 := by omega
          have HY := Lib.hid hyX
          clear hd ht1 hbx1 hb1 hty hdr hy hb hym hr hsz hz hyX hd0
          go_wp2_with (go_at_call 24; refine hIH.out.mono ?_; rintro e w2 ⟨⟨v, rfl, v1, v2, v3⟩, b2⟩; have hv9 : z + v ≤ 1000000001 := (by have := hz'.out; omega); have HV := Lib.hid (And.intro v1 (And.intro v2 v3)); clear v1 v2 v3)
          go_roundw
          case rel => exact ⟨i + 1, z + v, by omega, by go_num, by go_num, HBr.out.trans (b2.mono HBr.out.size), by rw [HR.out]; have := hz'.out; have := HV.out; omega, by show _ ∧ _; rw [HR.out]; have := HI.out; have := HV.out; have := HY.out; constructor <;> omega⟩
          case measure => simp [intOf]; omega
        · have h5' : ¬ (z : Int) ≤ 5000 := by omega
          have h5b : decide ((z : Int) ≤ 5000) = false := decide_eq_false h5'
          have hlt' : (i : Int) < (n : Int) := by omega
          have HE : Hid (∃ z' : Nat, Ending.returned (.int .i64 (z : Nat)) = .returned (.int .i64 (z' : Nat)) ∧ z' ≤ X ∧ (X ≤ 5000 → z' = X) ∧ (5000 < X → 5000 < z')) := ⟨z, rfl, hzX, fun e => absurd hzX (by omega), fun _ => by omega⟩
          clear HI hz ht1 hbx1 hb1 hb
          go_wp2
          go_ret
          exact ⟨HE.out, HB.out⟩
      · obtain rfl : i = n := by omega
        have HE : Hid (∃ z' : Nat, Ending.returned (.int .i64 (z : Nat)) = .returned (.int .i64 (z' : Nat)) ∧ z' ≤ X ∧ (X ≤ 5000 → z' = X) ∧ (5000 < X → 5000 < z')) := by
          have hI := HI.out
          rw [List.drop_of_length_le (by rw [HN.out]; exact Nat.le_refl _)] at hI
          simp only [Sx.sizes, Nat.add_zero] at hI
          refine ⟨z, rfl, hzX, hI.1, fun h => ?_⟩
          by_cases h5 : z ≤ 5000
          · exact hI.2 h h5
          · omega
        clear HI hz ht1 hbx1 hb1 hb
        go_wp2
        go_ret
        exact ⟨HE.out, HB.out⟩
end Go.Proofs.YtcgaeknikfaghaaGreatDoor
