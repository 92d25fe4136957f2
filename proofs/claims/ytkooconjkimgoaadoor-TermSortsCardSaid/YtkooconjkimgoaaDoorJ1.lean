/- Literals as code points, over lists of bytes. Nothing of the program's text. -/
import Derived.Test.YtkooconjkimgoaaDoorT0
namespace Go.Proofs.YtkooconjkimgoaaDoor

theorem Lt.len_bytes (s : ByteArray) : s.data.toList.length = s.size := by rw [Array.length_toList]; rfl
theorem Lt.drop_at (s : ByteArray) {i : Nat} (h : i < s.size) : s.data.toList.drop i = s[i] :: s.data.toList.drop (i + 1) := by
  have h' : i < s.data.toList.length := by rw [Array.length_toList]; exact h
  rw [List.drop_eq_getElem_cons h']
  congr 1
theorem Lt.app_bytes (a b : ByteArray) : (a ++ b).data.toList = a.data.toList ++ b.data.toList ∧ (a ++ b).size = a.size + b.size := by
  have e : (a ++ b).data.toList = a.data.toList ++ b.data.toList := by simp [ByteArray.data_append]
  refine ⟨e, ?_⟩
  rw [← Lt.len_bytes, e, List.length_append, Lt.len_bytes, Lt.len_bytes]
theorem Lt.bytes_eq {a b : ByteArray} (h : a.data.toList = b.data.toList) : a = b := by
  have e := Array.toList_inj.1 h
  cases a
  cases b
  simp only at e
  rw [e]

/-- the value of a hexadecimal digit -/
def Lt.dig (c : UInt8) : Option Nat :=
  if 48 ≤ c.toNat ∧ c.toNat ≤ 57 then some (c.toNat - 48) else if 97 ≤ c.toNat ∧ c.toNat ≤ 102 then some (c.toNat - 87) else if 65 ≤ c.toNat ∧ c.toNat ≤ 70 then some (c.toNat - 55) else none
theorem Lt.dig_lt {c : UInt8} {d : Nat} (h : Lt.dig c = some d) : d < 16 := by
  unfold Lt.dig at h
  split at h
  · injection h with h; omega
  · split at h
    · injection h with h; omega
    · split at h
      · injection h with h; omega
      · cases h
/-- digits' value, behind n -/
def Lt.val : Nat → List UInt8 → Option Nat
  | n, [] => some n
  | n, c :: t => match Lt.dig c with
    | none => none
    | some d => Lt.val (n * 16 + d) t
theorem Lt.val_none {n : Nat} {c : UInt8} (t : List UInt8) (h : Lt.dig c = none) : Lt.val n (c :: t) = none := by rw [Lt.val, h]
theorem Lt.val_some {n d : Nat} {c : UInt8} (t : List UInt8) (h : Lt.dig c = some d) : Lt.val n (c :: t) = Lt.val (n * 16 + d) t := by rw [Lt.val, h]
theorem Lt.val_app : ∀ (a b : List UInt8) (n : Nat), Lt.val n (a ++ b) = (Lt.val n a).bind fun m => Lt.val m b
  | [], b, n => rfl
  | c :: a, b, n => by
    rw [List.cons_append]
    cases h : Lt.dig c with
    | none => rw [Lt.val_none _ h, Lt.val_none _ h]; rfl
    | some d => rw [Lt.val_some _ h, Lt.val_some _ h, Lt.val_app a b]
theorem Lt.val_digs : ∀ (l : List UInt8) (n m : Nat), Lt.val n l = some m → ∀ c ∈ l, (Lt.dig c).isSome = true
  | [], _, _, _, c, hc => absurd hc List.not_mem_nil
  | x :: l, n, m, h, c, hc => by
    cases e : Lt.dig x with
    | none => rw [Lt.val_none _ e] at h; cases h
    | some d =>
      rw [Lt.val_some _ e] at h
      rcases List.mem_cons.1 hc with rfl | hc
      · rw [e]; rfl
      · exact Lt.val_digs l _ m h c hc
theorem Lt.val_le : ∀ (l : List UInt8) (n m : Nat), Lt.val n l = some m → m < (n + 1) * 16 ^ l.length
  | [], n, m, h => by
    rw [Lt.val] at h
    injection h with h
    simp
    omega
  | x :: l, n, m, h => by
    cases e : Lt.dig x with
    | none => rw [Lt.val_none _ e] at h; cases h
    | some d =>
      rw [Lt.val_some _ e] at h
      have h1 := Lt.val_le l _ m h
      have h2 := Lt.dig_lt e
      have h3 : (n * 16 + d + 1) * 16 ^ l.length ≤ ((n + 1) * 16) * 16 ^ l.length := Nat.mul_le_mul_right _ (by omega)
      rw [List.length_cons, Nat.pow_succ, Nat.mul_comm (16 ^ l.length) 16, ← Nat.mul_assoc]
      omega
/-- a code point's digits -/
def Lt.num (l : List UInt8) : Option Nat := if l = [] then none else (Lt.val 0 l).bind fun n => if n ≤ 196607 then some n else none
theorem Lt.num_some {l : List UInt8} {n : Nat} : Lt.num l = some n ↔ l ≠ [] ∧ Lt.val 0 l = some n ∧ n ≤ 196607 := by
  unfold Lt.num
  split
  · rename_i h
    simp [h]
  · rename_i h
    cases e : Lt.val 0 l with
    | none => simp
    | some m =>
      simp only [Option.bind_some]
      split
      · rename_i hm
        constructor
        · intro q; injection q with q; subst q; exact ⟨h, rfl, hm⟩
        · rintro ⟨_, q, _⟩; exact q
      · rename_i hm
        constructor
        · intro q; cases q
        · rintro ⟨_, q, hn⟩; injection q with q; subst q; exact absurd hn hm
theorem Lt.dig_125 : Lt.dig 125 = none := by decide
theorem Lt.dig_123 : Lt.dig 123 = none := by decide
/-- behind a brace: where it is closed, from the k-th byte on -/
def Lt.seek (q : List UInt8) : Nat → Nat → Option (Nat × List UInt8)
  | 0, _ => none
  | m + 1, k => if q[k]? = some 125 then match Lt.num (q.take k) with
      | some n => some (n, q.drop (k + 1))
      | none => Lt.seek q m (k + 1)
    else Lt.seek q m (k + 1)
def Lt.brace (q : List UInt8) : Option (Nat × List UInt8) := Lt.seek q 5 1
theorem Lt.seek_sound {q : List UInt8} {n : Nat} {r : List UInt8} : ∀ (m k : Nat), Lt.seek q m k = some (n, r) → ∃ d, q = d ++ 125 :: r ∧ d.length < k + m ∧ Lt.num d = some n
  | 0, _, h => by cases h
  | m + 1, k, h => by
    rw [Lt.seek] at h
    have next : Lt.seek q m (k + 1) = some (n, r) → ∃ d, q = d ++ 125 :: r ∧ d.length < k + (m + 1) ∧ Lt.num d = some n := fun h => by
      obtain ⟨d, h1, h2, h3⟩ := Lt.seek_sound m (k + 1) h
      exact ⟨d, h1, by omega, h3⟩
    split at h
    · rename_i hk
      cases e : Lt.num (q.take k) with
      | none => rw [e] at h; exact next h
      | some x =>
        rw [e] at h
        simp only [Option.some.injEq, Prod.mk.injEq] at h
        obtain ⟨rfl, rfl⟩ := h
        obtain ⟨hlt, hget⟩ := List.getElem?_eq_some_iff.1 hk
        refine ⟨q.take k, ?_, by rw [List.length_take]; omega, e⟩
        conv => lhs; rw [← List.take_append_drop k q, List.drop_eq_getElem_cons hlt, hget]
    · exact next h
theorem Lt.seek_full {d r : List UInt8} {n : Nat} (hd : Lt.num d = some n) : ∀ (m k : Nat), 1 ≤ k → k ≤ d.length → d.length < k + m → Lt.seek (d ++ 125 :: r) m k = some (n, r)
  | 0, k, _, h1, h2 => by omega
  | m + 1, k, h0, h1, h2 => by
    rw [Lt.seek]
    by_cases hk : k = d.length
    · subst hk
      rw [if_pos (by simp), List.take_left, hd]
      simp
    · have hlt : k < d.length := by omega
      have hne : (d ++ 125 :: r)[k]? ≠ some 125 := by
        intro e
        rw [List.getElem?_append_left hlt] at e
        have hm := List.mem_of_getElem? e
        have := Lt.val_digs d 0 n (Lt.num_some.1 hd).2.1 125 hm
        rw [Lt.dig_125] at this
        cases this
      rw [if_neg hne]
      exact Lt.seek_full hd m (k + 1) (by omega) hlt (by omega)
theorem Lt.brace_some {q : List UInt8} {n : Nat} {r : List UInt8} : Lt.brace q = some (n, r) ↔ ∃ d, q = d ++ 125 :: r ∧ d.length ≤ 5 ∧ Lt.num d = some n := by
  constructor
  · intro h
    obtain ⟨d, h1, h2, h3⟩ := Lt.seek_sound 5 1 h
    exact ⟨d, h1, by omega, h3⟩
  · rintro ⟨d, rfl, h2, h3⟩
    have : d ≠ [] := (Lt.num_some.1 h3).1
    have : 0 < d.length := List.length_pos_iff.2 this
    exact Lt.seek_full h3 5 1 (by omega) (by omega) (by omega)
/-- behind a \u -/
def Lt.esc (r : List UInt8) : Option (Nat × List UInt8) := match r with
  | 123 :: q => Lt.brace q
  | _ => if 4 ≤ r.length then (Lt.num (r.take 4)).map fun n => (n, r.drop 4) else none
theorem Lt.esc_brace (q : List UInt8) : Lt.esc (123 :: q) = Lt.brace q := rfl
theorem Lt.esc_four {r : List UInt8} (h : r.head? ≠ some 123) : Lt.esc r = if 4 ≤ r.length then (Lt.num (r.take 4)).map fun n => (n, r.drop 4) else none := by
  unfold Lt.esc
  split
  · exact absurd rfl h
  · rfl
/-- the code point that comes first, and what is left -/
def Lt.one : List UInt8 → Nat × List UInt8
  | [] => (0, [])
  | c :: t => (if c = 92 ∧ t.head? = some 117 then Lt.esc t.tail else none).getD (c.toNat, t)
theorem Lt.one_plain {c : UInt8} {t : List UInt8} (h : ¬ (c = 92 ∧ t.head? = some 117)) : Lt.one (c :: t) = (c.toNat, t) := by rw [Lt.one, if_neg h]; rfl
theorem Lt.one_esc {r : List UInt8} : Lt.one (92 :: 117 :: r) = (Lt.esc r).getD (92, 117 :: r) := by
  rw [Lt.one, if_pos ⟨rfl, rfl⟩]
  rfl
theorem Lt.esc_facts {r : List UInt8} {n : Nat} {q : List UInt8} (h : Lt.esc r = some (n, q)) : n ≤ 196607 ∧ q.length ≤ r.length := by
  by_cases hb : r.head? = some 123
  · obtain ⟨t, rfl⟩ : ∃ t, r = 123 :: t := by
      cases r with
      | nil => cases hb
      | cons c t => exact ⟨t, by injection hb with hb; rw [hb]⟩
    rw [Lt.esc_brace] at h
    obtain ⟨d, rfl, _, h3⟩ := Lt.brace_some.1 h
    refine ⟨(Lt.num_some.1 h3).2.2, ?_⟩
    simp
    omega
  · rw [Lt.esc_four hb] at h
    split at h
    · obtain ⟨m, hm, e⟩ := Option.map_eq_some_iff.1 h
      injection e with e1 e2
      subst e1
      refine ⟨(Lt.num_some.1 hm).2.2, ?_⟩
      rw [← e2, List.length_drop]
      omega
    · cases h
theorem Lt.one_facts (c : UInt8) (t : List UInt8) : (Lt.one (c :: t)).1 ≤ 196607 ∧ (Lt.one (c :: t)).2.length ≤ t.length := by
  have hc := c.toNat_lt
  by_cases h : c = 92 ∧ t.head? = some 117
  · obtain ⟨rfl, h⟩ := h
    cases t with
    | nil => cases h
    | cons d r =>
      injection h with h
      subst h
      rw [Lt.one_esc]
      cases e : Lt.esc r with
      | none => simp
      | some x =>
        obtain ⟨n, q⟩ := x
        have := Lt.esc_facts e
        simp
        omega
  · rw [Lt.one_plain h]
    refine ⟨by simp only; omega, Nat.le_refl _⟩
/-- the code points of a literal -/
def Lt.points : Nat → List UInt8 → List Int
  | 0, _ => []
  | _ + 1, [] => []
  | n + 1, c :: t => ((Lt.one (c :: t)).1 : Int) :: Lt.points n (Lt.one (c :: t)).2
theorem Lt.points_fuel : ∀ (n m : Nat) (l : List UInt8), l.length ≤ n → l.length ≤ m → Lt.points n l = Lt.points m l
  | 0, m, l, h, _ => by
    obtain rfl : l = [] := List.eq_nil_of_length_eq_zero (by omega)
    cases m <;> rfl
  | n + 1, 0, l, _, h => by
    obtain rfl : l = [] := List.eq_nil_of_length_eq_zero (by omega)
    rfl
  | n + 1, m + 1, [], _, _ => rfl
  | n + 1, m + 1, c :: t, h1, h2 => by
    have := (Lt.one_facts c t).2
    rw [List.length_cons] at h1 h2
    rw [Lt.points, Lt.points, Lt.points_fuel n m _ (by omega) (by omega)]
def Lt.pts (l : List UInt8) : List Int := Lt.points l.length l
theorem Lt.pts_nil : Lt.pts [] = [] := rfl
theorem Lt.pts_cons (c : UInt8) (t : List UInt8) : Lt.pts (c :: t) = ((Lt.one (c :: t)).1 : Int) :: Lt.pts (Lt.one (c :: t)).2 := by
  have := (Lt.one_facts c t).2
  unfold Lt.pts
  rw [List.length_cons, Lt.points, Lt.points_fuel t.length (Lt.one (c :: t)).2.length _ this (Nat.le_refl _)]
/-- is a number a code point? -/
def Lt.pt (z : Int) : Bool := decide (0 ≤ z ∧ z ≤ 196607)
theorem Lt.pts_facts : ∀ (n : Nat) (l : List UInt8), l.length ≤ n → (Lt.pts l).length ≤ l.length ∧ ∀ z ∈ Lt.pts l, Lt.pt z = true
  | 0, l, h => by
    obtain rfl : l = [] := List.eq_nil_of_length_eq_zero (by omega)
    exact ⟨Nat.le_refl _, fun _ h => absurd h List.not_mem_nil⟩
  | n + 1, [], _ => ⟨Nat.le_refl _, fun _ h => absurd h List.not_mem_nil⟩
  | n + 1, c :: t, h => by
    obtain ⟨h1, h2⟩ := Lt.one_facts c t
    rw [List.length_cons] at h
    obtain ⟨i1, i2⟩ := Lt.pts_facts n (Lt.one (c :: t)).2 (by omega)
    rw [Lt.pts_cons, List.length_cons, List.length_cons]
    refine ⟨by omega, fun z hz => ?_⟩
    rcases List.mem_cons.1 hz with rfl | hz
    · unfold Lt.pt
      exact decide_eq_true ⟨by omega, by omega⟩
    · exact i2 z hz

/-- the digit of a value -/
def Lt.hd (n : Nat) : UInt8 := UInt8.ofNat (if n < 10 then 48 + n else 87 + n)
theorem Lt.dig_hd : ∀ n, n < 16 → Lt.dig (Lt.hd n) = some n := by decide
theorem Lt.hd_facts : ∀ n, n < 16 → 32 ≤ (Lt.hd n).toNat ∧ (Lt.hd n).toNat ≤ 126 ∧ Lt.hd n ≠ 123 := by decide
/-- a number's digits -/
def Lt.hex (n : Nat) : List UInt8 := if n < 16 then [Lt.hd n] else Lt.hex (n / 16) ++ [Lt.hd (n % 16)]
termination_by n
theorem Lt.hex_small {n : Nat} (h : n < 16) : Lt.hex n = [Lt.hd n] := by rw [Lt.hex, if_pos h]
theorem Lt.hex_big {n : Nat} (h : ¬ n < 16) : Lt.hex n = Lt.hex (n / 16) ++ [Lt.hd (n % 16)] := by rw [Lt.hex, if_neg h]
theorem Lt.hex_facts : ∀ (k n : Nat), n < 16 ^ (k + 1) → Lt.hex n ≠ [] ∧ (Lt.hex n).length ≤ k + 1 ∧ Lt.val 0 (Lt.hex n) = some n ∧ ∀ c ∈ Lt.hex n, 32 ≤ c.toNat ∧ c.toNat ≤ 126
  | k, n, h => by
    by_cases hn : n < 16
    · rw [Lt.hex_small hn]
      have := Lt.hd_facts n hn
      refine ⟨by simp, by simp, by rw [Lt.val_some _ (Lt.dig_hd n hn), Lt.val]; simp, fun c hc => ?_⟩
      rw [List.mem_singleton.1 hc]
      exact ⟨this.1, this.2.1⟩
    · cases k with
      | zero => omega
      | succ k =>
        have hlt : n / 16 < 16 ^ (k + 1) := by
          rw [Nat.pow_succ] at h
          exact Nat.div_lt_of_lt_mul (by rw [Nat.mul_comm]; exact h)
        obtain ⟨i1, i2, i3, i4⟩ := Lt.hex_facts k (n / 16) hlt
        have hm : n % 16 < 16 := Nat.mod_lt _ (by decide)
        have hf := Lt.hd_facts _ hm
        rw [Lt.hex_big hn]
        refine ⟨by simp, by rw [List.length_append]; simp; omega, ?_, fun c hc => ?_⟩
        · rw [Lt.val_app, i3, Option.bind_some, Lt.val_some _ (Lt.dig_hd _ hm), Lt.val]
          congr 1
          omega
        · rcases List.mem_append.1 hc with hc | hc
          · exact i4 c hc
          · rw [List.mem_singleton.1 hc]
            exact ⟨hf.1, hf.2.1⟩
/-- a code point as a literal's text -/
def Lt.esc1 (z : Int) : List UInt8 := if 32 ≤ z ∧ z ≤ 126 ∧ z ≠ 92 then [UInt8.ofNat z.toNat] else 92 :: 117 :: 123 :: (Lt.hex z.toNat ++ [125])
def Lt.escape (zs : List Int) : List UInt8 := zs.flatMap Lt.esc1
theorem Lt.escape_cons (z : Int) (zs : List Int) : Lt.escape (z :: zs) = Lt.esc1 z ++ Lt.escape zs := rfl
theorem Lt.escape_app (a b : List Int) : Lt.escape (a ++ b) = Lt.escape a ++ Lt.escape b := by simp [Lt.escape]
theorem Lt.pt_facts {z : Int} (h : Lt.pt z = true) : 0 ≤ z ∧ z ≤ 196607 := of_decide_eq_true h
theorem Lt.esc1_facts {z : Int} (h : Lt.pt z = true) : (Lt.esc1 z).length ≤ 9 ∧ ∀ c ∈ Lt.esc1 z, 32 ≤ c.toNat ∧ c.toNat ≤ 126 := by
  obtain ⟨h0, h1⟩ := Lt.pt_facts h
  obtain ⟨i1, i2, i3, i4⟩ := Lt.hex_facts 4 z.toNat (by omega)
  unfold Lt.esc1
  split
  · refine ⟨by simp, fun c hc => ?_⟩
    rw [List.mem_singleton.1 hc]
    simp
    omega
  · refine ⟨by simp; omega, fun c hc => ?_⟩
    simp only [List.mem_cons, List.mem_append, List.not_mem_nil, or_false] at hc
    rcases hc with rfl | rfl | rfl | hc | rfl
    · decide
    · decide
    · decide
    · exact i4 c hc
    · decide
theorem Lt.one_esc1 {z : Int} (h : Lt.pt z = true) (m : List UInt8) : Lt.one (Lt.esc1 z ++ m) = (z.toNat, m) := by
  obtain ⟨h0, h1⟩ := Lt.pt_facts h
  obtain ⟨i1, i2, i3, i4⟩ := Lt.hex_facts 4 z.toNat (by omega)
  unfold Lt.esc1
  split
  · rename_i hz
    rw [List.singleton_append, Lt.one_plain]
    · congr 1
      simp
      omega
    · rintro ⟨e, _⟩
      have := congrArg UInt8.toNat e
      simp at this
      omega
  · rw [List.cons_append, List.cons_append, List.cons_append, Lt.one_esc, Lt.esc_brace, List.append_assoc, List.singleton_append]
    rw [Lt.brace_some.2 ⟨Lt.hex z.toNat, rfl, i2, Lt.num_some.2 ⟨i1, i3, by omega⟩⟩]
    rfl
theorem Lt.esc1_cons (z : Int) : ∃ c t, Lt.esc1 z = c :: t := by
  unfold Lt.esc1
  split <;> exact ⟨_, _, rfl⟩
/-- what a literal of code points says are these -/
theorem Lt.pts_escape : ∀ (zs : List Int) (m : List UInt8), (∀ z ∈ zs, Lt.pt z = true) → Lt.pts (Lt.escape zs ++ m) = zs ++ Lt.pts m
  | [], m, _ => rfl
  | z :: zs, m, h => by
    have hz := h z List.mem_cons_self
    obtain ⟨h0, h1⟩ := Lt.pt_facts hz
    obtain ⟨c, t, e⟩ := Lt.esc1_cons z
    have ho := Lt.one_esc1 hz (Lt.escape zs ++ m)
    rw [Lt.escape_cons, List.append_assoc]
    rw [e, List.cons_append] at ho ⊢
    rw [Lt.pts_cons, ho, Lt.pts_escape zs m fun y hy => h y (List.mem_cons_of_mem _ hy)]
    simp only [List.cons_append, List.cons.injEq, and_true]
    omega
theorem Lt.back {zs : List Int} (h : ∀ z ∈ zs, Lt.pt z = true) : Lt.pts (Lt.escape zs) = zs := by
  have := Lt.pts_escape zs [] h
  rwa [List.append_nil, Lt.pts_nil, List.append_nil] at this
theorem Lt.escape_bytes {zs : List Int} (h : ∀ z ∈ zs, Lt.pt z = true) : (Lt.escape zs).length ≤ 9 * zs.length ∧ ∀ c ∈ Lt.escape zs, 32 ≤ c.toNat ∧ c.toNat ≤ 126 := by
  induction zs with
  | nil => exact ⟨Nat.le_refl _, fun _ h => absurd h List.not_mem_nil⟩
  | cons z zs ih =>
    obtain ⟨i1, i2⟩ := ih fun y hy => h y (List.mem_cons_of_mem _ hy)
    obtain ⟨k1, k2⟩ := Lt.esc1_facts (h z List.mem_cons_self)
    rw [Lt.escape_cons, List.length_append, List.length_cons]
    refine ⟨by omega, fun c hc => ?_⟩
    rcases List.mem_append.1 hc with hc | hc
    · exact k2 c hc
    · exact i2 c hc
/-- digits between braces, and four of them -/
theorem Lt.pts_braces {d : List UInt8} {n : Nat} (h : Lt.val 0 d = some n) (h0 : d ≠ []) (hl : d.length ≤ 5) (hn : n ≤ 196607) : Lt.pts (92 :: 117 :: 123 :: (d ++ [125])) = [(n : Int)] := by
  have ho : Lt.one (92 :: 117 :: 123 :: (d ++ [125])) = (n, []) := by
    rw [Lt.one_esc, Lt.esc_brace, Lt.brace_some.2 ⟨d, rfl, hl, Lt.num_some.2 ⟨h0, h, hn⟩⟩]
    rfl
  rw [Lt.pts_cons, ho, Lt.pts_nil]
theorem Lt.pts_four {d : List UInt8} {n : Nat} (h : Lt.val 0 d = some n) (hl : d.length = 4) (hn : n ≤ 196607) : Lt.pts (92 :: 117 :: d) = [(n : Int)] := by
  have hh : d.head? ≠ some 123 := by
    cases d with
    | nil => simp
    | cons c t =>
      intro e
      injection e with e
      subst e
      rw [Lt.val_none _ Lt.dig_123] at h
      cases h
  have ho : Lt.one (92 :: 117 :: d) = (n, []) := by
    rw [Lt.one_esc, Lt.esc_four hh, if_pos (by omega), List.take_of_length_le (by omega), Lt.num_some.2 ⟨(by intro e; rw [e] at hl; cases hl), h, hn⟩, List.drop_of_length_le (by omega)]
    rfl
  rw [Lt.pts_cons, ho, Lt.pts_nil]
end Go.Proofs.YtkooconjkimgoaaDoor
