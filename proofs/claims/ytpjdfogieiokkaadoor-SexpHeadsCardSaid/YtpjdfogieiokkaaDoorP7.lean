/- What stands ahead says the same. Nothing of the program's text. -/
import Derived.Test.YtpjdfogieiokkaaDoorP6
namespace Go.Proofs.YtpjdfogieiokkaaDoor

theorem toks_up (a b : ByteArray) (n : Nat) (hN : b.size = a.size + n) : ∀ (l l' : List MTok), (∀ x ∈ l, x.2.2 ≤ a.size) → (∀ x ∈ l', x.2.2 ≤ b.size) → l'.map (pureTok b) = (l.map (pureTok a)).map (Lx.up n) → l' = l := by
  intro l
  induction l with
  | nil => intro l' _ _ e; simpa using e
  | cons x l ih =>
    intro l' h1 h2 e
    cases l' with
    | nil => simp at e
    | cons y l' =>
      rw [List.map_cons, List.map_cons, List.map_cons] at e
      injection e with e1 e2
      rw [ih l' (fun z hz => h1 z (List.mem_cons_of_mem _ hz)) (fun z hz => h2 z (List.mem_cons_of_mem _ hz)) e2]
      have x1 := h1 x List.mem_cons_self
      have y1 := h2 y List.mem_cons_self
      unfold pureTok Lx.up at e1
      injection e1 with k1 e1
      injection e1 with k2 k3
      obtain ⟨xk, xt, xa⟩ := x
      obtain ⟨yk, yt, ya⟩ := y
      simp only at k1 k2 k3 x1 y1
      rw [k1, bytes_eq k2, show ya = xa by omega]
theorem LexOf.heads {a b : ByteArray} {s m : List UInt8} {la lb : List MTok} {Ea Eb : Int} {pa pb : Nat} (h : LexOf a la Ea pa) (h' : LexOf b lb Eb pb) (ha : a.data.toList = s ++ [10]) (hb : b.data.toList = s ++ 10 :: m)
    (has : a.size ≤ 16384) (hbs : b.size ≤ 16384) : (Ea = 0 → ∃ y, lb = la ++ y) ∧ (Ea ≠ 0 → Ea ≠ 51 → lb = la ∧ Eb = Ea ∧ pb = pa) := by
  obtain ⟨a1, a2, a3⟩ := h.toks has
  obtain ⟨b1, b2, b3⟩ := h'.toks hbs
  have hN : b.size = a.size + m.length := by
    rw [← len_bytes, ← len_bytes, ha, hb]
    simp
    omega
  constructor
  · intro h0
    obtain ⟨y, hy⟩ := (Lx.heads s m).2 (by rw [← ha, ← a2]; exact h0)
    rw [← ha, ← hb, ← a1, ← b1] at hy
    refine ⟨lb.drop la.length, ?_⟩
    have ht : lb.take la.length = la := by
      refine toks_up a b m.length hN la _ h.at_ (fun x hx => h'.at_ x (List.mem_of_mem_take hx)) ?_
      rw [List.map_take, hy, List.take_append_of_le_length (by simp), List.take_of_length_le (by simp)]
    conv => lhs; rw [← List.take_append_drop la.length lb, ht]
  · intro h0 h51
    obtain ⟨c1, c2, c3⟩ := Lx.lex_app [] 4000 s
    obtain ⟨_, d2, _⟩ := Lx.lex_app m 4000 s
    rw [ha] at a1 a2 a3
    rw [hb] at b1 b2 b3
    have e0 : (Lx.lex 4000 s).2.1 ≠ 0 := fun e => h0 (by rw [a2, c1 e, Lx.lex_nil (l := []) _ rfl])
    have e1 : (Lx.lex 4000 s).2.1 ≠ 51 := fun e => h51 (by rw [a2, c3 e])
    rw [c2 e0 e1] at a1 a2 a3
    rw [d2 e0 e1] at b1 b2 b3
    refine ⟨toks_up a b m.length hN la lb h.at_ h'.at_ ?_, b2.trans a2.symm, ?_⟩
    · rw [b1, a1, List.map_map]
      apply List.map_congr_left
      intro x _
      simp only [Function.comp, Lx.up, List.length_nil]
      rw [show x.2.2 + (m.length + 1) = x.2.2 + (0 + 1) + m.length by omega]
    · have q1 := congrArg List.length a3
      have q2 := congrArg List.length b3
      have q3 := congrArg List.length ha
      have q4 := congrArg List.length hb
      simp only [List.length_drop, List.length_append, List.length_cons, List.length_nil] at q1 q2 q3 q4
      have l1 := h.le
      have l2 := h'.le
      rw [len_bytes] at q3 q4
      omega
theorem Says.app {z : Int} {l : List ITok} {I : List SItem} (h : Says z l I) : ∀ (z' : Int) (y : List ITok) (I' : List SItem), (∀ x ∈ I, x.E ≠ 51) → Says z' (l ++ y) I' → ∃ J, I' = I ++ J := by
  induction h with
  | nil => intro z' y I' _ _; exact ⟨I', rfl⟩
  | close t l I h1 _ ih =>
    intro z' y I' hI h'
    rw [List.cons_append] at h'
    rcases h'.inv with ⟨_, J', rfl, g2⟩ | ⟨g1, g2, _⟩ | ⟨g1, _⟩ | ⟨g1, _⟩
    · obtain ⟨J, rfl⟩ := ih z' y J' (fun x hx => hI x (List.mem_cons_of_mem _ hx)) g2
      exact ⟨J, rfl⟩
    · exact absurd h1 g2
    · exact absurd (g1.symm.trans h1) (by decide)
    · exact absurd (g1.symm.trans h1) (by decide)
  | atom t l I h1 h2 _ ih =>
    intro z' y I' hI h'
    rw [List.cons_append] at h'
    rcases h'.inv with ⟨g1, _⟩ | ⟨_, _, J', rfl, g3⟩ | ⟨g1, _⟩ | ⟨g1, _⟩
    · exact absurd g1 h2
    · obtain ⟨J, rfl⟩ := ih z' y J' (fun x hx => hI x (List.mem_cons_of_mem _ hx)) g3
      exact ⟨J, rfl⟩
    · exact absurd g1 h1
    · exact absurd g1 h1
  | ends t l h1 h2 =>
    intro z' y I' hI _
    exact absurd rfl (hI _ List.mem_cons_self)
  | deep o c m l M I h1 hc hr hd _ ih =>
    intro z' y I' hI h'
    rw [List.cons_append, List.append_assoc, List.cons_append] at h'
    rcases h'.inv with ⟨g1, _⟩ | ⟨g1, _⟩ | ⟨_, g2, _⟩ | ⟨_, c', m', l'', M', J', e, hc', hr', g3, rfl⟩
    · exact absurd (h1.symm.trans g1) (by decide)
    · exact absurd h1 g1
    · rw [hr.closing h1 hc (l ++ y)] at g2
      cases g2
    · obtain ⟨rfl, rfl, rfl⟩ := hr.split hr' hc hc' e
      obtain ⟨J, rfl⟩ := ih z' y J' (fun x hx => hI x (List.mem_cons_of_mem _ hx)) g3
      rw [← hr.uniq M' hr', if_pos hd]
      exact ⟨J, rfl⟩
  | list o c m l M I h1 hc hr hd _ ih =>
    intro z' y I' hI h'
    rw [List.cons_append, List.append_assoc, List.cons_append] at h'
    rcases h'.inv with ⟨g1, _⟩ | ⟨g1, _⟩ | ⟨_, g2, _⟩ | ⟨_, c', m', l'', M', J', e, hc', hr', g3, rfl⟩
    · exact absurd (h1.symm.trans g1) (by decide)
    · exact absurd h1 g1
    · rw [hr.closing h1 hc (l ++ y)] at g2
      cases g2
    · obtain ⟨rfl, rfl, rfl⟩ := hr.split hr' hc hc' e
      obtain ⟨J, rfl⟩ := ih z' y J' (fun x hx => hI x (List.mem_cons_of_mem _ hx)) g3
      rw [← hr.uniq M' hr', if_neg hd]
      exact ⟨J, rfl⟩
theorem Says.other {z : Int} {l : List ITok} {I : List SItem} (h : Says z l I) (z' : Int) : Says z' l I ∨ ∃ J, I = J ++ [⟨Sx.zero, 51, z⟩] ∧ Says z' l (J ++ [⟨Sx.zero, 51, z'⟩]) := by
  induction h with
  | nil => exact .inl .nil
  | close t l I h1 _ ih =>
    rcases ih with h | ⟨J, rfl, h⟩
    · exact .inl (.close t l I h1 h)
    · exact .inr ⟨_ :: J, rfl, .close t l _ h1 h⟩
  | atom t l I h1 h2 _ ih =>
    rcases ih with h | ⟨J, rfl, h⟩
    · exact .inl (.atom t l I h1 h2 h)
    · exact .inr ⟨_ :: J, rfl, .atom t l _ h1 h2 h⟩
  | ends t l h1 h2 => exact .inr ⟨[], rfl, .ends t l h1 h2⟩
  | deep o c m l M I h1 hc hr hd _ ih =>
    rcases ih with h | ⟨J, rfl, h⟩
    · exact .inl (.deep o c m l M I h1 hc hr hd h)
    · exact .inr ⟨_ :: J, rfl, .deep o c m l M _ h1 hc hr hd h⟩
  | list o c m l M I h1 hc hr hd _ ih =>
    rcases ih with h | ⟨J, rfl, h⟩
    · exact .inl (.list o c m l M I h1 hc hr hd h)
    · exact .inr ⟨_ :: J, rfl, .list o c m l M _ h1 hc hr hd h⟩
theorem cutEnd_51 (J : List SItem) (z : Int) : cutEnd (J ++ [⟨Sx.zero, 51, z⟩]) = J := by
  unfold cutEnd
  rw [if_pos (by simp), List.dropLast_concat]
theorem cutEnd_app (I J : List SItem) (hI : ∀ x ∈ I, x.E ≠ 51) : ∃ K, cutEnd (I ++ J) = I ++ K := by
  unfold cutEnd
  split
  · rename_i h
    cases hJ : J with
    | nil =>
      rw [hJ, List.append_nil] at h
      cases hl : I.getLast? with
      | none => rw [hl] at h; cases h
      | some x =>
        rw [hl] at h
        injection h with h
        exact absurd h (hI x (List.mem_of_getLast? hl))
    | cons y J' =>
      exact ⟨(y :: J').dropLast, by rw [List.dropLast_append_of_ne_nil (by simp)]⟩
  · exact ⟨J, rfl⟩
/-- what stands ahead, with no bracket open and nothing wrong with its bytes, says the same whatever stands behind it -/
theorem ReadOf.heads {a b : ByteArray} {s m : List UInt8} {Ra Rb : List SItem} (h : ReadOf a Ra) (h' : ReadOf b Rb) (ha : a.data.toList = s ++ [10]) (hb : b.data.toList = s ++ 10 :: m) (has : a.size ≤ 16384) (hbs : b.size ≤ 16384)
    (hE : ∀ x ∈ Ra, x.E = 0 ∨ x.E = 60 ∨ x.E = 2) : Ra.length ≤ Rb.length ∧ Rb.take Ra.length = Ra := by
  obtain ⟨la, Ea, pa, Ia, h1, h2, rfl⟩ := h
  obtain ⟨lb, Eb, pb, Ib, g1, g2, rfl⟩ := h'
  obtain ⟨k1, k2⟩ := h1.heads g1 ha hb has hbs
  suffices hk : ∃ K, readOf Ib Eb pb = readOf Ia Ea pa ++ K by
    obtain ⟨K, hK⟩ := hk
    rw [hK]
    exact ⟨by simp, by simp⟩
  by_cases h0 : Ea = 0
  · obtain ⟨y, rfl⟩ := k1 h0
    rw [List.map_append] at g2
    have hra : readOf Ia Ea pa = Ia := by unfold readOf; rw [if_pos h0]
    rw [hra] at hE ⊢
    have hI : ∀ x ∈ Ia, x.E ≠ 51 := fun x hx => by rcases hE x hx with e | e | e <;> omega
    obtain ⟨J, rfl⟩ := h2.app _ _ _ hI g2
    unfold readOf
    split
    · exact ⟨J, rfl⟩
    · obtain ⟨K, hK⟩ := cutEnd_app Ia J hI
      rw [hK, List.append_assoc]
      exact ⟨_, rfl⟩
  · have hra : readOf Ia Ea pa = cutEnd Ia ++ [⟨Sx.zero, Ea, (pa : Int)⟩] := by unfold readOf; rw [if_neg h0]
    have h51 : Ea ≠ 51 := by
      have := hE ⟨Sx.zero, Ea, (pa : Int)⟩ (by rw [hra]; simp)
      simp only at this
      omega
    obtain ⟨rfl, rfl, rfl⟩ := k2 h0 h51
    refine ⟨[], ?_⟩
    rw [List.append_nil]
    unfold readOf
    rw [if_neg h0, if_neg h0]
    rcases h2.other (b.size : Nat) with h3 | ⟨J, rfl, h3⟩
    · rw [Says.uniq _ _ _ _ (Nat.le_refl _) g2 h3]
    · rw [Says.uniq _ _ _ _ (Nat.le_refl _) g2 h3, cutEnd_51, cutEnd_51]
end Go.Proofs.YtpjdfogieiokkaaDoor
