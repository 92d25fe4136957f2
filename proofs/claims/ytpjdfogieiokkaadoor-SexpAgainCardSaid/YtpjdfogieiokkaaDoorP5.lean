/- What an s-expression's text is read as. Nothing of the program's text. -/
import Derived.Test.YtpjdfogieiokkaaDoorHP
namespace Go.Proofs.YtpjdfogieiokkaaDoor

theorem Lx.ends_41 : Lx.Ends 41 := ⟨by decide, by decide, by decide, by decide⟩
/-- what may stand behind a token -/
def Lx.Behind (m : List UInt8) : Prop := m = [] ∨ ∃ b m', m = b :: m' ∧ Lx.Ends b
theorem Lx.lex_tok {x s : List UInt8} {k : Int} (h : Lx.Whole x k s) {m : List UInt8} (hm : Lx.Behind m) (n : Nat) :
    ∃ q, Lx.lex (n + 1) (x ++ m) = ((k, s, q) :: (Lx.lex n m).1, (Lx.lex n m).2) := by
  rcases hm with rfl | ⟨b, m, rfl, hb⟩
  · refine ⟨x.length, ?_⟩
    rw [List.append_nil, Lx.whole_alone h, Lx.lex_nil n rfl]
  · obtain ⟨h1, c, t, rfl, h2, h3, h4⟩ := h
    have hs : Lx.skip false (c :: t ++ b :: m) = c :: (t ++ b :: m) := Lx.skip_token _ h2 h3 h4
    have ho := (Lx.one_app hb m c t).1 (by rw [h1])
    rw [h1, List.cons_append] at ho
    have hl := Lx.lex_ok n hs h2 (by rw [ho])
    rw [ho] at hl
    exact ⟨_, hl⟩
theorem Lx.lex_open (n : Nat) (m : List UInt8) : ∃ q, Lx.lex (n + 1) (40 :: m) = ((1, [40], q) :: (Lx.lex n m).1, (Lx.lex n m).2) := by
  have ho : Lx.one (40 :: m) = (1, [40], 0, m) := by unfold Lx.one; dsimp only; rw [if_pos (by decide)]
  have hl := Lx.lex_ok n (Lx.skip_token (c := 40) m (by decide) (by decide) (by decide)) (by decide) (by rw [ho])
  rw [ho] at hl
  exact ⟨_, hl⟩
theorem Lx.lex_close (n : Nat) (m : List UInt8) : ∃ q, Lx.lex (n + 1) (41 :: m) = ((2, [41], q) :: (Lx.lex n m).1, (Lx.lex n m).2) := by
  have ho : Lx.one (41 :: m) = (2, [41], 0, m) := by unfold Lx.one; dsimp only; rw [if_neg (by decide), if_pos (by decide)]
  have hl := Lx.lex_ok n (Lx.skip_token (c := 41) m (by decide) (by decide) (by decide)) (by decide) (by rw [ho])
  rw [ho] at hl
  exact ⟨_, hl⟩
theorem Lx.lex_blank (n : Nat) (m : List UInt8) : Lx.lex n (32 :: m) = Lx.lex n m := Lx.lex_skip n (Lx.skip_blank m (by decide))

/-- what a token says, without its place -/
abbrev iSays (o : ITok) : Int × List UInt8 := (o.1, o.2.1.data.toList)
/-- these texts are read as these tokens, and those read as these s-expressions but for places -/
def Lexed (L : List Sx) (t m : List UInt8) (T : List (Int × List UInt8)) : Prop :=
  T.length ≤ 2 * Sx.sizes L ∧ (∀ n, ∃ Q : List Lx.Tok, Q.map Lx.says = T ∧ Lx.lex (n + T.length) (t ++ m) = (Q ++ (Lx.lex n m).1, (Lx.lex n m).2)) ∧
  ∀ l : List ITok, l.map iSays = T → ∃ M, Reads l M ∧ M.map (Sx.key false) = L.map (Sx.key false) ∧ Sx.deeps M = Sx.deeps L
theorem Sx.texts_behind {l : List Sx} {r m : List UInt8} (h : Sx.texts false l = some r) (hm : Lx.Behind m) : Lx.Behind (r ++ m) := by
  cases l with
  | nil =>
    rw [Sx.texts] at h
    injection h with h
    rw [← h]
    exact hm
  | cons y l =>
    rw [Sx.texts] at h
    cases e : y.text with
    | none => rw [e] at h; cases h
    | some ty =>
      rw [e] at h
      simp only at h
      obtain ⟨r', _, rfl⟩ := Option.map_eq_some_iff.1 h
      exact .inr ⟨32, ty ++ r' ++ m, by simp, Lx.ends_32⟩
theorem Sx.lexed : ∀ (k : Nat) (x : Sx) (t m : List UInt8), x.size ≤ k → x.text = some t → Lx.Behind m → ∃ T, Lexed [x] t m T := by
  intro k
  induction k with
  | zero =>
    intro x t m h
    exact absurd x.size_pos (by omega)
  | succ k ih =>
    intro x t m h ht hm
    cases hx : x.list
    · rw [Sx.text_atom hx] at ht
      split at ht
      · rename_i hc
        injection ht with ht
        simp only [Bool.and_eq_true, Bool.not_eq_true', decide_eq_false_iff_not, List.isEmpty_iff] at hc
        obtain ⟨⟨⟨h1, h2⟩, h3⟩, h4⟩ := hc
        have hw := (Lx.okShow_whole h4).1
        rw [ht] at hw
        refine ⟨[(x.k, x.T.data.toList)], by have := x.size_pos; simp [Sx.sizes]; omega, fun n => ?_, fun l hl => ?_⟩
        · obtain ⟨q, hq⟩ := Lx.lex_tok hw hm n
          exact ⟨[(x.k, x.T.data.toList, q)], rfl, hq⟩
        · cases l with
          | nil => simp at hl
          | cons o l =>
            rw [List.map_cons, List.cons.injEq] at hl
            obtain ⟨hl, h3'⟩ := hl
            obtain rfl : l = [] := by simpa using h3'
            obtain ⟨o1, o2, o3⟩ := o
            simp only [Prod.mk.injEq] at hl
            obtain ⟨rfl, e⟩ := hl
            have e2 : o2 = x.T := by
              have e3 := Array.toList_inj.1 e
              cases o2
              cases hT : x.T
              rw [hT] at e3
              simp only at e3
              rw [e3]
            refine ⟨_, .atom (x.k, o2, o3) [] [] h1 h2 .nil, ?_, ?_⟩
            · rw [List.map_cons, List.map_nil, List.map_cons, List.map_nil, Sx.key_atom hx, h3, Sx.key_atom (x := Sx.atom _) rfl, e2]
              rfl
            · show max (Sx.deep _) 0 = max (Sx.deep x) 0
              rw [Sx.deep_atom hx, Sx.deep_atom (x := Sx.atom _) rfl]
      · cases ht
    · rw [Sx.text_list hx] at ht
      obtain ⟨r, hr, rfl⟩ := Option.map_eq_some_iff.1 ht
      have hL : ∀ (L : List Sx) (f : Bool) (r m : List UInt8), (∀ y ∈ L, y.size ≤ k) → Sx.texts f L = some r → Lx.Behind m → ∃ T, Lexed L r m T := by
        intro L
        induction L with
        | nil =>
          intro f r m _ h hm
          rw [Sx.texts] at h
          injection h with h
          subst h
          refine ⟨[], Nat.zero_le _, fun n => ⟨[], rfl, rfl⟩, fun l hl => ?_⟩
          obtain rfl : l = [] := by simpa using hl
          exact ⟨[], .nil, rfl, rfl⟩
        | cons y L ihL =>
          intro f r m hy h hm
          rw [Sx.texts] at h
          cases e : y.text with
          | none => rw [e] at h; cases h
          | some ty =>
            rw [e] at h
            simp only at h
            obtain ⟨r', hr', rfl⟩ := Option.map_eq_some_iff.1 h
            obtain ⟨T', a1, a2, a3⟩ := ihL false r' m (fun z hz => hy z (List.mem_cons_of_mem _ hz)) hr' hm
            obtain ⟨T, b1, b2, b3⟩ := ih y ty (r' ++ m) (hy y List.mem_cons_self) e (Sx.texts_behind hr' hm)
            refine ⟨T ++ T', ?_, fun n => ?_, fun l hl => ?_⟩
            · rw [List.length_append]
              simp only [Sx.sizes] at b1 ⊢
              omega
            · obtain ⟨Q', q1, q2⟩ := a2 n
              obtain ⟨Q, p1, p2⟩ := b2 (n + T'.length)
              refine ⟨Q ++ Q', by rw [List.map_append, p1, q1], ?_⟩
              have e0 : Lx.lex (n + (T ++ T').length) (((if f = true then [] else [32]) ++ ty ++ r') ++ m) = Lx.lex (n + T'.length + T.length) (ty ++ (r' ++ m)) := by
                rw [List.length_append, show n + (T.length + T'.length) = n + T'.length + T.length by omega]
                cases f
                · simp only [Bool.false_eq_true, if_false, List.cons_append, List.nil_append, List.append_assoc]
                  exact Lx.lex_blank _ _
                · simp only [if_true, List.nil_append, List.append_assoc]
              rw [e0, p2, q2]
              simp
            · obtain ⟨l1, l2, rfl, h1, h2⟩ := List.map_eq_append_iff.1 hl
              obtain ⟨M, m1, m2, m3⟩ := b3 l1 h1
              obtain ⟨M', n1, n2, n3⟩ := a3 l2 h2
              refine ⟨M ++ M', m1.app n1, ?_, ?_⟩
              · rw [List.map_append, m2, n2]
                rfl
              · rw [Sx.deeps_app, m3, n3]
                simp [Sx.deeps]
      obtain ⟨T, c1, c2, c3⟩ := hL x.L true r (41 :: m) (fun y hy => by have := Sx.size_lt hy; omega) hr (.inr ⟨41, m, rfl, Lx.ends_41⟩)
      refine ⟨(1, [40]) :: (T ++ [(2, [41])]), ?_, fun n => ?_, fun l hl => ?_⟩
      · have := x.size_eq
        simp only [List.length_cons, List.length_append, List.length_nil, Sx.sizes]
        omega
      · obtain ⟨Q, q1, q2⟩ := c2 (n + 1)
        obtain ⟨q, hq⟩ := Lx.lex_open (n + 1 + T.length) (r ++ 41 :: m)
        obtain ⟨q', hq'⟩ := Lx.lex_close n m
        refine ⟨(1, [40], q) :: (Q ++ [(2, [41], q')]), by simp [q1], ?_⟩
        have e0 : Lx.lex (n + ((1, [40]) :: (T ++ [(2, [41])]) : List (Int × List UInt8)).length) (40 :: (r ++ [41]) ++ m) = Lx.lex (n + 1 + T.length + 1) (40 :: (r ++ 41 :: m)) := by
          rw [List.length_cons, List.length_append, List.length_singleton, show n + (T.length + 1 + 1) = n + 1 + T.length + 1 by omega]
          simp
        rw [e0, hq, q2, hq']
        simp
      · cases l with
        | nil => simp at hl
        | cons o l =>
          rw [List.map_cons, List.cons.injEq] at hl
          obtain ⟨ho, hl⟩ := hl
          obtain ⟨l1, l2, rfl, h1, h2⟩ := List.map_eq_append_iff.1 hl
          cases l2 with
          | nil => simp at h2
          | cons c l3 =>
            rw [List.map_cons, List.cons.injEq] at h2
            obtain ⟨h2, h3⟩ := h2
            obtain rfl : l3 = [] := by simpa using h3
            obtain ⟨M, m1, m2, m3⟩ := c3 l1 h1
            refine ⟨_, .list o c l1 [] M [] (Prod.mk.inj ho).1 (Prod.mk.inj h2).1 m1 .nil, ?_, ?_⟩
            · rw [List.map_cons, List.map_nil, List.map_cons, List.map_nil, Sx.key_list hx, Sx.key_list (x := Sx.node _ _) rfl]
              show [Sx.mk true 0 _ 0 _ (M.map _)] = _
              rw [m2]
              rfl
            · show max (Sx.deep _) 0 = max (Sx.deep x) 0
              rw [Sx.deep_list hx, Sx.deep_list (x := Sx.node _ _) rfl]
              show max (Sx.deeps M + 1) _ = _
              rw [m3]
end Go.Proofs.YtpjdfogieiokkaaDoor
