/- What the proofs of this claim use, text by text. -/
import Derived.Test.YtcgaeknikfaghaaGreatDoorQC06
set_option linter.unusedSimpArgs false
set_option linter.unusedVariables false
set_option maxRecDepth 100000
set_option maxHeartbeats 25600000
namespace Go.Proofs.YtcgaeknikfaghaaGreatDoor
abbrev Bop (α : Type) := List Nd → List Nd × α × Int
def Bd.St {α : Type} (o : Bop α) (N : List Nd) : Prop :=
  Tm.Inv (o N).1 ∧ N <+: (o N).1 ∧ ((o N).2.2 = 0 → ∀ M, Tm.Inv M → (o N).1 <+: M → o M = (M, (o N).2.1, 0)) ∧ ((o N).2.2 ≠ 0 → o (o N).1 = o N)
def Bd.andThen {α β : Type} (o : Bop α) (g : α → Bop β) (z : β) : Bop β := fun N => match o N with
  | (N', a, e) => if e = 0 then g a N' else (N', z, e)
theorem Bd.andThen_ok {α β : Type} {o : Bop α} {g : α → Bop β} {z : β} {N N' : List Nd} {a : α} (h : o N = (N', a, 0)) : Bd.andThen o g z N = g a N' := by
  unfold Bd.andThen; rw [h]; rfl
theorem Bd.andThen_err {α β : Type} {o : Bop α} {g : α → Bop β} {z : β} {N N' : List Nd} {a : α} {e : Int} (h : o N = (N', a, e)) (he : e ≠ 0) : Bd.andThen o g z N = (N', z, e) := by
  unfold Bd.andThen; rw [h]; exact if_neg he
theorem Bd.St.andThen {α β : Type} {o : Bop α} {g : α → Bop β} {z : β} {N : List Nd} (h : Bd.St o N) (hg : ∀ N' a, o N = (N', a, 0) → Bd.St (g a) N') : Bd.St (Bd.andThen o g z) N := by
  obtain ⟨h1, h2, h3, h4⟩ := h
  cases ho : o N with
  | mk N' r =>
    obtain ⟨a, e⟩ := r
    rw [ho] at h1 h2 h3 h4
    by_cases he : e = 0
    · subst he
      obtain ⟨g1, g2, g3, g4⟩ := hg N' a ho
      unfold Bd.St
      rw [Bd.andThen_ok ho]
      have hagain : ∀ M, Tm.Inv M → (g a N').1 <+: M → o M = (M, a, 0) := fun M hM hp => h3 rfl M hM (g2.trans hp)
      refine ⟨g1, h2.trans g2, fun he M hM hp => ?_, fun he => ?_⟩
      · rw [Bd.andThen_ok (hagain M hM hp)]
        exact g3 he M hM hp
      · rw [Bd.andThen_ok (hagain _ g1 (List.prefix_refl _))]
        exact g4 he
    · unfold Bd.St
      rw [Bd.andThen_err ho he]
      refine ⟨h1, h2, fun e0 => absurd e0 he, fun _ => ?_⟩
      have := h4 he
      exact Bd.andThen_err this he
theorem Bd.St.pure {α : Type} (a : α) {N : List Nd} (h : Tm.Inv N) : Bd.St (fun N => (N, a, 0)) N :=
  ⟨h, List.prefix_refl _, fun _ _ _ _ => rfl, fun e => absurd rfl e⟩
theorem Bd.St.err {α : Type} (a : α) (e : Int) (he : e ≠ 0) {N : List Nd} (h : Tm.Inv N) : Bd.St (fun N => (N, a, e)) N :=
  ⟨h, List.prefix_refl _, fun e0 => absurd e0 he, fun _ => rfl⟩
theorem Bd.St.congr {α : Type} {o p : Bop α} {N : List Nd} (h : Bd.St p N) (he : ∀ M, N <+: M → o M = p M) : Bd.St o N := by
  have e0 := he N (List.prefix_refl _)
  unfold Bd.St
  rw [e0]
  exact ⟨h.1, h.2.1, fun e M hM hp => by rw [he M (h.2.1.trans hp)]; exact h.2.2.1 e M hM hp, fun e => by rw [he _ h.2.1]; exact h.2.2.2 e⟩
theorem Bd.St.add (x : Nd) {N : List Nd} (hI : Tm.Inv (Tm.add N x).1) : Bd.St (fun N => Tm.add N x) N := by
  obtain ⟨m, hm⟩ := Tm.add_ext N x
  refine ⟨hI, ⟨m, hm.symm⟩, fun e M hM hp => ?_, fun e => ?_⟩
  · obtain ⟨q, rfl⟩ := hp
    rcases Tm.add_ways N x with ⟨hx, h⟩ | ⟨_, _, h⟩ | ⟨hx, _, h⟩
    · simp only [h]
      rw [Tm.add, if_pos (Tm.has_iff.2 (List.mem_append_left _ hx)), Tm.idx_app _ hx]
    · simp only [h] at e
      exact absurd e (by decide)
    · simp only [h]
      have hx2 : x ∈ N ++ [x] := by simp
      rw [Tm.add, if_pos (Tm.has_iff.2 (List.mem_append_left _ hx2)), Tm.idx_app _ hx2, Tm.idx_new hx]
  · exact (Tm.add_again N x).1
theorem Tm.app_ext {l m : List Nd} (hl : Tm.Inv l) {op : Int} {a : List Int} (h : (Tm.app l op a).2.2 = 0) : ∃ w more own, Tm.asks op = some (w, more, own) ∧ Tm.app l op a = Tm.add l (Tm.node op own l a) ∧ Tm.app (l ++ m) op a = Tm.add (l ++ m) (Tm.node op own l a) := by
  rcases Tm.app_ways l op a with ⟨e, he, h1⟩ | ⟨w, more, own, h1, h2, h3, h4, h5, h6⟩
  · rw [h1] at h; exact absurd h he
  · have hin := Tm.allIn_spec h3
    have hmap : a.map (Tm.letAt (l ++ m)) = a.map (Tm.letAt l) := List.map_congr_left fun p hp => by
      have := hin p hp
      unfold Tm.letAt
      rw [Tm.get_ext this.2 this.1]
    have hfree : Tm.free (l ++ m) a = Tm.free l a := by
      unfold Tm.free
      congr 1
      refine List.filter_congr fun p hp => ?_
      rw [Tm.isNum_ext hl (hin p hp).1 (hin p hp).2]
    have hall : Tm.allIn (l ++ m) a = true := List.all_eq_true.2 fun p hp => decide_eq_true (by have := hin p hp; simp; omega)
    have hnode : Tm.node op own (l ++ m) a = Tm.node op own l a := by unfold Tm.node; rw [hmap]
    refine ⟨w, more, own, h1, h6, ?_⟩
    unfold Tm.app
    rw [h1]
    simp only
    rw [if_neg h2, if_neg (by rw [hall]; decide), hmap, if_neg (by rw [h4]; decide), hfree, if_neg h5, hnode]
theorem Bd.St.app (op : Int) (a : List Int) {N : List Nd} (hI : Tm.Inv N) : Bd.St (fun N => Tm.app N op a) N := by
  have hI2 := Tm.app_inv hI op a
  by_cases he : (Tm.app N op a).2.2 = 0
  · obtain ⟨w, more, own, h1, h2, _⟩ := Tm.app_ext (m := []) hI he
    rw [h2] at hI2
    refine Bd.St.congr (Bd.St.add (Tm.node op own N a) hI2) fun M hp => ?_
    obtain ⟨m, rfl⟩ := hp
    obtain ⟨w', more', own', h1', h2', h3'⟩ := Tm.app_ext (m := m) hI he
    rw [h1] at h1'
    cases h1'
    exact h3'
  · have hpre : N <+: (Tm.app N op a).1 := by
      rcases Tm.app_ways N op a with ⟨e, _, h1⟩ | ⟨w, more, own, h1, h2, h3, h4, h5, h6⟩
      · rw [h1]; exact List.prefix_refl _
      · rw [h6]
        obtain ⟨m, hm⟩ := Tm.add_ext N (Tm.node op own N a)
        exact ⟨m, hm.symm⟩
    exact ⟨hI2, hpre, fun e => absurd e he, fun _ => (Tm.app_again hI op a).1⟩
theorem Bd.St.const (s : ByteArray) (sort : Int) {N : List Nd} (hI : Tm.Inv N) : Bd.St (fun N => Tm.const N s sort) N := by
  by_cases h : sort < 1 ∨ 3 < sort ∨ 16384 < s.size
  · exact (Bd.St.err 0 1 (by decide) hI).congr fun M _ => by rw [Tm.const, if_pos h]
  · refine (Bd.St.add ⟨1, sort, [], s, 0, []⟩ ?_).congr fun M _ => by rw [Tm.const, if_neg h]
    exact Tm.add_inv hI ⟨by simp only; omega, by simp only; omega⟩ (fun p hp => (List.not_mem_nil hp).elim) (fun e => by simp at e)
theorem Bd.St.bool (b : Bool) {N : List Nd} (hI : Tm.Inv N) : Bd.St (fun N => Tm.bool N b) N :=
  Bd.St.add _ (Tm.add_inv hI ⟨by simp only; decide, by simp only; decide⟩ (fun p hp => (List.not_mem_nil hp).elim) (fun e => by simp only at e; split at e <;> cases e))
theorem Bd.St.num (z : Int) {N : List Nd} (hI : Tm.Inv N) : Bd.St (fun N => Tm.num N z) N := by
  by_cases h : z < 0
  · exact (Bd.St.err 0 1 (by decide) hI).congr fun M _ => by rw [Tm.num, if_pos h]
  · refine (Bd.St.add _ ?_).congr fun M _ => by rw [Tm.num, if_neg h]
    exact Tm.add_inv hI ⟨by simp only; decide, by simp only; decide⟩ (fun p hp => (List.not_mem_nil hp).elim) (fun e => by simp at e)
theorem Bd.St.str (t : List (Int × Int)) {N : List Nd} (hI : Tm.Inv N) : Bd.St (fun N => Tm.str N t) N := by
  by_cases h : Tx.mayB t = true
  · refine (Bd.St.add _ ?_).congr fun M _ => by rw [Tm.str, if_pos h]
    exact Tm.add_inv hI ⟨by simp only; decide, by simp only; decide⟩ (fun p hp => (List.not_mem_nil hp).elim) (fun e => by simp at e)
  · exact (Bd.St.err 0 1 (by decide) hI).congr fun M _ => by rw [Tm.str, if_neg h]
def Bd.Ok (r : Bans) : Prop := (r.2.2 = 0 → 0 ≤ r.2.1 ∧ r.2.1 < r.1.length) ∧ (r.2.2 ≠ 0 → r.2.1 = 0)
theorem Bd.Ok.add (N : List Nd) (x : Nd) : Bd.Ok (Tm.add N x) := by
  rcases Tm.add_ways N x with ⟨hx, h⟩ | ⟨_, _, h⟩ | ⟨hx, _, h⟩
  · rw [h]
    have := (Tm.idx_mem hx).2
    exact ⟨fun _ => ⟨by simp only; omega, by simp only; omega⟩, fun e => absurd rfl e⟩
  · rw [h]; exact ⟨fun e => absurd e (by show ¬ (2 : Int) = 0; decide), fun _ => rfl⟩
  · rw [h]; exact ⟨fun _ => ⟨by simp only; omega, by simp; omega⟩, fun e => absurd rfl e⟩
theorem Bd.Ok.err (N : List Nd) {e : Int} (he : e ≠ 0) : Bd.Ok (N, 0, e) := ⟨fun h => absurd h he, fun _ => rfl⟩
theorem Bd.Ok.app (N : List Nd) (op : Int) (a : List Int) : Bd.Ok (Tm.app N op a) := by
  rcases Tm.app_ways N op a with ⟨e, he, h1⟩ | ⟨w, more, own, h1, h2, h3, h4, h5, h6⟩
  · rw [h1]; exact .err N he
  · rw [h6]; exact .add _ _
theorem Bd.Ok.const (N : List Nd) (s : ByteArray) (sort : Int) : Bd.Ok (Tm.const N s sort) := by
  unfold Tm.const; split
  · exact .err N (by decide)
  · exact .add _ _
theorem Bd.Ok.num (N : List Nd) (z : Int) : Bd.Ok (Tm.num N z) := by
  unfold Tm.num; split
  · exact .err N (by decide)
  · exact .add _ _
theorem Bd.Ok.str (N : List Nd) (t : List (Int × Int)) : Bd.Ok (Tm.str N t) := by
  unfold Tm.str; split
  · exact .add _ _
  · exact .err N (by decide)
def Bd.In (N : List Nd) (l : List Int) : Prop := ∀ p ∈ l, 0 ≤ p ∧ p < N.length
theorem Bd.In.ext {N M : List Nd} {l : List Int} (h : Bd.In N l) (hp : N <+: M) : Bd.In M l := fun p hm => by
  have := h p hm
  have := hp.length_le
  omega
theorem Bd.each_cons (f : List Nd → Sx → Bans) (x : Sx) (l : List Sx) (N : List Nd) :
    Bd.each f N (x :: l) = Bd.andThen (fun N => f N x) (fun id => Bd.andThen (fun N => Bd.each f N l) (fun ids N => (N, id :: ids, 0)) []) [] N := rfl
theorem Bd.each_st {f : List Nd → Sx → Bans} : ∀ (l : List Sx) (N : List Nd), Tm.Inv N → (∀ y ∈ l, ∀ M, Tm.Inv M → N <+: M → Bd.St (fun N => f N y) M ∧ Bd.Ok (f M y)) →
    Bd.St (fun N => Bd.each f N l) N ∧ ((Bd.each f N l).2.2 = 0 → Bd.In (Bd.each f N l).1 (Bd.each f N l).2.1 ∧ (Bd.each f N l).2.1.length = l.length) ∧ ((Bd.each f N l).2.2 ≠ 0 → (Bd.each f N l).2.1 = [])
  | [], N, hI, _ => ⟨Bd.St.pure [] hI, fun _ => ⟨fun p hp => (List.not_mem_nil hp).elim, rfl⟩, fun e => absurd rfl e⟩
  | x :: l, N, hI, h => by
    obtain ⟨hs, hk⟩ := h x List.mem_cons_self N hI (List.prefix_refl _)
    have hrest : ∀ N' id, f N x = (N', id, 0) → _ := fun N' id e =>
      Bd.each_st (f := f) l N' (by have := hs.1; simp only [e] at this; exact this) fun y hy M hM hp =>
        h y (List.mem_cons_of_mem _ hy) M hM (by have := hs.2.1; simp only [e] at this; exact this.trans hp)
    refine ⟨?_, ?_⟩
    · refine Bd.St.congr (Bd.St.andThen hs fun N' id e => Bd.St.andThen (hrest N' id e).1 fun N'' ids e2 => Bd.St.pure _ ?_) fun M _ => Bd.each_cons f x l M
      have := (hrest N' id e).1.1
      simp only [e2] at this
      exact this
    · rw [Bd.each_cons]
      cases ho : f N x with
      | mk N' r =>
        obtain ⟨id, e⟩ := r
        by_cases he : e = 0
        · subst he
          obtain ⟨r1, r2, r3⟩ := hrest N' id ho
          rw [Bd.andThen_ok (o := fun N => f N x) ho]
          cases ho2 : Bd.each f N' l with
          | mk N'' r =>
            obtain ⟨ids, e⟩ := r
            rw [ho2] at r2 r3
            by_cases he : e = 0
            · subst he
              rw [Bd.andThen_ok (o := fun N => Bd.each f N l) ho2]
              refine ⟨fun _ => ⟨fun p hp => ?_, by simp [(r2 rfl).2]⟩, fun e => absurd rfl e⟩
              rcases List.mem_cons.1 hp with rfl | hp
              · have h1 := hk.1 (by rw [ho])
                have h2 := r1.2.1.length_le
                rw [ho] at h1
                simp only [ho2] at h2
                simp only at h1 ⊢
                omega
              · exact (r2 rfl).1 p hp
            · rw [Bd.andThen_err (o := fun N => Bd.each f N l) ho2 he]
              exact ⟨fun e0 => absurd e0 he, fun _ => rfl⟩
        · rw [Bd.andThen_err (o := fun N => f N x) ho he]
          exact ⟨fun e0 => absurd e0 he, fun _ => rfl⟩
theorem Bd.bound_in : ∀ {sc : Sc} {s : ByteArray} {i : Int}, Bd.bound sc s = some i → i ∈ sc.map (·.2)
  | [], _, _, h => by cases h
  | x :: l, s, i, h => by
    rw [Bd.bound] at h
    cases hb : Bd.bound l s with
    | some j => rw [hb] at h; cases h; exact List.mem_cons_of_mem _ (Bd.bound_in hb)
    | none =>
      rw [hb] at h
      simp only at h
      split at h
      · cases h; simp
      · cases h
theorem Bd.zip_in {N : List Nd} {l : List ByteArray} {A : List Int} (h : Bd.In N A) : Bd.In N ((List.zip l A).map (·.2)) := fun p hp => by
  obtain ⟨q, hq, rfl⟩ := List.mem_map.1 hp
  exact h _ (List.of_mem_zip hq).2
theorem Bd.sortAt_ext {N M : List Nd} (hp : N <+: M) {p : Int} (h : 0 ≤ p ∧ p < N.length) : Bd.sortAt M p = Bd.sortAt N p := by
  obtain ⟨m, rfl⟩ := hp
  unfold Bd.sortAt
  rw [Tm.get_ext h.2 h.1]
theorem Bd.sorts_ext {N M : List Nd} (hp : N <+: M) {A : List Int} (h : Bd.In N A) (P : List (ByteArray × Int)) :
    (List.zip A P).any (fun q => decide (Bd.sortAt M q.1 ≠ q.2.2)) = (List.zip A P).any (fun q => decide (Bd.sortAt N q.1 ≠ q.2.2)) := by
  rw [Bool.eq_iff_iff, List.any_eq_true, List.any_eq_true]
  constructor
  · rintro ⟨q, hq, h2⟩
    exact ⟨q, hq, by rw [← Bd.sortAt_ext hp (h _ (List.of_mem_zip hq).1)]; exact h2⟩
  · rintro ⟨q, hq, h2⟩
    exact ⟨q, hq, by rw [Bd.sortAt_ext hp (h _ (List.of_mem_zip hq).1)]; exact h2⟩
end Go.Proofs.YtcgaeknikfaghaaGreatDoor
namespace Go.Proofs.YtcgaeknikfaghaaGreatDoor
def Bd.Good (D : List Dc) (k : Nat) (x : Sx) : Prop :=
  ∀ (sc : Sc) (N : List Nd), Tm.Inv N → Bd.In N (sc.map (·.2)) → Bd.St (fun N => Bd.tm D k sc N x) N ∧ Bd.Ok (Bd.tm D k sc N x)
theorem Bd.fn_good {D : List Dc} {j : Nat} (hj : ∀ y, Bd.Good D j y) (A : List Int) (N : List Nd) (hI : Tm.Inv N) (hA : Bd.In N A) : Bd.St (fun N => Bd.fn D j A N) N ∧ Bd.Ok (Bd.fn D j A N) := by
  unfold Bd.fn Bd.callF
  cases hd : D[j]? with
  | none => exact ⟨Bd.St.err 0 1 (by decide) hI, .err N (by decide)⟩
  | some d =>
    simp only
    by_cases h1 : A.length ≠ d.par.length
    · simp only [if_pos h1]
      exact ⟨Bd.St.err 0 1 (by decide) hI, .err N (by decide)⟩
    · simp only [if_neg h1]
      by_cases h2 : (List.zip A d.par).any (fun q => decide (Bd.sortAt N q.1 ≠ q.2.2)) = true
      · rw [if_pos h2]
        refine ⟨(Bd.St.err (0 : Int) 90 (by decide) hI).congr fun M hp => ?_, .err N (by decide)⟩
        rw [Bd.sorts_ext hp hA, if_pos h2]
      · rw [if_neg h2]
        obtain ⟨g1, g2⟩ := hj d.body (List.zip (d.par.map (·.1)) A) N hI (Bd.zip_in hA)
        refine ⟨g1.congr fun M hp => ?_, g2⟩
        rw [Bd.sorts_ext hp hA, if_neg h2]
theorem Bd.In.append {N : List Nd} {a b : List Int} (h : Bd.In N a) (k : Bd.In N b) : Bd.In N (a ++ b) := fun p hp => (List.mem_append.1 hp).elim (h p) (k p)
theorem Bd.letF_eq (f : Sc → List Nd → Sx → Bans) (sc : Sc) (N : List Nd) (b t : Sx) {m : List (ByteArray × Sx)} (hb : b.list = true) (hm : Bd.binds b.L = some m)
    (h1 : (m.any fun q => Bd.reserved q.1.data.toList) = false) (h2 : Bd.twice (m.map (·.1)) = false) :
    Bd.letF f sc N [b, t] = Bd.andThen (fun N => Bd.each (f sc) N (m.map (·.2))) (fun ids N => f (sc ++ List.zip (m.map (·.1)) ids) N t) 0 N := by
  unfold Bd.letF
  simp only [hb, hm, h1, h2]
  rfl
theorem Bd.andThen_ok2 {α : Type} {o : Bop α} {g : α → Bop Int} {N : List Nd} (h : ∀ N' a, o N = (N', a, 0) → Bd.Ok (g a N')) : Bd.Ok (Bd.andThen o g 0 N) := by
  cases ho : o N with
  | mk N' r =>
    obtain ⟨a, e⟩ := r
    by_cases he : e = 0
    · subst he
      rw [Bd.andThen_ok ho]
      exact h N' a ho
    · rw [Bd.andThen_err ho he]
      exact .err N' he
theorem Bd.good (D : List Dc) : ∀ k x, Bd.Good D k x := by
  refine Bd.induct fun k x hk hx => ?_
  intro sc N hI hsc
  have hfn : ∀ j, j < k → ∀ A M, Tm.Inv M → Bd.In M A → Bd.St (fun N => Bd.fn D j A N) M ∧ Bd.Ok (Bd.fn D j A M) := fun j hj A M hM hA => Bd.fn_good (fun y => hk j y hj) A M hM hA
  suffices h : Bd.St (fun N => Bd.step D k (Bd.fn D) (Bd.tm D k) sc N x) N ∧ Bd.Ok (Bd.step D k (Bd.fn D) (Bd.tm D k) sc N x) from
    ⟨h.1.congr fun M _ => Bd.tm_eq D k sc M x, by rw [Bd.tm_eq]; exact h.2⟩
  have herr : ∀ e : Int, e ≠ 0 → Bd.St (fun N => (N, (0 : Int), e)) N ∧ Bd.Ok (N, 0, e) := fun e he => ⟨Bd.St.err 0 e he hI, .err N he⟩
  have hE : ∀ l : List Sx, (∀ y ∈ l, y.size < x.size) → Bd.St (fun N => Bd.each (Bd.tm D k sc) N l) N ∧ _ := fun l hl =>
    Bd.each_st (f := Bd.tm D k sc) l N hI fun y hy M hM hp => hx y (hl y hy) sc M hM (hsc.ext hp)
  unfold Bd.step
  by_cases hl : x.list = true
  · simp only [if_pos hl]
    unfold Bd.listF
    cases hL : x.L with
    | nil => exact herr 1 (by decide)
    | cons h r =>
      simp only
      have hr := hE r fun y hy => Sx.size_lt (by rw [hL]; exact List.mem_cons_of_mem _ hy)
      by_cases h1 : h.list = true ∨ h.k ≠ 3
      · simp only [if_pos h1]; exact herr 101 (by decide)
      simp only [if_neg h1]
      by_cases h2 : h.T.data.toList = [108, 101, 116]
      · simp only [if_pos h2]
        by_cases hform : ∃ b t, r = [b, t] ∧ b.list = true
        · obtain ⟨b, t, rfl, hb⟩ := hform
          cases hm : Bd.binds b.L with
          | none =>
            have e : ∀ M, Bd.letF (Bd.tm D k) sc M [b, t] = (M, 0, 1) := fun M => by unfold Bd.letF; simp only [hb, hm]; rfl
            simp only [e]; exact herr 1 (by decide)
          | some m =>
            by_cases h3 : (m.any fun q => Bd.reserved q.1.data.toList) = true
            · have e : ∀ M, Bd.letF (Bd.tm D k) sc M [b, t] = (M, 0, 101) := fun M => by unfold Bd.letF; simp only [hb, hm, h3]; rfl
              simp only [e]; exact herr 101 (by decide)
            by_cases h4 : Bd.twice (m.map (·.1)) = true
            · have e : ∀ M, Bd.letF (Bd.tm D k) sc M [b, t] = (M, 0, 4) := fun M => by unfold Bd.letF; simp only [hb, hm, Bool.eq_false_iff.2 h3, h4]; rfl
              simp only [e]; exact herr 4 (by decide)
            have e := fun M => Bd.letF_eq (Bd.tm D k) sc M b t hb hm (Bool.eq_false_iff.2 h3) (Bool.eq_false_iff.2 h4)
            simp only [e]
            obtain ⟨s1, s2⟩ := Bd.let_sub hL hm
            obtain ⟨q1, q2, q3⟩ := hE (m.map (·.2)) s2
            have hnext : ∀ N' ids, Bd.each (Bd.tm D k sc) N (m.map (·.2)) = (N', ids, 0) → Bd.St (fun N => Bd.tm D k (sc ++ List.zip (m.map (·.1)) ids) N t) N' ∧ Bd.Ok (Bd.tm D k (sc ++ List.zip (m.map (·.1)) ids) N' t) := fun N' ids e => by
              have i1 := q1.1
              have i2 := q1.2.1
              have i3 := (q2 (by rw [e])).1
              simp only [e] at i1 i2 i3
              refine hx t s1 _ N' i1 ?_
              rw [List.map_append]
              exact (hsc.ext i2).append (Bd.zip_in i3)
            exact ⟨Bd.St.andThen q1 fun N' ids e => (hnext N' ids e).1, Bd.andThen_ok2 fun N' ids e => (hnext N' ids e).2⟩
        · have e : ∀ M, Bd.letF (Bd.tm D k) sc M r = (M, 0, 1) := fun M => by
            unfold Bd.letF
            split
            · rename_i b t
              rw [if_pos (Bool.eq_false_iff.2 fun hb => hform ⟨b, t, rfl, hb⟩)]
            · rfl
          simp only [e]; exact herr 1 (by decide)
      simp only [if_neg h2]
      by_cases h3 : Bd.op h.T.data.toList r.length ≠ 0
      · simp only [if_pos h3]
        exact ⟨Bd.St.andThen (g := fun ids N => Tm.app N (Bd.op h.T.data.toList r.length) ids) (z := 0) hr.1 fun N' ids e => Bd.St.app _ ids (by have := hr.1.1; simp only [e] at this; exact this),
          Bd.andThen_ok2 (o := fun N => Bd.each (Bd.tm D k sc) N r) (g := fun ids N => Tm.app N (Bd.op h.T.data.toList r.length) ids) fun N' ids _ => .app _ _ _⟩
      simp only [if_neg h3]
      by_cases h4 : Bd.reserved h.T.data.toList = true
      · simp only [if_pos h4]; exact herr 101 (by decide)
      simp only [if_neg h4]
      by_cases h5 : (Bd.bound sc h.T).isSome = true
      · simp only [if_pos h5]; exact herr 100 (by decide)
      simp only [if_neg h5]
      cases hd : Bd.decl D h.T k with
      | none => exact herr 100 (by decide)
      | some j =>
        simp only
        by_cases h6 : (D[j]?.map (·.mac)).getD false = true
        · simp only [if_pos h6]
          have hnext : ∀ N' ids, Bd.each (Bd.tm D k sc) N r = (N', ids, 0) → _ := fun N' ids e =>
            hfn j (Bd.decl_lt hd).1 ids N' (by have := hr.1.1; simp only [e] at this; exact this) (by have := (hr.2.1 (by rw [e])).1; simp only [e] at this; exact this)
          exact ⟨Bd.St.andThen (g := fun ids N => Bd.fn D j ids N) (z := 0) hr.1 fun N' ids e => (hnext N' ids e).1,
            Bd.andThen_ok2 (o := fun N => Bd.each (Bd.tm D k sc) N r) (g := fun ids N => Bd.fn D j ids N) fun N' ids e => (hnext N' ids e).2⟩
        · simp only [if_neg h6]; exact herr 100 (by decide)
  · simp only [if_neg hl]
    unfold Bd.atomF
    by_cases h1 : x.k = 4
    · simp only [if_pos h1]
      by_cases h2 : isT x.T.data.toList = true
      · simp only [if_pos h2]; exact ⟨Bd.St.num _ hI, .num _ _⟩
      · simp only [if_neg h2]; exact herr 101 (by decide)
    simp only [if_neg h1]
    by_cases h2 : x.k = 6
    · simp only [if_pos h2]; exact ⟨Bd.St.str _ hI, .str _ _⟩
    simp only [if_neg h2]
    by_cases h3 : x.k = 3
    · simp only [if_pos h3]
      unfold Bd.nameF
      by_cases h4 : x.T.data.toList = [116, 114, 117, 101] ∨ x.T.data.toList = [102, 97, 108, 115, 101]
      · simp only [if_pos h4]; exact ⟨Bd.St.bool _ hI, .add _ _⟩
      simp only [if_neg h4]
      by_cases h5 : Bd.reserved x.T.data.toList = true
      · simp only [if_pos h5]; exact herr 101 (by decide)
      simp only [if_neg h5]
      cases hb : Bd.bound sc x.T with
      | some id => exact ⟨Bd.St.pure id hI, fun _ => hsc id (Bd.bound_in hb), fun e => absurd rfl e⟩
      | none =>
        simp only
        cases hd : Bd.decl D x.T k with
        | none => exact herr 100 (by decide)
        | some j =>
          simp only
          cases hj : D[j]? with
          | none => exact herr 100 (by decide)
          | some d =>
            simp only
            by_cases h6 : d.mac = true
            · simp only [if_pos h6]
              by_cases h7 : d.par = []
              · simp only [if_pos h7]
                exact hfn j (Bd.decl_lt hd).1 [] N hI fun p hp => (List.not_mem_nil hp).elim
              · simp only [if_neg h7]; exact herr 1 (by decide)
            · simp only [if_neg h6]; exact ⟨Bd.St.const _ _ hI, .const _ _ _⟩
    · simp only [if_neg h3]; exact herr 101 (by decide)
theorem Bd.again (D : List Dc) (k : Nat) (sc : Sc) (N : List Nd) (x : Sx) (hI : Tm.Inv N) (hsc : Bd.In N (sc.map (·.2))) :
    Bd.tm D k sc (Bd.tm D k sc N x).1 x = Bd.tm D k sc N x := by
  obtain ⟨⟨h1, h2, h3, h4⟩, h5⟩ := Bd.good D k x sc N hI hsc
  by_cases he : (Bd.tm D k sc N x).2.2 = 0
  · have := h3 he _ h1 (List.prefix_refl _)
    simp only at this
    rw [this, ← he]
  · exact h4 he
end Go.Proofs.YtcgaeknikfaghaaGreatDoor
namespace Go.Proofs.YtcgaeknikfaghaaGreatDoor
def Bd.Memo (D : List Dc) (N : List Nd) (m : List (Nat × List Int × Int)) : Prop := ∀ q ∈ m, Bd.In N q.2.1 ∧ Bd.fn D q.1 q.2.1 N = (N, q.2.2, 0)
theorem Bd.Memo.nil (D : List Dc) (N : List Nd) : Bd.Memo D N [] := fun _ h => (List.not_mem_nil h).elim
theorem Bd.fn_st (D : List Dc) (j : Nat) (A : List Int) (N : List Nd) (hI : Tm.Inv N) (hA : Bd.In N A) : Bd.St (fun N => Bd.fn D j A N) N ∧ Bd.Ok (Bd.fn D j A N) :=
  Bd.fn_good (fun y => Bd.good D j y) A N hI hA
theorem Bd.Memo.ext {D : List Dc} {N M : List Nd} {m : List (Nat × List Int × Int)} (h : Bd.Memo D N m) (hN : Tm.Inv N) (hM : Tm.Inv M) (hp : N <+: M) : Bd.Memo D M m := fun q hq => by
  obtain ⟨h1, h2⟩ := h q hq
  refine ⟨h1.ext hp, ?_⟩
  have := (Bd.fn_st D q.1 q.2.1 N hN h1).1.2.2.1
  simp only [h2] at this
  exact this trivial M hM hp
theorem Bd.Memo.add {D : List Dc} {N N' : List Nd} {m : List (Nat × List Int × Int)} {j : Nat} {A : List Int} {id : Int} (h : Bd.Memo D N' m) (hN : Tm.Inv N) (hA : Bd.In N A) (hf : Bd.fn D j A N = (N', id, 0)) : Bd.Memo D N' (m ++ [(j, A, id)]) := fun q hq => by
  rcases List.mem_append.1 hq with hq | hq
  · exact h q hq
  · obtain rfl := List.mem_singleton.1 hq
    obtain ⟨⟨g1, g2, g3, _⟩, _⟩ := Bd.fn_st D j A N hN hA
    simp only [hf] at g1 g2 g3
    exact ⟨hA.ext g2, g3 trivial N' g1 (List.prefix_refl _)⟩
theorem Bd.Memo.hit {D : List Dc} {N : List Nd} {m : List (Nat × List Int × Int)} (h : Bd.Memo D N m) {j : Nat} {A : List Int} {id : Int} (hq : (j, A, id) ∈ m) : Bd.fn D j A N = (N, id, 0) := (h _ hq).2
end Go.Proofs.YtcgaeknikfaghaaGreatDoor
namespace Go.Proofs.YtcgaeknikfaghaaGreatDoor
inductive Kt
  | none
  | op (o : Int)
  | fn (j : Nat)
  | bind (names : List ByteArray) (t : Sx)
  | first
  | memo (j : Nat) (A : List Int)
structure Scp where
  terms : Sc
  body : Bool
  ahead : Nat
structure Fr where
  parts : List Sx
  ids : List Int
  th : Kt
  sc : Nat
  dp : Nat
structure Ms where
  N : List Nd
  made : List (Nat × List Int × Int)
  sc : List Scp
  fr : List Fr
inductive Mng
  | nothing
  | term (id : Int)
  | decl (j : Nat)
def Mk.find (D : List Dc) (s : ByteArray) : List Scp → Mng
  | [] => .nothing
  | x :: l => match Bd.bound x.terms s with
    | some i => .term i
    | none => if x.body = true then (match Bd.decl D s x.ahead with
        | some j => .decl j
        | none => .nothing) else Mk.find D s l
def Mk.says (D : List Dc) (sc : List Scp) (s : ByteArray) : Mng := Mk.find D s sc.reverse
def Mk.hit (m : List (Nat × List Int × Int)) (j : Nat) (A : List Int) : Option Int := (m.find? fun q => decide (q.1 = j ∧ q.2.1 = A)).map (·.2.2)
def Mk.put (m : List (Nat × List Int × Int)) (j : Nat) (A : List Int) (id : Int) : List (Nat × List Int × Int) := (j, A, id) :: m.filter fun q => !decide (q.1 = j ∧ q.2.1 = A)
def Mk.onto (l : List Fr) (id : Int) : List Fr := match l.getLast? with
  | none => l
  | some f => l.dropLast ++ [{ f with ids := f.ids ++ [id] }]
def Mk.give (s : Ms) (id e : Int) : Ms × Int := if e = 0 then ({ s with fr := Mk.onto s.fr id }, 0) else (s, e)
def Mk.bank (s : Ms) (r : Bans) : Ms × Int := Mk.give { s with N := r.1 } r.2.1 r.2.2
def Mk.deep (l : List Fr) : Nat := (l.getLast?.map (·.dp)).getD 0
def Mk.nest (s : Ms) (parts : List Sx) (th : Kt) : Ms := { s with fr := s.fr ++ [⟨parts, [], th, s.sc.length, Mk.deep s.fr + 1⟩] }
def Mk.body (s : Ms) (x : Sx) (terms : Sc) (ahead : Nat) (th : Kt) : Ms := { s with sc := s.sc ++ [⟨terms, true, ahead⟩], fr := s.fr ++ [⟨[x], [], th, s.sc.length + 1, 0⟩] }
def Mk.call (D : List Dc) (s : Ms) (j : Nat) (A : List Int) : Ms × Int := match D[j]? with
  | none => (s, 1)
  | some d => if A.length ≠ d.par.length then (s, 1) else match Mk.hit s.made j A with
    | some id => Mk.give s id 0
    | none => if (List.zip A d.par).any (fun q => decide (Bd.sortAt s.N q.1 ≠ q.2.2)) = true then (s, 90)
      else (Mk.body s d.body (List.zip (d.par.map (·.1)) A) j (.memo j A), 0)
noncomputable def Mk.name (D : List Dc) (s : Ms) (t : ByteArray) : Ms × Int :=
  if t.data.toList = [116, 114, 117, 101] ∨ t.data.toList = [102, 97, 108, 115, 101] then Mk.bank s (Tm.bool s.N (decide (t.data.toList = [116, 114, 117, 101])))
  else if Bd.reserved t.data.toList = true then (s, 101)
  else match Mk.says D s.sc t with
    | .nothing => (s, 100)
    | .term id => Mk.give s id 0
    | .decl j => match D[j]? with
      | none => (s, 100)
      | some d => if d.mac = true then Mk.call D s j [] else Mk.bank s (Tm.const s.N d.name d.sort)
def Mk.let_ (s : Ms) (r : List Sx) : Ms × Int :=
  match r with
  | [b, t] => if b.list = false then (s, 1) else match Bd.binds b.L with
    | none => (s, 1)
    | some m => if (m.any fun q => Bd.reserved q.1.data.toList) = true then (s, 101) else if Bd.twice (m.map (·.1)) = true then (s, 4)
      else (Mk.nest s (m.map (·.2)) (.bind (m.map (·.1)) t), 0)
  | _ => (s, 1)
def Mk.list (D : List Dc) (s : Ms) (l : List Sx) : Ms × Int :=
  match l with
  | [] => (s, 1)
  | h :: r =>
    if h.list = true ∨ h.k ≠ 3 then (s, 101)
    else if h.T.data.toList = [108, 101, 116] then Mk.let_ s r
    else if Bd.op h.T.data.toList r.length ≠ 0 then (Mk.nest s r (.op (Bd.op h.T.data.toList r.length)), 0)
    else if Bd.reserved h.T.data.toList = true then (s, 101)
    else match Mk.says D s.sc h.T with
      | .decl j => if (D[j]?.map (·.mac)).getD false = true then (Mk.nest s r (.fn j), 0) else (s, 100)
      | _ => (s, 100)
noncomputable def Mk.atom (D : List Dc) (s : Ms) (kind : Int) (t : ByteArray) : Ms × Int :=
  if kind = 4 then (if isT t.data.toList = true then Mk.bank s (Tm.num s.N (T.dv t.data.toList)) else (s, 101))
  else if kind = 6 then Mk.bank s (Tm.str s.N (Lt.runsMost (Lt.pts t.data.toList)).2)
  else if kind = 3 then Mk.name D s t else (s, 101)
noncomputable def Mk.part (D : List Dc) (s : Ms) (x : Sx) : Ms × Int := if x.list = true then Mk.list D s x.L else Mk.atom D s x.k x.T
noncomputable def Mk.ends (D : List Dc) (s : Ms) (th : Kt) (ids : List Int) : Ms × Int :=
  match th with
  | .none => (s, 0)
  | .op o => Mk.bank s (Tm.app s.N o ids)
  | .fn j => Mk.call D s j ids
  | .bind names t => (Mk.nest { s with sc := s.sc ++ [⟨List.zip names ids, false, 0⟩] } [t] .first, 0)
  | .first => Mk.give s (ids.headD 0) 0
  | .memo j A => Mk.give { s with made := Mk.put s.made j A (ids.headD 0) } (ids.headD 0) 0
noncomputable def Mk.step (D : List Dc) (s : Ms) : Ms × Int := match s.fr.getLast? with
  | none => (s, 0)
  | some f => match f.parts[f.ids.length]? with
    | some x => Mk.part D { s with sc := s.sc.take f.sc } x
    | none => Mk.ends D { s with sc := s.sc.take f.sc, fr := s.fr.dropLast } f.th f.ids
theorem Mk.onto_snoc (bs : List Fr) (f : Fr) (id : Int) : Mk.onto (bs ++ [f]) id = bs ++ [{ f with ids := f.ids ++ [id] }] := by
  unfold Mk.onto
  rw [List.getLast?_concat, List.dropLast_concat]
theorem Mk.deep_snoc (bs : List Fr) (f : Fr) : Mk.deep (bs ++ [f]) = f.dp := by unfold Mk.deep; rw [List.getLast?_concat]; rfl
theorem Mk.step_part {D : List Dc} {s : Ms} {bs : List Fr} {f : Fr} {x : Sx} (hf : s.fr = bs ++ [f]) (hx : f.parts[f.ids.length]? = some x) : Mk.step D s = Mk.part D { s with sc := s.sc.take f.sc } x := by
  unfold Mk.step
  rw [hf, List.getLast?_concat]
  simp only [hx]
theorem Mk.step_ends {D : List Dc} {s : Ms} {bs : List Fr} {f : Fr} (hf : s.fr = bs ++ [f]) (hx : f.parts.length ≤ f.ids.length) : Mk.step D s = Mk.ends D { s with sc := s.sc.take f.sc, fr := bs } f.th f.ids := by
  unfold Mk.step
  rw [hf, List.getLast?_concat, List.dropLast_concat]
  simp only [List.getElem?_eq_none hx]
theorem Bd.bound_app (l m : Sc) (s : ByteArray) : Bd.bound (l ++ m) s = match Bd.bound m s with
    | some i => some i
    | none => Bd.bound l s := by
  induction l with
  | nil => rw [List.nil_append]; cases Bd.bound m s <;> rfl
  | cons x l ih =>
    rw [List.cons_append, Bd.bound, ih, Bd.bound]
    cases Bd.bound m s <;> rfl
def Mk.See : List Scp → Nat → Sc → Prop
  | [], _, _ => False
  | x :: l, k, sc => if x.body = true then k = x.ahead ∧ sc = x.terms else ∃ sc', Mk.See l k sc' ∧ sc = sc' ++ x.terms
theorem Mk.find_see (D : List Dc) (s : ByteArray) : ∀ (l : List Scp) (k : Nat) (sc : Sc), Mk.See l k sc → Mk.find D s l = match Bd.bound sc s with
    | some i => .term i
    | none => match Bd.decl D s k with
      | some j => .decl j
      | none => .nothing
  | [], _, _, h => h.elim
  | x :: l, k, sc, h => by
    rw [Mk.find]
    rw [Mk.See] at h
    split at h
    · rename_i hb
      obtain ⟨rfl, rfl⟩ := h
      rw [if_pos hb]
    · rename_i hb
      obtain ⟨sc', h1, rfl⟩ := h
      rw [if_neg hb, Mk.find_see D s l k sc' h1, Bd.bound_app]
      cases Bd.bound x.terms s <;> rfl
theorem Mk.hit_mem {m : List (Nat × List Int × Int)} {j : Nat} {A : List Int} {id : Int} (h : Mk.hit m j A = some id) : (j, A, id) ∈ m := by
  unfold Mk.hit at h
  obtain ⟨q, h1, h2⟩ := Option.map_eq_some_iff.1 h
  have h3 := List.find?_some h1
  simp only [decide_eq_true_eq] at h3
  have h4 := List.mem_of_find?_eq_some h1
  obtain ⟨a, b, c⟩ := q
  simp only at h2 h3
  rw [← h2, ← h3.1, ← h3.2]
  exact h4
end Go.Proofs.YtcgaeknikfaghaaGreatDoor
namespace Go.Proofs.YtcgaeknikfaghaaGreatDoor
mutual
def Sx.uses (s : ByteArray) : Sx → Bool
  | ⟨list, k, T, _, _, L⟩ => if list = true then Sx.usesL s L else decide (k = 3) && decide (T = s)
def Sx.usesL (s : ByteArray) : List Sx → Bool
  | [] => false
  | x :: l => Sx.uses s x || Sx.usesL s l
end
theorem Sx.usesL_any (s : ByteArray) (l : List Sx) : Sx.usesL s l = l.any (Sx.uses s) := by
  induction l with
  | nil => rfl
  | cons x l ih => rw [Sx.usesL, List.any_cons, ih]
theorem Sx.uses_list {s : ByteArray} {x : Sx} (h : x.list = true) : x.uses s = x.L.any (Sx.uses s) := by
  obtain ⟨l, k, T, ta, a, L⟩ := x
  simp only at h
  subst h
  rw [Sx.uses, if_pos rfl, Sx.usesL_any]
theorem Sx.uses_atom {s : ByteArray} {x : Sx} (h : x.list = false) : x.uses s = (decide (x.k = 3) && decide (x.T = s)) := by
  obtain ⟨l, k, T, ta, a, L⟩ := x
  simp only at h
  subst h
  rw [Sx.uses]
  rfl
def Bd.Free (E : List Dc) (x : Sx) : Prop := ∀ d ∈ E, x.uses d.name = false
theorem Bd.Free.part {E : List Dc} {x y : Sx} (h : Bd.Free E x) (hl : x.list = true) (hy : y ∈ x.L) : Bd.Free E y := fun d hd => by
  have := h d hd
  rw [Sx.uses_list hl] at this
  rw [List.any_eq_false] at this
  simpa using this y hy
theorem Bd.Free.name {E : List Dc} {x : Sx} (h : Bd.Free E x) (hl : x.list = false) (hk : x.k = 3) : ∀ d ∈ E, d.name ≠ x.T := fun d hd e => by
  have := h d hd
  rw [Sx.uses_atom hl, hk, e] at this
  simp at this
theorem Bd.bind1_list {x : Sx} {q : ByteArray × Sx} (h : Bd.bind1 x = some q) : x.list = true := by
  obtain ⟨b, k, T, ta, a, L⟩ := x
  unfold Bd.bind1 at h
  simp only at h
  split at h
  · split at h
    · rename_i e; exact e.1
    · cases h
  · cases h
theorem Bd.binds_free {E : List Dc} : ∀ {l : List Sx} {m : List (ByteArray × Sx)}, Bd.binds l = some m → (∀ x ∈ l, Bd.Free E x) → ∀ t ∈ m.map (·.2), Bd.Free E t
  | [], m, h, _, t, ht => by cases h; cases ht
  | x :: l, m, h, hf, t, ht => by
    rw [Bd.binds] at h
    cases h1 : Bd.bind1 x with
    | none => rw [h1] at h; cases h
    | some b =>
      cases h2 : Bd.binds l with
      | none => rw [h1, h2] at h; cases h
      | some m' =>
        rw [h1, h2] at h
        cases h
        rcases List.mem_cons.1 ht with e | e
        · rw [e]
          exact (hf x List.mem_cons_self).part (Bd.bind1_list h1) (Bd.bind1_mem h1)
        · exact Bd.binds_free h2 (fun y hy => hf y (List.mem_cons_of_mem _ hy)) t e
theorem Bd.decl_free {E : List Dc} {s : ByteArray} (h : ∀ d ∈ E, d.name ≠ s) (D : List Dc) : ∀ k, k ≤ E.length → Bd.decl (E ++ D) s k = none
  | 0, _ => rfl
  | k + 1, hk => by
    have hk' : k < E.length := hk
    rw [Bd.decl, Bd.decl_free h D k (by omega), List.getElem?_append_left hk', List.getElem?_eq_getElem hk']
    rw [if_neg]
    intro e
    exact h _ (List.getElem_mem hk') (by simpa using e)
theorem Bd.decl_more {E : List Dc} {s : ByteArray} (h : ∀ d ∈ E, d.name ≠ s) (D : List Dc) : ∀ k, Bd.decl (E ++ D) s (E.length + k) = (Bd.decl D s k).map (E.length + ·)
  | 0 => by rw [Nat.add_zero, Bd.decl_free h D _ (Nat.le_refl _)]; rfl
  | k + 1 => by
    rw [← Nat.add_assoc, Bd.decl, Bd.decl, List.getElem?_append_right (by omega), Nat.add_sub_cancel_left, Bd.decl_more h D k]
    split <;> rfl
theorem Bd.more (E D : List Dc) (hD : ∀ d ∈ D, Bd.Free E d.body) : ∀ k x, Bd.Free E x → ∀ (sc : Sc) (N : List Nd), Bd.tm (E ++ D) (E.length + k) sc N x = Bd.tm D k sc N x := by
  refine Bd.induct fun k x hk hx => ?_
  intro hF sc N
  have hget : ∀ j, (E ++ D)[E.length + j]? = D[j]? := fun j => by rw [List.getElem?_append_right (by omega), Nat.add_sub_cancel_left]
  have hfn : ∀ j, j < k → ∀ A M, Bd.fn (E ++ D) (E.length + j) A M = Bd.fn D j A M := fun j hj A M => by
    unfold Bd.fn Bd.callF
    rw [hget]
    cases hd : D[j]? with
    | none => rfl
    | some d =>
      simp only
      rw [hk j d.body hj (hD d (List.mem_of_getElem? hd))]
  rw [Bd.tm_eq, Bd.tm_eq]
  have hE : ∀ l : List Sx, (∀ y ∈ l, y.size < x.size ∧ Bd.Free E y) → ∀ M, Bd.each (Bd.tm (E ++ D) (E.length + k) sc) M l = Bd.each (Bd.tm D k sc) M l := fun l hl M =>
    Bd.each_congr l M fun y hy M => hx y (hl y hy).1 (hl y hy).2 sc M
  unfold Bd.step
  by_cases hl : x.list = true
  · rw [if_pos hl, if_pos hl]
    unfold Bd.listF
    cases hL : x.L with
    | nil => rfl
    | cons h r =>
      simp only
      have hFh : Bd.Free E h := hF.part hl (by rw [hL]; exact List.mem_cons_self)
      have hr : ∀ y ∈ r, y.size < x.size ∧ Bd.Free E y := fun y hy => have hy := List.mem_cons_of_mem h hy; ⟨Sx.size_lt (by rw [hL]; exact hy), hF.part hl (by rw [hL]; exact hy)⟩
      by_cases h1 : h.list = true ∨ h.k ≠ 3
      · rw [if_pos h1, if_pos h1]
      rw [if_neg h1, if_neg h1, hE r hr]
      have hh : h.list = false ∧ h.k = 3 := by
        rw [not_or] at h1
        exact ⟨by simpa using h1.1, by simpa using h1.2⟩
      have hname := hFh.name hh.1 hh.2
      congr 1
      · unfold Bd.letF
        split
        · rename_i b t
          split
          · rfl
          · rename_i hb
            cases hm : Bd.binds b.L with
            | none => rfl
            | some m =>
              simp only
              obtain ⟨s1, s2⟩ := Bd.let_sub hL hm
              have hFb := (hr b (by simp)).2
              have hb : b.list = true := by simpa using hb
              have hFm := Bd.binds_free hm fun y hy => hFb.part hb hy
              rw [hE (m.map (·.2)) fun y hy => ⟨s2 y hy, hFm y hy⟩]
              congr 1
              congr 1
              split
              · exact hx t s1 (hr t (by simp)).2 _ _
              · rfl
        · rfl
      · congr 1
        congr 1
        congr 1
        rw [Bd.decl_more hname D k]
        cases hd : Bd.decl D h.T k with
        | none => rfl
        | some j =>
          simp only [Option.map_some, hget]
          congr 1
          split
          · exact hfn j (Bd.decl_lt hd).1 _ _
          · rfl
  · rw [if_neg hl, if_neg hl]
    unfold Bd.atomF
    by_cases h3 : x.k = 3
    · have hname := hF.name (by simpa using hl) h3
      congr 1
      congr 1
      congr 1
      unfold Bd.nameF
      congr 1
      congr 1
      cases hb : Bd.bound sc x.T with
      | some id => rfl
      | none =>
        simp only
        rw [Bd.decl_more hname D k]
        cases hd : Bd.decl D x.T k with
        | none => rfl
        | some j =>
          simp only [Option.map_some, hget]
          cases hj : D[j]? with
          | none => rfl
          | some d =>
            simp only
            rw [hfn j (Bd.decl_lt hd).1]
    · rw [if_neg h3, if_neg h3]
end Go.Proofs.YtcgaeknikfaghaaGreatDoor
