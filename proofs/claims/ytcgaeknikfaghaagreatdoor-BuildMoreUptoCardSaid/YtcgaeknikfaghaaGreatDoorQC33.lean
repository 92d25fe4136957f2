/- What the proofs of this claim use, text by text. -/
import Derived.Test.YtcgaeknikfaghaaGreatDoorQC32
set_option linter.unusedSimpArgs false
set_option linter.unusedVariables false
set_option maxRecDepth 100000
set_option maxHeartbeats 25600000
namespace Go.Proofs.YtcgaeknikfaghaaGreatDoor
open Go.RowKit
theorem Mk.let_bnd (s : Ms) (r : List Sx) : ((Mk.bnd r).1 ≠ 0 ∧ Mk.let_ s r = (s, (Mk.bnd r).1)) ∨ ((Mk.bnd r).1 = 0 ∧ ∃ b t, r = [b, t] ∧ Mk.let_ s r = (Mk.nest s ((Mk.bnd r).2.map (·.2)) (.bind ((Mk.bnd r).2.map (·.1)) t), 0)) := by
  by_cases h2 : r.length = 2
  · obtain ⟨b, t, rfl⟩ : ∃ b t, r = [b, t] := by
      match r, h2 with
      | [b, t], _ => exact ⟨b, t, rfl⟩
    have h1 : Mk.bnd [b, t] = if b.list = false then ((1 : Int), []) else match Bd.binds b.L with
      | none => (1, [])
      | some m => if anyRes (m.map (·.1)) = true then (101, []) else if Bd.twice (m.map (·.1)) = true then (4, []) else (0, m) := rfl
    have h3 : Mk.let_ s [b, t] = if b.list = false then (s, (1 : Int)) else match Bd.binds b.L with
      | none => (s, 1)
      | some m => if (m.any fun q => Bd.reserved q.1.data.toList) = true then (s, 101) else if Bd.twice (m.map (·.1)) = true then (s, 4)
        else (Mk.nest s (m.map (·.2)) (.bind (m.map (·.1)) t), 0) := rfl
    rw [h1, h3]
    by_cases hl : b.list = false
    · rw [if_pos hl, if_pos hl]
      exact .inl ⟨by decide, rfl⟩
    · rw [if_neg hl, if_neg hl]
      cases Bd.binds b.L with
      | none => exact .inl ⟨by decide, rfl⟩
      | some m =>
        simp only
        have e : anyRes (m.map (·.1)) = m.any fun q => Bd.reserved q.1.data.toList := by unfold anyRes; rw [List.any_map]; rfl
        rw [e]
        split
        · exact .inl ⟨by decide, rfl⟩
        · split
          · exact .inl ⟨by decide, rfl⟩
          · exact .inr ⟨rfl, b, t, rfl, rfl⟩
  · rw [Mk.bnd_two h2]
    refine .inl ⟨by decide, ?_⟩
    unfold Mk.let_
    split
    · simp at h2
    · rfl
theorem Mk.Rep.out {E : Mk.Env} {w : World} {M : Nat} {Y : Mk.Lay} {s : Ms} (h : Mk.Rep E w M Y s) : ∀ k, w.heap.size ≤ k → ¬ Mk.foot M Y k := fun k hk e => by have := h.lt k e; omega
theorem klet (E : Mk.Env) (w : World) (M : Nat) (Y : Mk.Lay) (s : Ms) (bs : List Fr) (f : Fr) (A : Option Addr) (c : Nat) (r : List Sx) (h : Mk.Rep E w M Y s) (hf : s.fr = bs ++ [f]) (hs : Mk.Small s)
    (hr : TreeL w (fun b _ => ¬ Mk.foot M Y b) A r) (hle : r.length ≤ c ∧ c ≤ maxLen) (hL : ∀ b t, r = [b, t] → b.L.length ≤ 1000 ∧ ∀ m, Bd.binds b.L = some m → ∀ q ∈ m, q.1.size ≤ maxLen) :
    Calls Tryz.prog 159 #[.pointer (some ⟨M, 0, none⟩), .slice A r.length c] w fun x w' => Mk.Ans E w M Y (Mk.let_ s r) x w' := by
  obtain ⟨W1, hW1⟩ : ∃ W1, (w.alloc (.cells #[.pointer (some ⟨M, 0, none⟩)] 74)).alloc (.cells #[.slice A r.length c] 25) = W1 := ⟨_, rfl⟩
  have hB1 : Below w.heap.size w W1 := by rw [← hW1]; exact ((Below.refl _ w).alloc (Nat.le_refl _) _).alloc (by simp) _
  have hz1 : W1.heap.size = w.heap.size + 2 := by rw [← hW1]; simp
  have hL1 : Lies W1 w.heap.size 74 #[.pointer (some ⟨M, 0, none⟩)] := by rw [← hW1]; exact lies_under _ _ _ _
  have hL3 : Lies W1 (w.heap.size + 1) 25 #[.slice A r.length c] := by
    have := Lies.new (w.alloc (.cells #[.pointer (some ⟨M, 0, none⟩)] 74)) 25 #[.slice A r.length c]
    rw [World.size_alloc] at this
    rw [← hW1]
    exact this
  have hbnd := kbindings W1 (fun k => ¬ Mk.foot M Y k) A c r (hr.kept hB1) hle hL
  have HB := Lib.hid hbnd
  have HErr : Hid (∀ w', Below W1.heap.size W1 w' → (Mk.bnd r).1 ≠ 0 → Mk.Ans E w M Y (Mk.let_ s r) (.returned (.int .i64 (Mk.bnd r).1)) w') := fun w' hw hz => by
    rcases Mk.let_bnd s r with ⟨_, e⟩ | ⟨e, _⟩
    · rw [e]
      exact ⟨rfl, Mk.Left.same h (hB1.trans (hw.mono hB1.size))⟩
    · exact absurd e hz
  have HFl : Hid (∀ W, Below W1.heap.size W1 W → W.cell? ⟨w.heap.size, 0, none⟩ = some (.pointer (some ⟨M, 0, none⟩)) ∧ w.heap.size < W.heap.size) := fun W hW => by
    have hl := (Turn.of_below (F := fun _ => False) hW).lies hL1 id
    exact ⟨by rw [hl.cell]; rfl, hl.lt⟩
  have HN : Hid (∀ w2 nA nc tA tc, Below W1.heap.size W1 w2 → (Mk.bnd r).1 = 0 → Rd w2 (fun k => W1.heap.size ≤ k) nA (Mk.bnd r).2.length nc (((Mk.bnd r).2.map (·.1)).map .string) → ((Mk.bnd r).2.length ≤ tc ∧ tc ≤ maxLen) → TreeL w2 (fun b _ => W1.heap.size ≤ b ∨ ¬ Mk.foot M Y b) tA ((Mk.bnd r).2.map (·.2)) →
      Calls Tryz.prog 160 #[.pointer (some ⟨M, 0, none⟩), .slice tA (Mk.bnd r).2.length tc, .func (.func 186) #[] #[.pointer (some ⟨w.heap.size, 0, none⟩), .pointer (some ⟨w2.heap.size, 0, none⟩), .pointer (some ⟨w.heap.size + 1, 0, none⟩)]] (w2.alloc (.cells #[.slice nA (Mk.bnd r).2.length nc] 88)) fun x w' => Mk.Ans E w M Y (Mk.let_ s r) x w') := fun w2 nA nc tA tc hw hz hn ht htt => by
    rcases Mk.let_bnd s r with ⟨e, _⟩ | ⟨_, b, t, rfl, e⟩
    · exact absurd hz e
    rw [e]
    have hb2 : Below w.heap.size w w2 := hB1.trans (hw.mono hB1.size)
    have hba : Below w2.heap.size w2 (w2.alloc (.cells #[.slice nA (Mk.bnd [b, t]).2.length nc] 88)) := (Below.refl _ _).alloc (Nat.le_refl _) _
    have hb3 := hb2.trans (hba.mono hb2.size)
    have hR := h.below hb3
    have hob : ∀ k, W1.heap.size ≤ k → ¬ Mk.foot M Y k := fun k hk => h.out k (by omega)
    have l1 := (Turn.of_below (F := fun _ => False) hba).lies ((Turn.of_below (F := fun _ => False) hw).lies hL1 id) id
    have l3 := (Turn.of_below (F := fun _ => False) hba).lies ((Turn.of_below (F := fun _ => False) hw).lies hL3 id) id
    have hn2 : Rd w2 (fun k => ¬ Mk.foot M Y k) nA (Mk.bnd [b, t]).2.length nc (((Mk.bnd [b, t]).2.map (·.1)).map .string) := hn.mono fun k _ hk => hob k hk
    have ht2 : TreeL w2 (fun k _ => ¬ Mk.foot M Y k) tA ((Mk.bnd [b, t]).2.map (·.2)) := htt.mono fun k _ _ hk => hk.elim (hob k) id
    have hc := knest E _ M Y s bs f tA tc _ ((Mk.bnd [b, t]).2.map (·.2)) (.bind ((Mk.bnd [b, t]).2.map (·.1)) t) hR hf (by have := hs.fr; rw [hf, List.length_append] at this; omega) (by have := hs.sc; omega) (by have := (hs.ids f (by rw [hf]; simp)).2; omega)
      (by rw [List.length_map]; exact ht) (ht2.kept hba) ⟨w.heap.size, w2.heap.size, w.heap.size + 1, nA, nc, A, c, b, rfl, h.out _ (Nat.le_refl _), h.out _ hb2.size, h.out _ (by omega), l1, by rw [List.length_map]; exact Lies.new w2 _ _, by rw [List.length_map]; exact hn2.below hba, l3, (hr.kept hb3), hle⟩
    rw [List.length_map] at hc
    exact hc.mono fun x w' q => q.up hb3
  obtain ⟨X, hX⟩ : ∃ X, Mk.bnd r = X := ⟨_, rfl⟩
  rw [hX] at HB HErr HN
  obtain ⟨R, hR⟩ : ∃ R, Mk.let_ s r = R := ⟨_, rfl⟩
  rw [hR] at HErr HN ⊢
  obtain ⟨rn, hrn⟩ : ∃ rn, r.length = rn := ⟨_, rfl⟩
  rw [hrn] at HB hW1 ⊢
  have c3 : W1.cell? ⟨w.heap.size + 1, 0, none⟩ = some (.slice A rn c) := by rw [← hrn, hL3.cell]; rfl
  have hl3 := hL3.lt
  clear h hf hs hr hle hL hbnd hB1 hL1 hL3 hX hR hrn
  go_enter Tryz.func159, Tryz.ntmps159
  go_wp2_with fail
  refine HB.out.mono ?_
  rintro e w2 ⟨⟨nA, nc, tA, tc, rfl, q1, q2, q3⟩, b2⟩
  obtain ⟨z, hz⟩ : ∃ z, X.1 = z := ⟨_, rfl⟩
  have ba : Below W1.heap.size W1 (w2.alloc (.cells #[.slice nA X.2.length nc] 88)) := b2.alloc b2.size _
  by_cases h0 : z = 0
  · subst h0
    have HC := Lib.hid (HN.out w2 nA nc tA tc b2 hz q1 q2 q3)
    obtain ⟨f1, f2⟩ := HFl.out _ ba
    obtain ⟨m, hm⟩ : ∃ m, X.2.length = m := ⟨_, rfl⟩
    rw [hm] at HC f1 f2 ⊢
    rw [hz]
    have hmf : ∀ (fn : Fn) (first cap : Array Value) (w : World), (Instr.makeFunc fn first cap).run Tryz.prog w = .ok (.func fn first cap) w := fun _ _ _ _ => rfl
    clear HB HErr HN HFl q1 q2 q3 b2 hz ba hm c3 hl3
    go_wp2_with fail
    refine HC.out.mono ?_
    rintro e w3 ⟨rfl, v⟩
    have V := Lib.hid v
    clear HC v f1 f2
    go_wp2
    go_ret
    exact ⟨rfl, V.out⟩
  · have HE := Lib.hid (HErr.out _ ba (by rw [hz]; exact h0))
    have hne : (z != 0) = true := by simp [h0]
    rw [hz] at HE ⊢
    clear HB HErr HN HFl q1 q2 q3 b2 hz ba c3 hl3 h0
    go_wp2
    go_ret
    exact HE.out
inductive Sx.Fine : Sx → Prop
  | mk (x : Sx) : x.T.size ≤ 1048576 → x.L.length ≤ 1000 → (∀ y ∈ x.L, Sx.Fine y) → Sx.Fine x
theorem Sx.Fine.T {x : Sx} (h : Sx.Fine x) : x.T.size ≤ 1048576 := by cases h; assumption
theorem Sx.Fine.len {x : Sx} (h : Sx.Fine x) : x.L.length ≤ 1000 := by cases h; assumption
theorem Sx.Fine.all {x : Sx} (h : Sx.Fine x) : ∀ y ∈ x.L, Sx.Fine y := by cases h; assumption
theorem Bd.binds_fine : ∀ {l : List Sx} {m : List (ByteArray × Sx)}, (∀ y ∈ l, Sx.Fine y) → Bd.binds l = some m → ∀ q ∈ m, q.1.size ≤ 1048576 ∧ Sx.Fine q.2
  | [], m, _, h => by
    cases h
    intro q hq
    cases hq
  | x :: l, m, hf, h => by
    rw [Bd.binds] at h
    cases h1 : Bd.bind1 x with
    | none => rw [h1] at h; cases h
    | some b =>
      rw [h1] at h
      cases h2 : Bd.binds l with
      | none => rw [h2] at h; cases h
      | some k =>
        rw [h2] at h
        cases h
        intro q hq
        rcases List.mem_cons.1 hq with rfl | hq
        · have hx := (hf x (by simp)).all
          unfold Bd.bind1 at h1
          split at h1
          · rename_i n t e
            rw [e] at hx
            split at h1
            · cases h1
              exact ⟨(hx n (by simp)).T, hx t (by simp)⟩
            · cases h1
          · cases h1
        · exact Bd.binds_fine (fun y hy => hf y (by simp [hy])) h2 q hq
theorem Mk.says_lt {D : List Dc} {t : ByteArray} {j n : Nat} : ∀ (sc : List Scp), (∀ x ∈ sc, x.ahead ≤ n) → Mk.find D t sc = .decl j → j < n
  | [], _, h => by cases h
  | x :: l, ha, h => by
    rw [Mk.find] at h
    split at h
    · cases h
    · split at h
      · cases hd : Bd.decl D t x.ahead with
        | none => rw [hd] at h; cases h
        | some i =>
          rw [hd] at h
          cases h
          rcases Pl.decl D t x.ahead with ⟨e, _⟩ | ⟨j', l', e, e2⟩
          · rw [e] at hd; cases hd
          · rw [e] at hd
            cases hd
            have := Pl.lt (D := D) (s := t) (k := x.ahead) (j : Int) (by rw [e2]; simp)
            have := ha x (by simp)
            omega
      · exact Mk.says_lt l (fun y hy => ha y (by simp [hy])) h
theorem klist10 (E : Mk.Env) (hE : E.Ok) (w : World) (M : Nat) (Y : Mk.Lay) (s : Ms) (bs : List Fr) (f : Fr) (A : Option Addr) (c : Nat) (l : List Sx) (h : Mk.Rep E w M Y s) (hf : s.fr = bs ++ [f]) (hs : Mk.Small s) (ha : ∀ x ∈ s.sc, x.ahead ≤ E.n)
    (hr : TreeL w (fun b _ => ¬ Mk.foot M Y b) A l) (hle : l.length ≤ c ∧ c ≤ maxLen) (hln : l.length ≤ 1000) (hfi : ∀ y ∈ l, Sx.Fine y) :
    Calls Tryz.prog 131 #[.pointer (some ⟨M, 0, none⟩), .slice A l.length c] w fun x w' => Mk.Ans E w M Y (Mk.list E.D s l) x w' := by
  obtain ⟨W0, hW0⟩ : ∃ W0, w.alloc (.cells #[.pointer (some ⟨M, 0, none⟩)] 74) = W0 := ⟨_, rfl⟩
  have hB0 : Below w.heap.size w W0 := by rw [← hW0]; exact (Below.refl _ w).alloc (Nat.le_refl _) _
  have hL0 : Lies W0 w.heap.size 74 #[.pointer (some ⟨M, 0, none⟩)] := by rw [← hW0]; exact Lies.new w _ _
  have hup : ∀ {W : World}, Below W0.heap.size W0 W → Below w.heap.size w W := fun hW => hB0.trans (hW.mono hB0.size)
  have HS : Hid (∀ W, Below W0.heap.size W0 W → Mk.Left E w M Y s W) := fun W hW => Mk.Left.same h (hup hW)
  cases l with
  | nil =>
    have HV : Hid (Mk.Ans E w M Y (Mk.list E.D s []) (.returned (.int .i64 1)) W0) := ⟨rfl, HS.out W0 (Below.refl _ _)⟩
    generalize Mk.list E.D s [] = R at HV ⊢
    clear h hf hs ha hr hle hln hfi hB0 hL0 hup HS
    go_enter Tryz.func131, Tryz.ntmps131
    go_wp2
    go_ret
    exact HV.out
  | cons x r =>
    have hR : Mk.list E.D s (x :: r) = if x.list = true ∨ x.k ≠ 3 then (s, (101 : Int))
      else if x.T.data.toList = [108, 101, 116] then Mk.let_ s r
      else if Bd.op x.T.data.toList r.length ≠ 0 then (Mk.nest s r (.op (Bd.op x.T.data.toList r.length)), 0)
      else if Bd.reserved x.T.data.toList = true then (s, 101)
      else match Mk.says E.D s.sc x.T with
        | .decl j => if (E.D[j]?.map (·.mac)).getD false = true then (Mk.nest s r (.fn j), 0) else (s, 100)
        | _ => (s, 100) := rfl
    obtain ⟨p1, hp1⟩ : ∃ p1, (if c = 1 then A else A.map (·.add 6)) = p1 := ⟨_, rfl⟩
    have hcl : r.length + 1 ≤ c := hle.1
    have hcut : ∀ W : World, (Instr.slice 25 (.slice A (r.length + 1) c) (some (.int .i64 1)) none none).run Tryz.prog W = .ok (.slice p1 r.length (c - 1)) W := fun W => by
      rw [← hp1]
      exact cut_x W (by omega)
    have htail : TreeL w (fun b _ => ¬ Mk.foot M Y b) p1 r := by rw [← hp1]; exact hr.tail_ hcl
    have hle2 : r.length ≤ c - 1 ∧ c - 1 ≤ maxLen := ⟨by omega, by have := hle.2; omega⟩
    have hLet : ∀ b t, r = [b, t] → b.L.length ≤ 1000 ∧ ∀ m, Bd.binds b.L = some m → ∀ q ∈ m, q.1.size ≤ maxLen := fun b t e => by
      have hb : Sx.Fine b := hfi b (by rw [e]; simp)
      exact ⟨hb.len, fun m hm q hq => by have := (Bd.binds_fine hb.all hm q hq).1; unfold maxLen; omega⟩
    have HLet : Hid (∀ W, Below W0.heap.size W0 W → Calls Tryz.prog 159 #[.pointer (some ⟨M, 0, none⟩), .slice p1 r.length (c - 1)] W fun x w' => Mk.Ans E w M Y (Mk.let_ s r) x w') := fun W hW =>
      (klet E W M Y s bs f p1 (c - 1) r (h.below (hup hW)) hf hs (htail.kept (hup hW)) hle2 hLet).mono fun x w' q => q.up (hup hW)
    have HNest : Hid (∀ W v th, Below W0.heap.size W0 W → ThAs W (fun k => ¬ Mk.foot M Y k) M v th → Calls Tryz.prog 160 #[.pointer (some ⟨M, 0, none⟩), .slice p1 r.length (c - 1), v] W fun x w' => Mk.Ans E w M Y (Mk.nest s r th, 0) x w') := fun W v th hW hth =>
      (knest E W M Y s bs f p1 (c - 1) v r th (h.below (hup hW)) hf (by have := hs.fr; rw [hf, List.length_append] at this; omega) (by have := hs.sc; omega) (by have := (hs.ids f (by rw [hf]; simp)).2; omega) hle2 (htail.kept (hup hW)) hth).mono fun x w' q => q.up (hup hW)
    have hxT : x.T.size ≤ 1048576 := (hfi x (by simp)).T
    have HSay : Hid (∀ W, Below W0.heap.size W0 W → Calls Tryz.prog 164 #[.pointer (some ⟨M, 0, none⟩), .string x.T] W fun e w' => e = .returned (.agg #[.int .i64 (Mk.says E.D s.sc x.T).cells.1, .int .i64 (Mk.says E.D s.sc x.T).cells.2]) ∧ Below W.heap.size W w') := fun W hW =>
      ksays E hE W M Y s x.T (h.below (hup hW)) (by unfold maxLen; omega) ha (by have := hs.sc; omega)
    have HFl : Hid (∀ W, Below W0.heap.size W0 W → W.cell? ⟨w.heap.size, 0, none⟩ = some (.pointer (some ⟨M, 0, none⟩)) ∧ w.heap.size < W.heap.size) := fun W hW => by
      have hl := (Turn.of_below (F := fun _ => False) hW).lies hL0 id
      exact ⟨by rw [hl.cell]; rfl, hl.lt⟩
    have HOut : Hid (∀ k, w.heap.size ≤ k → ¬ Mk.foot M Y k) := h.out
    have HLi : Hid (∀ W, Below W0.heap.size W0 W → Lies W w.heap.size 74 #[.pointer (some ⟨M, 0, none⟩)]) := fun W hW => (Turn.of_below (F := fun _ => False) hW).lies hL0 id
    have HDc : Hid (∀ j, j < E.n → ∃ b off d, E.A = some ⟨b, off, none⟩ ∧ E.D[j]? = some d ∧ ∀ W, Below W0.heap.size W0 W → W.cell? ⟨M, 1, none⟩ = some (.slice E.A E.n E.c) ∧ W.cell? ⟨b, off + j * 10 + 2, none⟩ = some (.bool d.mac)) := fun j hj => by
      obtain ⟨b, off, P, d, e, _, _, hD, _, hc⟩ := hE.dc.get hj
      exact ⟨b, off, d, e, hD, fun W hW => ⟨by rw [(h.below (hup hW)).own.cell]; rfl, (hc W (h.below (hup hW)).pl).2 2 _ rfl⟩⟩
    have HLt : Hid (∀ j, Mk.says E.D s.sc x.T = .decl j → j < E.n) := fun j e => Mk.says_lt s.sc.reverse (fun y hy => ha y (List.mem_reverse.1 hy)) e
    cases hr with
    | cons b off _ _ A' c' s1 _ _ _ _ =>
    obtain ⟨hb, d0, d1, d2, d3, d4, d5⟩ := s1
    have g := fun (j : Nat) => hB0.cell (p := ⟨b, j, none⟩) hb
    have d0 := (g _).trans d0
    have d1 := (g _).trans d1
    have d2 := (g _).trans d2
    have d3 := (g _).trans d3
    have d4 := (g _).trans d4
    have d5 := (g _).trans d5
    have hNm := knameOf W0 x A' c'
    unfold sval at hNm
    obtain ⟨rn, hrn⟩ : ∃ rn, r.length = rn := ⟨_, rfl⟩
    obtain ⟨xn, hxn⟩ : ∃ xn, x.L.length = xn := ⟨_, rfl⟩
    have hg : (x :: r).length = rn + 1 := by rw [List.length_cons, hrn]
    rw [hg]
    rw [hrn] at hcut HLet HNest hR hcl hle2
    rw [hxn] at d5 hNm
    have hrn1 : rn + 1 ≤ 1000 := by rw [← hg]; exact hln
    obtain ⟨EA, hEA⟩ : ∃ EA, E.A = EA := ⟨_, rfl⟩
    have hsp : (0 : Int) < ((rn + 1 : Nat) : Int) := by omega
    have hne : (((rn + 1 : Nat) : Int) == 0) = false := by simp; omega
    by_cases hsy : x.list = false ∧ x.k = 3
    · rw [if_neg (by rw [hsy.1, hsy.2]; simp)] at hR
      rw [if_pos hsy, decide_eq_true hsy] at hNm
      have HNm := Lib.hid hNm
      have HRu := Lib.hid hR
      clear hNm hR
      generalize Mk.list E.D s (x :: r) = R at HRu ⊢
      have hTl : x.T.size ≤ 1048576 := hxT
      obtain ⟨T, hT⟩ : ∃ T, x.T = T := ⟨_, rfl⟩
      rw [hT] at HNm HRu HSay HLt d2
      have HOp : Hid (∀ W, Calls Tryz.prog 53 #[.string T, .int .i64 (rn : Int)] W fun e w' => e = .returned (.int .i64 (Bd.op T.data.toList rn)) ∧ w' = W) := fun W => koperation T rn W
      have HRs : Hid (∀ W, Calls Tryz.prog 21 #[.string T] W fun e w' => e = .returned (.bool (Bd.reserved T.data.toList)) ∧ w' = W) := fun W => kreserved T W
      have HAl : Hid (∀ W o, Below W0.heap.size W0 W → Below W0.heap.size W0 (W.alloc o)) := fun W o hW => hW.alloc hW.size o
      have HSz : Hid (∀ W, Below W0.heap.size W0 W → w.heap.size ≤ W.heap.size) := fun W hW => (hup hW).size
      have hmf : ∀ (fn : Fn) (first cap : Array Value) (w : World), (Instr.makeFunc fn first cap).run Tryz.prog w = .ok (.func fn first cap) w := fun _ _ _ _ => rfl
      clear h hf hs ha hle hln hfi hB0 hL0 hup hp1 htail hle2 hLet hxT hb g hrn hxn hg hrn1 hsy hT hTl
      by_cases hlet : T.data.toList = [108, 101, 116]
      · have hb := lit_yes hlet
        have hR2 : R = Mk.let_ s r := by rw [HRu.out, if_pos hlet]
        rw [← hR2] at HLet
        clear hR2 HRu HNest HSay HOut HLi HDc HLt HOp HRs HS HAl HSz hEA hlet hcl
        go_enter Tryz.func131, Tryz.ntmps131
        go_wp2_with fail
        refine HNm.out.mono ?_
        rintro e w1 ⟨rfl, b1⟩
        obtain ⟨f1, f2⟩ := HFl.out w1 b1
        have HL1 := Lib.hid (HLet.out w1 b1)
        clear HNm HFl HLet b1 d0 d1 d2 d3 d4 d5
        go_wp2_with fail
        refine HL1.out.mono ?_
        rintro e w2 ⟨rfl, v⟩
        have V := Lib.hid v
        clear HL1 v f1 f2
        go_wp2
        go_ret
        exact ⟨rfl, V.out⟩
      · have hb := lit_no hlet
        have hR1 := HRu.out
        rw [if_neg hlet] at hR1
        obtain ⟨o, ho⟩ : ∃ o, Bd.op T.data.toList rn = o := ⟨_, rfl⟩
        rw [ho] at hR1 HOp
        clear HLet hlet HRu ho
        by_cases h0 : o = 0
        · subst h0
          rw [if_neg (by simp)] at hR1
          by_cases hres : Bd.reserved T.data.toList = true
          · rw [if_pos hres] at hR1
            rw [hres] at HRs
            subst hR1
            clear HNest HSay HOut HLi HDc HLt HSz hEA hres HFl hcl
            go_enter Tryz.func131, Tryz.ntmps131
            go_wp2_with fail
            refine HNm.out.mono ?_
            rintro e w1 ⟨rfl, b1⟩
            have HE := Lib.hid (HS.out _ (HAl.out w1 (.cells #[.int .i64 0] 3) b1))
            clear HNm b1 d0 d1 d2 d3 d4 d5 HS HAl
            go_wp2_with fail
            refine (HOp.out _).mono ?_
            rintro e w2 ⟨rfl, rfl⟩
            clear HOp
            go_wp2_with fail
            refine (HRs.out _).mono ?_
            rintro e w3 ⟨rfl, rfl⟩
            clear HRs
            go_wp2
            go_ret
            exact ⟨rfl, HE.out⟩
          · rw [if_neg hres] at hR1
            have hrf : Bd.reserved T.data.toList = false := by simpa using hres
            rw [hrf] at HRs
            clear hres hrf
            obtain ⟨q, hq⟩ : ∃ q, Mk.says E.D s.sc T = q := ⟨_, rfl⟩
            rw [hq] at HSay HLt hR1
            have hkeep : True := trivial
            cases q with
            | decl j =>
              obtain ⟨b9, off9, d, e9, hd, HC9'⟩ := HDc.out j (HLt.out j rfl)
              have HC9 := Lib.hid HC9'
              rw [e9] at HC9
              have hjn : (j : Int) < (E.n : Int) := by have := HLt.out j rfl; omega
              have hj0 : (0 : Int) ≤ (j : Int) := by omega
              simp only [hd, Option.map_some, Option.getD_some] at hR1
              simp only [Mng.cells] at HSay
              obtain ⟨mac, hmac⟩ : ∃ mac, d.mac = mac := ⟨_, rfl⟩
              rw [hmac] at hR1 HC9
              have HMF : Hid (∀ W o, Below W0.heap.size W0 W → M < W.heap.size ∧ M < (W.alloc o).heap.size) := fun W o hW => by
                obtain ⟨Y', r1, _⟩ := HS.out W hW
                obtain ⟨Y2, r2, _⟩ := HS.out _ (HAl.out W o hW)
                exact ⟨r1.own.lt, r2.own.lt⟩
              clear HDc HLt hEA HC9' e9 hd hmac hq hkeep hcl
              cases mac with
              | true =>
                rw [if_pos rfl] at hR1
                subst hR1
                clear HS
                go_enter Tryz.func131, Tryz.ntmps131
                go_wp2_with fail
                refine HNm.out.mono ?_
                rintro e w1 ⟨rfl, b1⟩
                have B1 := Lib.hid (HAl.out w1 (.cells #[.int .i64 0] 3) b1)
                clear HNm b1 d0 d1 d2 d3 d4 d5
                go_wp2_with fail
                refine (HOp.out _).mono ?_
                rintro e w2 ⟨rfl, rfl⟩
                clear HOp
                go_wp2_with fail
                refine (HRs.out _).mono ?_
                rintro e w3 ⟨rfl, rfl⟩
                clear HRs
                obtain ⟨f1, f2⟩ := HFl.out _ B1.out
                have HSa := Lib.hid (HSay.out _ B1.out)
                go_wp2_with fail
                refine HSa.out.mono ?_
                rintro e w3 ⟨rfl, b3⟩
                have B3 := Lib.hid (B1.out.trans (b3.mono B1.out.size))
                clear HSa HSay b3 f1 f2
                obtain ⟨W4, hW4⟩ : ∃ W4, w3.alloc (.cells #[.int .i64 2, .int .i64 (j : Int)] 218) = W4 := ⟨_, rfl⟩
                have hb4 := HAl.out w3 (.cells #[.int .i64 2, .int .i64 (j : Int)] 218) B3.out
                rw [hW4] at hb4
                have hl4 : Lies W4 w3.heap.size 218 #[.int .i64 2, .int .i64 (j : Int)] := by rw [← hW4]; exact Lies.new w3 _ _
                obtain ⟨f1, f2⟩ := HFl.out W4 hb4
                obtain ⟨m1, m2⟩ := HC9.out W4 hb4
                have mM := (HMF.out W4 (.cells #[] 3) hb4).1
                have k0 := hl4.cell 0
                have k1 := hl4.cell 1
                have kl := hl4.lt
                simp at k0 k1
                have HN : Hid (∀ nq, Calls Tryz.prog 160 #[.pointer (some ⟨M, 0, none⟩), .slice p1 rn (c - 1), .func (.func 165) #[] #[.pointer (some ⟨w.heap.size, 0, none⟩), .pointer (some ⟨w3.heap.size, 0, none⟩)]] (W4.drewN nq) fun x w' => Mk.Ans E w M Y (Mk.nest s r (.fn j), 0) x w') := fun nq =>
                  HNest.out _ _ (.fn j) (below_drewN hb4 nq) ⟨w.heap.size, w3.heap.size, rfl, HOut.out _ (Nat.le_refl _), HOut.out _ (HSz.out _ B3.out), HLi.out _ (below_drewN hb4 nq), (Turn.of_below (F := fun _ => False) (below_drewN (Below.refl _ W4) nq)).lies hl4 id⟩
                clear hb4 hl4 HNest HLi HOut HFl HAl HSz HC9 HMF B1 B3
                go_wp2_with fail
                go_quiet (fail)
                go_wp2_with fail
                refine (HN.out _).mono ?_
                rintro e w5 ⟨rfl, v⟩
                have V := Lib.hid v
                clear HN v f1 f2 m1 m2 k0 k1
                go_wp2
                go_ret
                exact ⟨rfl, V.out⟩
              | false =>
                rw [if_neg (by decide)] at hR1
                subst hR1
                clear HNest HLi HOut
                go_enter Tryz.func131, Tryz.ntmps131
                go_wp2_with fail
                refine HNm.out.mono ?_
                rintro e w1 ⟨rfl, b1⟩
                have B1 := Lib.hid (HAl.out w1 (.cells #[.int .i64 0] 3) b1)
                clear HNm b1 d0 d1 d2 d3 d4 d5
                go_wp2_with fail
                refine (HOp.out _).mono ?_
                rintro e w2 ⟨rfl, rfl⟩
                clear HOp
                go_wp2_with fail
                refine (HRs.out _).mono ?_
                rintro e w3 ⟨rfl, rfl⟩
                clear HRs
                obtain ⟨f1, f2⟩ := HFl.out _ B1.out
                have HSa := Lib.hid (HSay.out _ B1.out)
                go_wp2_with fail
                refine HSa.out.mono ?_
                rintro e w3 ⟨rfl, b3⟩
                have B3 := Lib.hid (B1.out.trans (b3.mono B1.out.size))
                clear HSa HSay b3 f1 f2
                obtain ⟨W4, hW4⟩ : ∃ W4, w3.alloc (.cells #[.int .i64 2, .int .i64 (j : Int)] 218) = W4 := ⟨_, rfl⟩
                have hb4 := HAl.out w3 (.cells #[.int .i64 2, .int .i64 (j : Int)] 218) B3.out
                rw [hW4] at hb4
                have hl4 : Lies W4 w3.heap.size 218 #[.int .i64 2, .int .i64 (j : Int)] := by rw [← hW4]; exact Lies.new w3 _ _
                obtain ⟨f1, f2⟩ := HFl.out W4 hb4
                obtain ⟨m1, m2⟩ := HC9.out W4 hb4
                have mM := (HMF.out W4 (.cells #[] 3) hb4).1
                have k0 := hl4.cell 0
                have k1 := hl4.cell 1
                have kl := hl4.lt
                simp at k0 k1
                have HV : Hid (∀ nq, Mk.Left E w M Y s (W4.drewN nq)) := fun nq => HS.out _ (below_drewN hb4 nq)
                clear hb4 hl4 HFl HAl HSz HC9 HMF B1 B3 HS
                go_wp2_with fail
                go_quiet (fail)
                go_wp2
                go_ret
                exact ⟨rfl, HV.out _⟩
            | _ =>
              simp only [Mng.cells] at HSay
              simp only at hR1
              subst hR1
              clear HDc HLt hEA hq hkeep hcl HNest HLi HOut
              go_enter Tryz.func131, Tryz.ntmps131
              go_wp2_with fail
              refine HNm.out.mono ?_
              rintro e w1 ⟨rfl, b1⟩
              have B1 := Lib.hid (HAl.out w1 (.cells #[.int .i64 0] 3) b1)
              clear HNm b1 d0 d1 d2 d3 d4 d5
              go_wp2_with fail
              refine (HOp.out _).mono ?_
              rintro e w2 ⟨rfl, rfl⟩
              clear HOp
              go_wp2_with fail
              refine (HRs.out _).mono ?_
              rintro e w3 ⟨rfl, rfl⟩
              clear HRs
              obtain ⟨f1, f2⟩ := HFl.out _ B1.out
              have HSa := Lib.hid (HSay.out _ B1.out)
              go_wp2_with fail
              refine HSa.out.mono ?_
              rintro e w3 ⟨rfl, b3⟩
              have B3 := Lib.hid (B1.out.trans (b3.mono B1.out.size))
              have HV : Hid (∀ o nq, Mk.Left E w M Y s ((w3.alloc o).drewN nq)) := fun o nq => HS.out _ (below_drewN (HAl.out w3 o B3.out) nq)
              clear HSa HSay b3 f1 f2 B3 HS HAl HSz HFl B1
              go_wp2_with fail
              go_quiet (fail)
              go_wp2
              go_ret
              exact ⟨rfl, HV.out _ _⟩
        · rw [if_pos h0] at hR1
          subst hR1
          have hne2 : (o != 0) = true := by simp [h0]
          clear HSay HDc HLt HRs HS hEA h0 hcl
          go_enter Tryz.func131, Tryz.ntmps131
          go_wp2_with fail
          refine HNm.out.mono ?_
          rintro e w1 ⟨rfl, b1⟩
          have hb2 := HAl.out w1 (.cells #[.int .i64 o] 3) b1
          obtain ⟨f1, f2⟩ := HFl.out _ hb2
          have HN := Lib.hid (HNest.out (w1.alloc (.cells #[.int .i64 o] 3)) (.func (.func 161) #[] #[.pointer (some ⟨w.heap.size, 0, none⟩), .pointer (some ⟨w1.heap.size, 0, none⟩)]) (.op o) hb2 ⟨w.heap.size, w1.heap.size, rfl, HOut.out _ (Nat.le_refl _), HOut.out _ (HSz.out _ b1), HLi.out _ hb2, Lies.new w1 _ _⟩)
          clear HNm b1 hb2 d0 d1 d2 d3 d4 d5 HNest HOut HLi HAl HSz HFl
          go_wp2_with fail
          refine (HOp.out _).mono ?_
          rintro e w2 ⟨rfl, rfl⟩
          clear HOp
          go_wp2_with fail
          refine HN.out.mono ?_
          rintro e w3 ⟨rfl, v⟩
          have V := Lib.hid v
          clear HN v f1 f2
          go_wp2
          go_ret
          exact ⟨rfl, V.out⟩
    · rw [if_pos (by
        by_cases h1 : x.list = true
        · exact .inl h1
        · exact .inr fun h2 => hsy ⟨by simpa using h1, h2⟩)] at hR
      rw [if_neg hsy, decide_eq_false hsy] at hNm
      have HNm := Lib.hid hNm
      have HE : Hid (∀ W, Below W0.heap.size W0 W → Mk.Ans E w M Y (Mk.list E.D s (x :: r)) (.returned (.int .i64 101)) W) := fun W hW => by rw [hR]; exact ⟨rfl, HS.out W hW⟩
      generalize Mk.list E.D s (x :: r) = R at HE ⊢
      clear h hf hs ha hle hln hfi hB0 hL0 hup HS hR hp1 hcl hcut htail hle2 hLet HLet HNest hxT HSay HFl HOut HLi HDc HLt hb g hNm hrn hxn hg hrn1 hEA hsy
      go_enter Tryz.func131, Tryz.ntmps131
      go_wp2_with fail
      refine HNm.out.mono ?_
      rintro e w1 ⟨rfl, b1⟩
      have HE1 := Lib.hid (HE.out w1 b1)
      clear HNm b1 d0 d1 d2 d3 d4 d5 HE
      go_wp2
      go_ret
      exact HE1.out
end Go.Proofs.YtcgaeknikfaghaaGreatDoor
