/- The reference of scripts: Lex. -/
import Derived.Test.YtpjdfogieiokkaaDoorR8
namespace Go.Proofs.YtpjdfogieiokkaaDoor
open Go.RowKit

/-- a token in memory: its kind, its text, its place -/
abbrev MTok := Int × ByteArray × Nat
abbrev tcells (x : MTok) : List Value := [.int .i64 x.1, .string x.2.1, .int .i64 (x.2.2 : Nat)]
abbrev tksOf (l : List MTok) : List Value := l.flatMap tcells
theorem tks_length (l : List MTok) : (tksOf l).length = l.length * 3 := by
  induction l with
  | nil => rfl
  | cons x l ih => rw [tksOf, List.flatMap_cons, List.length_append, ← tksOf, ih, List.length_cons]; simp; omega
theorem infoT : (Tryd.prog.info? 31).map (fun i => (i.zero, i.size, i.bytes)) = some (some (.agg #[.int .i64 0, .string ByteArray.empty, .int .i64 0]), 3, 32) := by kernel_rfl
/-- a row of tokens of one's own, from block B on -/
def OwnL (w : World) (B : Nat) (A : Option Addr) (c : Nat) (l : List MTok) : Prop := w.ownsRow B 31 3 (.slice A l.length c) l.length (tksOf l)
theorem OwnL.nil (w : World) (B : Nat) : OwnL w B none 0 [] := World.ownsRow_nil _ _ _ _
theorem cell_three_new (w : World) (x y z : Value) (t : TypeId) : ∀ j u, [x, y, z][j]? = some u → (w.alloc (.cells #[x, y, z] t)).cell? ((⟨w.heap.size, 0, none⟩ : Addr).add j) = some u := by
  intro j u hu
  have l := Lies.new w t #[x, y, z]
  rw [addr_add, Nat.zero_add, l.cell j, ← hu]
  simp
theorem appendL (w : World) {ops : Array Oper} {rest : List Oper} {o : Oper} {a : Act} {Q : Exit → Act → World → Prop} (hgd : o.guard = none) (s x : Operand)
    (ho : o.op = .call { callee := .builtin .append, args := #[s, x], argTypes := #[22, 22] }) (B : Nat) (A : Option Addr) (c : Nat) (l : List MTok) (n : Nat) (hn : l.length = n) (d : MTok) (g : Nat) (hg : w.heap.size = g)
    (hs : a.eval s = .slice A n c) (hown : OwnL w B A c l) (hx : a.eval x = .slice (some ⟨g, 0, none⟩) 1 1) (hl : n ≤ 1000000) (hB : B ≤ w.heap.size)
    (h : ∀ A' c' w', OwnL w' B A' c' (l ++ [d]) → w.grownBy w' (Value.slice A n c).ownBlock → wpList Tryd.prog ops Q rest (a.put o.dst (.slice A' (n + 1) c')) w') :
    wpList Tryd.prog ops Q (o :: rest) a (w.alloc (.cells #[.int .i64 d.1, .string d.2.1, .int .i64 (d.2.2 : Nat)] 31)) := by
  subst hn
  subst hg
  obtain ⟨i0, hi, hz0, hz1, hz2⟩ := info_parts infoT
  refine wpList_append_own_at _ hgd s x 22 ho B 31 i0 (.agg #[.int .i64 0, .string ByteArray.empty, .int .i64 0]) 3 32 Tryd.underlying22 hi hz0 hz1 hz2 rfl (by decide) _ l.length (tksOf l) hs (World.ownsRow.alloc hown _) ⟨w.heap.size, 0, none⟩ 1 1 (tcells d) hx rfl (cell_three_new _ _ _ _ _) (fun u hu => by simp at hu; rcases hu with rfl | rfl | rfl <;> rfl) (by unfold maxLen; omega) (by omega) (by simp; omega) ?_
  intro v' w' q1 q2 _ _
  obtain ⟨A', c', rfl⟩ := own_form q1
  refine h A' c' w' ?_ ?_
  · unfold OwnL
    have e : tksOf l ++ tcells d = tksOf (l ++ [d]) := by simp [tksOf]
    rw [e] at q1
    rw [List.length_append]
    exact q1
  · exact ⟨q2.os, q2.tape, q2.output, Nat.le_trans (by simp) q2.size, fun k hk hne => (q2.block k (by simp; omega) hne).trans (Below.heap_alloc w _ k hk)⟩

/-- what a token in memory says -/
def pureTok (s : ByteArray) (x : MTok) : Lx.Tok := (x.1, x.2.1.data.toList, s.size - x.2.2)
/-- what Lex answers -/
structure LSaid (s : ByteArray) (w : World) (A : Option Addr) (c : Nat) (l : List MTok) (E : Int) (p : Nat) (w' : World) : Prop where
  own : OwnL w' w.heap.size A c l
  below : Below w.heap.size w w'
  at_ : ∀ x ∈ l, x.2.2 ≤ s.size
  le : p ≤ s.size
  few : l.length ≤ 4000
  long : 16384 < s.size → l = [] ∧ E = 2 ∧ p = 0
  toks : s.size ≤ 16384 → l.map (pureTok s) = (Lx.lex 4000 s.data.toList).1 ∧ E = (Lx.lex 4000 s.data.toList).2.1 ∧ s.data.toList.drop p = (Lx.lex 4000 s.data.toList).2.2

/-- where the next token would begin, once for all -/
theorem start_k (s : ByteArray) (a : Nat) (hs : s.size ≤ 1000000) (ha : a ≤ s.size) : ∃ k : Nat, a ≤ k ∧ k ≤ s.size ∧ s.data.toList.drop k = Lx.skip false (s.data.toList.drop a) ∧
    ∀ w, Calls Tryd.prog 36 #[.string s, .int .i64 (a : Nat)] w fun e w' => e = .returned (.int .i64 (k : Nat)) ∧ w' = w := by
  obtain ⟨p, hp⟩ := Lx.skip_end (s.data.toList.drop a) false
  have hl := congrArg List.length hp
  rw [List.length_append, List.length_drop, len_bytes] at hl
  have hk : s.data.toList.drop (a + p.length) = Lx.skip false (s.data.toList.drop a) := by
    rw [← List.drop_drop]
    have := congrArg (List.drop p.length) hp
    rw [List.drop_left] at this
    exact this
  refine ⟨a + p.length, by omega, by omega, hk, fun w => ?_⟩
  refine (rstart s a w (by unfold maxLen; omega) ha).mono ?_
  rintro e w' ⟨k', rfl, rfl, h1, h2, h3⟩
  obtain rfl := drop_inj s h2 (by omega) (h3.trans hk.symm)
  exact ⟨rfl, rfl⟩
theorem OwnL.kept {w w' : World} {B : Nat} {A : Option Addr} {c : Nat} {l : List MTok} (h : OwnL w B A c l) (hb : Below w.heap.size w w') : OwnL w' B A c l :=
  (Turn.of_below (F := fun _ => False) hb).own h (fun _ _ => id)

set_option maxHeartbeats 3200000 in
theorem rlex (s : ByteArray) (w : World) (hs : s.size ≤ 4000000) :
    Calls Tryd.prog 25 #[.string s] w fun e w' => ∃ A c l E p, e = .returned (.tuple #[.slice A l.length c, .int .i64 E, .int .i64 (p : Nat)]) ∧ LSaid s w A c l E p w' := by
  by_cases hlong : 16384 < s.size
  · have hl' : (16384 : Int) < (s.size : Int) := by omega
    go_enter Tryd.func25, Tryd.ntmps25
    go_wp2
    go_ret3
    exact ⟨none, 0, [], 2, 0, rfl, ⟨OwnL.nil _ _, Below.refl _ _, fun x hx => absurd hx List.not_mem_nil, Nat.zero_le _, by simp, fun _ => ⟨rfl, rfl, rfl⟩, fun h => absurd h (by omega)⟩⟩
  · have hl' : ¬ (16384 : Int) < (s.size : Int) := by omega
    replace hs : s.size ≤ 1000000 := by omega
    obtain ⟨X, HX⟩ : ∃ X, Hid (Lx.lex 4000 s.data.toList = X) := ⟨_, rfl⟩
    have HX0 := Lib.hid HX.out
    go_enter Tryd.func25, Tryd.ntmps25
    go_wp2
    go_loopw [5, 6] (fun ov iv wr => ∃ (i m : Nat) (A : Option Addr) (c : Nat) (l : List MTok), i ≤ s.size ∧ m ≤ 4000 ∧ iv = .int .i64 (i : Nat) ∧ ov = .slice A m c ∧ Below w.heap.size w wr ∧
      Hid (OwnL wr w.heap.size A c l ∧ l.length = m ∧ (∀ x ∈ l, x.2.2 ≤ s.size) ∧ X = (l.map (pureTok s) ++ (Lx.lex (4000 - m) (s.data.toList.drop i)).1, (Lx.lex (4000 - m) (s.data.toList.drop i)).2))) (fun _ iv _ => s.size - (intOf iv).toNat)
    case atStart => exact ⟨0, 0, none, 0, [], Nat.zero_le _, Nat.zero_le _, rfl, rfl, by first | exact Below.refl _ _ | assumption, ⟨OwnL.nil _ _, rfl, fun x hx => absurd hx List.not_mem_nil, by rw [← HX.out, List.drop_zero]; rfl⟩⟩
    case round =>
      clear HX
      obtain ⟨i, m, A, c, l, hi, hm, rfl, rfl, hb, HI⟩ := hrel
      obtain ⟨ho, hlm, hat, hX⟩ := HI.out
      clear HI
      obtain ⟨k, hk1, hk2, hk3, HS⟩ := start_k s i hs hi
      replace HS := Lib.hid HS
      have HB := Lib.hid hb
      have HO := Lib.hid ho
      have HL := Lib.hid hlm
      have HT := Lib.hid hat
      have hfew : Hid (l.length ≤ 4000) := (by show _ ≤ _; omega)
      have hnl : ¬ 16384 < s.size := hlong
      have end_ : ∀ (E : Int) (p : Nat), p ≤ s.size → X = (l.map (pureTok s), E, s.data.toList.drop p) → Hid (∀ w', Below wr.heap.size wr w' → LSaid s w A c l E p w') := fun E p hp hx => Lib.hid fun w' b' =>
        ⟨HO.out.kept b', HB.out.trans (b'.mono HB.out.size), HT.out, hp, hfew.out, fun h => absurd h hnl, fun _ => by rw [HX0.out, hx]; exact ⟨rfl, rfl, rfl⟩⟩
      have HEnd := Lib.hid end_
      by_cases hks : k = s.size
      · subst hks
        rw [drop_end] at hk3
        rw [Lx.lex_nil _ hk3.symm] at hX
        have HZ := Lib.hid (HEnd.out 0 s.size (Nat.le_refl _) (by rw [hX, drop_end]; simp))
        clear hX hk3 hb ho hlm hat end_ HEnd
        go_wp2_with (go_at_call 36; refine (HS.out _).mono ?_; rintro e w1 ⟨rfl, rfl⟩)
        go_ret3
        exact ⟨A, c, l, 0, s.size, by rw [HL.out]; rfl, HZ.out.out _ (Below.refl _ _)⟩
      have hklt : k < s.size := by omega
      have hkb : ((k : Int) == (s.size : Int)) = false := beq_eq_false_iff_ne.2 (by omega)
      have hklt' : (k : Int) < (s.size : Int) := by omega
      have hDk := drop_at s hklt
      have hsk : Lx.skip false (s.data.toList.drop i) = s[k] :: s.data.toList.drop (k + 1) := by rw [← hk3, hDk]
      have HG := Lib.hid fun W => rgood s[k] W
      obtain ⟨g, hg⟩ : ∃ g, Lx.good s[k] = g := ⟨_, rfl⟩
      rw [hg] at HG
      cases g with
      | false =>
        rw [Lx.lex_bad _ hsk hg] at hX
        have HZ := Lib.hid (HEnd.out 50 k hk2 (by rw [hX, hDk]; simp))
        clear hX hk3 hb ho hlm hat end_ HEnd hsk hDk hg hks
        go_wp2_with (first | (go_at_call 36; refine (HS.out _).mono ?_; rintro e w1 ⟨rfl, rfl⟩) | (go_at_call 37; refine (HG.out _).mono ?_; rintro e w1 ⟨rfl, rfl⟩))
        go_ret3
        exact ⟨A, c, l, 50, k, by rw [HL.out]; rfl, HZ.out.out _ (Below.refl _ _)⟩
      | true =>
        by_cases hm4 : m = 4000
        · subst hm4
          rw [Nat.sub_self, Lx.lex_zero hsk hg] at hX
          have HZ := Lib.hid (HEnd.out 2 k hk2 (by rw [hX, hDk]; simp))
          clear hX hk3 hb ho hlm hat end_ HEnd hsk hDk hg hks
          go_wp2_with (first | (go_at_call 36; refine (HS.out _).mono ?_; rintro e w1 ⟨rfl, rfl⟩) | (go_at_call 37; refine (HG.out _).mono ?_; rintro e w1 ⟨rfl, rfl⟩))
          go_ret3
          exact ⟨A, c, l, 2, k, by rw [HL.out]; rfl, HZ.out.out _ (Below.refl _ _)⟩
        · obtain ⟨r, hr⟩ : ∃ r, 4000 - m = r + 1 := ⟨4000 - m - 1, by omega⟩
          have hr2 : 4000 - (m + 1) = r := by omega
          have hmb : ((m : Int) == 4000) = false := beq_eq_false_iff_ne.2 (by omega)
          rw [hr] at hX
          have H1 := Lib.hid fun W => rone s k W hs hklt
          obtain ⟨Y, hY⟩ : ∃ Y, Lx.one (s.data.toList.drop k) = Y := ⟨_, rfl⟩
          rw [hY] at H1
          rw [hDk] at hY
          by_cases he : Y.2.2.1 = 0
          · rw [Lx.lex_ok r hsk hg (by rw [hY]; exact he), hY] at hX
            have HE := Lib.hid he
            have hm3 : m + 1 ≤ 4000 := by omega
            have HOn : Hid (∀ w2, Below wr.heap.size wr w2 → ∀ o, OwnL (w2.alloc o) w.heap.size A c l ∧ Below w.heap.size w w2 ∧ w.heap.size ≤ w2.heap.size) := fun w2 b2 o => ⟨HO.out.kept (b2.alloc b2.size o), HB.out.trans (b2.mono HB.out.size), Nat.le_trans HB.out.size b2.size⟩
            have HXn : Hid (∀ (T : ByteArray) (b : Nat), T.data.toList = Y.2.1 → s.data.toList.drop b = Y.2.2.2 → X = ((l ++ [(Y.1, T, k)]).map (pureTok s) ++ (Lx.lex (4000 - (m + 1)) (s.data.toList.drop b)).1, (Lx.lex (4000 - (m + 1)) (s.data.toList.drop b)).2)) := fun T b e1 e2 => by
              rw [hX, e2, hr2, List.map_append]
              have : (s[k] :: s.data.toList.drop (k + 1)).length = s.size - k := by rw [← hDk, List.length_drop, len_bytes]
              simp only [List.map_cons, List.map_nil, pureTok, e1, this, List.append_assoc, List.cons_append, List.nil_append]
            have HO2 : Hid (∀ w2 w3 o1 o2, Below w.heap.size w w2 → w.heap.size ≤ w2.heap.size → ((w2.alloc o1).grownBy w3 (Value.slice A m c).ownBlock) → (Value.slice A m c).ownBlock = o2 → Below w.heap.size w w3) := fun w2 w3 o1 o2 b2 z2 g3 _ =>
              (b2.alloc z2 o1).grown g3 (Nat.le_trans z2 (by simp)) (fun q hq => (HO.out.lt q (by rw [HL.out]; exact hq)).1)
            clear hX hk3 hb ho hlm hat end_ HEnd hsk hDk hg hks hY he hr hr2 hm4
            go_wp2_with (first
              | (go_at_call 36; refine (HS.out _).mono ?_; rintro e w1 ⟨rfl, rfl⟩)
              | (go_at_call 37; refine (HG.out _).mono ?_; rintro e w1 ⟨rfl, rfl⟩)
              | (go_at_call 38; refine (H1.out _).mono ?_; rintro e w2 q; obtain ⟨T, b, rfl, hT, hb1, hb2, hb3⟩ := q.ok HE.out; have QT := Lib.hid hT; have QB := Lib.hid hb3; have QW := Lib.hid q.below; clear q hT hb3)
              | (at_builtin; refine appendL _ rfl (.tmp 48) (.tmp 50) rfl w.heap.size A c l m HL.out (Y.1, T, k) _ (by simp) rfl (HOn.out _ QW.out _).1 rfl (by omega) (Nat.le_trans (HOn.out _ QW.out (.cells #[] 0)).2.2 (by simp)) ?_; intro A3 c3 w3 o3 g3; have O3 := Lib.hid o3; have B3 := Lib.hid (HO2.out _ _ _ _ (HOn.out _ QW.out (.cells #[] 0)).2.1 (HOn.out _ QW.out (.cells #[] 0)).2.2 g3 rfl); clear o3 g3))
            go_roundw
            case rel => exact ⟨b, m + 1, A3, c3, l ++ [(Y.1, T, k)], hb2, hm3, rfl, rfl, B3.out, ⟨O3.out, by rw [List.length_append, HL.out]; rfl, fun x hx => (by rcases List.mem_append.1 hx with h | h; exact HT.out x h; rw [List.mem_singleton.1 h]; exact hk2), HXn.out T b QT.out QB.out⟩⟩
            case measure => simp [intOf]; omega
          · rw [Lx.lex_err r hsk hg (by rw [hY]; exact he), hY] at hX
            have HE := Lib.hid he
            have HZ : Hid (∀ p : Nat, p < s.size → s.data.toList.drop p = Y.2.2.2 → ∀ w', Below wr.heap.size wr w' → LSaid s w A c l Y.2.2.1 p w') := fun p hp e2 w' b' =>
              (HEnd.out Y.2.2.1 p (by omega) (by rw [hX, e2]; simp)).out w' b'
            obtain ⟨E, hE⟩ : ∃ E, Y.2.2.1 = E := ⟨_, rfl⟩
            have hEb : (E == 0) = false := by rw [← hE]; exact beq_eq_false_iff_ne.2 he
            have hEn : (E != 0) = true := by rw [bne, hEb]; rfl
            have HEq := Lib.hid hE
            clear hX hk3 hb ho hlm hat end_ HEnd hsk hDk hg hks hY he hr hr2 hm4 hE
            go_wp2_with (first
              | (go_at_call 36; refine (HS.out _).mono ?_; rintro e w1 ⟨rfl, rfl⟩)
              | (go_at_call 37; refine (HG.out _).mono ?_; rintro e w1 ⟨rfl, rfl⟩)
              | (go_at_call 38; refine (H1.out _).mono ?_; rintro e w2 q; obtain ⟨p, rfl, hp1, hp2, hp3⟩ := q.bad HE.out; rw [HEq.out]; have QB := Lib.hid hp3; have QW := Lib.hid q.below; clear q hp3))
            go_ret3
            exact ⟨A, c, l, Y.2.2.1, p, by rw [HL.out, HEq.out]; rfl, HZ.out p hp2 QB.out _ (QW.out.alloc QW.out.size _)⟩
end Go.Proofs.YtpjdfogieiokkaaDoor
