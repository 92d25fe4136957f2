/- several texts in one. -/
import Derived.Test.YtpjdfogieiokkaaDoorS9
/- Slices of slices; the reference of s-expressions: Read. -/
namespace Go.Proofs.YtpjdfogieiokkaaDoor
open Go.RowKit

section
variable {T : TypeId} {s : Nat} (hT : Tryd.prog.underlying T = some (.slice (Tryd.prog.elem T))) (hz : ∀ W, (sizeOf (Tryd.prog.elem T)).run Tryd.prog W = .ok s W)
include hT hz
theorem cut_h {A : Option Addr} {n c k : Nat} (W : World) (hA : A.map (·.add 0) = A) (hk : k ≤ c) : (Instr.slice T (.slice A n c) none (some (.int .i64 (k : Nat))) none).run Tryd.prog W = .ok (.slice A k c) W := by
  rw [run_slice_h W T A n c hT .i64 (k : Nat) (by omega) (by omega), hz]
  simp only [Result.andThen, sliced]
  have e : (if c = 0 then A else A.map (·.add (0 * s))) = A := by
    split
    · rfl
    · rw [Nat.zero_mul]; exact hA
  rw [e]
  simp
theorem cut_l {A : Option Addr} {n c k : Nat} (W : World) (hk : k ≤ n) : (Instr.slice T (.slice A n c) (some (.int .i64 (k : Nat))) none none).run Tryd.prog W = .ok (.slice (if c = k then A else A.map (·.add (k * s))) (n - k) (c - k)) W := by
  rw [run_slice_l W T A n c hT .i64 (k : Nat) (by omega) (by omega), hz]
  simp only [Result.andThen, sliced, Int.toNat_natCast]
theorem cut_lhm {A : Option Addr} {n c k : Nat} (W : World) (hA : A.map (·.add 0) = A) (hk : k ≤ c) : (Instr.slice T (.slice A n c) (some (.int .i64 0)) (some (.int .i64 0)) (some (.int .i64 (k : Nat)))).run Tryd.prog W = .ok (.slice A 0 k) W := by
  rw [run_slice_lhm W T A n c hT .i64 .i64 .i64 0 0 (k : Nat) (by omega) (by omega) (by omega) (by omega), hz]
  simp only [Result.andThen, sliced, Int.toNat_natCast]
  have e : (if k = Int.toNat 0 then A else A.map (·.add (Int.toNat 0 * s))) = A := by
    split
    · rfl
    · simpa using hA
  rw [e]
  simp
end
theorem own_add {w : World} {B : Nat} {e : TypeId} {size n : Nat} {A : Option Addr} {c m : Nat} {xs : List Value} (h : w.ownsRow B e size (.slice A m c) n xs) : A.map (·.add 0) = A := by
  rcases h.2 with ⟨e1, _⟩ | ⟨g, cap, cur, e1, _⟩
  · injection e1 with e1 _ _
    rw [e1]
    rfl
  · injection e1 with e1 _ _
    rw [e1]
    simp [addr_add]
/-- of a row of one's own, the first so many -/
theorem own_take {w : World} {B : Nat} {e : TypeId} {size n k : Nat} {A : Option Addr} {c : Nat} {xs : List Value} (h : w.ownsRow B e size (.slice A n c) n xs) (hk : k ≤ n) : w.ownsRow B e size (.slice A k c) k (xs.take (k * size)) := by
  have hl := h.1
  have hkn : k * size ≤ n * size := Nat.mul_le_mul_right _ hk
  refine ⟨by rw [List.length_take]; omega, ?_⟩
  rcases h.2 with ⟨e1, h0⟩ | ⟨g, cap, cur, e1, q1, q2, q3, q4, q5, q6⟩
  · injection e1 with e1 e2 e3
    subst e1
    subst e3
    obtain rfl : k = 0 := by omega
    exact .inl ⟨rfl, rfl⟩
  · injection e1 with e1 e2 e3
    subst e1
    subst e3
    refine .inr ⟨g, c, cur, rfl, q1, q2, by omega, q4, q5, ?_⟩
    rw [← q6, List.take_take, Nat.min_eq_left hkn]
theorem is_take (l : List MItem) (k : Nat) (hk : k ≤ l.length) : (icellsOf l).take (k * 8) = icellsOf (l.take k) := by
  have h : icellsOf l = icellsOf (l.take k) ++ icellsOf (l.drop k) := by rw [icellsOf, ← List.flatMap_append, List.take_append_drop]
  have hl : (icellsOf (l.take k)).length = k * 8 := by rw [is_length, List.length_take, Nat.min_eq_left hk]
  rw [h, ← hl, List.take_left]
theorem OwnI.take {w : World} {B : Nat} {A : Option Addr} {c k : Nat} {l : List MItem} (h : OwnI w B A c l) (hk : k ≤ l.length) : OwnI w B A c (l.take k) := by
  have hl : (l.take k).length = k := by rw [List.length_take, Nat.min_eq_left hk]
  refine ⟨?_, fun x hx => ?_⟩
  · rw [hl, ← is_take l k hk]
    exact own_take h.row hk
  · have := h.trees x (List.mem_of_mem_take hx)
    refine ⟨this.le, this.tree.mono fun b off _ hG => ⟨hG.1, fun e => hG.2 ?_⟩⟩
    rw [← e]
    cases A <;> rfl

/-- what Lex tells of a script, wherever it lies -/
structure LexOf (s : ByteArray) (l : List MTok) (E : Int) (p : Nat) : Prop where
  at_ : ∀ x ∈ l, x.2.2 ≤ s.size
  le : p ≤ s.size
  few : l.length ≤ 4000
  long : 16384 < s.size → l = [] ∧ E = 2 ∧ p = 0
  toks : s.size ≤ 16384 → l.map (pureTok s) = (Lx.lex 4000 s.data.toList).1 ∧ E = (Lx.lex 4000 s.data.toList).2.1 ∧ s.data.toList.drop p = (Lx.lex 4000 s.data.toList).2.2
theorem LSaid.of {s : ByteArray} {w w' : World} {A : Option Addr} {c : Nat} {l : List MTok} {E : Int} {p : Nat} (h : LSaid s w A c l E p w') : LexOf s l E p := ⟨h.at_, h.le, h.few, h.long, h.toks⟩
theorem bytes_eq {a b : ByteArray} (h : a.data.toList = b.data.toList) : a = b := by
  have e := Array.toList_inj.1 h
  cases a
  cases b
  simp only at e
  rw [e]
theorem LexOf.uniq {s : ByteArray} {l l' : List MTok} {E E' : Int} {p p' : Nat} (h : LexOf s l E p) (h' : LexOf s l' E' p') : l = l' ∧ E = E' ∧ p = p' := by
  by_cases hs : 16384 < s.size
  · obtain ⟨rfl, rfl, rfl⟩ := h.long hs
    obtain ⟨rfl, rfl, rfl⟩ := h'.long hs
    exact ⟨rfl, rfl, rfl⟩
  · obtain ⟨t1, t2, t3⟩ := h.toks (by omega)
    obtain ⟨u1, u2, u3⟩ := h'.toks (by omega)
    refine ⟨?_, t2.trans u2.symm, drop_inj s h.le h'.le (t3.trans u3.symm)⟩
    have hl : ∀ (l l' : List MTok), (∀ x ∈ l, x.2.2 ≤ s.size) → (∀ x ∈ l', x.2.2 ≤ s.size) → l.map (pureTok s) = l'.map (pureTok s) → l = l' := by
      intro l
      induction l with
      | nil =>
        intro l' _ _ e
        cases l' with
        | nil => rfl
        | cons y l' => simp at e
      | cons x l ih =>
        intro l' h1 h2 e
        cases l' with
        | nil => simp at e
        | cons y l' =>
          rw [List.map_cons, List.map_cons] at e
          injection e with e1 e2
          rw [ih l' (fun z hz => h1 z (List.mem_cons_of_mem _ hz)) (fun z hz => h2 z (List.mem_cons_of_mem _ hz)) e2]
          have x1 := h1 x List.mem_cons_self
          have y1 := h2 y List.mem_cons_self
          unfold pureTok at e1
          injection e1 with k1 e1
          injection e1 with k2 k3
          obtain ⟨xk, xt, xa⟩ := x
          obtain ⟨yk, yt, ya⟩ := y
          simp only at k1 k2 k3 x1 y1
          rw [k1, bytes_eq k2, show xa = ya by omega]
    exact hl l l' h.at_ h'.at_ (t1.trans u1.symm)

/-- a list that is open at the end is no item, if something is wrong -/
def cutEnd (I : List SItem) : List SItem := if (I.getLast?.map (·.E)) = some 51 then I.dropLast else I
def readOf (I : List SItem) (E : Int) (p : Nat) : List SItem := if E = 0 then I else cutEnd I ++ [⟨Sx.zero, E, (p : Int)⟩]
/-- what Read tells of a script -/
def ReadOf (s : ByteArray) (R : List SItem) : Prop := ∃ (l : List MTok) (E : Int) (p : Nat) (I : List SItem), LexOf s l E p ∧ Says (s.size : Nat) (l.map toI) I ∧ R = readOf I E p
theorem ReadOf.uniq {s : ByteArray} {R R' : List SItem} (h : ReadOf s R) (h' : ReadOf s R') : R = R' := by
  obtain ⟨l, E, p, I, h1, h2, rfl⟩ := h
  obtain ⟨l', E', p', I', h1', h2', rfl⟩ := h'
  obtain ⟨rfl, rfl, rfl⟩ := h1.uniq h1'
  rw [Says.uniq _ _ _ _ (Nat.le_refl _) h2 h2']
/-- what Read answers -/
abbrev ReadSaid (w : World) (s : ByteArray) (e : Ending) (w' : World) : Prop :=
  (∃ (A' : Option Addr) (c' : Nat) (li : List MItem), e = .returned (.slice A' li.length c') ∧ li.length ≤ 4001 ∧ OwnI w' w.heap.size A' c' li ∧ ReadOf s (li.map MItem.pure)) ∧ Below w.heap.size w w'
theorem ReadSaid.mk {w w' : World} {s : ByteArray} {A' : Option Addr} {c' n : Nat} {li : List MItem} (hn : li.length = n) (hnl : n ≤ 4001) (h : OwnI w' w.heap.size A' c' li) (hs : ReadOf s (li.map MItem.pure)) (hb : Below w.heap.size w w') : ReadSaid w s (.returned (.slice A' n c')) w' :=
  ⟨⟨A', c', li, by rw [hn], by omega, h, hs⟩, hb⟩
theorem OwnI.base {w : World} {B B' : Nat} {A : Option Addr} {c : Nat} {l : List MItem} (h : OwnI w B A c l) (hb : B' ≤ B) : OwnI w B' A c l := by
  refine ⟨⟨h.row.1, ?_⟩, fun x hx => ⟨(h.trees x hx).le, (h.trees x hx).tree.mono fun b off _ hG => ⟨Nat.le_trans hb hG.1, hG.2⟩⟩⟩
  rcases h.row.2 with q | ⟨g, cap, cur, q1, q2, q3⟩
  · exact .inl q
  · exact .inr ⟨g, cap, cur, q1, Nat.le_trans hb q2, q3⟩
end Go.Proofs.YtpjdfogieiokkaaDoor

/- The reference of s-expressions: Read. -/
namespace Go.Proofs.YtpjdfogieiokkaaDoor
open Go.RowKit

theorem readOf_ok (I : List SItem) (p : Nat) : readOf I 0 p = I := by unfold readOf; rw [if_pos rfl]
theorem last_of {l : List MItem} {n : Nat} (hn : l.length = n + 1) : ∃ x, l[n]? = some x ∧ l.getLast? = some x := by
  refine ⟨l[n], List.getElem?_eq_getElem (by omega), ?_⟩
  rw [List.getLast?_eq_getElem?, show l.length - 1 = n by omega]
  exact List.getElem?_eq_getElem (by omega)
theorem cutEnd_yes {l : List MItem} {n : Nat} {x : MItem} (hn : l.length = n + 1) (hx : l.getLast? = some x) (h : x.E = 51) : cutEnd (l.map MItem.pure) = (l.take n).map MItem.pure := by
  unfold cutEnd
  rw [List.getLast?_map, hx, if_pos (by simp [h]), List.map_take, List.dropLast_eq_take, List.length_map, hn, Nat.add_sub_cancel]
theorem cutEnd_no {l : List MItem} {x : MItem} (hx : l.getLast? = some x) (h : x.E ≠ 51) : cutEnd (l.map MItem.pure) = l.map MItem.pure := by
  unfold cutEnd
  rw [List.getLast?_map, hx, if_neg (by simp [h])]
theorem cutEnd_nil {l : List MItem} (hn : l.length = 0) : cutEnd (l.map MItem.pure) = l.map MItem.pure := by
  rw [List.eq_nil_of_length_eq_zero hn]
  rfl

set_option maxRecDepth 100000 in
set_option maxHeartbeats 6400000 in
theorem rread (s : ByteArray) (w : World) (hs : s.size ≤ 4000000) :
    Calls Tryd.prog 14 #[.string s] w fun e w' => ReadSaid w s e w' := by
  obtain ⟨Post, hPost⟩ : ∃ Post : Ending → World → Prop, Post = fun e w' => ReadSaid w s e w' := ⟨_, rfl⟩
  rw [← hPost]
  have HPo := Lib.hid hPost
  have HL := Lib.hid (rlex s w hs)
  clear hPost
  go_enter Tryd.func14, Tryd.ntmps14
  go_wp2_with fail
  refine HL.out.mono ?_
  rintro e w1 ⟨A1, c1, l1, E, p, rfl, q1⟩
  have HQ := Lib.hid q1
  have hT := q1.own.toks
  obtain ⟨n1, hn1⟩ : ∃ n, l1.length = n := ⟨_, rfl⟩
  have h4 := q1.few
  rw [hn1] at hT h4 ⊢
  have HP := Lib.hid (rparse w1 A1 n1 c1 (l1.map toI) (s.size : Nat) hT (by omega))
  have HN1 : Hid (l1.length = n1) := hn1
  clear q1 hT hn1 HL
  go_wp2_with fail
  refine HP.out.mono ?_
  rintro e w2 ⟨⟨A2, c2, li, rfl, hli, ho, hsay⟩, b2⟩
  have hB : Below w.heap.size w w2 := HQ.out.below.trans (b2.mono HQ.out.below.size)
  have ho' := ho.base HQ.out.below.size
  rw [List.length_map, HN1.out] at hli
  obtain ⟨n, hn⟩ : ∃ n, li.length = n := ⟨_, rfl⟩
  rw [hn] at hli ⊢
  have hRd : ReadOf s (readOf (li.map MItem.pure) E p) := ⟨l1, E, p, _, HQ.out.of, hsay, rfl⟩
  clear HP b2 hsay ho
  by_cases hE : E = 0
  · subst hE
    rw [readOf_ok] at hRd
    have HE := Lib.hid (ReadSaid.mk hn (by omega) ho' hRd hB)
    clear ho' hRd hB hn hli HQ HN1
    go_wp2
    rw [HPo.out]
    exact HE.out
  · have hEb : (E == 0) = false := beq_eq_false_iff_ne.2 hE
    have HB := Lib.hid hB
    have HN := Lib.hid hn
    have HO := Lib.hid ho'
    have hRd' : Hid (ReadOf s (cutEnd (li.map MItem.pure) ++ [⟨Sx.zero, E, (p : Int)⟩])) := by
      unfold readOf at hRd
      rw [if_neg hE] at hRd
      exact hRd
    cases n with
    | zero =>
      have HR : Hid (ReadOf s ((li ++ [MItem.mk Sx.zero none 0 E (p : Int)]).map MItem.pure)) := by
        have := hRd'.out
        rw [cutEnd_nil hn] at this
        show ReadOf _ _
        rw [List.map_append]
        exact this
      clear ho' hRd hB hn HQ HN1 hE hRd'
      go_wp2_with (at_builtin; refine appendI _ rfl (.tmp 37) (.tmp 41) rfl w.heap.size A2 c2 li 0 HN.out ⟨Sx.zero, none, 0, E, (p : Int)⟩ _ rfl rfl HO.out ⟨⟨Nat.le_refl _, Nat.zero_le _⟩, .nil _⟩ rfl (by omega) HB.out.size ?_; intro A3 c3 w3 o3 g3; have O3 := Lib.hid o3; have B3 := Lib.hid (HB.out.grown g3 HB.out.size (fun q hq => (HO.out.lt HN.out hq).1)); clear o3 g3)
      rw [HPo.out]
      exact ReadSaid.mk (by rw [List.length_append, HN.out]; rfl) (by omega) O3.out HR.out B3.out
    | succ n =>
      obtain ⟨x, hx, hlast⟩ := last_of hn
      have hp := ho'.parts
      have hnn : n < li.length := by omega
      have hii := (ho'.its hn).get (i := n) (by omega)
      obtain ⟨b, off, y, A', c', rfl, hy, _, hs, _, hc6, _⟩ := hii
      have hyE : y.E = x.E := by
        rw [List.getElem?_map, hx] at hy
        injection hy with hy
        rw [← hy]
      have hlt := hs.lt
      rw [hyE] at hc6
      have hn0 : (0 : Int) ≤ (n : Int) := by omega
      have hnlt : (n : Int) < (n : Int) + 1 := by omega
      by_cases h51 : x.E = 51
      · rw [h51] at hc6
        have HR : Hid (ReadOf s ((li.take n ++ [MItem.mk Sx.zero none 0 E (p : Int)]).map MItem.pure)) := by
          have := hRd'.out
          rw [cutEnd_yes hn hlast h51] at this
          show ReadOf _ _
          rw [List.map_append]
          exact this
        have HNt : Hid ((li.take n).length = n) := by show _ = _; rw [List.length_take, Nat.min_eq_left (by omega)]
        have HOt := Lib.hid (ho'.take (k := n) (by omega))
        have hcut := fun W => cut_h (T := 25) (s := 8) Tryd.underlying25 (fun W => by kernel_rfl) (n := n + 1) (c := c2) (k := n) W (own_add ho'.row) (by have := hp.1; omega)
        clear ho' hRd hB hn HQ HN1 hE hRd' hp hx hlast hy hs hyE hnn h51
        go_wp2_with (at_builtin; refine appendI _ rfl (.tmp 37) (.tmp 41) rfl w.heap.size _ c2 (li.take n) n HNt.out ⟨Sx.zero, none, 0, E, (p : Int)⟩ _ rfl rfl HOt.out ⟨⟨Nat.le_refl _, Nat.zero_le _⟩, .nil _⟩ rfl (by omega) HB.out.size ?_; intro A3 c3 w3 o3 g3; have O3 := Lib.hid o3; have B3 := Lib.hid (HB.out.grown g3 HB.out.size (fun q hq => (HOt.out.lt HNt.out hq).1)); clear o3 g3)
        rw [HPo.out]
        exact ReadSaid.mk (by rw [List.length_append, HNt.out]; rfl) (by omega) O3.out HR.out B3.out
      · have h51b : (x.E == 51) = false := beq_eq_false_iff_ne.2 h51
        have HR : Hid (ReadOf s ((li ++ [MItem.mk Sx.zero none 0 E (p : Int)]).map MItem.pure)) := by
          have := hRd'.out
          rw [cutEnd_no hlast h51] at this
          show ReadOf _ _
          rw [List.map_append]
          exact this
        clear ho' hRd hB hn HQ HN1 hE hRd' hp hx hlast hy hs hyE hnn h51
        go_wp2_with (at_builtin; refine appendI _ rfl (.tmp 37) (.tmp 41) rfl w.heap.size _ c2 li (n + 1) HN.out ⟨Sx.zero, none, 0, E, (p : Int)⟩ _ rfl rfl HO.out ⟨⟨Nat.le_refl _, Nat.zero_le _⟩, .nil _⟩ rfl (by omega) HB.out.size ?_; intro A3 c3 w3 o3 g3; have O3 := Lib.hid o3; have B3 := Lib.hid (HB.out.grown g3 HB.out.size (fun q hq => (HO.out.lt HN.out hq).1)); clear o3 g3)
        rw [HPo.out]
        exact ReadSaid.mk (by rw [List.length_append, HN.out]; rfl) (by omega) O3.out HR.out B3.out
end Go.Proofs.YtpjdfogieiokkaaDoor
