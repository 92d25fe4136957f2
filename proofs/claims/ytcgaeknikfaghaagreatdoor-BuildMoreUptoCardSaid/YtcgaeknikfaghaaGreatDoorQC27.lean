/- What the proofs of this claim use, text by text. -/
import Derived.Test.YtcgaeknikfaghaaGreatDoorQC25
set_option linter.unusedSimpArgs false
set_option linter.unusedVariables false
set_option maxRecDepth 100000
set_option maxHeartbeats 25600000
namespace Go.Proofs.YtcgaeknikfaghaaGreatDoor
open Go.RowKit
section
variable {T : TypeId} {s : Nat} (hT : Tryz.prog.underlying T = some (.slice (Tryz.prog.elem T))) (hz : ∀ W, (sizeOf (Tryz.prog.elem T)).run Tryz.prog W = .ok s W)
include hT hz
theorem cut_h {A : Option Addr} {n c k : Nat} (W : World) (hA : A.map (·.add 0) = A) (hk : k ≤ c) : (Instr.slice T (.slice A n c) none (some (.int .i64 (k : Nat))) none).run Tryz.prog W = .ok (.slice A k c) W := by
  rw [run_slice_h W T A n c hT .i64 (k : Nat) (by omega) (by omega), hz]
  simp only [Result.andThen, sliced]
  have e : (if c = 0 then A else A.map (·.add (0 * s))) = A := by
    split
    · rfl
    · rw [Nat.zero_mul]; exact hA
  rw [e]
  simp
end
theorem own_add {w : World} {B : Nat} {e : TypeId} {size n : Nat} {A : Option Addr} {c m : Nat} {xs : List Value} (h : w.ownsRow B e size (.slice A m c) n xs) : A.map (·.add 0) = A := by
  rcases h.2 with ⟨e1, _⟩ | ⟨g, cap, cur, e1, _⟩
  · injection e1 with e1 _ _
    rw [e1]
    rfl
  · injection e1 with e1 _ _
    rw [e1]
    simp [addr_add]
theorem own_take {w : World} {B : Nat} {e : TypeId} {size n k : Nat} {A : Option Addr} {c : Nat} {xs : List Value} (h : w.ownsRow B e size (.slice A n c) n xs) (hk : k ≤ n) : w.ownsRow B e size (.slice A k c) k (xs.take (k * size)) := by
  have hl := h.1
  have hkn : k * size ≤ n * size := Nat.mul_le_mul_right _ hk
  refine ⟨by rw [List.length_take]; omega, ?_⟩
  rcases h.2 with ⟨e1, h0⟩ | ⟨g, cap, cur, e1, q1, q2, q3, q4, q5, q6⟩
  · injection e1 with e1 e2 e3
    subst e1
    subst e3
    obtain rfl : k = 0 := by omega
    exact .inl ⟨rfl, rfl⟩
  · injection e1 with e1 e2 e3
    subst e1
    subst e3
    refine .inr ⟨g, c, cur, rfl, q1, q2, by omega, q4, q5, ?_⟩
    rw [← q6, List.take_take, Nat.min_eq_left hkn]
theorem is_take (l : List MItem) (k : Nat) (hk : k ≤ l.length) : (icellsOf l).take (k * 8) = icellsOf (l.take k) := by
  have h : icellsOf l = icellsOf (l.take k) ++ icellsOf (l.drop k) := by rw [icellsOf, ← List.flatMap_append, List.take_append_drop]
  have hl : (icellsOf (l.take k)).length = k * 8 := by rw [is_length, List.length_take, Nat.min_eq_left hk]
  rw [h, ← hl, List.take_left]
theorem OwnI.take {w : World} {B : Nat} {A : Option Addr} {c k : Nat} {l : List MItem} (h : OwnI w B A c l) (hk : k ≤ l.length) : OwnI w B A c (l.take k) := by
  have hl : (l.take k).length = k := by rw [List.length_take, Nat.min_eq_left hk]
  refine ⟨?_, fun x hx => ?_⟩
  · rw [hl, ← is_take l k hk]
    exact own_take h.row hk
  · have := h.trees x (List.mem_of_mem_take hx)
    refine ⟨this.le, this.tree.mono fun b off _ hG => ⟨hG.1, fun e => hG.2 ?_⟩⟩
    rw [← e]
    cases A <;> rfl
structure LexOf (s : ByteArray) (l : List MTok) (E : Int) (p : Nat) : Prop where
  at_ : ∀ x ∈ l, x.2.2 ≤ s.size
  le : p ≤ s.size
  few : l.length ≤ 4000
  long : 16384 < s.size → l = [] ∧ E = 2 ∧ p = 0
  toks : s.size ≤ 16384 → l.map (pureTok s) = (Lx.lex 4000 s.data.toList).1 ∧ E = (Lx.lex 4000 s.data.toList).2.1 ∧ s.data.toList.drop p = (Lx.lex 4000 s.data.toList).2.2
theorem LSaid.of {s : ByteArray} {w w' : World} {A : Option Addr} {c : Nat} {l : List MTok} {E : Int} {p : Nat} (h : LSaid s w A c l E p w') : LexOf s l E p := ⟨h.at_, h.le, h.few, h.long, h.toks⟩
theorem bytes_eq {a b : ByteArray} (h : a.data.toList = b.data.toList) : a = b := by
  have e := Array.toList_inj.1 h
  cases a
  cases b
  simp only at e
  rw [e]
theorem LexOf.uniq {s : ByteArray} {l l' : List MTok} {E E' : Int} {p p' : Nat} (h : LexOf s l E p) (h' : LexOf s l' E' p') : l = l' ∧ E = E' ∧ p = p' := by
  by_cases hs : 16384 < s.size
  · obtain ⟨rfl, rfl, rfl⟩ := h.long hs
    obtain ⟨rfl, rfl, rfl⟩ := h'.long hs
    exact ⟨rfl, rfl, rfl⟩
  · obtain ⟨t1, t2, t3⟩ := h.toks (by omega)
    obtain ⟨u1, u2, u3⟩ := h'.toks (by omega)
    refine ⟨?_, t2.trans u2.symm, drop_inj s h.le h'.le (t3.trans u3.symm)⟩
    have hl : ∀ (l l' : List MTok), (∀ x ∈ l, x.2.2 ≤ s.size) → (∀ x ∈ l', x.2.2 ≤ s.size) → l.map (pureTok s) = l'.map (pureTok s) → l = l' := by
      intro l
      induction l with
      | nil =>
        intro l' _ _ e
        cases l' with
        | nil => rfl
        | cons y l' => simp at e
      | cons x l ih =>
        intro l' h1 h2 e
        cases l' with
        | nil => simp at e
        | cons y l' =>
          rw [List.map_cons, List.map_cons] at e
          injection e with e1 e2
          rw [ih l' (fun z hz => h1 z (List.mem_cons_of_mem _ hz)) (fun z hz => h2 z (List.mem_cons_of_mem _ hz)) e2]
          have x1 := h1 x List.mem_cons_self
          have y1 := h2 y List.mem_cons_self
          unfold pureTok at e1
          injection e1 with k1 e1
          injection e1 with k2 k3
          obtain ⟨xk, xt, xa⟩ := x
          obtain ⟨yk, yt, ya⟩ := y
          simp only at k1 k2 k3 x1 y1
          rw [k1, bytes_eq k2, show xa = ya by omega]
    exact hl l l' h.at_ h'.at_ (t1.trans u1.symm)
def cutEnd (I : List SItem) : List SItem := if (I.getLast?.map (·.E)) = some 51 then I.dropLast else I
def readOf (I : List SItem) (E : Int) (p : Nat) : List SItem := if E = 0 then I else cutEnd I ++ [⟨Sx.zero, E, (p : Int)⟩]
def ReadOf (s : ByteArray) (R : List SItem) : Prop := ∃ (l : List MTok) (E : Int) (p : Nat) (I : List SItem), LexOf s l E p ∧ Says (s.size : Nat) (l.map toI) I ∧ R = readOf I E p
theorem ReadOf.uniq {s : ByteArray} {R R' : List SItem} (h : ReadOf s R) (h' : ReadOf s R') : R = R' := by
  obtain ⟨l, E, p, I, h1, h2, rfl⟩ := h
  obtain ⟨l', E', p', I', h1', h2', rfl⟩ := h'
  obtain ⟨rfl, rfl, rfl⟩ := h1.uniq h1'
  rw [Says.uniq _ _ _ _ (Nat.le_refl _) h2 h2']
abbrev ReadSaid (w : World) (s : ByteArray) (e : Ending) (w' : World) : Prop :=
  (∃ (A' : Option Addr) (c' : Nat) (li : List MItem), e = .returned (.slice A' li.length c') ∧ li.length ≤ 4001 ∧ OwnI w' w.heap.size A' c' li ∧ ReadOf s (li.map MItem.pure)) ∧ Below w.heap.size w w'
theorem ReadSaid.mk {w w' : World} {s : ByteArray} {A' : Option Addr} {c' n : Nat} {li : List MItem} (hn : li.length = n) (hnl : n ≤ 4001) (h : OwnI w' w.heap.size A' c' li) (hs : ReadOf s (li.map MItem.pure)) (hb : Below w.heap.size w w') : ReadSaid w s (.returned (.slice A' n c')) w' :=
  ⟨⟨A', c', li, by rw [hn], by omega, h, hs⟩, hb⟩
theorem OwnI.base {w : World} {B B' : Nat} {A : Option Addr} {c : Nat} {l : List MItem} (h : OwnI w B A c l) (hb : B' ≤ B) : OwnI w B' A c l := by
  refine ⟨⟨h.row.1, ?_⟩, fun x hx => ⟨(h.trees x hx).le, (h.trees x hx).tree.mono fun b off _ hG => ⟨Nat.le_trans hb hG.1, hG.2⟩⟩⟩
  rcases h.row.2 with q | ⟨g, cap, cur, q1, q2, q3⟩
  · exact .inl q
  · exact .inr ⟨g, cap, cur, q1, Nat.le_trans hb q2, q3⟩
end Go.Proofs.YtcgaeknikfaghaaGreatDoor
namespace Go.Proofs.YtcgaeknikfaghaaGreatDoor
open Go.RowKit
theorem readOf_ok (I : List SItem) (p : Nat) : readOf I 0 p = I := by unfold readOf; rw [if_pos rfl]
theorem last_of {l : List MItem} {n : Nat} (hn : l.length = n + 1) : ∃ x, l[n]? = some x ∧ l.getLast? = some x := by
  refine ⟨l[n], List.getElem?_eq_getElem (by omega), ?_⟩
  rw [List.getLast?_eq_getElem?, show l.length - 1 = n by omega]
  exact List.getElem?_eq_getElem (by omega)
theorem cutEnd_yes {l : List MItem} {n : Nat} {x : MItem} (hn : l.length = n + 1) (hx : l.getLast? = some x) (h : x.E = 51) : cutEnd (l.map MItem.pure) = (l.take n).map MItem.pure := by
  unfold cutEnd
  rw [List.getLast?_map, hx, if_pos (by simp [h]), List.map_take, List.dropLast_eq_take, List.length_map, hn, Nat.add_sub_cancel]
theorem cutEnd_no {l : List MItem} {x : MItem} (hx : l.getLast? = some x) (h : x.E ≠ 51) : cutEnd (l.map MItem.pure) = l.map MItem.pure := by
  unfold cutEnd
  rw [List.getLast?_map, hx, if_neg (by simp [h])]
theorem cutEnd_nil {l : List MItem} (hn : l.length = 0) : cutEnd (l.map MItem.pure) = l.map MItem.pure := by
  rw [List.eq_nil_of_length_eq_zero hn]
  rfl
theorem rread (s : ByteArray) (w : World) (hs : s.size ≤ 4000000) :
    Calls Tryz.prog 61 #[.string s] w fun e w' => ReadSaid w s e w' := by
  obtain ⟨Post, hPost⟩ : ∃ Post : Ending → World → Prop, Post = fun e w' => ReadSaid w s e w' := ⟨_, rfl⟩
  rw [← hPost]
  have HPo := Lib.hid hPost
  have HL := Lib.hid (rlex s w hs)
  clear hPost
  go_enter Tryz.func61, Tryz.ntmps61
  go_wp2_with fail
  refine HL.out.mono ?_
  rintro e w1 ⟨A1, c1, l1, E, p, rfl, q1⟩
  have HQ := Lib.hid q1
  have hT := q1.own.toks
  obtain ⟨n1, hn1⟩ : ∃ n, l1.length = n := ⟨_, rfl⟩
  have h4 := q1.few
  rw [hn1] at hT h4 ⊢
  have HP := Lib.hid (rparse w1 A1 n1 c1 (l1.map toI) (s.size : Nat) hT (by omega))
  have HN1 : Hid (l1.length = n1) := hn1
  clear q1 hT hn1 HL
  go_wp2_with fail
  refine HP.out.mono ?_
  rintro e w2 ⟨⟨A2, c2, li, rfl, hli, ho, hsay⟩, b2⟩
  have hB : Below w.heap.size w w2 := HQ.out.below.trans (b2.mono HQ.out.below.size)
  have ho' := ho.base HQ.out.below.size
  rw [List.length_map, HN1.out] at hli
  obtain ⟨n, hn⟩ : ∃ n, li.length = n := ⟨_, rfl⟩
  rw [hn] at hli ⊢
  have hRd : ReadOf s (readOf (li.map MItem.pure) E p) := ⟨l1, E, p, _, HQ.out.of, hsay, rfl⟩
  clear HP b2 hsay ho
  by_cases hE : E = 0
  · subst hE
    rw [readOf_ok] at hRd
    have HE := Lib.hid (ReadSaid.mk hn (by omega) ho' hRd hB)
    clear ho' hRd hB hn hli HQ HN1
    go_wp2
    rw [HPo.out]
    exact HE.out
  · have hEb : (E == 0) = false := beq_eq_false_iff_ne.2 hE
    have HB := Lib.hid hB
    have HN := Lib.hid hn
    have HO := Lib.hid ho'
    have hRd' : Hid (ReadOf s (cutEnd (li.map MItem.pure) ++ [⟨Sx.zero, E, (p : Int)⟩])) := by
      unfold readOf at hRd
      rw [if_neg hE] at hRd
      exact hRd
    cases n with
    | zero =>
      have HR : Hid (ReadOf s ((li ++ [MItem.mk Sx.zero none 0 E (p : Int)]).map MItem.pure)) := by
        have := hRd'.out
        rw [cutEnd_nil hn] at this
        show ReadOf _ _
        rw [List.map_append]
        exact this
      clear ho' hRd hB hn HQ HN1 hE hRd'
      go_wp2_with (at_builtin; refine appendI _ rfl (.tmp 37) (.tmp 41) rfl w.heap.size A2 c2 li 0 HN.out ⟨Sx.zero, none, 0, E, (p : Int)⟩ _ rfl rfl HO.out ⟨⟨Nat.le_refl _, Nat.zero_le _⟩, .nil _⟩ rfl (by omega) HB.out.size ?_; intro A3 c3 w3 o3 g3; have O3 := Lib.hid o3; have B3 := Lib.hid (HB.out.grown g3 HB.out.size (fun q hq => (HO.out.lt HN.out hq).1)); clear o3 g3)
      rw [HPo.out]
      exact ReadSaid.mk (by rw [List.length_append, HN.out]; rfl) (by omega) O3.out HR.out B3.out
    | succ n =>
      obtain ⟨x, hx, hlast⟩ := last_of hn
      have hp := ho'.parts
      have hnn : n < li.length := by omega
      have hii := (ho'.its hn).get (i := n) (by omega)
      obtain ⟨b, off, y, A', c', rfl, hy, _, hs, _, hc6, _⟩ := hii
      have hyE : y.E = x.E := by
        rw [List.getElem?_map, hx] at hy
        injection hy with hy
        rw [← hy]
      have hlt := hs.lt
      rw [hyE] at hc6
      have hn0 : (0 : Int) ≤ (n : Int) := by omega
      have hnlt : (n : Int) < (n : Int) + 1 := by omega
      by_cases h51 : x.E = 51
      · rw [h51] at hc6
        have HR : Hid (ReadOf s ((li.take n ++ [MItem.mk Sx.zero none 0 E (p : Int)]).map MItem.pure)) := by
          have := hRd'.out
          rw [cutEnd_yes hn hlast h51] at this
          show ReadOf _ _
          rw [List.map_append]
          exact this
        have HNt : Hid ((li.take n).length = n) := by show _ = _; rw [List.length_take, Nat.min_eq_left (by omega)]
        have HOt := Lib.hid (ho'.take (k := n) (by omega))
        have hcut := fun W => cut_h (T := 69) (s := 8) Tryz.underlying69 (fun W => by kernel_rfl) (n := n + 1) (c := c2) (k := n) W (own_add ho'.row) (by have := hp.1; omega)
        clear ho' hRd hB hn HQ HN1 hE hRd' hp hx hlast hy hs hyE hnn h51
        go_wp2_with (at_builtin; refine appendI _ rfl (.tmp 37) (.tmp 41) rfl w.heap.size _ c2 (li.take n) n HNt.out ⟨Sx.zero, none, 0, E, (p : Int)⟩ _ rfl rfl HOt.out ⟨⟨Nat.le_refl _, Nat.zero_le _⟩, .nil _⟩ rfl (by omega) HB.out.size ?_; intro A3 c3 w3 o3 g3; have O3 := Lib.hid o3; have B3 := Lib.hid (HB.out.grown g3 HB.out.size (fun q hq => (HOt.out.lt HNt.out hq).1)); clear o3 g3)
        rw [HPo.out]
        exact ReadSaid.mk (by rw [List.length_append, HNt.out]; rfl) (by omega) O3.out HR.out B3.out
      · have h51b : (x.E == 51) = false := beq_eq_false_iff_ne.2 h51
        have HR : Hid (ReadOf s ((li ++ [MItem.mk Sx.zero none 0 E (p : Int)]).map MItem.pure)) := by
          have := hRd'.out
          rw [cutEnd_no hlast h51] at this
          show ReadOf _ _
          rw [List.map_append]
          exact this
        clear ho' hRd hB hn HQ HN1 hE hRd' hp hx hlast hy hs hyE hnn h51
        go_wp2_with (at_builtin; refine appendI _ rfl (.tmp 37) (.tmp 41) rfl w.heap.size _ c2 li (n + 1) HN.out ⟨Sx.zero, none, 0, E, (p : Int)⟩ _ rfl rfl HO.out ⟨⟨Nat.le_refl _, Nat.zero_le _⟩, .nil _⟩ rfl (by omega) HB.out.size ?_; intro A3 c3 w3 o3 g3; have O3 := Lib.hid o3; have B3 := Lib.hid (HB.out.grown g3 HB.out.size (fun q hq => (HO.out.lt HN.out hq).1)); clear o3 g3)
        rw [HPo.out]
        exact ReadSaid.mk (by rw [List.length_append, HN.out]; rfl) (by omega) O3.out HR.out B3.out
end Go.Proofs.YtcgaeknikfaghaaGreatDoor
namespace Go.Proofs.YtcgaeknikfaghaaGreatDoor
abbrev awS1 : ByteArray := ⟨#[40, 108, 101, 116, 32, 40, 40, 121, 32, 40, 43, 32, 120, 32, 49, 41, 41, 41, 32, 40, 42, 32, 50, 32, 121, 41, 41]⟩
abbrev awL1 : List MTok := [(1, ⟨#[40]⟩, 0), (3, ⟨#[108, 101, 116]⟩, 1), (1, ⟨#[40]⟩, 5), (1, ⟨#[40]⟩, 6), (3, ⟨#[121]⟩, 7), (1, ⟨#[40]⟩, 9), (3, ⟨#[43]⟩, 10), (3, ⟨#[120]⟩, 12), (4, ⟨#[49]⟩, 14), (2, ⟨#[41]⟩, 15), (2, ⟨#[41]⟩, 16), (2, ⟨#[41]⟩, 17), (1, ⟨#[40]⟩, 19), (3, ⟨#[42]⟩, 20), (4, ⟨#[50]⟩, 22), (3, ⟨#[121]⟩, 24), (2, ⟨#[41]⟩, 25), (2, ⟨#[41]⟩, 26)]
abbrev awX1 : Sx := ⟨true, 0, ByteArray.empty, 0, 0, [⟨false, 3, ⟨#[108, 101, 116]⟩, 1, 1, []⟩, ⟨true, 0, ByteArray.empty, 0, 5, [⟨true, 0, ByteArray.empty, 0, 6, [⟨false, 3, ⟨#[121]⟩, 7, 7, []⟩, ⟨true, 0, ByteArray.empty, 0, 9, [⟨false, 3, ⟨#[43]⟩, 10, 10, []⟩, ⟨false, 3, ⟨#[120]⟩, 12, 12, []⟩, ⟨false, 4, ⟨#[49]⟩, 14, 14, []⟩]⟩]⟩]⟩, ⟨true, 0, ByteArray.empty, 0, 19, [⟨false, 3, ⟨#[42]⟩, 20, 20, []⟩, ⟨false, 4, ⟨#[50]⟩, 22, 22, []⟩, ⟨false, 3, ⟨#[121]⟩, 24, 24, []⟩]⟩]⟩
theorem awS1_lex : Lx.lex 4000 awS1.data.toList = ([(1, [40], 27), (3, [108, 101, 116], 26), (1, [40], 22), (1, [40], 21), (3, [121], 20), (1, [40], 18), (3, [43], 17), (3, [120], 15), (4, [49], 13), (2, [41], 12), (2, [41], 11), (2, [41], 10), (1, [40], 8), (3, [42], 7), (4, [50], 5), (3, [121], 3), (2, [41], 2), (2, [41], 1)], 0, []) := by
  rw [Lx.lex_fuel 27 4000 27 _ (by decide) (by decide) (by decide)]
  decide +kernel
theorem awS1_of : LexOf awS1 awL1 0 27 := by
  refine ⟨by decide, by decide, by decide, fun h => absurd h (by decide), fun _ => ?_⟩
  rw [awS1_lex]
  exact ⟨rfl, rfl, rfl⟩
theorem awS1_says : Says (27 : Int) (awL1.map toI) [⟨awX1, 0, 0⟩] := by
  exact Says.list (1, ⟨#[40]⟩, 0) (2, ⟨#[41]⟩, 26) [(3, ⟨#[108, 101, 116]⟩, 1), (1, ⟨#[40]⟩, 5), (1, ⟨#[40]⟩, 6), (3, ⟨#[121]⟩, 7), (1, ⟨#[40]⟩, 9), (3, ⟨#[43]⟩, 10), (3, ⟨#[120]⟩, 12), (4, ⟨#[49]⟩, 14), (2, ⟨#[41]⟩, 15), (2, ⟨#[41]⟩, 16), (2, ⟨#[41]⟩, 17), (1, ⟨#[40]⟩, 19), (3, ⟨#[42]⟩, 20), (4, ⟨#[50]⟩, 22), (3, ⟨#[121]⟩, 24), (2, ⟨#[41]⟩, 25)] [] [⟨false, 3, ⟨#[108, 101, 116]⟩, 1, 1, []⟩, ⟨true, 0, ByteArray.empty, 0, 5, [⟨true, 0, ByteArray.empty, 0, 6, [⟨false, 3, ⟨#[121]⟩, 7, 7, []⟩, ⟨true, 0, ByteArray.empty, 0, 9, [⟨false, 3, ⟨#[43]⟩, 10, 10, []⟩, ⟨false, 3, ⟨#[120]⟩, 12, 12, []⟩, ⟨false, 4, ⟨#[49]⟩, 14, 14, []⟩]⟩]⟩]⟩, ⟨true, 0, ByteArray.empty, 0, 19, [⟨false, 3, ⟨#[42]⟩, 20, 20, []⟩, ⟨false, 4, ⟨#[50]⟩, 22, 22, []⟩, ⟨false, 3, ⟨#[121]⟩, 24, 24, []⟩]⟩] [] rfl rfl (.atom (3, ⟨#[108, 101, 116]⟩, 1) _ _ (by decide) (by decide) (.list (1, ⟨#[40]⟩, 5) (2, ⟨#[41]⟩, 17) [(1, ⟨#[40]⟩, 6), (3, ⟨#[121]⟩, 7), (1, ⟨#[40]⟩, 9), (3, ⟨#[43]⟩, 10), (3, ⟨#[120]⟩, 12), (4, ⟨#[49]⟩, 14), (2, ⟨#[41]⟩, 15), (2, ⟨#[41]⟩, 16)] [(1, ⟨#[40]⟩, 19), (3, ⟨#[42]⟩, 20), (4, ⟨#[50]⟩, 22), (3, ⟨#[121]⟩, 24), (2, ⟨#[41]⟩, 25)] [⟨true, 0, ByteArray.empty, 0, 6, [⟨false, 3, ⟨#[121]⟩, 7, 7, []⟩, ⟨true, 0, ByteArray.empty, 0, 9, [⟨false, 3, ⟨#[43]⟩, 10, 10, []⟩, ⟨false, 3, ⟨#[120]⟩, 12, 12, []⟩, ⟨false, 4, ⟨#[49]⟩, 14, 14, []⟩]⟩]⟩] _ rfl rfl (.list (1, ⟨#[40]⟩, 6) (2, ⟨#[41]⟩, 16) [(3, ⟨#[121]⟩, 7), (1, ⟨#[40]⟩, 9), (3, ⟨#[43]⟩, 10), (3, ⟨#[120]⟩, 12), (4, ⟨#[49]⟩, 14), (2, ⟨#[41]⟩, 15)] [] [⟨false, 3, ⟨#[121]⟩, 7, 7, []⟩, ⟨true, 0, ByteArray.empty, 0, 9, [⟨false, 3, ⟨#[43]⟩, 10, 10, []⟩, ⟨false, 3, ⟨#[120]⟩, 12, 12, []⟩, ⟨false, 4, ⟨#[49]⟩, 14, 14, []⟩]⟩] _ rfl rfl (.atom (3, ⟨#[121]⟩, 7) _ _ (by decide) (by decide) (.list (1, ⟨#[40]⟩, 9) (2, ⟨#[41]⟩, 15) [(3, ⟨#[43]⟩, 10), (3, ⟨#[120]⟩, 12), (4, ⟨#[49]⟩, 14)] [] [⟨false, 3, ⟨#[43]⟩, 10, 10, []⟩, ⟨false, 3, ⟨#[120]⟩, 12, 12, []⟩, ⟨false, 4, ⟨#[49]⟩, 14, 14, []⟩] _ rfl rfl (.atom (3, ⟨#[43]⟩, 10) _ _ (by decide) (by decide) (.atom (3, ⟨#[120]⟩, 12) _ _ (by decide) (by decide) (.atom (4, ⟨#[49]⟩, 14) _ _ (by decide) (by decide) .nil))) .nil)) .nil) (.list (1, ⟨#[40]⟩, 19) (2, ⟨#[41]⟩, 25) [(3, ⟨#[42]⟩, 20), (4, ⟨#[50]⟩, 22), (3, ⟨#[121]⟩, 24)] [] [⟨false, 3, ⟨#[42]⟩, 20, 20, []⟩, ⟨false, 4, ⟨#[50]⟩, 22, 22, []⟩, ⟨false, 3, ⟨#[121]⟩, 24, 24, []⟩] _ rfl rfl (.atom (3, ⟨#[42]⟩, 20) _ _ (by decide) (by decide) (.atom (4, ⟨#[50]⟩, 22) _ _ (by decide) (by decide) (.atom (3, ⟨#[121]⟩, 24) _ _ (by decide) (by decide) .nil))) .nil))) (by simp [Sx.deeps, Sx.deep]) .nil
theorem awS1_read : ReadOf awS1 [⟨awX1, 0, 0⟩] := ⟨awL1, 0, 27, _, awS1_of, awS1_says, rfl⟩
abbrev awS2 : ByteArray := ⟨#[40, 43, 32, 120, 32, 121, 41]⟩
abbrev awL2 : List MTok := [(1, ⟨#[40]⟩, 0), (3, ⟨#[43]⟩, 1), (3, ⟨#[120]⟩, 3), (3, ⟨#[121]⟩, 5), (2, ⟨#[41]⟩, 6)]
abbrev awX2 : Sx := ⟨true, 0, ByteArray.empty, 0, 0, [⟨false, 3, ⟨#[43]⟩, 1, 1, []⟩, ⟨false, 3, ⟨#[120]⟩, 3, 3, []⟩, ⟨false, 3, ⟨#[121]⟩, 5, 5, []⟩]⟩
theorem awS2_lex : Lx.lex 4000 awS2.data.toList = ([(1, [40], 7), (3, [43], 6), (3, [120], 4), (3, [121], 2), (2, [41], 1)], 0, []) := by
  rw [Lx.lex_fuel 7 4000 7 _ (by decide) (by decide) (by decide)]
  decide +kernel
theorem awS2_of : LexOf awS2 awL2 0 7 := by
  refine ⟨by decide, by decide, by decide, fun h => absurd h (by decide), fun _ => ?_⟩
  rw [awS2_lex]
  exact ⟨rfl, rfl, rfl⟩
theorem awS2_says : Says (7 : Int) (awL2.map toI) [⟨awX2, 0, 0⟩] := by
  exact Says.list (1, ⟨#[40]⟩, 0) (2, ⟨#[41]⟩, 6) [(3, ⟨#[43]⟩, 1), (3, ⟨#[120]⟩, 3), (3, ⟨#[121]⟩, 5)] [] [⟨false, 3, ⟨#[43]⟩, 1, 1, []⟩, ⟨false, 3, ⟨#[120]⟩, 3, 3, []⟩, ⟨false, 3, ⟨#[121]⟩, 5, 5, []⟩] [] rfl rfl (.atom (3, ⟨#[43]⟩, 1) _ _ (by decide) (by decide) (.atom (3, ⟨#[120]⟩, 3) _ _ (by decide) (by decide) (.atom (3, ⟨#[121]⟩, 5) _ _ (by decide) (by decide) .nil))) (by simp [Sx.deeps, Sx.deep]) .nil
theorem awS2_read : ReadOf awS2 [⟨awX2, 0, 0⟩] := ⟨awL2, 0, 7, _, awS2_of, awS2_says, rfl⟩
abbrev awS3 : ByteArray := ⟨#[40, 115, 116, 114, 46, 105, 110, 95, 114, 101, 32, 120, 32, 120, 41]⟩
abbrev awL3 : List MTok := [(1, ⟨#[40]⟩, 0), (3, ⟨#[115, 116, 114, 46, 105, 110, 95, 114, 101]⟩, 1), (3, ⟨#[120]⟩, 11), (3, ⟨#[120]⟩, 13), (2, ⟨#[41]⟩, 14)]
abbrev awX3 : Sx := ⟨true, 0, ByteArray.empty, 0, 0, [⟨false, 3, ⟨#[115, 116, 114, 46, 105, 110, 95, 114, 101]⟩, 1, 1, []⟩, ⟨false, 3, ⟨#[120]⟩, 11, 11, []⟩, ⟨false, 3, ⟨#[120]⟩, 13, 13, []⟩]⟩
theorem awS3_lex : Lx.lex 4000 awS3.data.toList = ([(1, [40], 15), (3, [115, 116, 114, 46, 105, 110, 95, 114, 101], 14), (3, [120], 4), (3, [120], 2), (2, [41], 1)], 0, []) := by
  rw [Lx.lex_fuel 15 4000 15 _ (by decide) (by decide) (by decide)]
  decide +kernel
theorem awS3_of : LexOf awS3 awL3 0 15 := by
  refine ⟨by decide, by decide, by decide, fun h => absurd h (by decide), fun _ => ?_⟩
  rw [awS3_lex]
  exact ⟨rfl, rfl, rfl⟩
theorem awS3_says : Says (15 : Int) (awL3.map toI) [⟨awX3, 0, 0⟩] := by
  exact Says.list (1, ⟨#[40]⟩, 0) (2, ⟨#[41]⟩, 14) [(3, ⟨#[115, 116, 114, 46, 105, 110, 95, 114, 101]⟩, 1), (3, ⟨#[120]⟩, 11), (3, ⟨#[120]⟩, 13)] [] [⟨false, 3, ⟨#[115, 116, 114, 46, 105, 110, 95, 114, 101]⟩, 1, 1, []⟩, ⟨false, 3, ⟨#[120]⟩, 11, 11, []⟩, ⟨false, 3, ⟨#[120]⟩, 13, 13, []⟩] [] rfl rfl (.atom (3, ⟨#[115, 116, 114, 46, 105, 110, 95, 114, 101]⟩, 1) _ _ (by decide) (by decide) (.atom (3, ⟨#[120]⟩, 11) _ _ (by decide) (by decide) (.atom (3, ⟨#[120]⟩, 13) _ _ (by decide) (by decide) .nil))) (by simp [Sx.deeps, Sx.deep]) .nil
theorem awS3_read : ReadOf awS3 [⟨awX3, 0, 0⟩] := ⟨awL3, 0, 15, _, awS3_of, awS3_says, rfl⟩
abbrev awS4 : ByteArray := ⟨#[83, 116, 114, 105, 110, 103]⟩
abbrev awL4 : List MTok := [(3, ⟨#[83, 116, 114, 105, 110, 103]⟩, 0)]
abbrev awX4 : Sx := ⟨false, 3, ⟨#[83, 116, 114, 105, 110, 103]⟩, 0, 0, []⟩
theorem awS4_lex : Lx.lex 4000 awS4.data.toList = ([(3, [83, 116, 114, 105, 110, 103], 6)], 0, []) := by
  rw [Lx.lex_fuel 6 4000 6 _ (by decide) (by decide) (by decide)]
  decide +kernel
theorem awS4_of : LexOf awS4 awL4 0 6 := by
  refine ⟨by decide, by decide, by decide, fun h => absurd h (by decide), fun _ => ?_⟩
  rw [awS4_lex]
  exact ⟨rfl, rfl, rfl⟩
theorem awS4_says : Says (6 : Int) (awL4.map toI) [⟨awX4, 0, 0⟩] := by
  exact Says.atom (3, ⟨#[83, 116, 114, 105, 110, 103]⟩, 0) _ _ (by decide) (by decide) .nil
theorem awS4_read : ReadOf awS4 [⟨awX4, 0, 0⟩] := ⟨awL4, 0, 6, _, awS4_of, awS4_says, rfl⟩
abbrev awD : List Dc := [⟨⟨#[120]⟩, 2, false, [], Sx.zero⟩]
abbrev aw_x : Nd := ⟨1, 2, [], ⟨#[120]⟩, 0, []⟩
abbrev aw_1 : Nd := ⟨4, 2, [], ByteArray.empty, 1, []⟩
abbrev aw_s : Nd := ⟨15, 2, [0, 1], ByteArray.empty, 0, []⟩
abbrev aw_2 : Nd := ⟨4, 2, [], ByteArray.empty, 2, []⟩
abbrev aw_m : Nd := ⟨17, 2, [3, 2], ByteArray.empty, 0, []⟩
abbrev awN : List Nd := [aw_x, aw_1, aw_s, aw_2, aw_m]
theorem nd_op10 {x y : Nd} (h : x.op ≠ y.op) : x ≠ y := fun e => h (by rw [e])
theorem nd_num10 {x y : Nd} (h : x.num ≠ y.num) : x ≠ y := fun e => h (by rw [e])
theorem app_some10 {l : List Nd} {op : Int} {a : List Int} {w : List Nat} {more : Bool} {own : Nat} (h : Tm.asks op = some (w, more, own)) : Tm.app l op a = if a.length < w.length ∨ (w.length < a.length ∧ more = false) ∨ 200 < a.length then (l, 0, 1)
    else if Tm.allIn l a = false then (l, 0, 1) else if Tm.oks w 0 63 (a.map (Tm.letAt l)) = false then (l, 0, 90) else if op = 17 ∧ 1 < Tm.free l a then (l, 0, 101) else Tm.add l (Tm.node op own l a) := by
  rw [Tm.app, h]
theorem aw1 : Tm.const [] ⟨#[120]⟩ 2 = ([aw_x], 0, 0) := by
  unfold Tm.const
  rw [if_neg (by decide), Tm.add_new List.not_mem_nil (by decide)]
  rfl
theorem aw2 : Tm.num [aw_x] ((1 : Nat) : Int) = ([aw_x, aw_1], 1, 0) := by
  unfold Tm.num
  rw [if_neg (by decide)]
  exact Tm.add_new (l := [aw_x]) (x := aw_1) (fun h => nd_op10 (x := aw_1) (y := aw_x) (by decide) (List.mem_singleton.1 h)) (by decide)
theorem aw3 : Tm.app [aw_x, aw_1] 15 [0, 1] = ([aw_x, aw_1, aw_s], 2, 0) := by
  rw [app_some10 (w := [73, 73]) (more := true) (own := 73) (by decide), if_neg (by decide), if_neg (by decide), if_neg (by decide), if_neg (by decide)]
  refine Tm.add_new (l := [aw_x, aw_1]) (x := aw_s) (fun h => ?_) (by decide)
  rcases List.mem_cons.1 h with h | h
  · exact nd_op10 (x := aw_s) (y := aw_x) (by decide) h
  · exact nd_op10 (x := aw_s) (y := aw_1) (by decide) (List.mem_singleton.1 h)
theorem aw4 : Tm.num [aw_x, aw_1, aw_s] ((2 : Nat) : Int) = ([aw_x, aw_1, aw_s, aw_2], 3, 0) := by
  unfold Tm.num
  rw [if_neg (by decide)]
  refine Tm.add_new (l := [aw_x, aw_1, aw_s]) (x := aw_2) (fun h => ?_) (by decide)
  rcases List.mem_cons.1 h with h | h
  · exact nd_op10 (x := aw_2) (y := aw_x) (by decide) h
  rcases List.mem_cons.1 h with h | h
  · exact nd_num10 (x := aw_2) (y := aw_1) (by decide) h
  · exact nd_op10 (x := aw_2) (y := aw_s) (by decide) (List.mem_singleton.1 h)
theorem aw5 : Tm.app [aw_x, aw_1, aw_s, aw_2] 17 [3, 2] = (awN, 4, 0) := by
  rw [app_some10 (w := [73, 73]) (more := true) (own := 73) (by decide), if_neg (by decide), if_neg (by decide), if_neg (by decide), if_neg (by decide)]
  refine Tm.add_new (l := [aw_x, aw_1, aw_s, aw_2]) (x := aw_m) (fun h => ?_) (by decide)
  rcases List.mem_cons.1 h with h | h
  · exact nd_op10 (x := aw_m) (y := aw_x) (by decide) h
  rcases List.mem_cons.1 h with h | h
  · exact nd_op10 (x := aw_m) (y := aw_1) (by decide) h
  rcases List.mem_cons.1 h with h | h
  · exact nd_op10 (x := aw_m) (y := aw_s) (by decide) h
  · exact nd_op10 (x := aw_m) (y := aw_2) (by decide) (List.mem_singleton.1 h)
theorem aw6 : Tm.const awN ⟨#[120]⟩ 2 = (awN, 0, 0) := by
  unfold Tm.const
  rw [if_neg (by decide)]
  exact Tm.add_hit (l := awN) (i := 0) rfl fun j hj => absurd hj (Nat.not_lt_zero _)
theorem aw_num (D : List Dc) (k : Nat) (sc : Sc) (N : List Nd) (s : ByteArray) (ta a : Int) (L : List Sx) (h : isT s.data.toList = true) : Bd.tm D k sc N ⟨false, 4, s, ta, a, L⟩ = Tm.num N (T.dv s.data.toList) := by
  rw [Bd.tm_eq]
  unfold Bd.step
  rw [if_neg (fun e : false = true => by cases e)]
  unfold Bd.atomF
  rw [if_pos rfl, if_pos h]
theorem aw_name (D : List Dc) (k : Nat) (sc : Sc) (N : List Nd) (T : ByteArray) (ta a : Int) (L : List Sx) (h1 : ¬ (T.data.toList = [116, 114, 117, 101] ∨ T.data.toList = [102, 97, 108, 115, 101])) (h2 : Bd.reserved T.data.toList = false) : Bd.tm D k sc N ⟨false, 3, T, ta, a, L⟩ = match Bd.bound sc T with
    | some id => (N, id, 0)
    | none => match Bd.decl D T k with
      | none => (N, 0, 100)
      | some j => match D[j]? with
        | none => (N, 0, 100)
        | some d => if d.mac = true then (if d.par = [] then Bd.fn D j [] N else (N, 0, 1)) else Tm.const N d.name d.sort := by
  rw [Bd.tm_eq]
  unfold Bd.step
  rw [if_neg (fun e : false = true => by cases e)]
  unfold Bd.atomF
  rw [if_neg (show ¬ (3 : Int) = 4 by decide), if_neg (show ¬ (3 : Int) = 6 by decide), if_pos rfl]
  unfold Bd.nameF
  rw [if_neg h1, if_neg (by rw [h2]; decide)]
  rfl
theorem aw_op (D : List Dc) (k : Nat) (sc : Sc) (N : List Nd) (T : ByteArray) (ta a a2 : Int) (L r : List Sx) (h1 : ¬ T.data.toList = [108, 101, 116]) (h2 : Bd.op T.data.toList r.length ≠ 0) : Bd.tm D k sc N ⟨true, 0, ByteArray.empty, 0, a2, ⟨false, 3, T, ta, a, L⟩ :: r⟩ = match Bd.each (Bd.tm D k sc) N r with
      | (N', ids, e) => if e = 0 then Tm.app N' (Bd.op T.data.toList r.length) ids else (N', 0, e) := by
  rw [Bd.tm_eq]
  unfold Bd.step
  rw [if_pos rfl]
  unfold Bd.listF
  simp only
  rw [if_neg (fun e : false = true ∨ (3 : Int) ≠ 3 => e.elim (fun e => by cases e) fun e => e rfl), if_neg h1, if_pos h2]
theorem aw_bx : Bd.tm awD 1 [] [] ⟨false, 3, ⟨#[120]⟩, 12, 12, []⟩ = ([aw_x], 0, 0) := by
  rw [aw_name _ _ _ _ _ _ _ _ (by decide) (by decide)]
  exact aw1
theorem aw_b1 : Bd.tm awD 1 [] [] ⟨true, 0, ByteArray.empty, 0, 9, [⟨false, 3, ⟨#[43]⟩, 10, 10, []⟩, ⟨false, 3, ⟨#[120]⟩, 12, 12, []⟩, ⟨false, 4, ⟨#[49]⟩, 14, 14, []⟩]⟩ = ([aw_x, aw_1, aw_s], 2, 0) := by
  rw [aw_op _ _ _ _ _ _ _ _ _ _ (by decide) (by decide)]
  have e : Bd.each (Bd.tm awD 1 []) [] [⟨false, 3, ⟨#[120]⟩, 12, 12, []⟩, ⟨false, 4, ⟨#[49]⟩, 14, 14, []⟩] = ([aw_x, aw_1], [0, 1], 0) := by
    rw [Bd.each, aw_bx]
    simp only [if_true]
    rw [Bd.each, aw_num _ _ _ _ _ _ _ _ (by decide), show T.dv [49] = 1 by decide, aw2]
    rfl
  rw [e]
  exact aw3
theorem aw_b2 : Bd.tm awD 1 [(⟨#[121]⟩, 2)] [aw_x, aw_1, aw_s] ⟨true, 0, ByteArray.empty, 0, 19, [⟨false, 3, ⟨#[42]⟩, 20, 20, []⟩, ⟨false, 4, ⟨#[50]⟩, 22, 22, []⟩, ⟨false, 3, ⟨#[121]⟩, 24, 24, []⟩]⟩ = (awN, 4, 0) := by
  rw [aw_op _ _ _ _ _ _ _ _ _ _ (by decide) (by decide)]
  have e : Bd.each (Bd.tm awD 1 [(⟨#[121]⟩, 2)]) [aw_x, aw_1, aw_s] [⟨false, 4, ⟨#[50]⟩, 22, 22, []⟩, ⟨false, 3, ⟨#[121]⟩, 24, 24, []⟩] = ([aw_x, aw_1, aw_s, aw_2], [3, 2], 0) := by
    rw [Bd.each, aw_num _ _ _ _ _ _ _ _ (by decide), show T.dv [50] = 2 by decide, aw4]
    simp only [if_true]
    rw [Bd.each, aw_name _ _ _ _ _ _ _ _ (by decide) (by decide)]
    rfl
  rw [e]
  exact aw5
theorem awX1_tm : Bd.tm awD 1 [] [] awX1 = (awN, 4, 0) := by
  rw [Bd.tm_eq]
  unfold Bd.step
  rw [if_pos rfl]
  unfold Bd.listF
  simp only
  rw [if_neg (by decide), if_pos (by decide)]
  rw [Bd.letF_eq (m := [(⟨#[121]⟩, ⟨true, 0, ByteArray.empty, 0, 9, [⟨false, 3, ⟨#[43]⟩, 10, 10, []⟩, ⟨false, 3, ⟨#[120]⟩, 12, 12, []⟩, ⟨false, 4, ⟨#[49]⟩, 14, 14, []⟩]⟩)]) _ _ _ _ _ rfl rfl (by decide) (by decide)]
  refine (Bd.andThen_ok (N' := [aw_x, aw_1, aw_s]) (a := [2]) ?_).trans ?_
  · simp only [List.map_cons, List.map_nil]
    rw [Bd.each, aw_b1]
    rfl
  · exact aw_b2
theorem awX2_tm : Bd.tm awD 1 [] awN awX2 = (awN, 0, 100) := by
  rw [aw_op _ _ _ _ _ _ _ _ _ _ (by decide) (by decide)]
  have e : Bd.each (Bd.tm awD 1 []) awN [⟨false, 3, ⟨#[120]⟩, 3, 3, []⟩, ⟨false, 3, ⟨#[121]⟩, 5, 5, []⟩] = (awN, [], 100) := by
    rw [Bd.each, aw_name _ _ _ _ _ _ _ _ (by decide) (by decide)]
    have e1 : (match Bd.bound [] ⟨#[120]⟩ with
    | some id => (awN, id, 0)
    | none => match Bd.decl awD ⟨#[120]⟩ 1 with
      | none => (awN, 0, 100)
      | some j => match awD[j]? with
        | none => (awN, 0, 100)
        | some d => if d.mac = true then (if d.par = [] then Bd.fn awD j [] awN else (awN, 0, 1)) else Tm.const awN d.name d.sort : Bans) = (awN, 0, 0) := aw6
    rw [e1]
    simp only [if_true]
    rw [Bd.each, aw_name _ _ _ _ _ _ _ _ (by decide) (by decide)]
    rfl
  rw [e]
  rfl
theorem awX3_tm : Bd.tm awD 1 [] awN awX3 = (awN, 0, 101) := by
  rw [Bd.tm_eq]
  unfold Bd.step
  rw [if_pos rfl]
  unfold Bd.listF
  simp only
  rw [if_neg (by decide), if_neg (by decide), if_neg (by decide), if_pos (by decide)]
end Go.Proofs.YtcgaeknikfaghaaGreatDoor
