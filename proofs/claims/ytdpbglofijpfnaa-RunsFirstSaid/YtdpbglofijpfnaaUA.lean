/- slices.Clone, slices.Grow, slices.Concat over runs. -/
import Derived.Test.YtdpbglofijpfnaaU8
import Derived.Lib.AppendZerosOnto
import Derived.Lib.SliceRun
namespace Go.Proofs.Ytdpbglofijpfnaa
open Go.RowKit

theorem RunS.cells {w : World} {b off n : Nat} {S : List (Int × Int)} (h : RunS w (some ⟨b, off, none⟩) n S) : ∀ j u, (rcells S)[j]? = some u → w.cell? ((⟨b, off, none⟩ : Addr).add j) = some u := fun j u hu => by
  have at2 : ∀ (l : List (Int × Int)) (j : Nat) (u : Value), (rcells l)[j]? = some u → ∃ i x, l[i]? = some x ∧ (j = i * 2 ∧ u = .int .i64 x.1 ∨ j = i * 2 + 1 ∧ u = .int .i64 x.2) := fun l j u h => by
    have hj := (List.getElem?_eq_some_iff.1 h).1
    rw [rs_length] at hj
    obtain ⟨x, hx⟩ : ∃ x, l[j / 2]? = some x := ⟨_, List.getElem?_eq_getElem (by omega)⟩
    obtain ⟨h1, h2⟩ := rs_get l _ x hx
    refine ⟨j / 2, x, hx, ?_⟩
    rcases Nat.mod_two_eq_zero_or_one j with e | e
    · have e' : j / 2 * 2 = j := by omega
      rw [e', h] at h1
      exact .inl ⟨e'.symm, Option.some.inj h1⟩
    · have e' : j / 2 * 2 + 1 = j := by omega
      rw [e', h] at h2
      exact .inr ⟨e'.symm, Option.some.inj h2⟩
  obtain ⟨i, y, hy, hju⟩ := at2 S j u hu
  have hil := (List.getElem?_eq_some_iff.1 hy).1
  obtain ⟨b', off', e, _, hc⟩ := h.at_ (by have := h.len; omega)
  cases e
  obtain ⟨k1, k2⟩ := hc i y hy
  rw [addr_add]
  rcases hju with ⟨rfl, rfl⟩ | ⟨rfl, rfl⟩
  · exact k1
  · exact k2
/-- append whatever reads as runs to a row of one's own -/
theorem run_appendRS (w : World) (ty : TypeId) (base : Nat) (v : Value) (L : List (Int × Int)) (n : Nat) (hn : L.length = n) (hown : w.ownsRow base 38 2 v n (rcells L)) (B : Option Addr) (m d : Nat) (S : List (Int × Int)) (hr : RunS w B m S) (h1 : n + m ≤ 2000000) (hb : base ≤ w.heap.size) :
    ∃ A' c' w', (Builtin.append_ #[22, 22] ty #[v, .slice B m d]).run Try.prog w = .ok (.slice A' (n + m) c') w' ∧ OwnR w' base A' c' (L ++ S) ∧ w.grownBy w' v.ownBlock := by
  obtain ⟨i0, hi, hz0, hz1, hz2⟩ := info_parts infoR7
  have hS := hr.len
  rcases Nat.eq_zero_or_pos m with e | e
  · subst e
    obtain rfl := List.eq_nil_of_length_eq_zero hS
    obtain ⟨A, c, rfl⟩ := own_form hown
    refine ⟨A, c, w, ?_, by rw [List.append_nil]; unfold OwnR; rw [hn]; exact hown, ⟨rfl, rfl, rfl, Nat.le_refl _, fun _ _ _ => rfl⟩⟩
    rcases hown.2 with ⟨e1, rfl⟩ | ⟨g, cap, cur, e1, _, hg, hnc, _⟩
    · injection e1 with e1 e2 e3
      subst e1
      subst e3
      cases B <;> simp [Builtin.append_, run_underlying Try.underlying22, sizeOf, typeInfo, hi, Builtin.lenOf, Builtin.firstCells, loadCells, loadCellsFrom]
    · injection e1 with e1 e2 e3
      subst e1
      subst e3
      cases B <;> simp [Builtin.append_, run_underlying Try.underlying22, sizeOf, typeInfo, hi, Builtin.lenOf, Builtin.firstCells, loadCells, loadCellsFrom, hnc, storeCells]
  · obtain ⟨b, off, rfl, _⟩ := hr.at_ e
    obtain ⟨v', w', hrun, q1, q2, _, _⟩ := run_append_own_at (P := Try.prog) w base 22 ty 38 i0 (.agg #[.int .i64 0, .int .i64 0]) 2 16 Try.underlying22 hi hz0 hz1 hz2 rfl (by decide) v n (rcells L) hown
      ⟨b, off, none⟩ m d (rcells S) (by rw [rs_length, hS]) hr.cells (rs_one S) (by unfold maxLen; omega) (by omega) hb
    obtain ⟨A', c', rfl⟩ := own_form q1
    refine ⟨A', c', w', hrun, ?_, q2⟩
    unfold OwnR
    rw [rs_app, List.length_append, hn, hS]
    exact q1
theorem appendRS (w : World) {ops : Array Oper} {rest : List Oper} {o : Oper} {a : Act} {Q : Exit → Act → World → Prop} (hgd : o.guard = none) (s x : Operand)
    (ho : o.op = .call { callee := .builtin .append, args := #[s, x], argTypes := #[22, 22] }) (base : Nat) (v : Value) (L : List (Int × Int)) (n : Nat) (hn : L.length = n) (hs : a.eval s = v) (hown : w.ownsRow base 38 2 v n (rcells L))
    (B : Option Addr) (m d : Nat) (S : List (Int × Int)) (hx : a.eval x = .slice B m d) (hr : RunS w B m S) (h1 : n + m ≤ 2000000) (hb : base ≤ w.heap.size)
    (h : ∀ A' c' w', OwnR w' base A' c' (L ++ S) → w.grownBy w' v.ownBlock → wpList Try.prog ops Q rest (a.put o.dst (.slice A' (n + m) c')) w') :
    wpList Try.prog ops Q (o :: rest) a w := by
  refine wpList_plain hgd fun K hK => ?_
  obtain ⟨A', c', w', hrun, q1, q2⟩ := run_appendRS w o.type base v L n hn hown B m d S hr h1 hb
  unfold Oper.wp execOp
  simp only [ho, resolve, invoke, builtin, Sem.run_bind, Sem.run_pure, Result.andThen_ok, List.map_toArray, List.map_cons, List.map_nil, hs, hx, hrun]
  exact hK _ _ (h A' c' w' q1 q2)

theorem kclone8 (w : World) (A : Option Addr) (n c : Nat) (R : List (Int × Int)) (h : RunS w A n R) (hn : n ≤ 1000000) :
    Calls Try.prog 44 #[.slice A n c] w fun e w' => RSaid w R e w' := by
  cases A with
  | none =>
    have h0 : n = 0 := by
      rcases Nat.eq_zero_or_pos n with e | e
      · exact e
      · obtain ⟨_, _, e', _⟩ := h.at_ e
        cases e'
    subst h0
    obtain rfl := List.eq_nil_of_length_eq_zero h.len
    have hq := fun w => Lib.run_eql_slice_nil (P := Try.prog) w 22 38 none 0 c 0 0 Try.underlying22
    clear h
    go_enter Try.func44, Try.ntmps44
    go_wp2
    go_ret
    exact ⟨⟨none, 0, rfl, OwnR.nil _ _⟩, Below.refl _ _⟩
  | some ad =>
    have hq := fun w => Lib.run_eql_slice_nil (P := Try.prog) w 22 38 (some ad) n c 0 0 Try.underlying22
    have HH := Lib.hid (h.below ((Below.refl _ w).alloc (Nat.le_refl _) (.cells #[] 38)))
    have hl := h.len
    have HF : Hid (∀ w2 A2 c2, OwnR w2 w.heap.size A2 c2 ([] ++ R) → Below w.heap.size w w2 → RSaid w R (.returned (.slice A2 n c2)) w2) := fun w2 A2 c2 o2 b2 => ⟨⟨A2, c2, by rw [hl], o2⟩, b2⟩
    clear h hl
    go_enter Try.func44, Try.ntmps44
    go_wp2_with (at_builtin; refine appendRS _ rfl (.tmp 5) (.tmp 6) rfl w.heap.size _ [] 0 rfl rfl (World.ownsRow_made w #[] 0 (Nat.le_refl _) (Nat.zero_le _) rfl) _ n c R rfl HH.out (by omega) (by simp) ?_; intro A1 c1 w2 o1 g1; simp only [Nat.zero_add]; have O1 := Lib.hid o1; have b1 : Below w.heap.size w w2 := ((Below.refl _ _).alloc (Nat.le_refl _) _).grown g1 (by simp) (fun k hk => Nat.le_of_eq (Option.some.inj hk)); clear o1 g1)
    go_ret
    exact HF.out _ _ _ O1.out b1

theorem kgrow8 (w : World) (n : Nat) (hn : n ≤ 1000000) :
    Calls Try.prog 52 #[.slice none 0 0, .int .i64 n] w fun e w' => RSaid w [] e w' := by
  rcases Nat.eq_zero_or_pos n with e | e
  · subst e
    go_enter Try.func52, Try.ntmps52
    go_wp2
    go_ret
    exact ⟨⟨none, 0, rfl, OwnR.nil _ _⟩, Below.refl _ _⟩
  · obtain ⟨i0, hi, hz0, hz1, hz2⟩ := info_parts infoR7
    have hrz := fun ty => Lib.run_append_nil_zeros (P := Try.prog) w 22 3 ty 38 i0 (.agg #[.int .i64 0, .int .i64 0]) .i64 .i64 Try.underlying22 Try.underlying3 hi hz0 n e (by omega) (by omega) (by rw [hz2]; omega)
    have hge := grownCap_ge w n 0 38
    have hle := grownCap_le_maxLen w n 0 38 (by unfold maxLen; omega)
    generalize grownCap w n 0 38 = G at hrz hge hle
    obtain ⟨cs, hcs⟩ : ∃ cs, Builtin.zeroCells (Value.agg #[.int .i64 0, .int .i64 0]).cells n ++ Builtin.zeroCells (Value.agg #[.int .i64 0, .int .i64 0]).cells (G - n) = cs := ⟨_, rfl⟩
    have hsz : cs.size = G * 2 := by
      rw [← hcs]
      simp [Builtin.zeroCells, Value.cells]
      omega
    rw [hcs] at hrz
    have HF : Hid (RSaid w [] (.returned (.slice (some ⟨w.heap.size, 0, none⟩) 0 G)) (w.drew.alloc (.cells cs 38))) :=
      ⟨⟨_, G, rfl, rfl, .inr ⟨w.heap.size, G, cs, rfl, Nat.le_refl _, heap_alloc_new w.drew _, Nat.zero_le _, hle, hsz, by simp [rcells]⟩⟩, (Below.refl _ w).trans ((Below.drew_ w w.heap.size).trans ((Below.refl _ w.drew).alloc (Nat.le_refl _) _))⟩
    have hn0 : (0 : Int) < (n : Int) := by omega
    have hcut := fun W => rcut_h (b := w.heap.size) (off := 0) (n := n) (c := G) (k := 0) W (Nat.zero_le _)
    clear hcs hsz
    go_enter Try.func52, Try.ntmps52
    go_wp2_with (at_builtin; refine Lib.wpList_append_run _ rfl _ _ _ _ rfl _ _ rfl rfl _ _ (hrz _) ?_)
    all_goals
      go_ret
      exact HF.out
end Go.Proofs.Ytdpbglofijpfnaa
