/- What the proofs of this claim use, text by text. -/
import Derived.Test.YtcgaeknikfaghaaGreatDoorQC23
import Derived.Test.YtcgaeknikfaghaaGreatDoorQC25
set_option linter.unusedSimpArgs false
set_option linter.unusedVariables false
set_option maxRecDepth 100000
set_option maxHeartbeats 25600000
namespace Go.Proofs.YtcgaeknikfaghaaGreatDoor
open Go.RowKit Go.Shelf
theorem Rd.str {w : World} {G : Nat → Prop} {A : Option Addr} {n c i : Nat} {l : List ByteArray} (h : Rd w G A n c (l.map .string)) (hi : i < n) : ∃ b off s, A = some ⟨b, off, none⟩ ∧ l[i]? = some s ∧ ∀ W, Below w.heap.size w W → b < W.heap.size ∧ W.cell? ⟨b, off + i, none⟩ = some (.string s) := by
  obtain ⟨b, off, e, _, hb, hc⟩ := h.at_ (by omega)
  have hl := h.len
  rw [List.length_map] at hl
  obtain ⟨s, hs⟩ : ∃ s, l[i]? = some s := ⟨_, List.getElem?_eq_getElem (by omega)⟩
  exact ⟨b, off, s, e, hs, fun W hW => ⟨Nat.lt_of_lt_of_le hb hW.size, (hW.cell (p := ⟨b, off + i, none⟩) hb).trans (hc i _ (by rw [List.getElem?_map, hs]; rfl))⟩⟩
theorem knameOf (w : World) (x : Sx) (A : Option Addr) (c : Nat) :
    Calls Tryz.prog 52 #[sval x A c] w fun e w' => e = .returned (.tuple #[.string (if x.list = false ∧ x.k = 3 then x.T else ⟨#[]⟩), .bool (decide (x.list = false ∧ x.k = 3))]) ∧ Below w.heap.size w w' := by
  obtain ⟨xl, xk, xT, xta, xa, xL⟩ := x
  unfold sval
  simp only
  obtain ⟨n, hn⟩ : ∃ n, xL.length = n := ⟨_, rfl⟩
  rw [hn]
  clear hn
  cases xl with
  | true =>
    rw [if_neg (by simp), decide_eq_false (by simp)]
    go_enter Tryz.func52, Tryz.ntmps52
    go_wp2
    go_ret2
    exact ⟨rfl, (Below.refl _ w).alloc (Nat.le_refl _) _⟩
  | false =>
    by_cases h3 : xk = 3
    · subst h3
      rw [if_pos (by simp), decide_eq_true (by simp)]
      go_enter Tryz.func52, Tryz.ntmps52
      go_wp2
      go_ret2
      exact ⟨rfl, (Below.refl _ w).alloc (Nat.le_refl _) _⟩
    · rw [if_neg (by simp [h3]), decide_eq_false (by simp [h3])]
      have hb : (xk != 3) = true := by simp [h3]
      clear h3
      go_enter Tryz.func52, Tryz.ntmps52
      go_wp2
      go_ret2
      exact ⟨rfl, (Below.refl _ w).alloc (Nat.le_refl _) _⟩
def anyRes (l : List ByteArray) : Bool := l.any fun s => Bd.reserved s.data.toList
theorem kindexS (w : World) {G : Nat → Prop} (A : Option Addr) (n c : Nat) (l : List ByteArray) (h : Rd w G A n c (l.map .string)) (hn : n ≤ 1000000) :
    Calls Tryz.prog 76 #[.slice A n c, .func (.func 21) #[] #[]] w fun e w' => (∃ r : Int, e = .returned (.int .i64 r) ∧ decide (0 ≤ r) = anyRes l) ∧ w' = w := by
  have HH := Lib.hid h
  obtain ⟨X, HX⟩ : ∃ X, Hid (anyRes l = X) := ⟨_, rfl⟩
  rw [HX.out]
  have HL : Hid (l.length = n) := by have := h.len; rwa [List.length_map] at this
  clear h
  go_enter Tryz.func76, Tryz.ntmps76
  go_wp2
  go_loopw [8] (fun iv wr => ∃ i : Nat, i ≤ n ∧ iv = .int .i64 (i : Nat) ∧ wr = w ∧ Hid (∀ z ∈ l.take i, Bd.reserved z.data.toList = false)) (fun iv _ => n - (intOf iv).toNat)
  case atStart => exact ⟨0, Nat.zero_le _, rfl, rfl, fun _ hz => absurd hz List.not_mem_nil⟩
  case round =>
    obtain ⟨i, hi, rfl, rfl, HI⟩ := hrel
    by_cases hlt : i < n
    · obtain ⟨b, off, z, rfl, hz, hc⟩ := HH.out.str hlt
      obtain ⟨q1, q2⟩ := hc wr (Below.refl _ _)
      have hlt' : (i : Int) < (n : Int) := by omega
      have h0 : (0 : Int) ≤ (i : Int) := by omega
      have HPt := Lib.hid (kreserved z wr)
      cases hp : Bd.reserved z.data.toList with
      | true =>
        obtain rfl : X = true := by rw [← HX.out]; exact List.any_eq_true.2 ⟨z, List.mem_of_getElem? hz, hp⟩
        rw [hp] at HPt
        clear HI hz hc hp HX HH HL
        go_wp2_with fail
        refine HPt.out.mono ?_
        rintro e w1 ⟨rfl, rfl⟩
        go_wp2
        go_ret
        exact ⟨⟨_, rfl, by simp⟩, by trivial⟩
      | false =>
        rw [hp] at HPt
        have HAll : Hid (∀ y ∈ l.take (i + 1), Bd.reserved y.data.toList = false) := by
          intro y hy
          rw [take_one hz] at hy
          rcases List.mem_append.1 hy with hy | hy
          · exact HI.out y hy
          · rw [List.mem_singleton.1 hy]
            exact hp
        clear HI hz hc hp HX HH HL
        go_wp2_with fail
        refine HPt.out.mono ?_
        rintro e w1 ⟨rfl, rfl⟩
        go_wp2
        go_roundw
        case rel => exact ⟨i + 1, by omega, by go_num, by trivial, HAll.out⟩
        case measure => simp [intOf]; omega
    · obtain rfl : i = n := by omega
      obtain rfl : X = false := by
        rw [← HX.out]
        have := HI.out
        rw [List.take_of_length_le (by rw [HL.out]; exact Nat.le_refl _)] at this
        exact List.any_eq_false.2 fun z hz => by rw [this z hz]; decide
      clear HI HX HH HL
      go_wp2
      go_ret
      exact ⟨⟨_, rfl, by decide⟩, by trivial⟩
theorem kcontS (w : World) {G : Nat → Prop} (A : Option Addr) (n c : Nat) (l : List ByteArray) (h : Rd w G A n c (l.map .string)) (hn : n ≤ 1000000) :
    Calls Tryz.prog 42 #[.slice A n c, .func (.func 21) #[] #[]] w fun e w' => e = .returned (.bool (anyRes l)) ∧ w' = w := by
  have HI := Lib.hid (kindexS w A n c l h hn)
  generalize anyRes l = X at HI
  clear h
  go_enter Tryz.func42, Tryz.ntmps42
  go_wp2_with (go_at_call 76; refine HI.out.mono ?_; rintro e w1 ⟨⟨r, rfl, hr⟩, rfl⟩)
  go_ret
  exact ⟨by first | rfl | rw [hr], rfl⟩
theorem lookS1 {w : World} {b q : Nat} {D : DataW Unit} {g : ByteArray → Option Int} (ho : w.ownsMap Tryz.prog 9 (plainElem Tryz.prog 3) b q D) (ht : TellS D g) (s : ByteArray) (hs : s.size ≤ maxLen) :
    (Instr.lookup 98 (.map (some b)) (.string s) false).run Tryz.prog w = .ok (.int .i64 ((g s).getD 0)) w := by
  obtain ⟨c, hrun, hat, _⟩ := ho.lookup_int lawS Tryz.underlying98 Tryz.underlying3 (zeroInt w) (WideMaps.keyOf_string_mk (P := Tryz.prog) Tryz.underlying9 hs)
  rw [hrun]
  obtain ⟨t1, t2⟩ := ht s hs
  cases hg : g s with
  | none =>
    have e := t1 hg
    rw [Maps.atKey_of_not_has e] at hat
    rw [← lit_i64 hat]
    rfl
  | some i =>
    obtain ⟨e1, e2⟩ := t2 i hg
    rw [e2] at hat
    rw [← lit_i64 hat]
    rfl
theorem Bd.twice_nodup : ∀ l : List ByteArray, Bd.twice l = decide (¬ l.Nodup)
  | [] => by simp [Bd.twice]
  | s :: l => by
    rw [Bd.twice, Bd.twice_nodup l, Bool.eq_iff_iff]
    simp only [Bool.or_eq_true, List.contains_iff_mem, decide_eq_true_eq, List.nodup_cons]
    constructor
    · rintro (h | h)
      · exact fun e => e.1 h
      · exact fun e => h e.2
    · intro h
      by_cases hm : s ∈ l
      · exact .inl hm
      · exact .inr fun e => h ⟨hm, e⟩
theorem ktwice10 (w : World) {G : Nat → Prop} (A : Option Addr) (n c : Nat) (l : List ByteArray) (h : Rd w G A n c (l.map .string)) (hn : n ≤ 1000000) (hs : ∀ s ∈ l, s.size ≤ maxLen) :
    Calls Tryz.prog 41 #[.slice A n c] w fun e w' => e = .returned (.bool (Bd.twice l)) ∧ Below w.heap.size w w' := by
  have hmm : ∀ W : World, (Instr.makeMap 98 none).run Tryz.prog W = .ok (.map (some W.heap.size)) (W.alloc (.map #[] 0)) := fun W => run_makeMap _ W
  have HH := Lib.hid h
  have HS := Lib.hid hs
  have HL : Hid (l.length = n) := by have := h.len; rwa [List.length_map] at this
  obtain ⟨X, HX⟩ : ∃ X, Hid (Bd.twice l = X) := ⟨_, rfl⟩
  rw [HX.out]
  clear h hs
  go_enter Tryz.func41, Tryz.ntmps41
  go_wp2
  go_loopw [9] (fun iv wr => ∃ i : Nat, i ≤ n ∧ iv = .int .i64 (i : Nat) ∧ Hid (Below w.heap.size w wr ∧ (l.take i).Nodup ∧ ∃ D, wr.ownsMap Tryz.prog 9 (plainElem (H := Unit) Tryz.prog 3) w.heap.size i D ∧ TellS D (fun s => if s ∈ l.take i then some 1 else none))) (fun iv _ => n - (intOf iv).toNat)
  case atStart => exact ⟨0, Nat.zero_le _, rfl, (Below.refl _ _).alloc (Nat.le_refl _) _, List.nodup_nil, _, World.ownsMap_made _ _ _ _, TellS.none_.congr fun s => by simp⟩
  case round =>
    obtain ⟨i, hin, rfl, HI⟩ := hrel
    obtain ⟨hB, hN, D, ho, hT⟩ := HI.out
    by_cases hlt : i < n
    · obtain ⟨b, off, s, rfl, hz, hc⟩ := HH.out.str hlt
      obtain ⟨q1, q2⟩ := hc wr hB
      have hlt' : (i : Int) < (n : Int) := by omega
      have h0 : (0 : Int) ≤ (i : Int) := by omega
      have hiw : IntKind.i64.wrap ((i : Int) + 1) = (i : Int) + 1 := IntWalk.i64_in _ (by omega)
      have hss := HS.out s (List.mem_of_getElem? hz)
      have hl1 := lookS1 ho hT s hss
      have hkey := WideMaps.keyOf_string_mk (P := Tryz.prog) Tryz.underlying9 hss
      have HO := Lib.hid ho
      have hnm : i < maxLen := by unfold maxLen; omega
      by_cases hm : s ∈ l.take i
      · have hX : X = true := by
          rw [← HX.out, Bd.twice_nodup, decide_eq_true_eq]
          intro e
          have := (List.take_sublist (i + 1) l).nodup e
          rw [take_one hz, List.nodup_append] at this
          exact this.2.2 s hm s (by simp) rfl
        subst hX
        simp only [if_pos hm, Option.getD_some] at hl1
        have HK : Hid (∀ w', w'.ownsMap Tryz.prog 9 (plainElem (H := Unit) Tryz.prog 3) w.heap.size (i + 1) (D.put (slit s) (.lit (.int .i64 2))) → wr.grownBy w' (some w.heap.size) → Below w.heap.size w w' ∧ (Instr.lookup 98 (.map (some w.heap.size)) (.string s) false).run Tryz.prog w' = .ok (.int .i64 2) w') := fun w' p1 p2 =>
          ⟨hB.grown p2 hB.size (fun k hk => by have := Option.some.inj hk; omega), by have := lookS1 p1 (hT.put (ho.tidy lawS) s 2) s hss; simpa using this⟩
        clear HI hB hN ho hT hz hc HH HS HL HX hss hm
        go_wp2_with (at_mapUpdate; refine wpList_mapUpdate_own _ rfl _ _ _ 98 rfl 9 3 lawS Tryz.underlying98 _ w.heap.size i _ rfl HO.out hnm _ _ _ rfl rfl hkey _ [] (plainElem_int Tryz.underlying3 (show (Lit.int .i64 2).wf = true by decide)) ?_; intro w1 hown1 hgrow1; obtain ⟨b1, l1⟩ := HK.out w1 hown1 hgrow1; have B1 := Lib.hid b1; clear hown1 hgrow1 b1)
        go_ret
        exact ⟨rfl, B1.out⟩
      · simp only [if_neg hm, Option.getD_none] at hl1
        have HK : Hid (∀ w', w'.ownsMap Tryz.prog 9 (plainElem (H := Unit) Tryz.prog 3) w.heap.size (i + 1) (D.put (slit s) (.lit (.int .i64 1))) → wr.grownBy w' (some w.heap.size) → (Below w.heap.size w w' ∧ (l.take (i + 1)).Nodup ∧ ∃ D, w'.ownsMap Tryz.prog 9 (plainElem (H := Unit) Tryz.prog 3) w.heap.size (i + 1) D ∧ TellS D (fun s => if s ∈ l.take (i + 1) then some 1 else none)) ∧ (Instr.lookup 98 (.map (some w.heap.size)) (.string s) false).run Tryz.prog w' = .ok (.int .i64 1) w') := fun w' p1 p2 => by
          have hT2 := hT.put (ho.tidy lawS) s 1
          refine ⟨⟨hB.grown p2 hB.size (fun k hk => by have := Option.some.inj hk; omega), ?_, _, p1, hT2.congr fun t => ?_⟩, by have := lookS1 p1 hT2 s hss; simpa using this⟩
          · rw [take_one hz, List.nodup_append]
            exact ⟨hN, by simp, fun a ha b hb e => hm (by rw [List.mem_singleton.1 hb] at e; exact e ▸ ha)⟩
          · rw [take_one hz]
            by_cases e : t = s
            · subst e; simp
            · simp [e]
        clear HI hB hN ho hT hz hc HH HS HL HX hss hm
        go_wp2_with (at_mapUpdate; refine wpList_mapUpdate_own _ rfl _ _ _ 98 rfl 9 3 lawS Tryz.underlying98 _ w.heap.size i _ rfl HO.out hnm _ _ _ rfl rfl hkey _ [] (plainElem_int Tryz.underlying3 (show (Lit.int .i64 1).wf = true by decide)) ?_; intro w1 hown1 hgrow1; obtain ⟨v1, l1⟩ := HK.out w1 hown1 hgrow1; have V1 := Lib.hid v1; clear hown1 hgrow1 v1)
        go_roundw
        case rel => exact ⟨i + 1, by omega, by go_num, V1.out⟩
        case measure => simp [intOf]; omega
    · obtain rfl : i = n := by omega
      have hX : X = false := by
        rw [← HX.out, Bd.twice_nodup]
        rw [List.take_of_length_le (by rw [HL.out]; exact Nat.le_refl _)] at hN
        simpa using hN
      subst hX
      have HB := Lib.hid hB
      clear HI hB hN ho hT HH HS HL HX hlt
      go_wp2
      go_ret
      exact ⟨rfl, HB.out⟩
end Go.Proofs.YtcgaeknikfaghaaGreatDoor
