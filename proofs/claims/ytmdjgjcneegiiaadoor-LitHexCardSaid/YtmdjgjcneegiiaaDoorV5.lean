/- The library's Builder: copyCheck, WriteByte, WriteString. -/
import Derived.Test.YtmdjgjcneegiiaaDoorV4
import Derived.Lib.Builder
import Derived.Lib.AppendStr
import Derived.Lib.UnsafeStr
import Derived.Shelf.Strings.Builder1
namespace Go.Proofs.YtmdjgjcneegiiaaDoor
open Go.RowKit Go.Shelf

theorem infoBd7 : (Tryd.prog.info? 48).map (fun i => i.size) = some 2 := by kernel_rfl
theorem infoU87 : (Tryd.prog.info? 5).map (fun i => (i.zero, i.size, i.bytes)) = some (some (.int .u8 0), 1, 1) := by kernel_rfl
/-- a Builder that holds these bytes -/
abbrev Bld7 (B b : Nat) (l : List UInt8) (w : World) : Prop := Lib.IsBuilder 48 5 B b (Lib.byteCells l) w
abbrev BldAt7 (B b : Nat) (l : List UInt8) (w : World) : Prop := Lib.BuilderAt 48 5 B b (.pointer (some ⟨b, 0, none⟩)) (Lib.byteCells l) w
/-- what writing to the Builder at b may turn: itself, and rows of bytes -/
def OnlyB7 (b : Nat) (w : World) (q : Nat) : Prop := q = b ∨ ∃ cs, Lies w q 5 cs
theorem OnlyB7.trans {b : Nat} {w w1 w2 : World} (h : Turn (OnlyB7 b w) w w1) (h2 : Turn (OnlyB7 b w1) w1 w2) : Turn (OnlyB7 b w) w w2 :=
  h.trans h2 fun q hq => by
    by_cases hlt : q < w.heap.size
    · rcases hq with rfl | ⟨cs, hl⟩
      · exact .inl (.inl rfl)
      · by_cases hf : OnlyB7 b w q
        · exact .inl hf
        · exact .inl (.inr ⟨cs, (h.block q hlt hf).symm.trans hl⟩)
    · exact .inr (by omega)
theorem OnlyB7.of {F : Nat → Prop} {b : Nat} {w w1 : World} (h : Turn F w w1) (hF : ∀ q, q < w.heap.size → F q → OnlyB7 b w q) : Turn (OnlyB7 b w) w w1 := h.mono hF
theorem OnlyB7.not {b : Nat} {w : World} {q : Nat} {t : TypeId} {cs : Array Value} (h : Lies w q t cs) (ht : t ≠ 5) (hq : q ≠ b) : ¬ OnlyB7 b w q := by
  rintro (e | ⟨cs', h'⟩)
  · exact hq e
  · have := Option.some.inj ((show w.heap[q]? = some (.cells cs t (0, 0)) from h).symm.trans (show w.heap[q]? = some (.cells cs' 5 (0, 0)) from h'))
    injection this with _ e
    exact ht e
theorem byteCells_app7 (l m : List UInt8) : Lib.byteCells (l ++ m) = Lib.byteCells l ++ Lib.byteCells m := by simp [Lib.byteCells]
theorem strCells_eq7 (s : ByteArray) : Lib.strCells s = Lib.byteCells s.data.toList := rfl

set_option maxRecDepth 100000 in
set_option maxHeartbeats 3200000 in
theorem kcopy7 (B b : Nat) (l : List UInt8) (w : World) (h : Bld7 B b l w) :
    Calls Tryd.prog 39 #[.pointer (some ⟨b, 0, none⟩)] w fun e w' => e = .returned (.tuple #[]) ∧ BldAt7 B b l w' ∧ Below B w w' ∧ Turn (OnlyB7 b w) w w' := by
  obtain ⟨j, hj, hjs⟩ := Option.map_eq_some_iff.1 infoBd7
  rcases h with h | h
  · have h0 := h.cell0
    have hsh := h.shape
    have hfz := h.frozen0
    have HH := Lib.hid h
    clear h
    go_enter Tryd.func39, Tryd.ntmps39
    go_wp2
    rw [Lib.run_to_unsafe w ⟨b, 0, none⟩ Tryd.underlying45 Tryd.underlying77 hj (by rw [hjs]; decide) hsh (Nat.zero_lt_succ 1)]
    simp only [Result.andThen]
    rw [Oper.upon_value]
    go_wp2
    rw [run_callFunc_extern Tryd.func48 (by kernel_rfl) (by kernel_rfl) (by kernel_rfl) (e := Extern.AbiNoEscape.same) (by kernel_rfl)]
    rw [Lib.run_noEscape]
    simp only [Result.andThen]
    rw [Oper.upon_value]
    go_wp2
    rw [Lib.run_from_unsafe w ⟨b, 0, none⟩ Tryd.underlying77 Tryd.underlying45 hj hsh (by kernel_rfl)]
    simp only [Result.andThen]
    rw [Oper.upon_value]
    go_wp2
    go_end0
    exact ⟨rfl, HH.out.used _, (Below.refl B w).setCell (p := ⟨b, 0, none⟩) HH.out.1 _, (Turn.refl _ w).put (p := ⟨b, 0, none⟩) (.inl (.inl rfl)) _⟩
  · have h0 := h.cell0
    have HH := Lib.hid h
    clear h
    go_enter Tryd.func39, Tryd.ntmps39
    go_wp2
    rw [Lib.run_neq_ptr_same w _ Tryd.underlying45 hj]
    go_wp2
    go_end0
    exact ⟨rfl, HH.out, Below.refl _ _, Turn.refl _ _⟩

set_option maxRecDepth 100000 in
set_option maxHeartbeats 3200000 in
theorem kwbyte7 (B b : Nat) (l : List UInt8) (c : UInt8) (w : World) (h : Bld7 B b l w) (hlen : l.length ≤ 1000000000) (hBw : B ≤ w.heap.size) :
    Calls Tryd.prog 25 #[.pointer (some ⟨b, 0, none⟩), .int .u8 (c.toNat : Nat)] w fun e w' => e = .returned .nilIface ∧ Bld7 B b (l ++ [c]) w' ∧ Below B w w' ∧ Turn (OnlyB7 b w) w w' := by
  obtain ⟨i0, hi, hz0, hz1, hz2⟩ := info_parts infoU87
  have HK := Lib.hid (kcopy7 B b l w h)
  have hbl : (Lib.byteCells l).length = l.length := Lib.byteCells_length l
  clear h
  go_enter Tryd.func25, Tryd.ntmps25
  go_wp2_with fail
  refine HK.out.mono ?_
  rintro e w1 ⟨rfl, h1, hb1, ht1⟩
  obtain ⟨hB, v, hbk, hown, hne⟩ := h1
  obtain ⟨A, cp, rfl⟩ := own_form hown
  rw [hbl] at hown hbk hne
  have hL : Lies w1 b 48 #[.pointer (some ⟨b, 0, none⟩), .slice A l.length cp] := hbk
  have c1 := hL.cell 1
  have hbl1 := hL.lt
  have HL := Lib.hid hL
  have HO := Lib.hid hown
  have HB1 := Lib.hid hb1
  have HNE := Lib.hid hne
  have HT1 := Lib.hid ht1
  have HOB : Hid (∀ q, q < w1.heap.size → (Value.slice A l.length cp).ownBlock = some q → OnlyB7 b w1 q) := fun q _ hq => .inr (own_heap HO.out hq)
  have HBB := Lib.hid hB
  have hsz : B ≤ w1.heap.size := Nat.le_trans hBw hb1.size
  simp at c1
  clear hL hbk hown hb1 hne hB HK hbl ht1
  go_wp2_with (at_builtin; refine append_row _ rfl _ _ 46 rfl B 5 i0 (.int .u8 0) 1 Tryd.underlying46 hi hz0 hz1 hz2 rfl _ l.length (Lib.byteCells l) rfl (HO.out.alloc _) ⟨w1.heap.size, 0, none⟩ 1 1 [.int .u8 (c.toNat : Nat)] rfl rfl (cell_one_new _ _ _) (fun u hu => by simp at hu; subst hu; rfl) (by unfold maxLen; omega) (by omega) (Nat.le_trans hsz (by simp)) ?_; intro A2 c2 w2 o2 g2 _; have O2 := Lib.hid o2; have L2 := (Turn.of_grown (F := fun q => (Value.slice A l.length cp).ownBlock = some q) g2 (fun q hq _ => hq)).lies (((Turn.refl (fun _ => False) w1).alloc _).lies HL.out id) HNE.out; have HL2 := Lib.hid L2; have l0 := L2.lt; have l1 := L2.cell 1; have l2 := L2.free 1; have T2 := Lib.hid (OnlyB7.trans HT1.out (OnlyB7.of (((Turn.refl (fun q => (Value.slice A l.length cp).ownBlock = some q) w1).alloc _).trans (Turn.of_grown (F := fun q => (Value.slice A l.length cp).ownBlock = some q) g2 (fun q hq _ => hq)) (fun _ e => .inl e)) HOB.out)); have B2 := Lib.hid ((HB1.out.alloc hsz _).grown g2 (Nat.le_trans hsz (by simp)) (fun q hq => (HO.out.lt q hq).1)); simp at l1; clear o2 g2 L2)
  go_ret
  refine ⟨rfl, .inr ?_, B2.out.setCell (p := ⟨b, 1, none⟩) HBB.out _, T2.out.put (p := ⟨b, 1, none⟩) (.inl (.inl rfl)) _⟩
  rw [byteCells_app7]
  refine Lib.BuilderAt.put (T := 48) (e := 5) HBB.out HL2.out (bs' := Lib.byteCells l ++ Lib.byteCells [c]) ?_ (by decide)
  have e : (Lib.byteCells l ++ Lib.byteCells [c]).length = l.length + 1 := by rw [List.length_append, Lib.byteCells_length, Lib.byteCells_length]; rfl
  rw [e]
  exact O2.out

set_option maxRecDepth 100000 in
set_option maxHeartbeats 3200000 in
theorem kwstring7 (B b : Nat) (l : List UInt8) (s : ByteArray) (w : World) (h : Bld7 B b l w) (hlen : l.length + s.size ≤ 1000000000) (hBw : B ≤ w.heap.size) :
    Calls Tryd.prog 26 #[.pointer (some ⟨b, 0, none⟩), .string s] w fun e w' => e = .returned (.tuple #[.int .i64 (s.size : Nat), .nilIface]) ∧ Bld7 B b (l ++ s.data.toList) w' ∧ Below B w w' ∧ Turn (OnlyB7 b w) w w' := by
  obtain ⟨i0, hi, hz0, hz1, hz2⟩ := info_parts infoU87
  have HK := Lib.hid (kcopy7 B b l w h)
  have hbl : (Lib.byteCells l).length = l.length := Lib.byteCells_length l
  clear h
  go_enter Tryd.func26, Tryd.ntmps26
  go_wp2_with fail
  refine HK.out.mono ?_
  rintro e w1 ⟨rfl, h1, hb1, ht1⟩
  obtain ⟨hB, v, hbk, hown, hne⟩ := h1
  obtain ⟨A, cp, rfl⟩ := own_form hown
  rw [hbl] at hown hbk hne
  have hL : Lies w1 b 48 #[.pointer (some ⟨b, 0, none⟩), .slice A l.length cp] := hbk
  have c1 := hL.cell 1
  have hbl1 := hL.lt
  have HL := Lib.hid hL
  have HO := Lib.hid hown
  have HB1 := Lib.hid hb1
  have HNE := Lib.hid hne
  have HT1 := Lib.hid ht1
  have HOB : Hid (∀ q, q < w1.heap.size → (Value.slice A l.length cp).ownBlock = some q → OnlyB7 b w1 q) := fun q _ hq => .inr (own_heap HO.out hq)
  have HBB := Lib.hid hB
  have hsz : B ≤ w1.heap.size := Nat.le_trans hBw hb1.size
  simp at c1
  clear hL hbk hown hb1 hne hB HK hbl ht1
  go_wp2_with (at_builtin; refine Lib.wpList_append_own_string _ rfl _ _ 46 9 rfl B 5 i0 Tryd.underlying46 Tryd.underlying9 hi hz0 hz1 hz2 _ l.length (Lib.byteCells l) rfl HO.out s rfl (by unfold maxLen; omega) (by omega) hsz ?_; intro v2 w2 o2 g2 _; obtain ⟨A2, c2, rfl⟩ := own_form o2; have O2 := Lib.hid o2; have L2 := (Turn.of_grown (F := fun q => (Value.slice A l.length cp).ownBlock = some q) g2 (fun q hq _ => hq)).lies HL.out HNE.out; have HL2 := Lib.hid L2; have l0 := L2.lt; have l1 := L2.cell 1; have l2 := L2.free 1; have T2 := Lib.hid (OnlyB7.trans HT1.out (OnlyB7.of (Turn.of_grown (F := fun q => (Value.slice A l.length cp).ownBlock = some q) g2 (fun q hq _ => hq)) HOB.out)); have B2 := Lib.hid (HB1.out.grown g2 hsz (fun q hq => (HO.out.lt q hq).1)); simp at l1; clear o2 g2 L2)
  go_ret2
  refine ⟨rfl, .inr ?_, B2.out.setCell (p := ⟨b, 1, none⟩) HBB.out _, T2.out.put (p := ⟨b, 1, none⟩) (.inl (.inl rfl)) _⟩
  rw [byteCells_app7]
  refine Lib.BuilderAt.put (T := 48) (e := 5) HBB.out HL2.out (bs' := Lib.byteCells l ++ Lib.byteCells s.data.toList) ?_ (by decide)
  have e : (Lib.byteCells l ++ Lib.byteCells s.data.toList).length = l.length + s.size := by rw [List.length_append, Lib.byteCells_length, Lib.byteCells_length, Lt.len_bytes]
  rw [e]
  exact O2.out
end Go.Proofs.YtmdjgjcneegiiaaDoor
