/- What the proofs of this claim use, text by text. -/
import Derived.Lib.MinMax
import Derived.Test.YtfjpcjebecgglaaGreatDoorQE18
import Derived.Lib.Builder
import Derived.Lib.AppendStr
import Derived.Lib.UnsafeStr
import Derived.Shelf.Strings.Builder1
set_option linter.unusedSimpArgs false
set_option linter.unusedVariables false
set_option maxRecDepth 100000
set_option maxHeartbeats 25600000
namespace Go.Proofs.YtfjpcjebecgglaaGreatDoor
open Go.RowKit
theorem kdepth : ∀ (m : Nat) (x : Sx) (A : Option Addr) (c : Nat) (w : World), m ≤ 1000 → STree w AnyP x A c →
    Calls Tryz.prog 58 #[sval x A c, .int .i64 (m : Nat)] w fun e w' => e = .returned (.int .i64 (Sx.dep m x : Nat)) ∧ Below w.heap.size w w' := by
  intro m
  induction m with
  | zero =>
    intro x A c w hm h
    obtain ⟨xl, xk, xt, xta, xa, L⟩ := x
    rw [Sx.dep]
    clear h
    cases xl
    all_goals
      go_enter Tryz.func58, Tryz.ntmps58
      go_wp2
      go_ret
      exact ⟨rfl, (Below.refl _ w).alloc (Nat.le_refl _) _⟩
  | succ m ih =>
    intro x A c w hm h
    by_cases hx : x.list = true
    case neg =>
      obtain ⟨xl, xk, xt, xta, xa, L⟩ := x
      obtain rfl : xl = false := by simpa using hx
      rw [Sx.dep, if_neg (by exact hx)]
      clear h hx
      go_enter Tryz.func58, Tryz.ntmps58
      go_wp2
      go_ret
      exact ⟨rfl, (Below.refl _ w).alloc (Nat.le_refl _) _⟩
    case pos =>
      obtain ⟨X, HX⟩ : ∃ X : Nat, Hid (Sx.dep (m + 1) x = X) := ⟨_, rfl⟩
      rw [HX.out]
      have HD : Hid ((x.L.map (Sx.dep m)).foldl max 0 + 1 = X) := by show _ = _; rw [← HX.out, Sx.dep, if_pos hx]
      have hm0 : ((m : Int) + 1 == 0) = false := beq_eq_false_iff_ne.2 (by omega)
      obtain ⟨n, hn⟩ : ∃ n, x.L.length = n := ⟨_, rfl⟩
      have HN := Lib.hid hn
      have hmm : ((m + 1 : Nat) : Int) = (m : Int) + 1 := by omega
      rw [hmm]
      unfold sval
      have hl : n ≤ maxLen := hn ▸ Nat.le_trans h.le.1 h.le.2
      rw [hn]
      rw [hx]
      unfold maxLen at hl
      clear hn hmm
      go_enter Tryz.func58, Tryz.ntmps58
      go_wp2
      generalize hW0 : w.alloc (Obj.cells #[Value.bool true, Value.int IntKind.i64 x.k, Value.string x.T, Value.int IntKind.i64 x.ta, Value.int IntKind.i64 x.at_, Value.slice A n c] 49) = W0
      have HB0 := Lib.hid (sbox_in HN.out hx h hW0)
      have hXm : X ≤ m + 1 := by have := Sx.dep_le (m + 1) x; rw [HX.out] at this; exact this
      clear h hW0 HX
      go_loopw [5, 18] (fun av iv wr => ∃ i a : Nat, i ≤ n ∧ a ≤ m ∧ a + 1 ≤ X ∧ iv = .int .i64 (i : Nat) ∧ av = .int .i64 (a : Nat) ∧ Below W0.heap.size W0 wr ∧ Hid ((((x.L.drop i).map (Sx.dep m)).foldl max a) + 1 = X)) (fun _ iv _ => n - (intOf iv).toNat)
      case atStart => exact ⟨0, 0, Nat.zero_le _, Nat.zero_le _, by have := HD.out; omega, rfl, rfl, Below.refl _ _, by show _ = _; rw [List.drop_zero]; exact HD.out⟩
      case round =>
        obtain ⟨i, a, hi, ha, haX, rfl, rfl, hb, HI⟩ := hrel
        obtain ⟨hb1, ht1, hbx1⟩ := HB0.out
        have HB := Lib.hid (hb1.trans (hb.mono hb1.size))
        by_cases hlt : i < n
        · obtain ⟨b, off, y, A', c', rfl, hy, hdr, hym, hs, hty⟩ := (ht1.kept hb).get (i := i) (by rw [HN.out]; exact hlt)
          obtain ⟨y_, y0, y1, y2, y3, y4, y5⟩ := hs
          have hIH := Lib.hid fun W (hW : Below wr.heap.size wr W) => ih y A' c' W (by omega) (hty.kept hW)
          have hd := HI.out
          rw [hdr, List.map_cons, List.foldl_cons] at hd
          obtain ⟨d, hd'⟩ : ∃ d, Sx.dep m y = d := ⟨_, rfl⟩
          have hdm := Sx.dep_le m y
          rw [hd'] at hd hdm
          rw [hd'] at hIH
          obtain ⟨q, hq⟩ : ∃ q, max a d = q := ⟨_, rfl⟩
          have hqi : max (a : Int) (d : Int) = (q : Int) := by omega
          have hqm : q ≤ m := by omega
          rw [hq] at hd
          have hqX : q + 1 ≤ X := by
            rw [← hd, foldl_max]
            omega
          have HD2 := Lib.hid hd
          have HBr := Lib.hid hb
          have hlt' : (i : Int) < (n : Int) := by omega
          have hi0 : (0 : Int) ≤ (i : Int) := by omega
          have HAl : Hid (∀ o, Below wr.heap.size wr (wr.alloc o)) := fun o => (Below.refl _ wr).alloc (Nat.le_refl _) o
          have hways : ((q : Int) == (m : Int)) = true ∧ q + 1 = X ∨ ((q : Int) == (m : Int)) = false := by
            by_cases e : q = m
            · exact .inl ⟨beq_iff_eq.2 (by omega), by omega⟩
            · exact .inr (beq_eq_false_iff_ne.2 (by omega))
          clear hd hd' HI ht1 hbx1 hb1 hty hdr hy hb hym hq
          rcases hways with ⟨hw, hXq⟩ | hw
          · have hXi : (1 : Int) + (q : Int) = (X : Int) := by omega
            clear hXq
            go_wp2_with (go_at_call 58; refine (hIH.out _ (HAl.out _)).mono ?_; rintro e w2 ⟨rfl, b2⟩; have B2 := Lib.hid ((HAl.out _).trans (b2.mono (HAl.out _).size)); clear b2)
            go_ret
            exact ⟨rfl, HB.out.trans (B2.out.mono HB.out.size)⟩
          · go_wp2_with (go_at_call 58; refine (hIH.out _ (HAl.out _)).mono ?_; rintro e w2 ⟨rfl, b2⟩; have B2 := Lib.hid ((HAl.out _).trans (b2.mono (HAl.out _).size)); clear b2)
            go_roundw
            case rel => exact ⟨i + 1, q, by omega, hqm, hqX, by go_num, rfl, HBr.out.trans (B2.out.mono HBr.out.size), HD2⟩
            case measure => simp [intOf]; omega
        · obtain rfl : i = n := by omega
          have hX : a + 1 = X := by
            have := HI.out
            rw [List.drop_of_length_le (by rw [HN.out]; exact Nat.le_refl _)] at this
            exact this
          have hXi : (1 : Int) + (a : Int) = (X : Int) := by omega
          clear HI hX ht1 hbx1 hb1 hb
          go_wp2
          go_ret
          exact ⟨rfl, HB.out⟩
theorem kDepth (x : Sx) (A : Option Addr) (c : Nat) (w : World) (h : STree w AnyP x A c) :
    Calls Tryz.prog 23 #[sval x A c] w fun e w' => e = .returned (.int .i64 (Sx.dep 65 x : Nat)) ∧ Below w.heap.size w w' := by
  have hb0 := (Below.refl _ w).alloc (Nat.le_refl _) (sbox x A c)
  have H := Lib.hid (kdepth 65 x A c _ (by decide) (h.kept hb0))
  obtain ⟨X, hX⟩ : ∃ X : Nat, Sx.dep 65 x = X := ⟨_, rfl⟩
  rw [hX] at H ⊢
  have HB := Lib.hid hb0
  clear hb0 hX h
  go_enter Tryz.func23, Tryz.ntmps23
  go_wp2_with (go_at_call 58; refine H.out.mono ?_; rintro e w2 ⟨rfl, b2⟩)
  go_ret
  exact ⟨rfl, HB.out.trans (b2.mono HB.out.size)⟩
end Go.Proofs.YtfjpcjebecgglaaGreatDoor
namespace Go.Proofs.YtfjpcjebecgglaaGreatDoor
open Go.RowKit Go.Shelf
theorem infoBd : (Tryz.prog.info? 116).map (fun i => i.size) = some 2 := by kernel_rfl
theorem infoU8 : (Tryz.prog.info? 5).map (fun i => (i.zero, i.size, i.bytes)) = some (some (.int .u8 0), 1, 1) := by kernel_rfl
abbrev Bld (B b : Nat) (l : List UInt8) (w : World) : Prop := Lib.IsBuilder 116 5 B b (Lib.byteCells l) w
abbrev BldAt (B b : Nat) (l : List UInt8) (w : World) : Prop := Lib.BuilderAt 116 5 B b (.pointer (some ⟨b, 0, none⟩)) (Lib.byteCells l) w
def OnlyB (b : Nat) (w : World) (q : Nat) : Prop := q = b ∨ ∃ cs, Lies w q 5 cs
theorem OnlyB.trans {b : Nat} {w w1 w2 : World} (h : Turn (OnlyB b w) w w1) (h2 : Turn (OnlyB b w1) w1 w2) : Turn (OnlyB b w) w w2 :=
  h.trans h2 fun q hq => by
    by_cases hlt : q < w.heap.size
    · rcases hq with rfl | ⟨cs, hl⟩
      · exact .inl (.inl rfl)
      · by_cases hf : OnlyB b w q
        · exact .inl hf
        · exact .inl (.inr ⟨cs, (h.block q hlt hf).symm.trans hl⟩)
    · exact .inr (by omega)
theorem OnlyB.of {F : Nat → Prop} {b : Nat} {w w1 : World} (h : Turn F w w1) (hF : ∀ q, q < w.heap.size → F q → OnlyB b w q) : Turn (OnlyB b w) w w1 := h.mono hF
theorem OnlyB.not {b : Nat} {w : World} {q : Nat} {t : TypeId} {cs : Array Value} (h : Lies w q t cs) (ht : t ≠ 5) (hq : q ≠ b) : ¬ OnlyB b w q := by
  rintro (e | ⟨cs', h'⟩)
  · exact hq e
  · have := Option.some.inj ((show w.heap[q]? = some (.cells cs t (0, 0)) from h).symm.trans (show w.heap[q]? = some (.cells cs' 5 (0, 0)) from h'))
    injection this with _ e
    exact ht e
theorem byteCells_app (l m : List UInt8) : Lib.byteCells (l ++ m) = Lib.byteCells l ++ Lib.byteCells m := by simp [Lib.byteCells]
theorem kcopy (B b : Nat) (l : List UInt8) (w : World) (h : Bld B b l w) :
    Calls Tryz.prog 119 #[.pointer (some ⟨b, 0, none⟩)] w fun e w' => e = .returned (.tuple #[]) ∧ BldAt B b l w' ∧ Below B w w' ∧ Turn (OnlyB b w) w w' := by
  obtain ⟨j, hj, hjs⟩ := Option.map_eq_some_iff.1 infoBd
  rcases h with h | h
  · have h0 := h.cell0
    have hsh := h.shape
    have hfz := h.frozen0
    have HH := Lib.hid h
    clear h
    go_enter Tryz.func119, Tryz.ntmps119
    go_wp2
    rw [Lib.run_to_unsafe w ⟨b, 0, none⟩ Tryz.underlying113 Tryz.underlying199 hj (by rw [hjs]; decide) hsh (Nat.zero_lt_succ 1)]
    simp only [Result.andThen]
    rw [Oper.upon_value]
    go_wp2
    rw [run_callFunc_extern Tryz.func136 (by kernel_rfl) (by kernel_rfl) (by kernel_rfl) (e := Extern.AbiNoEscape.same) (by kernel_rfl)]
    rw [Lib.run_noEscape]
    simp only [Result.andThen]
    rw [Oper.upon_value]
    go_wp2
    rw [Lib.run_from_unsafe w ⟨b, 0, none⟩ Tryz.underlying199 Tryz.underlying113 hj hsh (by kernel_rfl)]
    simp only [Result.andThen]
    rw [Oper.upon_value]
    go_wp2
    go_end0
    exact ⟨rfl, HH.out.used _, (Below.refl B w).setCell (p := ⟨b, 0, none⟩) HH.out.1 _, (Turn.refl _ w).put (p := ⟨b, 0, none⟩) (.inl (.inl rfl)) _⟩
  · have h0 := h.cell0
    have HH := Lib.hid h
    clear h
    go_enter Tryz.func119, Tryz.ntmps119
    go_wp2
    rw [Lib.run_neq_ptr_same w _ Tryz.underlying113 hj]
    go_wp2
    go_end0
    exact ⟨rfl, HH.out, Below.refl _ _, Turn.refl _ _⟩
theorem kwbyte (B b : Nat) (l : List UInt8) (c : UInt8) (w : World) (h : Bld B b l w) (hlen : l.length ≤ 60000000000) (hBw : B ≤ w.heap.size) :
    Calls Tryz.prog 99 #[.pointer (some ⟨b, 0, none⟩), .int .u8 (c.toNat : Nat)] w fun e w' => e = .returned .nilIface ∧ Bld B b (l ++ [c]) w' ∧ Below B w w' ∧ Turn (OnlyB b w) w w' := by
  obtain ⟨i0, hi, hz0, hz1, hz2⟩ := info_parts infoU8
  have HK := Lib.hid (kcopy B b l w h)
  have hbl : (Lib.byteCells l).length = l.length := Lib.byteCells_length l
  clear h
  go_enter Tryz.func99, Tryz.ntmps99
  go_wp2_with fail
  refine HK.out.mono ?_
  rintro e w1 ⟨rfl, h1, hb1, ht1⟩
  obtain ⟨hB, v, hbk, hown, hne⟩ := h1
  obtain ⟨A, cp, rfl⟩ := own_form hown
  rw [hbl] at hown hbk hne
  have hL : Lies w1 b 116 #[.pointer (some ⟨b, 0, none⟩), .slice A l.length cp] := hbk
  have c1 := hL.cell 1
  have hbl1 := hL.lt
  have HL := Lib.hid hL
  have HO := Lib.hid hown
  have HB1 := Lib.hid hb1
  have HNE := Lib.hid hne
  have HT1 := Lib.hid ht1
  have HOB : Hid (∀ q, q < w1.heap.size → (Value.slice A l.length cp).ownBlock = some q → OnlyB b w1 q) := fun q _ hq => .inr (own_heap HO.out hq)
  have HBB := Lib.hid hB
  have hsz : B ≤ w1.heap.size := Nat.le_trans hBw hb1.size
  simp at c1
  clear hL hbk hown hb1 hne hB HK hbl ht1
  go_wp2_with (at_builtin; refine append_row _ rfl _ _ 114 rfl B 5 i0 (.int .u8 0) 1 Tryz.underlying114 hi hz0 hz1 hz2 rfl _ l.length (Lib.byteCells l) rfl (HO.out.alloc _) ⟨w1.heap.size, 0, none⟩ 1 1 [.int .u8 (c.toNat : Nat)] rfl rfl (cell_one_new _ _ _) (fun u hu => by simp at hu; subst hu; rfl) (by unfold maxLen; omega) (by omega) (Nat.le_trans hsz (by simp)) ?_; intro A2 c2 w2 o2 g2 _; have O2 := Lib.hid o2; have L2 := (Turn.of_grown (F := fun q => (Value.slice A l.length cp).ownBlock = some q) g2 (fun q hq _ => hq)).lies (((Turn.refl (fun _ => False) w1).alloc _).lies HL.out id) HNE.out; have HL2 := Lib.hid L2; have l0 := L2.lt; have l1 := L2.cell 1; have l2 := L2.free 1; have T2 := Lib.hid (OnlyB.trans HT1.out (OnlyB.of (((Turn.refl (fun q => (Value.slice A l.length cp).ownBlock = some q) w1).alloc _).trans (Turn.of_grown (F := fun q => (Value.slice A l.length cp).ownBlock = some q) g2 (fun q hq _ => hq)) (fun _ e => .inl e)) HOB.out)); have B2 := Lib.hid ((HB1.out.alloc hsz _).grown g2 (Nat.le_trans hsz (by simp)) (fun q hq => (HO.out.lt q hq).1)); simp at l1; clear o2 g2 L2)
  go_ret
  refine ⟨rfl, .inr ?_, B2.out.setCell (p := ⟨b, 1, none⟩) HBB.out _, T2.out.put (p := ⟨b, 1, none⟩) (.inl (.inl rfl)) _⟩
  rw [byteCells_app]
  refine Lib.BuilderAt.put (T := 116) (e := 5) HBB.out HL2.out (bs' := Lib.byteCells l ++ Lib.byteCells [c]) ?_ (by decide)
  have e : (Lib.byteCells l ++ Lib.byteCells [c]).length = l.length + 1 := by rw [List.length_append, Lib.byteCells_length, Lib.byteCells_length]; rfl
  rw [e]
  exact O2.out
theorem kwstring (B b : Nat) (l : List UInt8) (s : ByteArray) (w : World) (h : Bld B b l w) (hlen : l.length + s.size ≤ 60000000000) (hBw : B ≤ w.heap.size) :
    Calls Tryz.prog 98 #[.pointer (some ⟨b, 0, none⟩), .string s] w fun e w' => e = .returned (.tuple #[.int .i64 (s.size : Nat), .nilIface]) ∧ Bld B b (l ++ s.data.toList) w' ∧ Below B w w' ∧ Turn (OnlyB b w) w w' := by
  obtain ⟨i0, hi, hz0, hz1, hz2⟩ := info_parts infoU8
  have HK := Lib.hid (kcopy B b l w h)
  have hbl : (Lib.byteCells l).length = l.length := Lib.byteCells_length l
  clear h
  go_enter Tryz.func98, Tryz.ntmps98
  go_wp2_with fail
  refine HK.out.mono ?_
  rintro e w1 ⟨rfl, h1, hb1, ht1⟩
  obtain ⟨hB, v, hbk, hown, hne⟩ := h1
  obtain ⟨A, cp, rfl⟩ := own_form hown
  rw [hbl] at hown hbk hne
  have hL : Lies w1 b 116 #[.pointer (some ⟨b, 0, none⟩), .slice A l.length cp] := hbk
  have c1 := hL.cell 1
  have hbl1 := hL.lt
  have HL := Lib.hid hL
  have HO := Lib.hid hown
  have HB1 := Lib.hid hb1
  have HNE := Lib.hid hne
  have HT1 := Lib.hid ht1
  have HOB : Hid (∀ q, q < w1.heap.size → (Value.slice A l.length cp).ownBlock = some q → OnlyB b w1 q) := fun q _ hq => .inr (own_heap HO.out hq)
  have HBB := Lib.hid hB
  have hsz : B ≤ w1.heap.size := Nat.le_trans hBw hb1.size
  simp at c1
  clear hL hbk hown hb1 hne hB HK hbl ht1
  go_wp2_with (at_builtin; refine Lib.wpList_append_own_string _ rfl _ _ 114 9 rfl B 5 i0 Tryz.underlying114 Tryz.underlying9 hi hz0 hz1 hz2 _ l.length (Lib.byteCells l) rfl HO.out s rfl (by unfold maxLen; omega) (by omega) hsz ?_; intro v2 w2 o2 g2 _; obtain ⟨A2, c2, rfl⟩ := own_form o2; have O2 := Lib.hid o2; have L2 := (Turn.of_grown (F := fun q => (Value.slice A l.length cp).ownBlock = some q) g2 (fun q hq _ => hq)).lies HL.out HNE.out; have HL2 := Lib.hid L2; have l0 := L2.lt; have l1 := L2.cell 1; have l2 := L2.free 1; have T2 := Lib.hid (OnlyB.trans HT1.out (OnlyB.of (Turn.of_grown (F := fun q => (Value.slice A l.length cp).ownBlock = some q) g2 (fun q hq _ => hq)) HOB.out)); have B2 := Lib.hid (HB1.out.grown g2 hsz (fun q hq => (HO.out.lt q hq).1)); simp at l1; clear o2 g2 L2)
  go_ret2
  refine ⟨rfl, .inr ?_, B2.out.setCell (p := ⟨b, 1, none⟩) HBB.out _, T2.out.put (p := ⟨b, 1, none⟩) (.inl (.inl rfl)) _⟩
  rw [byteCells_app]
  refine Lib.BuilderAt.put (T := 116) (e := 5) HBB.out HL2.out (bs' := Lib.byteCells l ++ Lib.byteCells s.data.toList) ?_ (by decide)
  have e : (Lib.byteCells l ++ Lib.byteCells s.data.toList).length = l.length + s.size := by rw [List.length_append, Lib.byteCells_length, Lib.byteCells_length, len_bytes]
  rw [e]
  exact O2.out
end Go.Proofs.YtfjpcjebecgglaaGreatDoor
namespace Go.Proofs.YtfjpcjebecgglaaGreatDoor
open Go.RowKit
def TextSaid (o : Option (List UInt8)) (e : Ending) : Prop :=
  match o with
  | none => ∃ V : ByteArray, e = .returned (.tuple #[.string V, .bool false])
  | some t => ∃ V : ByteArray, e = .returned (.tuple #[.string V, .bool true]) ∧ V.data.toList = t
theorem beq_int (a b : Int) : (a == b) = decide (a = b) := by
  by_cases h : a = b
  · rw [beq_iff_eq.2 h, decide_eq_true h]
  · rw [beq_eq_false_iff_ne.2 h, decide_eq_false h]
end Go.Proofs.YtfjpcjebecgglaaGreatDoor
namespace Go.Proofs.YtfjpcjebecgglaaGreatDoor
open Go.RowKit Go.Shelf
def Sx.print (x : Sx) : Option (List UInt8) := if 64 < Sx.dep 65 x then none else x.text
def PrintSaid (o : Option (List UInt8)) (e : Ending) : Prop :=
  match o with
  | none => e = .returned (.tuple #[.string ⟨#[]⟩, .int .i64 1])
  | some t => ∃ V : ByteArray, e = .returned (.tuple #[.string V, .int .i64 0]) ∧ V.data.toList = t
def Sx.shown (x : Sx) : Option (List UInt8) := if !decide (x.k = 1) && !decide (x.k = 2) && x.L.isEmpty && Lx.okShow x.k x.T.data.toList then some (Lx.show x.k x.T.data.toList) else none
def ShownSaid (o : Option (List UInt8)) (e : Ending) : Prop :=
  match o with
  | none => ∃ V : ByteArray, e = .returned (.tuple #[.string V, .bool false]) ∧ V.size = 0
  | some t => ∃ V : ByteArray, e = .returned (.tuple #[.string V, .bool true]) ∧ V.data.toList = t
theorem kshown (x : Sx) (A : Option Addr) (c : Nat) (w : World) (hT : x.T.size ≤ 1100000) (hlc : x.L.length ≤ maxLen) (hm : MaxL w) :
    Calls Tryz.prog 97 #[sval x A c] w fun e w' => ShownSaid x.shown e ∧ Below w.heap.size w w' := by
  obtain ⟨n, hn⟩ : ∃ n, x.L.length = n := ⟨_, rfl⟩
  have hl := hlc
  rw [hn] at hl
  unfold maxLen at hl
  have hb0 := (Below.refl _ w).alloc (Nat.le_refl _) (sbox x A c)
  have HK := Lib.hid (kshow x.k x.T x.ta (w.alloc (sbox x A c)) hT (hm.below hb0))
  obtain ⟨ok, hok⟩ : ∃ b, Lx.okShow x.k x.T.data.toList = b := ⟨_, rfl⟩
  have hsh : x.shown = if !(x.k == 1) && !(x.k == 2) && ((n : Int) == 0) && ok then some (Lx.show x.k x.T.data.toList) else none := by
    have he : x.L.isEmpty = ((n : Int) == 0) := by
      rw [← hn]
      cases x.L with
      | nil => rfl
      | cons y l =>
        rw [List.isEmpty_cons, Eq.comm, beq_eq_false_iff_ne]
        simp
        omega
    unfold Sx.shown
    rw [he, hok, ← beq_int, ← beq_int]
  rw [hok] at HK
  obtain ⟨Post, hPost⟩ : ∃ Post : Ending → World → Prop, Post = fun e w' => ShownSaid x.shown e ∧ Below w.heap.size w w' := ⟨_, rfl⟩
  rw [← hPost]
  have HPo := Lib.hid hPost
  have HSh := Lib.hid hsh
  unfold sbox at HK hb0
  have HB0 := Lib.hid hb0
  unfold sval
  rw [hn] at HK HB0 ⊢
  have hways : (x.k == 1) = true ∨ ((x.k == 1) = false ∧ (x.k == 2) = true) ∨ ((x.k == 1) = false ∧ (x.k == 2) = false ∧ (0 : Int) < (n : Int) ∧ ((n : Int) == 0) = false) ∨ ((x.k == 1) = false ∧ (x.k == 2) = false ∧ ¬ (0 : Int) < (n : Int) ∧ ((n : Int) == 0) = true) := by
    cases (x.k == 1)
    · cases (x.k == 2)
      · by_cases h0 : n = 0
        · exact .inr (.inr (.inr ⟨rfl, rfl, by omega, beq_iff_eq.2 (by omega)⟩))
        · exact .inr (.inr (.inl ⟨rfl, rfl, by omega, beq_eq_false_iff_ne.2 (by omega)⟩))
      · exact .inr (.inl ⟨rfl, rfl⟩)
    · exact .inl rfl
  clear hPost hsh hok hn hb0 hT hlc
  rcases hways with e1 | ⟨e1, e2⟩ | ⟨e1, e2, e3, e4⟩ | ⟨e1, e2, e3, e4⟩
  · have HN : Hid (x.shown = none) := by show _ = _; rw [HSh.out, e1]; rfl
    go_enter Tryz.func97, Tryz.ntmps97
    go_wp2
    rw [HPo.out]
    exact ⟨by rw [HN.out]; exact ⟨_, rfl, rfl⟩, HB0.out⟩
  · have HN : Hid (x.shown = none) := by show _ = _; rw [HSh.out, e1, e2]; rfl
    go_enter Tryz.func97, Tryz.ntmps97
    go_wp2
    rw [HPo.out]
    exact ⟨by rw [HN.out]; exact ⟨_, rfl, rfl⟩, HB0.out⟩
  · have HN : Hid (x.shown = none) := by show _ = _; rw [HSh.out, e1, e2, e4]; rfl
    go_enter Tryz.func97, Tryz.ntmps97
    go_wp2
    rw [HPo.out]
    exact ⟨by rw [HN.out]; exact ⟨_, rfl, rfl⟩, HB0.out⟩
  · have HN : Hid (x.shown = if ok then some (Lx.show x.k x.T.data.toList) else none) := by show _ = _; rw [HSh.out, e1, e2, e4]; rfl
    go_enter Tryz.func97, Tryz.ntmps97
    go_wp2_with fail
    refine HK.out.mono ?_
    rintro e w2 ⟨hs, b2⟩
    have HB2 := Lib.hid (HB0.out.trans (b2.mono HB0.out.size))
    clear b2
    cases ok
    · first | rw [if_neg (by decide)] at hs | rw [if_neg (fun e => e)] at hs
      subst hs
      go_wp2
      rw [HPo.out]
      refine ⟨?_, HB2.out⟩
      rw [HN.out]
      first | rw [if_neg (by decide)] | rw [if_neg (fun e => e)]
      exact ⟨_, rfl, rfl⟩
    · first | rw [if_pos rfl] at hs | rw [if_pos trivial] at hs
      obtain ⟨V, rfl, hV⟩ := hs
      have HV := Lib.hid hV
      clear hV
      go_wp2
      rw [HPo.out]
      refine ⟨?_, HB2.out⟩
      rw [HN.out]
      first | rw [if_pos rfl] | rw [if_pos trivial]
      exact ⟨V, rfl, HV.out⟩
end Go.Proofs.YtfjpcjebecgglaaGreatDoor
namespace Go.Proofs.YtfjpcjebecgglaaGreatDoor
open Go.RowKit Go.Shelf
def WriteSaid (B b : Nat) (l : List UInt8) (o : Option (List UInt8)) (e : Ending) (w' : World) : Prop :=
  match o with
  | none => e = .returned (.bool false) ∧ ∃ m, Bld B b m w'
  | some t => e = .returned (.bool true) ∧ Bld B b (l ++ t) w'
theorem Bld.kept {B b : Nat} {l : List UInt8} {w w' : World} (h : Bld B b l w) (hb : Below w.heap.size w w') : Bld B b l w' := by
  have t := Turn.of_below (F := fun _ => False) hb
  rcases h with ⟨h1, v, h2, h3, h4⟩ | ⟨h1, v, h2, h3, h4⟩
  · exact .inl ⟨h1, v, t.lies h2 id, t.own h3 (fun _ _ => id), h4⟩
  · exact .inr ⟨h1, v, t.lies h2 id, t.own h3 (fun _ _ => id), h4⟩
theorem Bld.lt {B b : Nat} {l : List UInt8} {w : World} (h : Bld B b l w) : B ≤ b ∧ b < w.heap.size := by
  rcases h with ⟨h1, v, h2, _⟩ | ⟨h1, v, h2, _⟩
  · exact ⟨h1, (Array.getElem?_eq_some_iff.1 h2).1⟩
  · exact ⟨h1, (Array.getElem?_eq_some_iff.1 h2).1⟩
theorem kwrite6 : ∀ (k : Nat) (w0 : World) (B b : Nat) (x : Sx) (A : Option Addr) (c : Nat) (l : List UInt8) (w : World), x.size ≤ k → k ≤ 1100000 → x.wide ≤ 1100000 → l.length + 16388 * x.size ≤ 20000000000 → STree w0 AnyP x A c → MaxL w0 → w0.heap.size ≤ B → Below w0.heap.size w0 w → Bld B b l w →
    Calls Tryz.prog 61 #[.pointer (some ⟨b, 0, none⟩), sval x A c] w fun e w' => WriteSaid B b l x.text e w' ∧ Below B w w' ∧ Turn (OnlyB b w) w w' := by
  intro k
  induction k with
  | zero =>
    intro w0 B b x A c l w hk
    exact absurd x.size_pos (by omega)
  | succ k ih =>
    intro w0 B b x A c l w hk hk9 hwd hlen h hm hB hw hbl
    obtain ⟨n, hn⟩ : ∃ n, x.L.length = n := ⟨_, rfl⟩
    have HN := Lib.hid hn
    have hl : n ≤ maxLen := hn ▸ Nat.le_trans h.le.1 h.le.2
    unfold maxLen at hl
    rw [x.wide_eq] at hwd
    obtain ⟨Post, hPost⟩ : ∃ Post : Ending → World → Prop, Post = fun e w' => WriteSaid B b l x.text e w' ∧ Below B w w' ∧ Turn (OnlyB b w) w w' := ⟨_, rfl⟩
    rw [← hPost]
    have HPo := Lib.hid hPost
    have hwB : B ≤ w.heap.size := Nat.le_of_lt (Nat.lt_of_le_of_lt hbl.lt.1 hbl.lt.2)
    have hmw := hm.below hw
    have hbx : Below w.heap.size w (w.alloc (sbox x A c)) := (Below.refl _ w).alloc (Nat.le_refl _) _
    by_cases hx : x.list = true
    case neg =>
      have hx' : x.list = false := by simpa using hx
      have hta : x.text = x.shown := Sx.text_atom hx'
      have HK := Lib.hid (kshown x A c (w.alloc (sbox x A c)) (by omega) (Nat.le_trans h.le.1 h.le.2) (hmw.below hbx))
      have HBl := Lib.hid (Bld.kept hbl hbx)
      have HBx := Lib.hid (hbx.mono hwB)
      have hlen0 : x.text = none ∨ ∃ t, x.text = some t ∧ t.length ≤ 16384 := by
        rw [hta]
        unfold Sx.shown
        split
        · rename_i hc
          rw [Bool.and_eq_true] at hc
          exact .inr ⟨_, rfl, Lx.ok_len hc.2⟩
        · exact .inl rfl
      rw [← hta] at HK
      unfold sbox at HK HBl HBx
      unfold sval at HK ⊢
      rw [hn, hx'] at HK HBl HBx ⊢
      have hll : l.length ≤ 20000000000 := by omega
      clear hPost hn hta hwd h hx ih hm hw hbl hmw hbx hlen
      go_enter Tryz.func61, Tryz.ntmps61
      go_wp2_with fail
      refine HK.out.mono ?_
      rintro e w2 ⟨hs, b2⟩
      have HT2 := Lib.hid (((Turn.refl (OnlyB b w) w).alloc _).step b2)
      have HB2 := Lib.hid (HBx.out.trans (b2.mono (Nat.le_trans hwB (by simp))))
      have HBl2 := Lib.hid (Bld.kept HBl.out b2)
      have hz2 : B ≤ w2.heap.size := Nat.le_trans hwB HB2.out.size
      clear b2
      rcases hlen0 with ht | ⟨t, ht, htl⟩
      · rw [ht] at hs
        obtain ⟨V, rfl, hV⟩ := hs
        have HW := Lib.hid (kwstring B b l V w2 HBl2.out (by omega) hz2)
        have HTx : Hid (x.text = none) := ht
        clear ht hV
        go_wp2_with (go_at_call 98; refine HW.out.mono ?_; rintro e w3 ⟨rfl, bl3, b3, t3⟩; have B3 := Lib.hid (HB2.out.trans b3); have T3 := Lib.hid (OnlyB.trans HT2.out t3); have BL3 := Lib.hid bl3; clear bl3 b3 t3)
        rw [HPo.out]
        exact ⟨by rw [HTx.out]; exact ⟨rfl, _, BL3.out⟩, B3.out, T3.out⟩
      · rw [ht] at hs
        obtain ⟨V, rfl, hV⟩ := hs
        have hVs : V.size = t.length := by rw [← hV, len_bytes]
        have HW := Lib.hid (kwstring B b l V w2 HBl2.out (by omega) hz2)
        rw [hV] at HW
        have HTx : Hid (x.text = some t) := ht
        clear ht hV hVs
        go_wp2_with (go_at_call 98; refine HW.out.mono ?_; rintro e w3 ⟨rfl, bl3, b3, t3⟩; have B3 := Lib.hid (HB2.out.trans b3); have T3 := Lib.hid (OnlyB.trans HT2.out t3); have BL3 := Lib.hid bl3; clear bl3 b3 t3)
        rw [HPo.out]
        exact ⟨by rw [HTx.out]; exact ⟨rfl, BL3.out⟩, B3.out, T3.out⟩
    case pos =>
      have hmem : ∀ y ∈ x.L, y.size ≤ k ∧ y.wide ≤ 1100000 := fun y hy => ⟨by have := Sx.size_lt hy; omega, by have := Sx.wide_mem hy; omega⟩
      have htl := Sx.text_list hx
      have hsz := x.size_eq
      obtain ⟨X, hX⟩ : ∃ X, Sx.texts true x.L = X := ⟨_, rfl⟩
      rw [hX] at htl
      have HX := Lib.hid hX
      have HTL := Lib.hid htl
      have HMem := Lib.hid hmem
      have HIH := Lib.hid ih
      have HH := Lib.hid h
      have HM := Lib.hid hm
      have HW := Lib.hid hw
      have HLen : Hid (l.length + 16388 * (Sx.sizes x.L + 1) ≤ 20000000000) := by show _ ≤ _; rw [← hsz]; exact hlen
      have hll : l.length ≤ 20000000000 := by omega
      have hbx0 := sbox_at w x A c
      have hlb := Lies.new w 49 #[.bool x.list, .int .i64 x.k, .string x.T, .int .i64 x.ta, .int .i64 x.at_, .slice A x.L.length c]
      have HBl := Bld.kept hbl hbx
      have HBx := hbx.mono hwB
      have hblt := hbl.lt
      have HTx : Turn (OnlyB b w) w (w.alloc (sbox x A c)) := (Turn.refl (OnlyB b w) w).alloc _
      unfold sbox at hbx0 HBl HBx HTx
      unfold sval
      rw [hn, hx] at hbx0 HBl HBx HTx hlb
      rw [hn, hx]
      have HF := Lib.hid (And.intro hlb (And.intro HBx (And.intro HTx hblt)))
      have HWB := Lib.hid (kwbyte B b l 40 _ HBl (by omega) (Nat.le_trans hwB HBx.size))
      have HHB : Hid (w0.heap.size ≤ B) := hB
      have HwB : Hid (B ≤ w.heap.size) := hwB
      clear hPost hn hwd htl hX hmem ih hsz h hm hw hbl hmw hbx hlen hbx0 HBl HBx HTx hlb hblt hB hwB
      go_enter Tryz.func61, Tryz.ntmps61
      go_wp2_with fail
      generalize w.alloc (Obj.cells #[Value.bool true, Value.int IntKind.i64 x.k, Value.string x.T, Value.int IntKind.i64 x.ta, Value.int IntKind.i64 x.at_, Value.slice A n c] 49) = W0 at HF HWB ⊢
      refine HWB.out.mono ?_
      rintro e w1 ⟨rfl, bl1, b1, t1⟩
      have HW1 : Hid (Below B w w1 ∧ Turn (OnlyB b w) w w1 ∧ Bld B b (l ++ [40]) w1 ∧ SAt w1 w.heap.size 0 x A c) := by
        have hno : ¬ OnlyB b W0 w.heap.size := OnlyB.not HF.out.1 (by decide) (by have := HF.out.2.2.2.2; omega)
        have hl1 := t1.lies HF.out.1 hno
        refine ⟨HF.out.2.1.trans b1, OnlyB.trans HF.out.2.2.1 t1, bl1, ⟨hl1.lt, ?_, hl1.cell 1, hl1.cell 2, hl1.cell 3, hl1.cell 4, ?_⟩⟩
        · rw [hx]; exact hl1.cell 0
        · rw [HN.out]; exact hl1.cell 5
      obtain ⟨z_, z0, z1, z2, z3, z4, z5⟩ := HW1.out.2.2.2
      rw [HN.out] at z5
      simp only [Nat.zero_add] at z0 z1 z2 z3 z4 z5
      clear bl1 b1 t1 HF HWB
      go_wp2
      clear z_ z0 z1 z2 z3 z4 z5
      go_loopw [26] (fun iv wr => ∃ i : Nat, i ≤ n ∧ iv = .int .i64 (i : Nat) ∧ Hid (Below B w wr ∧ Turn (OnlyB b w) w wr ∧ ∃ acc : List UInt8, Bld B b (l ++ acc) wr ∧ acc.length ≤ 1 + 16388 * (Sx.sizes x.L - Sx.sizes (x.L.drop i)) ∧ (X.map fun t => 40 :: t) = (Sx.texts (decide (i = 0)) (x.L.drop i)).map fun r => acc ++ r)) (fun iv _ => n - (intOf iv).toNat)
      case atStart => exact ⟨0, Nat.zero_le _, rfl, HW1.out.1, HW1.out.2.1, [40], HW1.out.2.2.1, by simp, by rw [List.drop_zero, decide_eq_true rfl, HX.out]; rfl⟩
      case round =>
        clear HW1
        obtain ⟨i, hi, rfl, HI⟩ := hrel
        obtain ⟨hI1, hI2, acc, hI3, hI4, hI5⟩ := HI.out
        have HI1 := Lib.hid hI1
        have HI2 := Lib.hid hI2
        have hw0 : Below w0.heap.size w0 wr := HW.out.trans (hI1.mono HHB.out)
        by_cases hlt : i < n
        · obtain ⟨b', off, y, A', c', rfl, hy, hdr, hym, hs0, hty0⟩ := HH.out.get (i := i) (by rw [HN.out]; exact hlt)
          have hs := hs0.below hw0
          have hbxy : Below wr.heap.size wr (wr.alloc (sbox y A' c')) := (Below.refl _ wr).alloc (Nat.le_refl _) _
          have hwrB : B ≤ wr.heap.size := Nat.le_trans HwB.out hI1.size
          have hly := Lies.new wr 49 #[.bool y.list, .int .i64 y.k, .string y.T, .int .i64 y.ta, .int .i64 y.at_, .slice A' y.L.length c']
          have hblt := hI3.lt
          have HBLx := Lib.hid (Bld.kept hI3 hbxy)
          have HBx := Lib.hid (hI1.trans (hbxy.mono hwrB))
          have HTx := Lib.hid (OnlyB.trans hI2 ((Turn.refl (OnlyB b wr) wr).alloc (sbox y A' c')))
          have HW0x := Lib.hid (hw0.trans (hbxy.mono hw0.size))
          obtain ⟨y_, y0, y1, y2, y3, y4, y5⟩ := hs
          obtain ⟨hm1, hm2⟩ := HMem.out y hym
          have hszs := Sx.sizes_get hy
          have hyp := y.size_pos
          have hle : Sx.sizes (x.L.drop i) ≤ Sx.sizes x.L := by
            have := Sx.sizes_app (x.L.take i) (x.L.drop i)
            rw [List.take_append_drop] at this
            omega
          have hlt' : (i : Int) < (n : Int) := by omega
          have hi0 : (0 : Int) ≤ (i : Int) := by omega
          have hlen := HLen.out
          rw [hdr, Sx.texts_cons] at hI5
          have HTn : Hid (y.text = none → x.text = none) := by
            intro hty2
            rw [hty2] at hI5
            have hXn : X = none := by
              cases X with
              | none => rfl
              | some t => cases hI5
            rw [HTL.out, hXn]
            rfl
          by_cases hi0z : i = 0
          · have HI0 := Lib.hid hi0z
            have hnpos : ¬ (0 : Int) < (i : Int) := by omega
            have HR := Lib.hid (HIH.out w0 B b y A' c' (l ++ acc) (wr.alloc (sbox y A' c')) hm1 (by omega) hm2 (by rw [List.length_append]; omega) hty0 HM.out HHB.out HW0x.out HBLx.out)
            have HN2 : Hid (∀ ty, y.text = some ty → (acc ++ ty).length ≤ 1 + 16388 * (Sx.sizes x.L - Sx.sizes (x.L.drop (i + 1))) ∧ (X.map fun t => 40 :: t) = (Sx.texts (decide (i + 1 = 0)) (x.L.drop (i + 1))).map fun r => acc ++ ty ++ r) := by
              intro ty hty2
              rw [hty2] at hI5
              have htl := Sx.text_len y.size y ty (Nat.le_refl _) hty2
              refine ⟨by rw [List.length_append]; omega, ?_⟩
              rw [hI5, decide_eq_true HI0.out]
              simp [Option.map_map, Function.comp_def]
            clear hI1 hI2 hI3 hI4 hI5 HI hw0 hbxy hly hblt hs0 hty0 hdr hy hym hi0z hm1 hm2 hszs hyp hle hlen hll hk9 hk hwrB HHB HwB HLen HIH HMem HTL HX HM HW
            cases hty2 : y.text with
            | none =>
              rw [hty2] at HR
              have HTs := Lib.hid (HTn.out hty2)
              clear hty2
              go_wp2_with fail
              refine HR.out.mono ?_
              rintro e w4 ⟨⟨rfl, m, bl4⟩, b4, t4⟩
              have B4 := Lib.hid (HBx.out.trans b4)
              have T4 := Lib.hid (OnlyB.trans HTx.out t4)
              have BL4 := Lib.hid bl4
              clear b4 t4 bl4
              go_wp2
              rw [HPo.out]
              exact ⟨by rw [HTs.out]; exact ⟨rfl, m, BL4.out⟩, B4.out, T4.out⟩
            | some ty =>
              rw [hty2] at HR
              have HN3 := Lib.hid (HN2.out ty hty2)
              clear hty2
              go_wp2_with fail
              refine HR.out.mono ?_
              rintro e w4 ⟨⟨rfl, bl4⟩, b4, t4⟩
              have B4 := Lib.hid (HBx.out.trans b4)
              have T4 := Lib.hid (OnlyB.trans HTx.out t4)
              have BL4 : Hid (Bld B b (l ++ (acc ++ ty)) w4) := by show Bld _ _ _ _; rw [show l ++ (acc ++ ty) = l ++ acc ++ ty by simp]; exact bl4
              clear b4 t4 bl4
              go_wp2
              go_roundw
              case rel => exact ⟨i + 1, by omega, by go_num, B4.out, T4.out, acc ++ ty, BL4.out, HN3.out⟩
              case measure => simp [intOf]; omega
          · have hipos : (0 : Int) < (i : Int) := by omega
            have HI0 := Lib.hid hi0z
            have HWB := Lib.hid (kwbyte B b (l ++ acc) 32 (wr.alloc (sbox y A' c')) HBLx.out (by rw [List.length_append]; omega) (Nat.le_trans hwrB hbxy.size))
            have HLy : Hid (Lies (wr.alloc (sbox y A' c')) wr.heap.size 49 #[.bool y.list, .int .i64 y.k, .string y.T, .int .i64 y.ta, .int .i64 y.at_, .slice A' y.L.length c'] ∧ ¬ OnlyB b (wr.alloc (sbox y A' c')) wr.heap.size) := ⟨hly, OnlyB.not hly (by decide) (by omega)⟩
            have HRf := Lib.hid fun W (h1 : Below B (wr.alloc (sbox y A' c')) W) (h2 : Bld B b (l ++ (acc ++ [32])) W) => HIH.out w0 B b y A' c' (l ++ (acc ++ [32])) W hm1 (by omega) hm2 (by simp only [List.length_append, List.length_cons, List.length_nil]; omega) hty0 HM.out HHB.out (HW0x.out.trans (h1.mono HHB.out)) h2
            have HN2 : Hid (∀ ty, y.text = some ty → ((acc ++ [32]) ++ ty).length ≤ 1 + 16388 * (Sx.sizes x.L - Sx.sizes (x.L.drop (i + 1))) ∧ (X.map fun t => 40 :: t) = (Sx.texts (decide (i + 1 = 0)) (x.L.drop (i + 1))).map fun r => (acc ++ [32]) ++ ty ++ r) := by
              intro ty hty2
              rw [hty2] at hI5
              have htl := Sx.text_len y.size y ty (Nat.le_refl _) hty2
              refine ⟨by simp only [List.length_append, List.length_cons, List.length_nil]; omega, ?_⟩
              rw [hI5, decide_eq_false HI0.out]
              simp [Option.map_map, Function.comp_def]
            clear hI1 hI2 hI3 hI4 hI5 HI hw0 hbxy hly hblt hs0 hty0 hdr hy hym hi0z hm1 hm2 hszs hyp hle hlen hll hk9 hk hwrB HHB HwB HLen HIH HMem HTL HX HM HW
            go_wp2_with fail
            refine HWB.out.mono ?_
            rintro e w3 ⟨rfl, bl3, b3, t3⟩
            have HB3 := Lib.hid (HBx.out.trans b3)
            have HT3 := Lib.hid (OnlyB.trans HTx.out t3)
            have hly3 := t3.lies HLy.out.1 HLy.out.2
            have bl3' : Bld B b (l ++ (acc ++ [32])) w3 := by rw [← List.append_assoc]; exact bl3
            have HR := Lib.hid (HRf.out w3 b3 bl3')
            have v_ := hly3.lt
            have v0 := hly3.cell 0
            have v1 := hly3.cell 1
            have v2 := hly3.cell 2
            have v3 := hly3.cell 3
            have v4 := hly3.cell 4
            have v5 := hly3.cell 5
            simp at v0 v1 v2 v3 v4 v5
            clear b3 t3 bl3 bl3' hly3 HRf HLy HWB
            cases hty2 : y.text with
            | none =>
              rw [hty2] at HR
              have HTs := Lib.hid (HTn.out hty2)
              clear hty2
              go_wp2_with fail
              refine HR.out.mono ?_
              rintro e w4 ⟨⟨rfl, m, bl4⟩, b4, t4⟩
              have B4 := Lib.hid (HB3.out.trans b4)
              have T4 := Lib.hid (OnlyB.trans HT3.out t4)
              have BL4 := Lib.hid bl4
              clear b4 t4 bl4
              go_wp2
              rw [HPo.out]
              exact ⟨by rw [HTs.out]; exact ⟨rfl, m, BL4.out⟩, B4.out, T4.out⟩
            | some ty =>
              rw [hty2] at HR
              have HN3 := Lib.hid (HN2.out ty hty2)
              clear hty2
              go_wp2_with fail
              refine HR.out.mono ?_
              rintro e w4 ⟨⟨rfl, bl4⟩, b4, t4⟩
              have B4 := Lib.hid (HB3.out.trans b4)
              have T4 := Lib.hid (OnlyB.trans HT3.out t4)
              have BL4 : Hid (Bld B b (l ++ ((acc ++ [32]) ++ ty)) w4) := by show Bld _ _ _ _; rw [show l ++ ((acc ++ [32]) ++ ty) = l ++ (acc ++ [32]) ++ ty by simp]; exact bl4
              clear b4 t4 bl4
              go_wp2
              go_roundw
              case rel => exact ⟨i + 1, by omega, by go_num, B4.out, T4.out, (acc ++ [32]) ++ ty, BL4.out, HN3.out⟩
              case measure => simp [intOf]; omega
        · obtain rfl : i = n := by omega
          rw [List.drop_of_length_le (by rw [HN.out]; exact Nat.le_refl _), Sx.texts] at hI5
          rw [List.drop_of_length_le (by rw [HN.out]; exact Nat.le_refl _), Sx.sizes, Nat.sub_zero] at hI4
          have hlen := HLen.out
          have HWB := Lib.hid (kwbyte B b (l ++ acc) 41 wr hI3 (by rw [List.length_append]; omega) (Nat.le_trans HwB.out hI1.size))
          have HTs : Hid (∃ t, x.text = some t ∧ l ++ t = l ++ acc ++ [41]) := by
            cases X with
            | none => cases hI5
            | some t =>
              simp only [Option.map_some, List.append_nil, Option.some.injEq] at hI5
              exact ⟨_, HTL.out, by rw [← hI5]; simp⟩
          clear hI1 hI2 hI3 hI4 hI5 HI hw0 hlen
          go_wp2_with (go_at_call 99; refine HWB.out.mono ?_; rintro e w3 ⟨rfl, bl3, b3, t3⟩; have B3 := Lib.hid (HI1.out.trans b3); have T3 := Lib.hid (OnlyB.trans HI2.out t3); have BL3 := Lib.hid bl3; clear bl3 b3 t3)
          rw [HPo.out]
          obtain ⟨t, ht, hlt2⟩ := HTs.out
          exact ⟨by rw [ht]; exact ⟨rfl, by rw [hlt2]; exact BL3.out⟩, B3.out, T3.out⟩
end Go.Proofs.YtfjpcjebecgglaaGreatDoor
namespace Go.Proofs.YtfjpcjebecgglaaGreatDoor
open Go.RowKit Go.Shelf
theorem kPrintB (x : Sx) (A : Option Addr) (c : Nat) (w : World) (hk : x.size ≤ 1100000) (hwd : x.wide ≤ 1100000) (h : STree w AnyP x A c) (hm : MaxL w) :
    Calls Tryz.prog 25 #[sval x A c] w fun e w' => PrintSaid x.print e ∧ Below w.heap.size w w' := by
  have hb0 := (Below.refl _ w).alloc (Nat.le_refl _) (sbox x A c)
  have HD := Lib.hid (kDepth x A c _ (h.kept hb0))
  obtain ⟨Post, hPost⟩ : ∃ Post : Ending → World → Prop, Post = fun e w' => PrintSaid x.print e ∧ Below w.heap.size w w' := ⟨_, rfl⟩
  rw [← hPost]
  have HPo := Lib.hid hPost
  have hpr : x.print = if 64 < Sx.dep 65 x then none else x.text := rfl
  obtain ⟨d, hd⟩ : ∃ d, Sx.dep 65 x = d := ⟨_, rfl⟩
  rw [hd] at HD hpr
  have HPr := Lib.hid hpr
  have hbx := sbox_at w x A c
  have HF : Hid (∀ W, Below (w.alloc (sbox x A c)).heap.size (w.alloc (sbox x A c)) W → SAt (W.alloc (.cells #[.pointer none, .slice none 0 0] 116)) w.heap.size 0 x A c ∧ Below w.heap.size w W ∧
      Calls Tryz.prog 61 #[.pointer (some ⟨W.heap.size, 0, none⟩), sval x A c] (W.alloc (.cells #[.pointer none, .slice none 0 0] 116)) fun e w' => WriteSaid W.heap.size W.heap.size [] x.text e w' ∧ Below w.heap.size w w' ∧ W.heap.size ≤ w'.heap.size) := by
    intro W hW
    have hWw := hb0.trans (hW.mono hb0.size)
    have hA : Below W.heap.size W (W.alloc (.cells #[.pointer none, .slice none 0 0] 116)) := (Below.refl _ W).alloc (Nat.le_refl _) _
    refine ⟨(hbx.below hW).below hA, hWw, ?_⟩
    refine (kwrite6 1100000 w W.heap.size W.heap.size x A c [] _ hk (Nat.le_refl _) hwd (by rw [List.length_nil]; omega) h hm hWw.size (hWw.trans (hA.mono hWw.size)) (Lib.fresh_isBuilder 116 5 W)).mono ?_
    rintro e w' ⟨h1, h2, _⟩
    exact ⟨h1, hWw.trans ((hA.trans h2).mono hWw.size), (hA.trans h2).size⟩
  clear hPost hb0 hpr hd h hbx hwd hk hm
  by_cases h64 : 64 < d
  · have h64' : (64 : Int) < (d : Int) := by omega
    go_enter Tryz.func25, Tryz.ntmps25
    go_wp2_with (go_at_call 23; refine HD.out.mono ?_; rintro e w2 ⟨rfl, b2⟩; have B2 := Lib.hid b2; clear b2)
    rw [HPo.out]
    exact ⟨by rw [HPr.out, if_pos h64]; rfl, (HF.out _ B2.out).2.1⟩
  · have h64' : ¬ (64 : Int) < (d : Int) := by omega
    have HPr2 : Hid (x.print = x.text) := by show _ = _; rw [HPr.out, if_neg h64]
    go_enter Tryz.func25, Tryz.ntmps25
    go_wp2_with fail
    refine HD.out.mono ?_
    rintro e w2 ⟨rfl, b2⟩
    obtain ⟨hs2, hb2, hw2⟩ := HF.out _ b2
    have HB2 := Lib.hid hb2
    have HW2 := Lib.hid hw2
    obtain ⟨z, z0, z1, z2, z3, z4, z5⟩ := hs2
    simp only [Nat.zero_add] at z0 z1 z2 z3 z4 z5
    clear hb2 b2 HF hw2
    cases ht : x.text with
    | none =>
      rw [ht] at HW2 HPr2
      clear ht
      go_wp2_with fail
      refine HW2.out.mono ?_
      rintro e w3 ⟨⟨rfl, _, _⟩, b3, _⟩
      have B3 := Lib.hid b3
      clear b3
      go_wp2
      rw [HPo.out]
      exact ⟨by rw [HPr2.out]; rfl, B3.out⟩
    | some t =>
      rw [ht] at HW2 HPr2
      clear ht
      go_wp2_with fail
      refine HW2.out.mono ?_
      rintro e w3 ⟨⟨rfl, bl3⟩, b3, h3⟩
      rw [List.nil_append] at bl3
      have B3 := Lib.hid b3
      have HSt := Lib.hid (Tryz.Builder_String_any _ _ t w3 bl3 h3)
      have HS3 : Hid (w.heap.size ≤ w2.heap.size) := HB2.out.size
      clear b3 bl3 h3
      go_wp2_with (go_at_call 62; refine HSt.out.mono ?_; rintro e w4 ⟨rfl, b4⟩; have B4 := Lib.hid b4; clear b4)
      rw [HPo.out]
      exact ⟨by rw [HPr2.out]; exact ⟨_, rfl, by simp⟩, B3.out.trans (B4.out.mono HS3.out)⟩
theorem kPrint (x : Sx) (A : Option Addr) (c : Nat) (w : World) (hk : x.size ≤ 10000) (hwd : x.wide ≤ 1100000) (h : STree w AnyP x A c) (hm : MaxL w) :
    Calls Tryz.prog 25 #[sval x A c] w fun e w' => PrintSaid x.print e ∧ Below w.heap.size w w' := kPrintB x A c w (by omega) hwd h hm
end Go.Proofs.YtfjpcjebecgglaaGreatDoor
