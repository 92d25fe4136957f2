/- What the proofs of this claim use, text by text. -/
import Derived.Test.YtfjpcjebecgglaaGreatDoorQE03
import Derived.Lib.ConvBytes
import Derived.Lib.AtoiErrMem
import Derived.Lib.MinMax
import Derived.Lib.Builder
import Derived.Lib.AppendStr
import Derived.Lib.UnsafeStr
import Derived.Shelf.Strings.Builder1
import Derived.Deep.Cut
import Derived.WalkMore
set_option linter.unusedSimpArgs false
set_option linter.unusedVariables false
set_option maxRecDepth 100000
set_option maxHeartbeats 25600000
namespace Go.Proofs.YtfjpcjebecgglaaGreatDoor
open Go.RowKit Go.Shelf
theorem infoBd7 : (Tryz.prog.info? 116).map (fun i => i.size) = some 2 := by kernel_rfl
theorem infoU87 : (Tryz.prog.info? 5).map (fun i => (i.zero, i.size, i.bytes)) = some (some (.int .u8 0), 1, 1) := by kernel_rfl
abbrev Bld7 (B b : Nat) (l : List UInt8) (w : World) : Prop := Lib.IsBuilder 116 5 B b (Lib.byteCells l) w
abbrev BldAt7 (B b : Nat) (l : List UInt8) (w : World) : Prop := Lib.BuilderAt 116 5 B b (.pointer (some ⟨b, 0, none⟩)) (Lib.byteCells l) w
def OnlyB7 (b : Nat) (w : World) (q : Nat) : Prop := q = b ∨ ∃ cs, Lies w q 5 cs
theorem OnlyB7.trans {b : Nat} {w w1 w2 : World} (h : Turn (OnlyB7 b w) w w1) (h2 : Turn (OnlyB7 b w1) w1 w2) : Turn (OnlyB7 b w) w w2 :=
  h.trans h2 fun q hq => by
    by_cases hlt : q < w.heap.size
    · rcases hq with rfl | ⟨cs, hl⟩
      · exact .inl (.inl rfl)
      · by_cases hf : OnlyB7 b w q
        · exact .inl hf
        · exact .inl (.inr ⟨cs, (h.block q hlt hf).symm.trans hl⟩)
    · exact .inr (by omega)
theorem OnlyB7.of {F : Nat → Prop} {b : Nat} {w w1 : World} (h : Turn F w w1) (hF : ∀ q, q < w.heap.size → F q → OnlyB7 b w q) : Turn (OnlyB7 b w) w w1 := h.mono hF
theorem byteCells_app7 (l m : List UInt8) : Lib.byteCells (l ++ m) = Lib.byteCells l ++ Lib.byteCells m := by simp [Lib.byteCells]
theorem kcopy7 (B b : Nat) (l : List UInt8) (w : World) (h : Bld7 B b l w) :
    Calls Tryz.prog 119 #[.pointer (some ⟨b, 0, none⟩)] w fun e w' => e = .returned (.tuple #[]) ∧ BldAt7 B b l w' ∧ Below B w w' ∧ Turn (OnlyB7 b w) w w' := by
  obtain ⟨j, hj, hjs⟩ := Option.map_eq_some_iff.1 infoBd7
  rcases h with h | h
  · have h0 := h.cell0
    have hsh := h.shape
    have hfz := h.frozen0
    have HH := Lib.hid h
    clear h
    go_enter Tryz.func119, Tryz.ntmps119
    go_wp2
    rw [Lib.run_to_unsafe w ⟨b, 0, none⟩ Tryz.underlying113 Tryz.underlying199 hj (by rw [hjs]; decide) hsh (Nat.zero_lt_succ 1)]
    simp only [Result.andThen]
    rw [Oper.upon_value]
    go_wp2
    rw [run_callFunc_extern Tryz.func136 (by kernel_rfl) (by kernel_rfl) (by kernel_rfl) (e := Extern.AbiNoEscape.same) (by kernel_rfl)]
    rw [Lib.run_noEscape]
    simp only [Result.andThen]
    rw [Oper.upon_value]
    go_wp2
    rw [Lib.run_from_unsafe w ⟨b, 0, none⟩ Tryz.underlying199 Tryz.underlying113 hj hsh (by kernel_rfl)]
    simp only [Result.andThen]
    rw [Oper.upon_value]
    go_wp2
    go_end0
    exact ⟨rfl, HH.out.used _, (Below.refl B w).setCell (p := ⟨b, 0, none⟩) HH.out.1 _, (Turn.refl _ w).put (p := ⟨b, 0, none⟩) (.inl (.inl rfl)) _⟩
  · have h0 := h.cell0
    have HH := Lib.hid h
    clear h
    go_enter Tryz.func119, Tryz.ntmps119
    go_wp2
    rw [Lib.run_neq_ptr_same w _ Tryz.underlying113 hj]
    go_wp2
    go_end0
    exact ⟨rfl, HH.out, Below.refl _ _, Turn.refl _ _⟩
theorem kwbyte7 (B b : Nat) (l : List UInt8) (c : UInt8) (w : World) (h : Bld7 B b l w) (hlen : l.length ≤ 1000000000) (hBw : B ≤ w.heap.size) :
    Calls Tryz.prog 99 #[.pointer (some ⟨b, 0, none⟩), .int .u8 (c.toNat : Nat)] w fun e w' => e = .returned .nilIface ∧ Bld7 B b (l ++ [c]) w' ∧ Below B w w' ∧ Turn (OnlyB7 b w) w w' := by
  obtain ⟨i0, hi, hz0, hz1, hz2⟩ := info_parts infoU87
  have HK := Lib.hid (kcopy7 B b l w h)
  have hbl : (Lib.byteCells l).length = l.length := Lib.byteCells_length l
  clear h
  go_enter Tryz.func99, Tryz.ntmps99
  go_wp2_with fail
  refine HK.out.mono ?_
  rintro e w1 ⟨rfl, h1, hb1, ht1⟩
  obtain ⟨hB, v, hbk, hown, hne⟩ := h1
  obtain ⟨A, cp, rfl⟩ := own_form hown
  rw [hbl] at hown hbk hne
  have hL : Lies w1 b 116 #[.pointer (some ⟨b, 0, none⟩), .slice A l.length cp] := hbk
  have c1 := hL.cell 1
  have hbl1 := hL.lt
  have HL := Lib.hid hL
  have HO := Lib.hid hown
  have HB1 := Lib.hid hb1
  have HNE := Lib.hid hne
  have HT1 := Lib.hid ht1
  have HOB : Hid (∀ q, q < w1.heap.size → (Value.slice A l.length cp).ownBlock = some q → OnlyB7 b w1 q) := fun q _ hq => .inr (own_heap HO.out hq)
  have HBB := Lib.hid hB
  have hsz : B ≤ w1.heap.size := Nat.le_trans hBw hb1.size
  simp at c1
  clear hL hbk hown hb1 hne hB HK hbl ht1
  go_wp2_with (at_builtin; refine append_row _ rfl _ _ 114 rfl B 5 i0 (.int .u8 0) 1 Tryz.underlying114 hi hz0 hz1 hz2 rfl _ l.length (Lib.byteCells l) rfl (HO.out.alloc _) ⟨w1.heap.size, 0, none⟩ 1 1 [.int .u8 (c.toNat : Nat)] rfl rfl (cell_one_new _ _ _) (fun u hu => by simp at hu; subst hu; rfl) (by unfold maxLen; omega) (by omega) (Nat.le_trans hsz (by simp)) ?_; intro A2 c2 w2 o2 g2 _; have O2 := Lib.hid o2; have L2 := (Turn.of_grown (F := fun q => (Value.slice A l.length cp).ownBlock = some q) g2 (fun q hq _ => hq)).lies (((Turn.refl (fun _ => False) w1).alloc _).lies HL.out id) HNE.out; have HL2 := Lib.hid L2; have l0 := L2.lt; have l1 := L2.cell 1; have l2 := L2.free 1; have T2 := Lib.hid (OnlyB7.trans HT1.out (OnlyB7.of (((Turn.refl (fun q => (Value.slice A l.length cp).ownBlock = some q) w1).alloc _).trans (Turn.of_grown (F := fun q => (Value.slice A l.length cp).ownBlock = some q) g2 (fun q hq _ => hq)) (fun _ e => .inl e)) HOB.out)); have B2 := Lib.hid ((HB1.out.alloc hsz _).grown g2 (Nat.le_trans hsz (by simp)) (fun q hq => (HO.out.lt q hq).1)); simp at l1; clear o2 g2 L2)
  go_ret
  refine ⟨rfl, .inr ?_, B2.out.setCell (p := ⟨b, 1, none⟩) HBB.out _, T2.out.put (p := ⟨b, 1, none⟩) (.inl (.inl rfl)) _⟩
  rw [byteCells_app7]
  refine Lib.BuilderAt.put (T := 116) (e := 5) HBB.out HL2.out (bs' := Lib.byteCells l ++ Lib.byteCells [c]) ?_ (by decide)
  have e : (Lib.byteCells l ++ Lib.byteCells [c]).length = l.length + 1 := by rw [List.length_append, Lib.byteCells_length, Lib.byteCells_length]; rfl
  rw [e]
  exact O2.out
theorem kwstring7 (B b : Nat) (l : List UInt8) (s : ByteArray) (w : World) (h : Bld7 B b l w) (hlen : l.length + s.size ≤ 1000000000) (hBw : B ≤ w.heap.size) :
    Calls Tryz.prog 98 #[.pointer (some ⟨b, 0, none⟩), .string s] w fun e w' => e = .returned (.tuple #[.int .i64 (s.size : Nat), .nilIface]) ∧ Bld7 B b (l ++ s.data.toList) w' ∧ Below B w w' ∧ Turn (OnlyB7 b w) w w' := by
  obtain ⟨i0, hi, hz0, hz1, hz2⟩ := info_parts infoU87
  have HK := Lib.hid (kcopy7 B b l w h)
  have hbl : (Lib.byteCells l).length = l.length := Lib.byteCells_length l
  clear h
  go_enter Tryz.func98, Tryz.ntmps98
  go_wp2_with fail
  refine HK.out.mono ?_
  rintro e w1 ⟨rfl, h1, hb1, ht1⟩
  obtain ⟨hB, v, hbk, hown, hne⟩ := h1
  obtain ⟨A, cp, rfl⟩ := own_form hown
  rw [hbl] at hown hbk hne
  have hL : Lies w1 b 116 #[.pointer (some ⟨b, 0, none⟩), .slice A l.length cp] := hbk
  have c1 := hL.cell 1
  have hbl1 := hL.lt
  have HL := Lib.hid hL
  have HO := Lib.hid hown
  have HB1 := Lib.hid hb1
  have HNE := Lib.hid hne
  have HT1 := Lib.hid ht1
  have HOB : Hid (∀ q, q < w1.heap.size → (Value.slice A l.length cp).ownBlock = some q → OnlyB7 b w1 q) := fun q _ hq => .inr (own_heap HO.out hq)
  have HBB := Lib.hid hB
  have hsz : B ≤ w1.heap.size := Nat.le_trans hBw hb1.size
  simp at c1
  clear hL hbk hown hb1 hne hB HK hbl ht1
  go_wp2_with (at_builtin; refine Lib.wpList_append_own_string _ rfl _ _ 114 9 rfl B 5 i0 Tryz.underlying114 Tryz.underlying9 hi hz0 hz1 hz2 _ l.length (Lib.byteCells l) rfl HO.out s rfl (by unfold maxLen; omega) (by omega) hsz ?_; intro v2 w2 o2 g2 _; obtain ⟨A2, c2, rfl⟩ := own_form o2; have O2 := Lib.hid o2; have L2 := (Turn.of_grown (F := fun q => (Value.slice A l.length cp).ownBlock = some q) g2 (fun q hq _ => hq)).lies HL.out HNE.out; have HL2 := Lib.hid L2; have l0 := L2.lt; have l1 := L2.cell 1; have l2 := L2.free 1; have T2 := Lib.hid (OnlyB7.trans HT1.out (OnlyB7.of (Turn.of_grown (F := fun q => (Value.slice A l.length cp).ownBlock = some q) g2 (fun q hq _ => hq)) HOB.out)); have B2 := Lib.hid (HB1.out.grown g2 hsz (fun q hq => (HO.out.lt q hq).1)); simp at l1; clear o2 g2 L2)
  go_ret2
  refine ⟨rfl, .inr ?_, B2.out.setCell (p := ⟨b, 1, none⟩) HBB.out _, T2.out.put (p := ⟨b, 1, none⟩) (.inl (.inl rfl)) _⟩
  rw [byteCells_app7]
  refine Lib.BuilderAt.put (T := 116) (e := 5) HBB.out HL2.out (bs' := Lib.byteCells l ++ Lib.byteCells s.data.toList) ?_ (by decide)
  have e : (Lib.byteCells l ++ Lib.byteCells s.data.toList).length = l.length + s.size := by rw [List.length_append, Lib.byteCells_length, Lib.byteCells_length, Lt.len_bytes]
  rw [e]
  exact O2.out
end Go.Proofs.YtfjpcjebecgglaaGreatDoor
namespace Go.Proofs.YtfjpcjebecgglaaGreatDoor
open Go.RowKit
def Lt.lim (j u : Nat) : Prop := j = 0 ∧ u < 1048576 ∨ j = 1 ∧ u < 65536 ∨ j = 2 ∧ u < 4096 ∨ j = 3 ∧ u < 256 ∨ j = 4 ∧ u < 16
theorem Lt.lim_next {j u : Nat} (h : Lt.lim j u) (hu : 16 ≤ u) : Lt.lim (j + 1) (u / 16) := by
  unfold Lt.lim at *
  omega
def Digs (w : World) (b i : Nat) (l : List UInt8) : Prop := ∃ ca, Lies w b 230 ca ∧ ca.size = 65 ∧ ∀ (k : Nat) (x : UInt8), l[k]? = some x → ca[i + k]? = some (.int .u8 (x.toNat : Nat))
theorem Lt.digS_at {i : Nat} (h : i < 16) : ((⟨#[48, 49, 50, 51, 52, 53, 54, 55, 56, 57, 97, 98, 99, 100, 101, 102, 103, 104, 105, 106, 107, 108, 109, 110, 111, 112, 113, 114, 115, 116, 117, 118, 119, 120, 121, 122]⟩ : ByteArray)[i]'(Nat.lt_trans h (by decide))).toNat = (Lt.hd i).toNat := by
  have : ∀ i : Fin 16, ((⟨#[48, 49, 50, 51, 52, 53, 54, 55, 56, 57, 97, 98, 99, 100, 101, 102, 103, 104, 105, 106, 107, 108, 109, 110, 111, 112, 113, 114, 115, 116, 117, 118, 119, 120, 121, 122]⟩ : ByteArray)[i.1]'(Nat.lt_trans i.2 (by decide))).toNat = (Lt.hd i.1).toNat := by decide
  exact this ⟨i, h⟩
theorem Lt.and15 (u : Nat) (hu : u < 18446744073709551616) : bits .and .u64 (u : Int) 15 = ((u % 16 : Nat) : Int) := by
  have h := bits_and_u64_nat u 15 hu (by decide)
  rw [show u &&& 15 = u % 16 from Nat.and_two_pow_sub_one_eq_mod u 4] at h
  exact h
theorem Digs.put {w : World} {b i : Nat} {l : List UInt8} (h : Digs w b (i + 1) l) (hi : i < 65) (x : UInt8) : Digs (w.setCell ⟨b, i, none⟩ (.int .u8 (x.toNat : Nat))) b i (x :: l) := by
  obtain ⟨ca, hL, hs, hc⟩ := h
  refine ⟨_, hL.put i _, by simpa using hs, fun k y hk => ?_⟩
  rcases k with _ | k
  · have e : x = y := by simpa using hk
    subst e
    rw [Nat.add_zero, Array.getElem?_setIfInBounds_self, if_pos (by omega)]
  · rw [Array.getElem?_setIfInBounds_ne (by omega), show i + (k + 1) = i + 1 + k by omega]
    exact hc k y (by simpa using hk)
theorem ktz7 (w : World) (hG : Gl w) : Calls Tryz.prog 188 #[.int .u64 16] w fun e w' => e = .returned (.int .i64 4) ∧ w' = w := by
  have hb := hG.bru
  have h1 : bits .and .u64 16 (IntKind.u64.wrap (-16)) = 16 := by decide +kernel
  clear hG
  have h64 : Calls Tryz.prog 197 #[.int .u64 16] w fun e w' => e = .returned (.int .i64 4) ∧ w' = w := by
    go_enter Tryz.func197, Tryz.ntmps197
    go_wp2
    go_ret
    exact ⟨rfl, rfl⟩
  go_enter Tryz.func188, Tryz.ntmps188
  go_wp2_with (go_at_call 197; refine h64.mono ?_; rintro e w1 ⟨rfl, rfl⟩)
  go_ret
  exact ⟨rfl, rfl⟩
theorem kpow7 (w : World) : Calls Tryz.prog 187 #[.int .i64 16] w fun e w' => e = .returned (.bool true) ∧ w' = w := by
  go_enter Tryz.func187, Tryz.ntmps187
  go_wp2
  go_ret
  exact ⟨rfl, rfl⟩
theorem Lt.arr65 : Tryz.prog.underlying 230 = some (.array (Tryz.prog.arrayLen 230) (Tryz.prog.elem 230)) ∧ Tryz.prog.arrayLen 230 = 65 ∧ Tryz.prog.elem 230 = 5 := by
  refine ⟨by kernel_rfl, by kernel_rfl, by kernel_rfl⟩
theorem Lt.slice65 (W : World) (b i : Nat) (hi : i < 65) : (Instr.sliceAt 230 (.pointer (some ⟨b, 0, none⟩)) (some (.int .i64 (i : Int))) none none).run Tryz.prog W = .ok (.slice (some ⟨b, i, none⟩) (65 - i) (65 - i)) W := by
  obtain ⟨h1, h2, h3⟩ := Lt.arr65
  have h := run_sliceAt_array_l (P := Tryz.prog) W 230 ⟨b, 0, none⟩ h1 .i64 (i : Int) (by omega) (by rw [h2]; omega)
  rw [h, h2, h3, Tryz.sizeOf5]
  simp only [Result.andThen_ok, slicedAt, Int.toNat_natCast]
  rw [if_neg (by omega), addr_add, Nat.mul_one, Nat.zero_add]
theorem kbits7 (n : Nat) (w : World) (hn : n < 1048576) (hG : Gl w) :
    Calls Tryz.prog 175 #[.slice none 0 0, .int .u64 (n : Nat), .int .i64 16, .bool false, .bool false] w fun e w' => e = .returned (.tuple #[.slice none 0 0, .string ⟨(Lt.hex n).toArray⟩]) ∧ Below w.heap.size w w' := by
  have hn' : (n : Int) < 1048576 := by omega
  have HGl := Lib.hid hG
  clear hG
  go_enter Tryz.func175, Tryz.ntmps175
  go_wp2_with (first
    | (go_at_call 187; refine (kpow7 _).mono ?_; rintro e w1 ⟨rfl, rfl⟩)
    | (go_at_call 188; refine (ktz7 _ (HGl.out.below ((Below.refl _ w).alloc (Nat.le_refl _) _))).mono ?_; rintro e w1 ⟨rfl, rfl⟩))
  have HM : Hid (∀ (i : Nat) (h : i < 16), ((⟨#[48, 49, 50, 51, 52, 53, 54, 55, 56, 57, 97, 98, 99, 100, 101, 102, 103, 104, 105, 106, 107, 108, 109, 110, 111, 112, 113, 114, 115, 116, 117, 118, 119, 120, 121, 122]⟩ : ByteArray)[i]'(Nat.lt_trans h (by decide))).toNat = (Lt.hd i).toNat) := fun _ h => Lt.digS_at h
  generalize hS : (⟨#[48, 49, 50, 51, 52, 53, 54, 55, 56, 57, 97, 98, 99, 100, 101, 102, 103, 104, 105, 106, 107, 108, 109, 110, 111, 112, 113, 114, 115, 116, 117, 118, 119, 120, 121, 122]⟩ : ByteArray) = S
  have hsz : S.size = 36 := by rw [← hS]; rfl
  have HS : Hid (∀ i (h : i < S.size), i < 16 → S[i].toNat = (Lt.hd i).toNat) := by
    subst hS
    exact fun i h h' => HM.out i h'
  clear hS HM
  go_loopw [1, 13] (fun uv iv wr => ∃ (u i : Nat) (l : List UInt8), uv = .int .u64 (u : Nat) ∧ iv = .int .i64 (i : Nat) ∧ i + l.length = 65 ∧ Lt.lim l.length u ∧ Hid (Lt.hex n = Lt.hex u ++ l ∧ Digs wr w.heap.size i l ∧ Below w.heap.size w wr)) (fun uv _ _ => (intOf uv).toNat)
  case atStart => exact ⟨n, 65, [], rfl, rfl, rfl, .inl ⟨rfl, hn⟩, by simp, ⟨_, Lies.new w _ _, by kernel_rfl, fun k x hk => by simp at hk⟩, (Below.refl _ w).alloc (Nat.le_refl _) _⟩
  case round =>
    obtain ⟨u, i, l, rfl, rfl, hil, hlim, HI⟩ := hrel
    by_cases h16 : 16 ≤ u
    · have h16' : (16 : Int) ≤ (u : Int) := by omega
      have hu' : (u : Int) < 1048576 := by unfold Lt.lim at hlim; omega
      have hi61 : (61 : Int) ≤ (i : Int) := by unfold Lt.lim at hlim; omega
      have hi65 : (i : Int) ≤ 65 := by omega
      have hd16 : decide ((16 : Int) ≤ (u : Int)) = true := decide_eq_true h16'
      obtain ⟨m, hm⟩ : ∃ m : Nat, u % 16 = m := ⟨_, rfl⟩
      obtain ⟨i', rfl⟩ : ∃ i', i = i' + 1 := ⟨i - 1, by omega⟩
      have hand : bits .and .u64 (u : Int) 15 = (m : Int) := by rw [← hm]; exact Lt.and15 u (by omega)
      have hm16 : (m : Int) < 16 := by omega
      have hm16' : m < 16 := by omega
      obtain ⟨hI0, ⟨ca, hL, hca, hcs⟩, hI2⟩ := HI.out
      obtain ⟨q, hq⟩ : ∃ q, q = u / 16 := ⟨_, rfl⟩
      have hq' : (u : Int) / 16 = (q : Int) := by omega
      have HLm : Hid (Lt.lim (Lt.hd m :: l).length q) := by
        rw [hq, List.length_cons]
        exact Lt.lim_next hlim h16
      have HR : Hid (Lt.hex n = Lt.hex q ++ (Lt.hd m :: l) ∧ Digs (wr.setCell ⟨w.heap.size, i', none⟩ (.int .u8 ((Lt.hd m).toNat : Nat))) w.heap.size i' (Lt.hd m :: l) ∧ Below w.heap.size w (wr.setCell ⟨w.heap.size, i', none⟩ (.int .u8 ((Lt.hd m).toNat : Nat)))) := by
        refine ⟨?_, Digs.put ⟨ca, hL, hca, hcs⟩ (by omega) _, hI2.setCell (p := ⟨w.heap.size, i', none⟩) (Nat.le_refl _) _⟩
        rw [hI0, Lt.hex_big (show ¬ u < 16 by omega), hm, ← hq, List.append_assoc]
        rfl
      have hmS : m < S.size := by omega
      have hv := HS.out m hmS hm16'
      obtain ⟨v0, hcell⟩ : ∃ v0, wr.cell? ⟨w.heap.size, i', none⟩ = some v0 := ⟨_, (hL.cell i').trans (Array.getElem?_eq_getElem (show i' < ca.size by omega))⟩
      have hfz := hL.free i'
      have hlt := hL.lt
      clear HI hI0 hL hI2 hcs hca hm hlim hq
      go_wp2
      go_roundw
      case rel => exact ⟨q, i', Lt.hd m :: l, by first | rfl | (congr 1; omega), rfl, by rw [List.length_cons]; omega, HLm.out, HR.out⟩
      case measure => simp [intOf]; omega
    · obtain ⟨i', rfl⟩ : ∃ i', i = i' + 1 := ⟨i - 1, by unfold Lt.lim at hlim; omega⟩
      have hi60 : 60 ≤ i' := by unfold Lt.lim at hlim; omega
      obtain ⟨hI0, ⟨ca, hL, hca, hcs⟩, hI2⟩ := HI.out
      have hu16 : u < 16 := by omega
      have huS : u < S.size := by omega
      have hv := HS.out u huS hu16
      obtain ⟨v0, hcell⟩ : ∃ v0, wr.cell? ⟨w.heap.size, i', none⟩ = some v0 := ⟨_, (hL.cell i').trans (Array.getElem?_eq_getElem (show i' < ca.size by omega))⟩
      have hfz := hL.free i'
      have hlt := hL.lt
      have hd16 : decide ((16 : Int) ≤ (u : Int)) = false := decide_eq_false (by omega)
      have HF : Hid (Digs (wr.setCell ⟨w.heap.size, i', none⟩ (.int .u8 ((Lt.hd u).toNat : Nat))) w.heap.size i' (Lt.hd u :: l) ∧ Below w.heap.size w (wr.setCell ⟨w.heap.size, i', none⟩ (.int .u8 ((Lt.hd u).toNat : Nat)))) := ⟨Digs.put ⟨ca, hL, hca, hcs⟩ (by omega) _, hI2.setCell (p := ⟨w.heap.size, i', none⟩) (Nat.le_refl _) _⟩
      obtain ⟨L, hL'⟩ : ∃ L, L = Lt.hd u :: l := ⟨_, rfl⟩
      have hlen : 65 - i' = L.length := by rw [hL', List.length_cons]; omega
      have HHex : Hid (Lt.hex n = L) := by show _ = _; rw [hI0, Lt.hex_small hu16, hL']; rfl
      rw [← hL'] at HF
      have hi65 : (i' : Int) < 65 := by omega
      have hu16' : (u : Int) < 16 := by omega
      clear HI hI0 hL hI2 hcs hL' hlim h16 hca
      go_upto_region 16 with fail
      clear hv huS hsz
      have HM : Hid (∀ (i : Nat) (h : i < 16), ((⟨#[48, 49, 50, 51, 52, 53, 54, 55, 56, 57, 97, 98, 99, 100, 101, 102, 103, 104, 105, 106, 107, 108, 109, 110, 111, 112, 113, 114, 115, 116, 117, 118, 119, 120, 121, 122]⟩ : ByteArray)[i]'(Nat.lt_trans h (by decide))).toNat = (Lt.hd i).toNat) := fun _ h => Lt.digS_at h
      generalize hS : (⟨#[48, 49, 50, 51, 52, 53, 54, 55, 56, 57, 97, 98, 99, 100, 101, 102, 103, 104, 105, 106, 107, 108, 109, 110, 111, 112, 113, 114, 115, 116, 117, 118, 119, 120, 121, 122]⟩ : ByteArray) = S2
      have hsz2 : S2.size = 36 := by rw [← hS]; rfl
      have huS2 : u < S2.size := by omega
      have hv2 : S2[u].toNat = (Lt.hd u).toNat := by
        subst hS
        exact HM.out u hu16
      have hsl : ∀ W, (Instr.sliceAt 230 (.pointer (some ⟨w.heap.size, 0, none⟩)) (some (.int .i64 (i' : Int))) none none).run Tryz.prog W = .ok (.slice (some ⟨w.heap.size, i', none⟩) L.length L.length) W := fun W => by
        rw [Lt.slice65 W w.heap.size i' (by omega), hlen]
      have hconv : (convert 114 9 (.slice (some ⟨w.heap.size, i', none⟩) L.length L.length)).run Tryz.prog (wr.setCell ⟨w.heap.size, i', none⟩ (.int .u8 ((Lt.hd u).toNat : Nat))) = .ok (.string ⟨L.toArray⟩) (wr.setCell ⟨w.heap.size, i', none⟩ (.int .u8 ((Lt.hd u).toNat : Nat))) := by
        refine run_convert_bytes_back _ 114 9 5 ⟨w.heap.size, i', none⟩ L.length L Tryz.underlying114 Tryz.underlying5 Tryz.underlying9 fun j hj => ?_
        obtain ⟨cb, hLb, _, hcb⟩ := HF.out.1
        rw [addr_add, hLb.cell]
        exact hcb j L[j] (List.getElem?_eq_getElem hj)
      have HBF := Lib.hid HF.out.2
      have HHx := Lib.hid HHex.out
      clear hS HM HS hlen HF HHex
      go_wp2
      go_ret2
      exact ⟨by rw [HHx.out]; rfl, HBF.out⟩
theorem kformat7 (n : Nat) (w : World) (hn : n < 1048576) (hG : Gl w) :
    Calls Tryz.prog 145 #[.int .i64 (n : Nat), .int .i64 16] w fun e w' => e = .returned (.string ⟨(Lt.hex n).toArray⟩) ∧ Below w.heap.size w w' := by
  have hn' : (n : Int) < 1048576 := by omega
  have hn0 : (0 : Int) ≤ (n : Int) := by omega
  have hneg : decide ((n : Int) < 0) = false := decide_eq_false (by omega)
  have HB := Lib.hid (kbits7 n w hn hG)
  clear hn hG
  have HI : Calls Tryz.prog 156 #[.int .i64 (n : Nat), .int .i64 16] w fun e w' => e = .returned (.string ⟨(Lt.hex n).toArray⟩) ∧ Below w.heap.size w w' := by
    go_enter Tryz.func156, Tryz.ntmps156
    go_wp2_with (go_at_call 175; refine HB.out.mono ?_; rintro e w1 ⟨rfl, b1⟩)
    go_ret
    exact ⟨rfl, b1⟩
  have HII := Lib.hid HI
  clear HI
  go_enter Tryz.func145, Tryz.ntmps145
  go_wp2_with (go_at_call 156; refine HII.out.mono ?_; rintro e w1 ⟨rfl, b1⟩)
  go_ret
  exact ⟨rfl, b1⟩
end Go.Proofs.YtfjpcjebecgglaaGreatDoor
namespace Go.Proofs.YtfjpcjebecgglaaGreatDoor
open Go.RowKit Go.Shelf
theorem Bld7.kept {B b : Nat} {l : List UInt8} {w w' : World} (h : Bld7 B b l w) (hb : Below w.heap.size w w') : Bld7 B b l w' := by
  have t := Turn.of_below (F := fun _ => False) hb
  rcases h with ⟨h1, v, h2, h3, h4⟩ | ⟨h1, v, h2, h3, h4⟩
  · exact .inl ⟨h1, v, t.lies h2 id, t.own h3 (fun _ _ => id), h4⟩
  · exact .inr ⟨h1, v, t.lies h2 id, t.own h3 (fun _ _ => id), h4⟩
theorem Lt.self_iff {z : Int} : Lt.self z = true ↔ 32 ≤ z ∧ z ≤ 126 ∧ z ≠ 92 := decide_eq_true_iff
theorem kescape7 (w : World) (A : Option Addr) (n c : Nat) (l : List Int) (h : NumS w A n l) (hn : n ≤ 100000) (hG : Gl w) :
    Calls Tryz.prog 127 #[.slice A n c] w fun e w' => EscSaid w (Lt.escOf l) e w' := by
  obtain ⟨Post, hPost⟩ : ∃ Post : Ending → World → Prop, Post = fun e w' => EscSaid w (Lt.escOf l) e w' := ⟨_, rfl⟩
  rw [← hPost]
  have HBad : Hid (l.all Lt.pt = false → ∀ w', Below w.heap.size w w' → Post (.returned (.tuple #[.string ⟨#[]⟩, .int .i64 1])) w') := fun h w' hb => by
    rw [hPost]
    refine ⟨?_, hb⟩
    rw [Lt.escOf, if_neg (by rw [h]; decide)]
  have HGood : Hid (l.all Lt.pt = true → ∀ w', Below w.heap.size w w' → Post (.returned (.tuple #[.string ⟨(Lt.escape l).toArray⟩, .int .i64 0])) w') := fun h w' hb => by
    rw [hPost]
    refine ⟨?_, hb⟩
    rw [Lt.escOf, if_pos h]
  have HH := Lib.hid h
  have HGl := Lib.hid hG
  have HAdd : Hid (∀ (a b : ByteArray) (W : World), a.size ≤ 8388608 → b.size ≤ 8388608 → (Op.stringOp .add a b).run Tryz.prog W = .ok (.string (a ++ b)) W) := fun a b W ha hb => run_string_add W a b (by omega) (by omega)
  have HFr : Hid (Bld7 w.heap.size w.heap.size [] (w.alloc (.cells #[.pointer none, .slice none 0 0] 116))) := Lib.fresh_isBuilder 116 5 w
  have HBl : Hid (Below w.heap.size w (w.alloc (.cells #[.pointer none, .slice none 0 0] 116))) := (Below.refl _ w).alloc (Nat.le_refl _) _
  clear hPost h hG
  go_enter Tryz.func127, Tryz.ntmps127
  go_wp2
  go_step3
  go_wp2
  go_step3
  go_wp2
  go_loopw [5, 10] (fun ev iv wr => ∃ (i : Nat) (L : List UInt8), i ≤ n ∧ iv = .int .i64 (i : Nat) ∧ ev = .int .i64 0 ∧ L.length ≤ 9 * i ∧ Hid (Below w.heap.size w wr ∧ Bld7 w.heap.size w.heap.size L wr ∧ L = Lt.escape (l.take i) ∧ ∀ z ∈ l.take i, Lt.pt z = true)) (fun _ iv _ => n - (intOf iv).toNat)
  case atStart => exact ⟨0, [], Nat.zero_le _, rfl, rfl, by decide, HBl.out, HFr.out, rfl, fun _ hz => absurd hz List.not_mem_nil⟩
  case round =>
    obtain ⟨i, L, hi, rfl, rfl, hLs, HI⟩ := hrel
    obtain ⟨hI0, hI1, hI2, hI3⟩ := HI.out
    have HB := Lib.hid hI0
    have HBd := Lib.hid hI1
    by_cases hlt : i < n
    · obtain ⟨b, off, z, rfl, hz, hmem, _, hc⟩ := HH.out.get hlt
      obtain ⟨q1, q2⟩ := hc wr hI0
      have hlt' : (i : Int) < (n : Int) := by omega
      have h0 : (0 : Int) ≤ (i : Int) := by omega
      have HPt := Lib.hid (kpoint7 z wr)
      cases hp : Lt.pt z with
      | false =>
        have HF := Lib.hid (HBad.out (Lt.all_false hmem hp) wr hI0)
        rw [hp] at HPt
        clear hI0 hI1 hI2 hI3 HI hz hmem hc hp HGood HBad HFr HBl
        go_wp2_with (go_at_call 142; refine HPt.out.mono ?_; rintro e w1 ⟨rfl, rfl⟩)
        first | exact HF.out | exact bodyPost_ret (by simp [results, Tryz.results127, go_sem]) rfl HF.out
      | true =>
        rw [hp] at HPt
        obtain ⟨z0, z1⟩ := Lt.pt_facts hp
        have htk : Lt.escape (l.take (i + 1)) = L ++ Lt.esc1 z := by
          rw [hI2, take_one hz, Lt.escape_app]
          simp [Lt.escape]
        have hall : ∀ y ∈ l.take (i + 1), Lt.pt y = true := by
          rw [take_one hz]
          intro y hy
          rcases List.mem_append.1 hy with hy | hy
          · exact hI3 y hy
          · rw [List.mem_singleton.1 hy]
            exact hp
        have HAll := Lib.hid hall
        have HSf := Lib.hid (kitself7 z wr)
        have hL1 := (Lt.esc1_facts hp).1
        by_cases hpl : 32 ≤ z ∧ z ≤ 126 ∧ z ≠ 92
        · rw [Lt.self_iff.2 hpl] at HSf
          obtain ⟨p1, p2, p3⟩ := hpl
          obtain ⟨ch, hch⟩ : ∃ ch : UInt8, z = (ch.toNat : Int) := ⟨UInt8.ofNat z.toNat, by simp; omega⟩
          subst hch
          rw [Lt.esc1_plain ⟨p1, p2, p3⟩, show UInt8.ofNat (ch.toNat : Int).toNat = ch by simp] at htk
          have HW := Lib.hid (kwbyte7 w.heap.size w.heap.size L ch wr hI1 (by omega) hI0.size)
          have HN := Lib.hid htk
          clear hI0 hI1 hI2 hI3 HI hz hmem hc hp HGood HBad HFr HBl htk hall hL1 HBd
          go_wp2_with (first
            | (go_at_call 142; refine HPt.out.mono ?_; rintro e w1 ⟨rfl, rfl⟩)
            | (go_at_call 144; refine HSf.out.mono ?_; rintro e w1 ⟨rfl, rfl⟩)
            | (go_at_call 99; refine HW.out.mono ?_; rintro e w2 ⟨rfl, bl2, b2, t2⟩; have B2 := Lib.hid (HB.out.trans b2); have BL2 := Lib.hid bl2; clear bl2 b2 t2))
          go_roundw
          case rel => exact ⟨i + 1, L ++ [ch], by omega, by go_num, rfl, by rw [List.length_append]; simp; omega, B2.out, BL2.out, HN.out.symm, HAll.out⟩
          case measure => simp [intOf]; omega
        · rw [show Lt.self z = false from Bool.eq_false_iff.2 fun e => hpl (Lt.self_iff.1 e)] at HSf
          obtain ⟨m, hm⟩ : ∃ m : Nat, z = (m : Int) := ⟨z.toNat, by omega⟩
          subst hm
          rw [Lt.esc1_hex hpl, Int.toNat_natCast] at htk
          have hm2 : m < 1048576 := by omega
          have HFm := Lib.hid (kformat7 m wr hm2 (HGl.out.below hI0))
          have hhl := (Lt.hex_facts 4 m (by omega)).2.1
          obtain ⟨H, hH⟩ : ∃ H : ByteArray, (⟨(Lt.hex m).toArray⟩ : ByteArray) = H := ⟨_, rfl⟩
          have hHd : H.data.toList = Lt.hex m := by rw [← hH]
          have hHs : H.size ≤ 5 := by rw [← Lt.len_bytes, hHd]; exact hhl
          rw [hH] at HFm
          have hT : ((⟨#[92, 117, 123]⟩ : ByteArray) ++ H ++ (⟨#[125]⟩ : ByteArray)).data.toList = 92 :: 117 :: 123 :: (Lt.hex m ++ [125]) ∧ ((⟨#[92, 117, 123]⟩ : ByteArray) ++ H ++ (⟨#[125]⟩ : ByteArray)).size = H.size + 4 := by
            obtain ⟨k1, k2⟩ := Lt.app_bytes ⟨#[92, 117, 123]⟩ H
            obtain ⟨k3, k4⟩ := Lt.app_bytes ((⟨#[92, 117, 123]⟩ : ByteArray) ++ H) ⟨#[125]⟩
            refine ⟨?_, ?_⟩
            · rw [k3, k1, hHd]
              simp
            · rw [k4, k2]
              show 3 + H.size + 1 = _
              omega
          have hadd1 := fun W => HAdd.out ⟨#[92, 117, 123]⟩ H W (by decide) (by omega)
          have hadd2 := fun W => HAdd.out ((⟨#[92, 117, 123]⟩ : ByteArray) ++ H) ⟨#[125]⟩ W (by rw [(Lt.app_bytes _ _).2]; show 3 + H.size ≤ _; omega) (by decide)
          generalize (⟨#[92, 117, 123]⟩ : ByteArray) ++ H = T1 at hadd1 hadd2 hT
          generalize T1 ++ (⟨#[125]⟩ : ByteArray) = T at hadd2 hT
          rw [← hT.1] at htk
          have hTs := hT.2
          have HN := Lib.hid htk
          have hTl : T.data.toList.length = T.size := Lt.len_bytes T
          clear hI0 hI1 hI2 hI3 HI hz hmem hc hp HGood HBad HFr HBl htk hall hL1 hH hHd hT hpl hhl hm2
          go_wp2_with (first
            | (go_at_call 142; refine HPt.out.mono ?_; rintro e w1 ⟨rfl, rfl⟩)
            | (go_at_call 144; refine HSf.out.mono ?_; rintro e w1 ⟨rfl, rfl⟩)
            | (go_at_call 145; refine HFm.out.mono ?_; rintro e w2 ⟨rfl, b2⟩; have B2 := Lib.hid (HB.out.trans (b2.mono HB.out.size)); have BL2 := Lib.hid (HBd.out.kept b2); clear b2)
            | (go_at_call 98; refine (kwstring7 w.heap.size w.heap.size L T _ BL2.out (by omega) B2.out.size).mono ?_; rintro e w3 ⟨rfl, bl3, b3, t3⟩; have B3 := Lib.hid (B2.out.trans b3); have BL3 := Lib.hid bl3; clear bl3 b3 t3))
          go_roundw
          case rel => exact ⟨i + 1, L ++ T.data.toList, by omega, by go_num, rfl, by rw [List.length_append]; omega, B3.out, BL3.out, HN.out.symm, HAll.out⟩
          case measure => simp [intOf]; omega
    · obtain rfl : i = n := by omega
      have htk : l.take i = l := List.take_of_length_le (by rw [HH.out.len]; exact Nat.le_refl _)
      rw [htk] at hI2 hI3
      have HF := Lib.hid (HGood.out (List.all_eq_true.2 hI3))
      have HSt := Lib.hid (Tryz.Builder_String_any w.heap.size w.heap.size L wr hI1 hI0.size)
      have HL := Lib.hid hI2
      clear hI0 hI1 hI2 hI3 HI htk HGood HBad HFr HBl
      go_wp2_with (go_at_call 62; refine HSt.out.mono ?_; rintro e w4 ⟨rfl, b4⟩; have HF4 := Lib.hid (HF.out w4 (HB.out.trans b4)); clear b4)
      rw [HL.out]
      first | exact HF4.out | exact bodyPost_ret (by simp [results, Tryz.results127, go_sem]) rfl HF4.out
end Go.Proofs.YtfjpcjebecgglaaGreatDoor
namespace Go.Proofs.YtfjpcjebecgglaaGreatDoor
open Go.RowKit
def ListSaid (w : World) (x : Int × List Int) (e : Ending) (w' : World) : Prop := (∃ A c, e = .returned (.tuple #[.slice A x.2.length c, .int .i64 x.1]) ∧ OwnN w' w.heap.size A c x.2) ∧ Below w.heap.size w w'
theorem ListSaid.err {w w' : World} {x : Int × List Int} {k : Int} (h : x = (k, [])) (hb : Below w.heap.size w w') : ListSaid w x (.returned (.tuple #[.slice none 0 0, .int .i64 k])) w' := by
  subst h
  exact ⟨⟨none, 0, rfl, OwnN.nil _ _⟩, hb⟩
theorem ListSaid.ok {w w' : World} {x : Int × List Int} {l : List Int} {A : Option Addr} {c m : Nat} (h : x = (0, l)) (hm : l.length = m) (ho : OwnN w' w.heap.size A c l) (hb : Below w.heap.size w w') : ListSaid w x (.returned (.tuple #[.slice A m c, .int .i64 0])) w' := by
  subst h
  subst hm
  exact ⟨⟨A, c, rfl, ho⟩, hb⟩
theorem Lt.take_total {R : List (Int × Int)} {i : Nat} {x : Int × Int} (h : R[i]? = some x) : Lt.total (R.take (i + 1)) = Lt.total (R.take i) + x.2 := by
  rw [take_one h, Lt.total_app, Lt.total, Lt.total]
  omega
theorem Lt.take_le {R : List (Int × Int)} (i : Nat) (h : ∀ x ∈ R, ¬ x.2 < 1) : Lt.total (R.take i) ≤ Lt.total R := by
  have e : Lt.total (R.take i) + Lt.total (R.drop i) = Lt.total R := by rw [← Lt.total_app, List.take_append_drop]
  have := Lt.total_pos (R := R.drop i) fun x hx => h x (List.mem_of_mem_drop hx)
  omega
end Go.Proofs.YtfjpcjebecgglaaGreatDoor
