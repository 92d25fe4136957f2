/- What the proofs of this claim use, text by text. -/
import Derived.Test.YtcgaeknikfaghaaGreatDoorQC39
import Derived.StillTailTactics
set_option linter.unusedSimpArgs false
set_option linter.unusedVariables false
set_option maxRecDepth 100000
set_option maxHeartbeats 25600000
namespace Go.Proofs.YtcgaeknikfaghaaGreatDoor
open Go.RowKit
abbrev dcl (q : DcP × Dc) : List Value := dcells q.1 q.2
def OwnDs (w : World) (B : Nat) (A : Option Addr) (c : Nat) (L : List (DcP × Dc)) : Prop := w.ownsRow B 56 10 (.slice A L.length c) L.length (L.flatMap dcl)
theorem infoDc : (Tryz.prog.info? 56).map (fun i => (i.zero, i.size, i.bytes)) = some (some (.agg #[.string ByteArray.empty, .int .i64 0, .bool false, .slice none 0 0, .bool false, .int .i64 0, .string ByteArray.empty, .int .i64 0, .int .i64 0, .slice none 0 0]), 10, 128) := by kernel_rfl
theorem dcl_one (L : List (DcP × Dc)) : ∀ u ∈ L.flatMap dcl, u.oneCell' = true := by
  intro u hu
  obtain ⟨q, _, hu⟩ := List.mem_flatMap.1 hu
  simp at hu
  rcases hu with rfl | rfl | rfl | rfl | rfl | rfl | rfl | rfl | rfl | rfl <;> rfl
theorem DcS.cells {w : World} {G : Nat → Prop} {ad : Addr} {n c : Nat} {L : List (DcP × Dc)} (h : DcS w G (some ad) n c L) (j : Nat) (u : Value) (hu : (L.flatMap dcl)[j]? = some u) : w.cell? (ad.add j) = some u := by
  obtain ⟨q, hq, hju⟩ := flat_at (k := 10) (f := dcl) (fun _ => rfl) (by decide) hu
  have hil := (List.getElem?_eq_some_iff.1 hq).1
  obtain ⟨b, off, e, _, _, hc⟩ := h.at_ (by have := h.len; omega)
  obtain rfl := Option.some.inj e
  rw [addr_add, show j = j / 10 * 10 + j % 10 by omega, ← Nat.add_assoc]
  exact (hc _ q hq).1 _ u hju
theorem copyDc (w : World) {G : Nat → Prop} {ops : Array Oper} {rest : List Oper} {o : Oper} {a : Act} {Q : Exit → Act → World → Prop} (hgd : o.guard = none) (x : Operand)
    (ho : o.op = .call { callee := .builtin .append, args := #[.const (.slice none 0 0), x], argTypes := #[22, 22] }) (A : Option Addr) (n c : Nat) (L : List (DcP × Dc))
    (hx : a.eval x = .slice A n c) (hr : DcS w G A n c L) (hn : n ≤ 10000000)
    (h : ∀ A' c' w', OwnDs w' w.heap.size A' c' L → Below w.heap.size w w' → wpList Tryz.prog ops Q rest (a.put o.dst (.slice A' n c')) w') :
    wpList Tryz.prog ops Q (o :: rest) a w := by
  obtain ⟨i0, hi, hz0, hz1, hz2⟩ := info_parts infoDc
  have hl := hr.len
  cases A with
  | none =>
    obtain ⟨rfl, rfl⟩ := hr.nil rfl
    obtain rfl := List.eq_nil_of_length_eq_zero hl
    exact wpList_append_own_none hgd _ x 22 ho w.heap.size 56 i0 10 Tryz.underlying22 hi (.slice none 0 0) 0 [] rfl (World.ownsRow_nil _ _ _ _) hx (h none 0 w (World.ownsRow_nil _ _ _ _) (Below.refl _ _))
  | some ad =>
    refine wpList_append_own_at w hgd _ x 22 ho w.heap.size 56 i0 (.agg #[.string ByteArray.empty, .int .i64 0, .bool false, .slice none 0 0, .bool false, .int .i64 0, .string ByteArray.empty, .int .i64 0, .int .i64 0, .slice none 0 0]) 10 128 Tryz.underlying22 hi hz0 hz1 hz2 rfl (by decide) (.slice none 0 0) 0 [] rfl (World.ownsRow_nil _ _ _ _)
      ad n c (L.flatMap dcl) hx (by rw [flat_len (k := 10) (fun _ => rfl), hl]) (fun j u hu => hr.cells j u hu) (dcl_one L) (by unfold maxLen; omega) (by omega) (Nat.le_refl _) fun v' w' q1 q2 _ _ => ?_
    simp only [Nat.zero_add, List.nil_append] at q1
    obtain ⟨A', c', rfl⟩ := own_form q1
    have hb : Below w.heap.size w w' := ⟨q2.os, q2.tape, q2.output, q2.size, fun k hk => q2.block k hk (by simp [Value.ownBlock])⟩
    subst hl
    exact h A' c' w' q1 hb
theorem appendDc (w : World) {G : Nat → Prop} {ops : Array Oper} {rest : List Oper} {o : Oper} {a : Act} {Q : Exit → Act → World → Prop} (hgd : o.guard = none) (s x : Operand)
    (ho : o.op = .call { callee := .builtin .append, args := #[s, x], argTypes := #[22, 22] }) (B : Nat) (A0 : Option Addr) (c0 : Nat) (M : List (DcP × Dc)) (m : Nat) (hm : M.length = m) (A : Option Addr) (n c : Nat) (L : List (DcP × Dc))
    (hs : a.eval s = .slice A0 m c0) (hown : OwnDs w B A0 c0 M) (hx : a.eval x = .slice A n c) (hr : DcS w G A n c L) (hmn : m + n ≤ 10000000) (hB : B ≤ w.heap.size)
    (h : ∀ A' c' w', OwnDs w' B A' c' (M ++ L) → Below B w w' → wpList Tryz.prog ops Q rest (a.put o.dst (.slice A' (m + n) c')) w') :
    wpList Tryz.prog ops Q (o :: rest) a w := by
  obtain ⟨i0, hi, hz0, hz1, hz2⟩ := info_parts infoDc
  have hl := hr.len
  subst hm
  cases A with
  | none =>
    obtain ⟨rfl, rfl⟩ := hr.nil rfl
    obtain rfl := List.eq_nil_of_length_eq_zero hl
    refine wpList_append_own_none hgd s x 22 ho B 56 i0 10 Tryz.underlying22 hi _ M.length (M.flatMap dcl) hs hown hx ?_
    have := h A0 c0 w (by rw [List.append_nil]; exact hown) (Below.refl _ _)
    rwa [Nat.add_zero] at this
  | some ad =>
    refine wpList_append_own_at w hgd s x 22 ho B 56 i0 (.agg #[.string ByteArray.empty, .int .i64 0, .bool false, .slice none 0 0, .bool false, .int .i64 0, .string ByteArray.empty, .int .i64 0, .int .i64 0, .slice none 0 0]) 10 128 Tryz.underlying22 hi hz0 hz1 hz2 rfl (by decide) _ M.length (M.flatMap dcl) hs hown
      ad n c (L.flatMap dcl) hx (by rw [flat_len (k := 10) (fun _ => rfl), hl]) (fun j u hu => hr.cells j u hu) (dcl_one L) (by unfold maxLen; omega) (by omega) hB fun v' w' q1 q2 _ _ => ?_
    rw [← List.flatMap_append] at q1
    obtain ⟨A', c', rfl⟩ := own_form q1
    have hb : Below B w w' := (Below.refl B w).grown q2 hB fun k hk => (World.ownsRow.lt hown k hk).1
    subst hl
    refine h A' c' w' ?_ hb
    unfold OwnDs
    rw [List.length_append]
    exact q1
theorem OwnDs.decls {w : World} {B : Nat} {A : Option Addr} {c n : Nat} {L : List (DcP × Dc)} (h : OwnDs w B A c L) (hn : L.length = n) {G : Nat → Prop} (hG : ∀ k, B ≤ k → k < w.heap.size → G k) (hL : ∀ q ∈ L, DcAs w G q.1 q.2) : DcS w G A n c L := by
  subst hn
  unfold OwnDs at h
  refine ⟨rfl, fun e => ?_, fun hn => ?_⟩
  · subst e
    rcases h.2 with ⟨e, _⟩ | ⟨g, cap, cur, e, _⟩
    · injection e with _ e1 e2
      exact ⟨e1, e2⟩
    · injection e with e1
      cases e1
  · have hlt := fun g hg => World.ownsRow.lt h g hg
    rcases h.2 with ⟨_, e⟩ | ⟨g, cap, cur, e, _⟩
    · omega
    · injection e with e1 _ _
      subst e1
      refine ⟨g, 0, rfl, hG g (hlt g rfl).1 (hlt g rfl).2, (hlt g rfl).2, fun i q hq => ⟨fun j u hu => ?_, hL q (List.mem_of_getElem? hq)⟩⟩
      have hj : j < 10 := (List.getElem?_eq_some_iff.1 hu).1
      have := h.cells (g := g) rfl (i * 10 + j) u (by rw [flat_get (k := 10) (f := dcl) (fun _ => rfl) L i j q hq hj]; exact hu)
      simpa [addr_add, Nat.add_assoc] using this
theorem DcS.each {w : World} {G : Nat → Prop} {A : Option Addr} {n c : Nat} {L : List (DcP × Dc)} (h : DcS w G A n c L) : ∀ q ∈ L, DcAs w G q.1 q.2 := fun q hq => by
  obtain ⟨i, hi⟩ := List.getElem?_of_mem hq
  have hl := h.len
  have := (List.getElem?_eq_some_iff.1 hi).1
  obtain ⟨b, off, _, _, _, hc⟩ := h.at_ (by omega)
  exact (hc i q hi).2
theorem buildMore_walk (w : World) (A : Option Addr) (n c : Nat) (L : List (DcP × Dc)) (A2 : Option Addr) (m c2 : Nat) (M : List (DcP × Dc)) (x : Sx) (xA : Option Addr) (xc : Nat) (h : Came w A n c L x xA xc) (h2 : Came w A2 m c2 M x xA xc) (hmn : m + n ≤ 1048576) (hT : Pow9 w) (hK : Ask9 w) (hG : Gl w) :
    Calls Tryz.prog 9 #[.slice A n c, .slice A2 m c2, sval x xA xc] w fun e w' => e = .returned (.bool true) ∧ Below w.heap.size w w' := by
  obtain ⟨W0, hW0⟩ : ∃ W0, w.alloc (sbox x xA xc) = W0 := ⟨_, rfl⟩
  have hB0 : Below w.heap.size w W0 := by rw [← hW0]; exact (Below.refl _ w).alloc (Nat.le_refl _) _
  have HBox : Hid (∀ W, Below W0.heap.size W0 W → XCells W w.heap.size x xA xc) := fun W hW => xbox w x xA xc (by rw [hW0]; exact hW)
  have h0 := h.below hB0
  have h20 := h2.below hB0
  have hT0 := hT.on hB0
  have hK0 := hK.below hB0
  have hG0 := hG.below hB0
  have HA := Lib.hid (kawake10 W0 hT0 hK0 hG0)
  have HLater : Hid (∀ W, Below W0.heap.size W0 W → Came W A n c L x xA xc ∧ Came W A2 m c2 M x xA xc ∧ Pow9 W ∧ Ask9 W ∧ Gl W) := fun W hW => ⟨h0.below hW, h20.below hW, hT0.on hW, hK0.below hW, hG0.below hW⟩
  have HAll : Hid (∀ (W : World) (B : Nat) (A3 : Option Addr) (c3 : Nat), Below W0.heap.size W0 W → W0.heap.size ≤ B → OwnDs W B A3 c3 (M ++ L) → Came W A3 (m + n) c3 (M ++ L) x xA xc) := fun W B A3 c3 hW hB ho => by
    have k1 := h0.below hW
    have k2 := h20.below hW
    refine ⟨ho.decls (by rw [List.length_append, k1.dc.len, k2.dc.len]) (fun _ _ _ => trivial) fun q hq => (List.mem_append.1 hq).elim (k2.dc.each q) (k1.dc.each q), by omega, fun q hq => (List.mem_append.1 hq).elim (k2.dcs q) (k1.dcs q), k1.tree, k1.size, k1.wide⟩
  have HB0 := Lib.hid hB0
  have HUs := Lib.hid fun (W : World) (hW : Below W0.heap.size W0 W) (s : ByteArray) => kuses10 s x.size x xA xc W (Nat.le_refl _) (by have := h0.size; omega) (h0.tree.kept hW)
  have HUb : Hid (∀ (W : World) (k : Nat) (s : ByteArray), Below W0.heap.size W0 W → k < n → ∃ b off P d, A = some ⟨b, off, none⟩ ∧ (L.map (·.2))[k]? = some d ∧ (∀ W', Below W0.heap.size W0 W' → b < W'.heap.size ∧ ∀ j u, (dcells P d)[j]? = some u → W'.cell? ⟨b, off + k * 10 + j, none⟩ = some u) ∧ ∀ W', Below W0.heap.size W0 W' → Calls Tryz.prog 28 #[sval d.body P.B P.d, .string s] W' fun e w' => e = .returned (.bool (d.body.uses s)) ∧ Below W'.heap.size W' w') := fun W k s hW hk => by
    obtain ⟨b, off, P, d, e, _, hLi, hD, hda, hc⟩ := h0.dc.get hk
    exact ⟨b, off, P, d, e, hD, fun W' hW' => hc W' (Turn.of_below hW'), fun W' hW' => kuses10 s d.body.size d.body P.B P.d W' (Nat.le_refl _) (by have := (h0.dcs _ (List.mem_of_getElem? hLi)).size; simp only at this; omega) ⟨hda.body.le, (hda.body.tree.mono fun _ _ _ _ => trivial).kept hW'⟩⟩
  have HMd : Hid (∀ i, i < m → ∃ b off P d, A2 = some ⟨b, off, none⟩ ∧ (M.map (·.2))[i]? = some d ∧ ∀ W', Below W0.heap.size W0 W' → b < W'.heap.size ∧ ∀ j u, (dcells P d)[j]? = some u → W'.cell? ⟨b, off + i * 10 + j, none⟩ = some u) := fun i hi => by
    obtain ⟨b, off, P, d, e, _, _, hD, _, hc⟩ := h20.dc.get hi
    exact ⟨b, off, P, d, e, hD, fun W' hW' => hc W' (Turn.of_below hW')⟩
  obtain ⟨_, b0, b1, b2, b3, b4, b5⟩ := (sbox_at w x xA xc)
  rw [hW0] at b0 b1 b2 b3 b4 b5
  simp only [Nat.zero_add] at b0 b1 b2 b3 b4 b5
  have hln := h0.dc.len
  have hlm := h20.dc.len
  have HLn := Lib.hid (And.intro hln hlm)
  have hMl : M.length = m := hlm
  clear h h2 h0 h20 hT hK hG hT0 hK0 hG0 hB0 hln hlm
  obtain ⟨xn, hxn⟩ : ∃ xn, x.L.length = xn := ⟨_, rfl⟩
  have HXn := Lib.hid hxn
  have hsv : sval x xA xc = .agg #[.bool x.list, .int .i64 x.k, .string x.T, .int .i64 x.ta, .int .i64 x.at_, .slice xA xn xc] := by unfold sval; rw [hxn]
  have HSv := Lib.hid hsv
  rw [hsv]
  rw [hxn] at b5
  have hW0' : w.alloc (.cells #[.bool x.list, .int .i64 x.k, .string x.T, .int .i64 x.ta, .int .i64 x.at_, .slice xA xn xc] 27) = W0 := by rw [← hW0, ← hxn]
  clear hW0 hxn hsv
  go_enter Tryz.func9, Tryz.ntmps9
  go_wp2_with fail
  refine HA.out.mono ?_
  rintro e w1 ⟨rfl, b1'⟩
  have HB1 := Lib.hid b1'
  clear HA b1' b0 b1 b2 b3 b4 b5 hW0'
  have HD1 := Lib.hid (HLater.out w1 HB1.out).2.1.dc
  have hm1 : m ≤ 10000000 := by omega
  have hmn1 : m + n ≤ 10000000 := by omega
  have HL1 := Lib.hid fun (W : World) (hW : Below w1.heap.size w1 W) => (HLater.out W (HB1.out.trans (hW.mono HB1.out.size))).1.dc
  have HX : Hid (∀ W, Below W0.heap.size W0 W → W.cell? ⟨w.heap.size, 0, none⟩ = some (.bool x.list) ∧ W.cell? ⟨w.heap.size, 1, none⟩ = some (.int .i64 x.k) ∧ W.cell? ⟨w.heap.size, 2, none⟩ = some (.string x.T) ∧ W.cell? ⟨w.heap.size, 3, none⟩ = some (.int .i64 x.ta) ∧ W.cell? ⟨w.heap.size, 4, none⟩ = some (.int .i64 x.at_) ∧ W.cell? ⟨w.heap.size, 5, none⟩ = some (.slice xA xn xc)) := fun W hW => by
    have := HBox.out W hW
    unfold XCells at this
    rw [HXn.out] at this
    exact this
  go_wp2_with (first | (at_builtin; refine copyDc _ rfl (.tmp 22) rfl A2 m c2 M rfl HD1.out hm1 ?_; intro A3 c3 w3 o3 b3'; have HO3 := Lib.hid o3; have HB3 := Lib.hid b3'; have HD3 := Lib.hid (HL1.out w3 b3'); have hB13 : w1.heap.size ≤ w3.heap.size := b3'.size; clear o3 b3') | (at_builtin; refine appendDc _ rfl (.tmp 23) (.tmp 24) rfl w1.heap.size A3 c3 M m hMl A n c L rfl HO3.out rfl HD3.out hmn1 hB13 ?_; intro A4 c4 w4 o4 b4'; have HO4 := Lib.hid o4; have hb4 := HB1.out.trans ((HB3.out.trans b4').mono HB1.out.size); have HB4 := Lib.hid hb4; obtain ⟨r0, r1, r2, r3, r4, r5⟩ := HX.out w4 hb4; clear o4 b4' hb4))
  have HF4 := Lib.hid (HLater.out w4 HB4.out).1.few
  rw [HSv.out] at HF4
  have HZ1 : Hid (W0.heap.size ≤ w1.heap.size) := HB1.out.size
  clear HO3 HB3 HD3 hB13 HL1 HD1 HB1 hm1 hmn1 hMl
  refine HF4.out.mono ?_
  rintro e w5 ⟨⟨v1, rfl, hv1⟩, b5'⟩
  have hb5 := HB4.out.trans (b5'.mono HB4.out.size)
  have hAl := HAll.out w5 w1.heap.size A4 c4 hb5 HZ1.out ((Turn.of_below (F := fun _ => False) b5').own HO4.out (fun _ _ => id))
  have HB5 := Lib.hid hb5
  have HF5 := Lib.hid hAl.few
  have HAl := Lib.hid hAl
  rw [HSv.out] at HF5
  clear HF4 r0 r1 r2 r3 r4 r5 b5' HB4 HO4 hAl hb5 HAll
  obtain ⟨r0, r1, r2, r3, r4, r5⟩ := HX.out w5 HB5.out
  go_wp2_with fail
  refine HF5.out.mono ?_
  rintro e w6 ⟨⟨v2, rfl, hv2⟩, b6'⟩
  have hb6 := HB5.out.trans (b6'.mono HB5.out.size)
  have HB6 := Lib.hid hb6
  have HAl6 := Lib.hid (HAl.out.below b6')
  have HE6 := Lib.hid (HB0.out.trans (hb6.mono HB0.out.size))
  clear HF5 r0 r1 r2 r3 r4 r5 b6' HB5 hb6 HAl HZ1
  cases v1 with
  | false =>
    clear hv1 hv2 HAl6 HUs HUb HMd HX HBox HLater HSv HXn HLn
    go_wp2
    go_ret
    exact ⟨rfl, HE6.out⟩
  | true =>
  cases v2 with
  | false =>
    clear hv1 hv2 HAl6 HUs HUb HMd HX HBox HLater HSv HXn HLn
    go_wp2
    go_ret
    exact ⟨rfl, HE6.out⟩
  | true =>
  have Hf1 := Lib.hid (hv1 rfl)
  have Hf2 := Lib.hid (hv2 rfl)
  clear hv1 hv2 HE6
  have hm9 : m ≤ 1048576 := by omega
  have hn9 : n ≤ 1048576 := by omega
  go_wp2
  go_loopw [11, 12, 13, 14] (fun iv uv kv nv wr => ∃ i : Nat, i ≤ m ∧ iv = .int .i64 (i : Nat) ∧ Hid (Below w6.heap.size w6 wr) ∧ Hid (∀ (j : Nat) d, j < i → (M.map (·.2))[j]? = some d → x.uses d.name = false ∧ ∀ (k : Nat) e, (L.map (·.2))[k]? = some e → e.body.uses d.name = false)) (fun iv _ _ _ _ => m - (intOf iv).toNat)
  case atStart => exact ⟨0, Nat.zero_le _, rfl, Below.refl _ _, fun _ _ h => absurd h (Nat.not_lt_zero _)⟩
  case round =>
    obtain ⟨i, hi, rfl, HW, HI⟩ := hrel
    by_cases hlt : i < m
    · obtain ⟨b, off, P, d, rfl, hd, hc⟩ := HMd.out i hlt
      have HWr : Hid (Below W0.heap.size W0 wr) := HB6.out.trans (HW.out.mono HB6.out.size)
      have HWd : Hid (Below W0.heap.size W0 wr.drew) := ⟨HWr.out.os, HWr.out.tape, HWr.out.output, HWr.out.size, HWr.out.block⟩
      have HNm : Hid (∀ W', Below W0.heap.size W0 W' → b < W'.heap.size ∧ W'.cell? ⟨b, off + i * 10, none⟩ = some (.string d.name)) := fun W' hW' => by
        obtain ⟨q1, q2⟩ := hc W' hW'
        exact ⟨q1, by have := q2 0 _ rfl; rwa [Nat.add_zero] at this⟩
      have HU := Lib.hid (HUs.out wr.drew HWd.out d.name)
      rw [HSv.out] at HU
      obtain ⟨hbl, cn⟩ := HNm.out wr HWr.out
      obtain ⟨r0, r1, r2, r3, r4, r5⟩ := HX.out wr HWr.out
      have hlt' : (i : Int) < (m : Int) := by omega
      have hi0 : (0 : Int) ≤ (i : Int) := by omega
      have hiw : IntKind.i64.wrap ((i : Int) + 1) = (i : Int) + 1 := IntWalk.i64_in _ (by omega)
      obtain ⟨ux, hux⟩ : ∃ ux, x.uses d.name = ux := ⟨_, rfl⟩
      rw [hux] at HU
      have HUx := Lib.hid hux
      have HD := Lib.hid hd
      clear hc hux hd HUs HMd HAl6 Hf1 Hf2
      go_wp2_with fail
      go_still_tail 6, (by kernel_rfl)
      change wpList _ _ _ _ _ wr.drew
      go_wp2_with fail
      refine HU.out.mono ?_
      rintro e w7 ⟨rfl, b7'⟩
      have HW7 := Lib.hid (HWd.out.trans (b7'.mono HWd.out.size))
      have HB67 : Hid (Below w6.heap.size w6 w7) := HW.out.trans (((⟨rfl, rfl, rfl, Nat.le_refl _, fun _ _ => rfl⟩ : Below wr.heap.size wr wr.drew).trans (b7'.mono (Nat.le_refl _))).mono HW.out.size)
      clear HU b7' hbl cn r0 r1 r2 r3 r4 r5 HWr HWd HW
      go_wp2
      go_loopw [12, 13, 14] (fun uv kv nv wq => ∃ (k : Nat) (u : Bool), k ≤ n ∧ uv = .bool u ∧ kv = .int .i64 (k : Nat) ∧ Hid (Below w7.heap.size w7 wq) ∧ Hid (u = false → x.uses d.name = false ∧ ∀ (j : Nat) e, j < k → (L.map (·.2))[j]? = some e → e.body.uses d.name = false)) (fun _ kv _ _ => n - (intOf kv).toNat)
      case atStart => exact ⟨0, ux, Nat.zero_le _, rfl, rfl, Below.refl _ _, fun e => ⟨by rw [HUx.out, e], fun _ _ h => absurd h (Nat.not_lt_zero _)⟩⟩
      case round =>
        obtain ⟨k, u, hk, rfl, rfl, HQ, HJ⟩ := hrel
        by_cases hlt2 : k < n
        · obtain ⟨b2, off2, P2, d2, rfl, hd2, hc2, hu2⟩ := HUb.out w7 k d.name HW7.out hlt2
          have HWq : Hid (Below W0.heap.size W0 wr) := HW7.out.trans (HQ.out.mono HW7.out.size)
          have HWqd : Hid (Below W0.heap.size W0 wr.drew) := ⟨HWq.out.os, HWq.out.tape, HWq.out.output, HWq.out.size, HWq.out.block⟩
          have HU2 := Lib.hid (hu2 wr.drew HWqd.out)
          obtain ⟨hbl, cn⟩ := HNm.out wr HWq.out
          obtain ⟨hbl2, hcc⟩ := hc2 wr HWq.out
          have k4 := hcc 4 _ rfl
          have k5 := hcc 5 _ rfl
          have k6 := hcc 6 _ rfl
          have k7 := hcc 7 _ rfl
          have k8 := hcc 8 _ rfl
          have k9 := hcc 9 _ rfl
          have HN2 : Hid (∀ W', Below W0.heap.size W0 W' → b2 < W'.heap.size ∧ W'.cell? ⟨b2, off2 + k * 10, none⟩ = some (.string d2.name)) := fun W' hW' => by
            obtain ⟨q1, q2⟩ := hc2 W' hW'
            exact ⟨q1, by have := q2 0 _ rfl; rwa [Nat.add_zero] at this⟩
          obtain ⟨ub, hub⟩ : ∃ ub, d2.body.uses d.name = ub := ⟨_, rfl⟩
          rw [hub] at HU2
          obtain ⟨ln, hlnn⟩ : ∃ ln, d2.body.L.length = ln := ⟨_, rfl⟩
          unfold sval at HU2
          rw [hlnn] at HU2 k9
          have hklt : (k : Int) < (n : Int) := by omega
          have hk0 : (0 : Int) ≤ (k : Int) := by omega
          have hkw : IntKind.i64.wrap ((k : Int) + 1) = (k : Int) + 1 := IntWalk.i64_in _ (by omega)
          have HNext : Hid (∀ u', u' = false → u = false → ub = false → x.uses d.name = false ∧ ∀ (j : Nat) e, j < k + 1 → (L.map (·.2))[j]? = some e → e.body.uses d.name = false) := fun u' _ e1 e2 => by
            obtain ⟨q1, q2⟩ := HJ.out e1
            refine ⟨q1, fun j e hj he => ?_⟩
            rcases Nat.lt_or_ge j k with l1 | l1
            · exact q2 j e l1 he
            · obtain rfl : j = k := by omega
              rw [hd2] at he
              injection he with he
              rw [← he, hub, e2]
          obtain ⟨qe, hqe⟩ : ∃ qe, (d2.name.toList == d.name.toList) = qe := ⟨_, rfl⟩
          clear hub hlnn hc2 hu2 hcc hd2 HJ
          go_wp2_with fail
          go_still_tail 10, (by kernel_rfl)
          change wpList _ _ _ _ _ wr.drew
          go_wp2_with fail
          refine HU2.out.mono ?_
          rintro e w8 ⟨rfl, b8'⟩
          have hw8 := HWqd.out.trans (b8'.mono HWqd.out.size)
          have HB78 : Hid (Below w7.heap.size w7 w8) := HQ.out.trans (((⟨rfl, rfl, rfl, Nat.le_refl _, fun _ _ => rfl⟩ : Below wr.heap.size wr wr.drew).trans (b8'.mono (Nat.le_refl _))).mono HQ.out.size)
          clear HU2 b8' hbl cn hbl2 k4 k5 k6 k7 k8 k9 HWq HWqd HQ
          obtain ⟨hbl, cn⟩ := HNm.out w8 hw8
          obtain ⟨hbl2, cn2⟩ := HN2.out w8 hw8
          clear hw8 HN2
          cases u with
          | true =>
            go_wp2_with fail
            go_quiet (fail)
            go_wp2
            go_roundw
            case rel => exact ⟨k + 1, true, by omega, rfl, by go_num, below_drewN HB78.out nq, fun e => by cases e⟩
            case measure => simp [intOf]; omega
          | false =>
            cases ub with
            | true =>
              go_wp2_with fail
              go_quiet (fail)
              go_wp2
              go_roundw
              case rel => exact ⟨k + 1, true, by omega, rfl, by go_num, below_drewN HB78.out nq, fun e => by cases e⟩
              case measure => simp [intOf]; omega
            | false =>
              have HNx : Hid (qe = false → x.uses d.name = false ∧ ∀ (j : Nat) e, j < k + 1 → (L.map (·.2))[j]? = some e → e.body.uses d.name = false) := fun e => HNext.out qe e rfl rfl
              clear HNext
              go_wp2_with fail
              go_quiet (fail)
              go_wp2
              go_roundw
              case rel => exact ⟨k + 1, qe, by omega, rfl, by go_num, below_drewN HB78.out nq, HNx.out⟩
              case measure => simp [intOf]; omega
        · obtain rfl : k = n := by omega
          have hklt : ¬ (k : Int) < (k : Int) := by omega
          cases u with
          | true =>
            have HE := Lib.hid (HB0.out.trans ((HW7.out.trans (HQ.out.mono HW7.out.size)).mono HB0.out.size))
            clear HQ HJ HW7 HB67 HNm HUb HX HI HB6 HLater
            go_wp2
            go_ret
            exact ⟨rfl, HE.out⟩
          | false =>
            have HNx : Hid (∀ (j : Nat) d, j < i + 1 → (M.map (·.2))[j]? = some d → x.uses d.name = false ∧ ∀ (k : Nat) e, (L.map (·.2))[k]? = some e → e.body.uses d.name = false) := fun j d' hj hd' => by
              rcases Nat.lt_or_ge j i with l1 | l1
              · exact HI.out j d' l1 hd'
              · obtain rfl : j = i := by omega
                rw [HD.out] at hd'
                injection hd' with hd'
                subst hd'
                obtain ⟨q1, q2⟩ := HJ.out rfl
                exact ⟨q1, fun k' e he => q2 k' e (by have := (List.getElem?_eq_some_iff.1 he).1; rw [List.length_map, HLn.out.1] at this; exact this) he⟩
            have HBx : Hid (Below w6.heap.size w6 wr) := HB67.out.trans (HQ.out.mono HB67.out.size)
            clear HQ HJ HW7 HB67 HNm HUb HX HI HB6 HLater
            go_wp2
            go_roundw
            case rel => exact ⟨i + 1, by omega, by go_num, HBx.out, HNx.out⟩
            case measure => simp [intOf]; omega
    · obtain rfl : i = m := by omega
      have hlt' : ¬ (i : Int) < (i : Int) := by omega
      have hbr := HB6.out.trans (HW.out.mono HB6.out.size)
      obtain ⟨hcr, _, hTr, hKr, hGr⟩ := HLater.out wr hbr
      have hal := HAl6.out.below HW.out
      have hfr : ∀ d ∈ M.map (·.2), x.uses d.name = false ∧ ∀ e ∈ L.map (·.2), e.body.uses d.name = false := fun d hd => by
        obtain ⟨j, hj⟩ := List.getElem?_of_mem hd
        obtain ⟨q1, q2⟩ := HI.out j d (by have := (List.getElem?_eq_some_iff.1 hj).1; rw [List.length_map, HLn.out.2] at this; exact this) hj
        refine ⟨q1, fun e he => ?_⟩
        obtain ⟨k, hk⟩ := List.getElem?_of_mem he
        exact q2 k e hk
      have hmore := Bd.more (M.map (·.2)) (L.map (·.2)) (fun e he d hd => (hfr d hd).2 e he) n x (fun d hd => (hfr d hd).1) [] []
      rw [List.length_map, HLn.out.2, ← List.map_append] at hmore
      have HMo := Lib.hid hmore
      obtain ⟨W1, hW1⟩ : ∃ W1, wr.alloc (.cells Z9 37) = W1 := ⟨_, rfl⟩
      obtain ⟨W2, hW2⟩ : ∃ W2, W1.alloc (.cells Z9 37) = W2 := ⟨_, rfl⟩
      have hb1 : Below wr.heap.size wr W1 := by rw [← hW1]; exact (Below.refl _ wr).alloc (Nat.le_refl _) _
      have hb12 : Below W1.heap.size W1 W2 := by rw [← hW2]; exact (Below.refl _ W1).alloc (Nat.le_refl _) _
      have hs1 : W1.heap.size = wr.heap.size + 1 := by rw [← hW1]; exact Array.size_push ..
      have hbeg1 := hcr.begin Hf1.out hTr hKr (Below.refl _ wr)
      rw [hW1] at hbeg1
      have hbeg2 := hal.begin Hf2.out hTr hKr hb1
      rw [hW2] at hbeg2
      have HT1 := Lib.hid (hcr.term Hf1.out hGr (hbeg1.below hb12) Tm.Inv.nil (Nat.zero_le _))
      have HT2 := Lib.hid fun (W : World) (hB : Mk.Begin wr W W1.heap.size (fun k => k = W1.heap.size) [] A4 (i + n) c4 (M ++ L)) => hal.term Hf2.out hGr hB Tm.Inv.nil (Nat.zero_le _)
      rw [HMo.out] at HT2
      have hgood := (Bd.good (L.map (·.2)) n x [] [] Tm.Inv.nil (fun _ h => (List.not_mem_nil h).elim)).2
      obtain ⟨T, hTT⟩ : ∃ T, Bd.tm (L.map (·.2)) n [] [] x = T := ⟨_, rfl⟩
      rw [hTT] at HT1 HT2
      obtain ⟨N1, idz, er⟩ := T
      rw [HSv.out] at HT1 HT2
      obtain ⟨r0, r1, r2, r3, r4, r5⟩ := HX.out W2 (hbr.trans ((hb1.trans (hb12.mono hb1.size)).mono hbr.size))
      have hne : wr.heap.size < W1.heap.size := by omega
      have HBeg1 := Lib.hid (hbeg1.below hb12)
      have HBeg2 := Lib.hid hbeg2
      have HBr := Lib.hid hbr
      have HAl7 := Lib.hid hal
      have HNe := Lib.hid hne
      have HL2 : Hid (W1.heap.size < W2.heap.size) := hbeg2.bk.lt _ rfl
      clear hbr hcr hTr hKr hGr hal hfr hmore hb1 hb12 hs1 hbeg1 hbeg2 hgood hTT hne HUs HUb HMd HBox HLater HSv HXn HLn HAl6 Hf1 Hf2 HI HMo
      go_wp2_with fail
      refine HT1.out.mono ?_
      rintro e w7 ⟨rfl, F7, k7, t7, f7⟩
      have hbw7 : Below wr.heap.size wr w7 := HBeg1.out.base.trans (t7.below HBeg1.out.base.size HBeg1.out.low)
      have hbk2 := HBeg2.out.bk.turn t7 (fun k hk hk2 => by have h1 : k = W1.heap.size := hk; have h2 : k = wr.heap.size := hk2; have := HNe.out; omega)
      have hbeg2 : Mk.Begin wr w7 W1.heap.size (fun k => k = W1.heap.size) [] A4 (i + n) c4 (M ++ L) := ⟨hbw7, HBeg2.out.T, HBeg2.out.K, hbk2, HBeg2.out.low, HAl7.out.dc.turn (Turn.of_below (F := fun _ => False) hbw7) fun k hk _ => ⟨id, fun e => by have := HNe.out; omega⟩, HBeg2.out.few, HBeg2.out.ok⟩
      have HT3 := Lib.hid (HT2.out w7 hbeg2)
      have HB7 := Lib.hid hbeg2
      obtain ⟨r0, r1, r2, r3, r4, r5⟩ := HX.out w7 (HBr.out.trans (hbw7.mono HBr.out.size))
      have HK7 := Lib.hid k7
      have hF7 : ∀ k, F7 k → k < w7.heap.size ∧ k ≠ W1.heap.size := fun k hk => ⟨k7.lt k hk, fun e => by rcases f7 k hk with q | q <;> have := HNe.out <;> have := HL2.out <;> omega⟩
      have HF7 := Lib.hid hF7
      clear HT1 HT2 HBeg1 HBeg2 k7 t7 f7 hbw7 hbk2 hbeg2 hF7
      go_wp2_with fail
      refine HT3.out.mono ?_
      rintro e w8 ⟨rfl, F8, k8, t8, f8⟩
      have hbw8 : Below wr.heap.size wr w8 := HB7.out.base.trans (t8.below HB7.out.base.size HB7.out.low)
      have hk8 := HK7.out.turn t8 (fun k hk hk2 => (HF7.out k hk).2 hk2)
      have HLb := Lib.hid (klen9 w8 wr.heap.size F7 N1 hk8)
      have HLc := Lib.hid fun (W : World) (hW : Below w8.heap.size w8 W) => klen9 W W1.heap.size F8 N1 (k8.below hW)
      have HB8 := Lib.hid (HB0.out.trans ((HBr.out.trans (hbw8.mono HBr.out.size)).mono HB0.out.size))
      obtain ⟨nl, hnl⟩ : ∃ nl, N1.length = nl := ⟨_, rfl⟩
      simp only at HLb HLc ⊢
      rw [hnl] at HLb HLc
      clear HT3 HB7 HK7 HF7 k8 t8 f8 hbw8 hk8 hnl r0 r1 r2 r3 r4 r5 HBr HNe HL2 HX
      go_wp2_with fail
      refine HLb.out.mono ?_
      rintro e w9 ⟨rfl, b9⟩
      have HLc9 := Lib.hid (HLc.out w9 b9)
      have HB9 := Lib.hid (HB8.out.trans (b9.mono HB8.out.size))
      clear HLb HLc b9
      go_wp2_with fail
      refine HLc9.out.mono ?_
      rintro e w10 ⟨rfl, b10⟩
      have HE := Lib.hid (HB9.out.trans (b10.mono HB9.out.size))
      clear HLc9 b10 HB8 HB9
      go_wp2
      go_ret
      exact ⟨rfl, HE.out⟩
end Go.Proofs.YtcgaeknikfaghaaGreatDoor
