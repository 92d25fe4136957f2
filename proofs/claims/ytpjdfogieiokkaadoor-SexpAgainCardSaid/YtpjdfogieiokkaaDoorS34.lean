/- Rows of items that are older than the row; the law SexpAgain. -/
import Derived.Test.YtpjdfogieiokkaaDoorS27
import Derived.Test.YtpjdfogieiokkaaDoorP8
namespace Go.Proofs.YtpjdfogieiokkaaDoor
open Go.RowKit Go.Shelf

/-- a row of items of one's own, from block B on; their lists are older -/
structure OwnJ (w : World) (B : Nat) (A : Option Addr) (c : Nat) (l : List MItem) : Prop where
  row : w.ownsRow B 41 8 (.slice A l.length c) l.length (icellsOf l)
  trees : ∀ x ∈ l, STree w (fun b _ => b < B) x.X x.A x.c
theorem OwnJ.nil (w : World) (B : Nat) : OwnJ w B none 0 [] := ⟨World.ownsRow_nil _ _ _ _, fun _ hx => absurd hx List.not_mem_nil⟩
theorem OwnJ.kept {w w' : World} {B : Nat} {A : Option Addr} {c : Nat} {l : List MItem} (h : OwnJ w B A c l) (hb : Below w.heap.size w w') : OwnJ w' B A c l :=
  ⟨(Turn.of_below (F := fun _ => False) hb).own h.row (fun _ _ => id), fun x hx => (h.trees x hx).kept hb⟩
theorem OwnJ.lt {w : World} {B : Nat} {A : Option Addr} {c n : Nat} {l : List MItem} (h : OwnJ w B A c l) (hn : l.length = n) {q : Nat} (hq : (Value.slice A n c).ownBlock = some q) : B ≤ q ∧ q < w.heap.size := by
  subst hn
  exact h.row.lt q hq
theorem OwnJ.own {w : World} {B : Nat} {A : Option Addr} {c : Nat} {l : List MItem} (h : OwnJ w B A c l) : OwnI w 0 A c l := by
  refine ⟨⟨h.row.1, ?_⟩, fun x hx => ⟨(h.trees x hx).le, (h.trees x hx).tree.mono fun b off _ hG => ⟨Nat.zero_le _, fun e => absurd (h.row.lt b e).1 (Nat.not_le.2 hG)⟩⟩⟩
  rcases h.row.2 with q | ⟨g, cap, cur, q1, q2, q3⟩
  · exact .inl q
  · exact .inr ⟨g, cap, cur, q1, Nat.zero_le _, q3⟩
/-- the run of an append of one item -/
theorem run_appendJ (w : World) (ty : TypeId) (B : Nat) (A : Option Addr) (c : Nat) (l : List MItem) (n : Nat) (hn : l.length = n) (d : MItem) (g : Nat) (hg : w.heap.size = g) (hown : OwnJ w B A c l) (hd : STree w (fun b _ => b < B) d.X d.A d.c) (hl : n ≤ 1000000) (hB : B ≤ w.heap.size) :
    ∃ A' c' w', (Builtin.append_ #[25, 25] ty #[.slice A n c, .slice (some ⟨g, 0, none⟩) 1 1]).run Tryd.prog (w.alloc (ibox d)) = .ok (.slice A' (n + 1) c') w' ∧ OwnJ w' B A' c' (l ++ [d]) ∧ w.grownBy w' (Value.slice A n c).ownBlock := by
  subst hn
  subst hg
  obtain ⟨i0, hi, hz0, hz1, hz2⟩ := info_parts infoI
  obtain ⟨v', w', hr, q1, q2, _, q4⟩ := run_append_own_at (P := Tryd.prog) (w.alloc (ibox d)) B 25 ty 41 i0 (.agg #[.bool false, .int .i64 0, .string ByteArray.empty, .int .i64 0, .int .i64 0, .slice none 0 0, .int .i64 0, .int .i64 0]) 8 88 Tryd.underlying25 hi hz0 hz1 hz2 rfl (by decide) (.slice A l.length c) l.length (icellsOf l)
    (World.ownsRow.alloc hown.row _) ⟨w.heap.size, 0, none⟩ 1 1 (icells d) rfl (cell_eight_new _ _ _ _ _ _ _ _ _ _) (fun u hu => is_one [d] u (by simpa [icellsOf] using hu)) (by unfold maxLen; omega) (by omega) (by simp; omega)
  obtain ⟨A', c', rfl⟩ := own_form q1
  have hgb : w.grownBy w' (Value.slice A l.length c).ownBlock := ⟨q2.os, q2.tape, q2.output, Nat.le_trans (by simp) q2.size, fun k hk hne => (q2.block k (by simp; omega) hne).trans (Below.heap_alloc w _ k hk)⟩
  refine ⟨A', c', w', hr, ⟨?_, ?_⟩, hgb⟩
  · have e : icellsOf l ++ icells d = icellsOf (l ++ [d]) := by simp [icellsOf]
    rw [e] at q1
    rw [List.length_append]
    exact q1
  · intro x hx
    have hall : STree w (fun b _ => b < B) x.X x.A x.c := by
      rcases List.mem_append.1 hx with hx | hx
      · exact hown.trees x hx
      · rw [List.mem_singleton.1 hx]
        exact hd
    exact ⟨hall.le, hall.tree.imp hgb.size (fun b off hb hG j _ => World.cell?_of_block (w := w) (hgb.block b hb fun e => absurd (hown.row.lt b e.symm).1 (Nat.not_le.2 hG))) (fun b off hb hG => hG)⟩
theorem appendJ (w : World) {ops : Array Oper} {rest : List Oper} {o : Oper} {a : Act} {Q : Exit → Act → World → Prop} (hgd : o.guard = none) (s x : Operand)
    (ho : o.op = .call { callee := .builtin .append, args := #[s, x], argTypes := #[25, 25] }) (B : Nat) (A : Option Addr) (c : Nat) (l : List MItem) (n : Nat) (hn : l.length = n) (d : MItem) (g : Nat) (hg : w.heap.size = g)
    (hs : a.eval s = .slice A n c) (hown : OwnJ w B A c l) (hd : STree w (fun b _ => b < B) d.X d.A d.c) (hx : a.eval x = .slice (some ⟨g, 0, none⟩) 1 1) (hl : n ≤ 1000000) (hB : B ≤ w.heap.size)
    (h : ∀ A' c' w', OwnJ w' B A' c' (l ++ [d]) → w.grownBy w' (Value.slice A n c).ownBlock → wpList Tryd.prog ops Q rest (a.put o.dst (.slice A' (n + 1) c')) w') :
    wpList Tryd.prog ops Q (o :: rest) a (w.alloc (ibox d)) := by
  refine wpList_plain hgd fun K hK => ?_
  obtain ⟨A', c', w', hr, h2, h3⟩ := run_appendJ w o.type B A c l n hn d g hg hown hd hl hB
  unfold Oper.wp execOp
  simp only [ho, resolve, invoke, builtin, Sem.run_bind, Sem.run_pure, Result.andThen_ok, List.map_toArray, List.map_cons, List.map_nil, hs, hx, hr]
  exact hK _ _ (h A' c' w' h2 h3)
theorem STree.old {w : World} {G : Nat → Nat → Prop} {x : Sx} {A : Option Addr} {c : Nat} (h : STree w G x A c) : STree w (fun b _ => b < w.heap.size) x A c := ⟨h.le, h.tree.mono fun _ _ hb _ => hb⟩
theorem lnsI_take {R : List SItem} {i : Nat} : (lnsI (R.take i)).length ≤ (lnsI R).length := by
  conv => rhs; rw [← List.take_append_drop i R, lnsI_app]
  simp

set_option maxRecDepth 100000 in
set_option maxHeartbeats 3200000 in
theorem sexpAgain_walk (s : ByteArray) (w : World) (hs : s.size ≤ maxLen) (hm : MaxL w) :
    Calls Tryd.prog 7 #[.string s] w fun e w' => e = .returned (.bool true) ∧ Below w.heap.size w w' := by
  have HA := Lib.hid (kawake6 w hm)
  have HM := Lib.hid hm
  unfold maxLen at hs
  clear hm
  by_cases hl : 4000 < s.size
  · have hl' : (4000 : Int) < (s.size : Int) := by omega
    clear hl
    go_enter Tryd.func7, Tryd.ntmps7
    go_wp2_with (go_at_call 9; refine HA.out.mono ?_; rintro e w1 ⟨rfl, b1⟩)
    go_ret
    exact ⟨rfl, b1⟩
  have hl' : ¬ (4000 : Int) < (s.size : Int) := by omega
  have HK1 := Lib.hid fun W hW => kread s W (by omega) hW
  have HL : Hid (s.size ≤ 4000) := by show _ ≤ _; omega
  clear hl hs
  go_enter Tryd.func7, Tryd.ntmps7
  go_wp2_with fail
  refine HA.out.mono ?_
  rintro e w1 ⟨rfl, b1⟩
  have B1 := Lib.hid b1
  have HM1 := Lib.hid (HM.out.below b1)
  clear b1
  go_wp2_with fail
  refine (HK1.out _ HM1.out).mono ?_
  rintro e w2 ⟨⟨A2, c2, l2, rfl, hf2, o2, r2⟩, b2⟩
  obtain ⟨n2, hn2⟩ : ∃ n, l2.length = n := ⟨_, rfl⟩
  have i2 := o2.its hn2
  rw [hn2] at hf2 ⊢
  have B2 := Lib.hid (B1.out.trans (b2.mono B1.out.size))
  have HM2 := Lib.hid (HM1.out.below b2)
  obtain ⟨R, hR⟩ : ∃ R, l2.map MItem.pure = R := ⟨_, rfl⟩
  rw [hR] at i2 r2
  obtain ⟨g1, g2, g3⟩ := r2.again HL.out
  have Q2 := Lib.hid i2
  have G1 := Lib.hid g1
  have G2 := Lib.hid g2
  have G3 := Lib.hid g3
  have hadd : ∀ (a b : ByteArray) (W : World), a.size ≤ 8388608 → b.size ≤ 8388608 → (Op.stringOp .add a b).run Tryd.prog W = .ok (.string (a ++ b)) W := fun a b W ha hb => run_string_add W a b (by omega) (by omega)
  have HAdd := Lib.hid hadd
  clear b2 i2 r2 o2 hn2 hR g1 g2 g3 hadd HK1 HM1 HM HA HL hl'
  go_wp2
  go_loopw [5, 6, 7] (fun tv gv iv wr => ∃ (i m : Nat) (V : ByteArray) (A' : Option Addr) (c' : Nat) (li : List MItem), i ≤ n2 ∧ m ≤ i ∧ tv = .string V ∧ gv = .slice A' m c' ∧ iv = .int .i64 (i : Nat) ∧
    Hid (Below w2.heap.size w2 wr ∧ OwnJ wr w2.heap.size A' c' li ∧ li.length = m ∧ V.data.toList = lnsI (R.take i) ∧ li.map MItem.pure = okI (R.take i))) (fun _ _ iv _ => n2 - (intOf iv).toNat)
  case atStart => exact ⟨0, 0, ByteArray.empty, none, 0, [], Nat.zero_le _, Nat.le_refl _, rfl, rfl, rfl, Below.refl _ _, OwnJ.nil _ _, rfl, rfl, rfl⟩
  case round =>
    obtain ⟨i, m, V, A', c', li, hi, hmi, rfl, rfl, rfl, HI⟩ := hrel
    obtain ⟨hI0, hI1, hI2, hI3, hI4⟩ := HI.out
    have HB := Lib.hid hI0
    have HO := Lib.hid hI1
    have HN := Lib.hid hI2
    have HV := Lib.hid hI3
    have HP := Lib.hid hI4
    have hVs : V.size ≤ 8000 := by
      rw [← len_bytes, hI3]
      exact Nat.le_trans lnsI_take G2.out
    by_cases hlt : i < n2
    · obtain ⟨b, off, x, A1, c1, rfl, hx, hdx, hsa, hst, z6, z7⟩ := Q2.out.get hlt
      have hlt' : (i : Int) < (n2 : Int) := by omega
      have hi0 : (0 : Int) ≤ (i : Int) := by omega
      have hblt := hsa.lt
      have HC : Hid (∀ W, Below w2.heap.size w2 W → SAt W b (off + i * 8) x.X A1 c1 ∧ W.cell? ⟨b, off + i * 8 + 6, none⟩ = some (.int .i64 x.E) ∧ W.cell? ⟨b, off + i * 8 + 7, none⟩ = some (.int .i64 x.at_)) := fun W hW =>
        ⟨hsa.below hW, (hW.cell (p := ⟨b, off + i * 8 + 6, none⟩) hblt).trans z6, (hW.cell (p := ⟨b, off + i * 8 + 7, none⟩) hblt).trans z7⟩
      have HT := Lib.hid hst.old
      have htk : R.take (i + 1) = R.take i ++ [x] := by rw [List.take_add_one, hx]; rfl
      have hmem := List.mem_of_getElem? hx
      by_cases hE : x.E = 0
      · obtain ⟨d1, ⟨t, d2⟩, d3, d4⟩ := G1.out x hmem hE
        have hpr : x.X.print = some t := by
          unfold Sx.print
          rw [if_neg d1, d2]
        have HPr := Lib.hid (kPrint x.X A1 c1 wr (by omega) (by omega) ((show STree w2 AnyP x.X A1 c1 from hst).kept hI0) (HM2.out.below hI0))
        rw [hpr] at HPr
        have HK := Lib.hid fun W (hW : Below w2.heap.size w2 W) => kDepth x.X A1 c1 W (hst.kept hW)
        obtain ⟨d, hd⟩ : ∃ d, Sx.dep 65 x.X = d := ⟨_, rfl⟩
        rw [hd] at HK d1
        have hd' : ¬ (64 : Int) < (d : Int) := by omega
        have HN1 : Hid (lnsI (R.take (i + 1)) = lnsI (R.take i) ++ (t ++ [10]) ∧ okI (R.take (i + 1)) = okI (R.take i) ++ [x]) := by
          show _ ∧ _
          rw [htk, lnsI_app, okI_app, lnsI_one hE d2, okI_cons [] hE]
          exact ⟨rfl, rfl⟩
        have hEb : (x.E != 0) = false := by rw [hE]; rfl
        have htl : t.length ≤ 8000 := by
          have := lnsI_take (R := R) (i := i + 1)
          have q := G2.out
          rw [HN1.out.1, List.length_append, List.length_append] at this
          omega
        obtain ⟨⟨p_, p0, p1, p2, p3, p4, p5⟩, p6, p7⟩ := HC.out _ hI0
        have HE : Hid ((⟨x.X, 0, x.at_⟩ : SItem) = x) := by
          show _ = _
          rw [← hE]
        clear hI0 hI1 hI2 hI3 hI4 HI hx hdx hsa hst z6 z7 hblt htk hmem d1 d2 d3 d4 hpr hd
        go_wp2_with fail
        refine HPr.out.mono ?_
        rintro e w3 ⟨⟨V1, rfl, hV1⟩, b3⟩
        have B3 := Lib.hid (HB.out.trans (b3.mono HB.out.size))
        have HO3 := Lib.hid (HO.out.kept b3)
        have hV1s : V1.size ≤ 8000 := by rw [← len_bytes, hV1]; exact htl
        have a1 := fun W => HAdd.out V V1 W (by omega) (by omega)
        obtain ⟨y2, z2⟩ := app_bytes V V1
        obtain ⟨V2, hV2⟩ : ∃ V2 : ByteArray, V ++ V1 = V2 := ⟨_, rfl⟩
        rw [hV2] at a1 y2 z2
        have a2 := fun W => HAdd.out V2 ⟨#[10]⟩ W (by omega) (by decide)
        obtain ⟨y3, z3⟩ := app_bytes V2 ⟨#[10]⟩
        obtain ⟨V3, hV3⟩ : ∃ V3 : ByteArray, V2 ++ ⟨#[10]⟩ = V3 := ⟨_, rfl⟩
        rw [hV3] at a2 y3
        have HV3 : Hid (V3.data.toList = lnsI (R.take (i + 1))) := by
          show _ = _
          rw [y3, y2, hV1, HV.out, HN1.out.1]
          simp
        clear b3 p_ p0 p1 p2 p3 p4 p5 p6 p7 hV1 hV1s y2 z2 y3 z3 hV2 hV3 HPr
        obtain ⟨⟨p_, p0, p1, p2, p3, p4, p5⟩, p6, p7⟩ := HC.out _ B3.out
        go_wp2_with fail
        refine (HK.out _ B3.out).mono ?_
        rintro e w4 ⟨rfl, b4⟩
        have B4 := Lib.hid (B3.out.trans (b4.mono B3.out.size))
        have HO4 := Lib.hid (HO3.out.kept b4)
        clear b4 p_ p0 p1 p2 p3 p4 p5 p6 p7 HK HO3
        obtain ⟨⟨p_, p0, p1, p2, p3, p4, p5⟩, p6, p7⟩ := HC.out _ B4.out
        have HT4 : Hid (STree w4 (fun b _ => b < w2.heap.size) x.X A1 c1) := HT.out.kept B4.out
        have hm4 : m ≤ 1000000 := by have := HN.out; omega
        go_wp2_with (at_builtin; refine appendJ _ rfl (.tmp 57) (.tmp 62) rfl w2.heap.size A' c' li m HN.out ⟨x.X, A1, c1, 0, x.at_⟩ _ (by simp) rfl HO4.out HT4.out rfl hm4 B4.out.size ?_; intro A5 c5 w5 o5 g5; have O5 := Lib.hid o5; have B5 := Lib.hid (B4.out.grown g5 B4.out.size (fun q hq => (HO4.out.lt HN.out hq).1)); clear o5 g5)
        go_roundw
        case rel => exact ⟨i + 1, m + 1, V3, A5, c5, li ++ [⟨x.X, A1, c1, 0, x.at_⟩], by omega, by omega, rfl, rfl, by go_num, B5.out, O5.out, by rw [List.length_append, HN.out]; rfl, HV3.out, by rw [List.map_append, HN1.out.2, HP.out, List.map_cons, List.map_nil, MItem.pure, HE.out]⟩
        case measure => simp [intOf]; omega
      · have hEb : (x.E != 0) = true := bne_iff_ne.2 hE
        have HN1 : Hid (lnsI (R.take (i + 1)) = lnsI (R.take i) ∧ okI (R.take (i + 1)) = okI (R.take i)) := by
          show _ ∧ _
          rw [htk, lnsI_app, okI_app, lnsI_skip hE, okI_skip [] hE, List.append_nil]
          exact ⟨rfl, List.append_nil _⟩
        obtain ⟨⟨p_, p0, p1, p2, p3, p4, p5⟩, p6, p7⟩ := HC.out _ hI0
        clear hI0 hI1 hI2 hI3 hI4 HI hx hdx hsa hst z6 z7 hblt htk hmem
        go_wp2
        go_roundw
        case rel => exact ⟨i + 1, m, V, A', c', li, by omega, by omega, rfl, rfl, by go_num, HB.out, HO.out, HN.out, by rw [HN1.out.1]; exact HV.out, by rw [HN1.out.2]; exact HP.out⟩
        case measure => simp [intOf]; omega
    · obtain rfl : i = n2 := by omega
      have hall : R.take i = R := List.take_of_length_le (by rw [Q2.out.len]; exact Nat.le_refl _)
      rw [hall] at hI3 hI4
      have HK2 := Lib.hid (kread V wr (by omega) (HM2.out.below hI0))
      have HG := Lib.hid (G3.out V · hI3)
      have HBw := Lib.hid (B2.out.trans (hI0.mono B2.out.size))
      have HIt := Lib.hid (hI1.own.its hI2)
      rw [hI4] at HIt
      clear hI0 hI1 hI2 hI3 hI4 HI hall hlt
      go_wp2_with fail
      refine HK2.out.mono ?_
      rintro e w3 ⟨⟨A3, c3, l3, rfl, hf3, o3, r3⟩, b3⟩
      obtain ⟨n3, hn3⟩ : ∃ n, l3.length = n := ⟨_, rfl⟩
      have i3 := o3.its hn3
      have hsame := sameI_iff.2 (HG.out _ r3)
      rw [hn3] at hf3 ⊢
      have HS := Lib.hid (ritems w3 A3 n3 c3 _ A' m c' _ false i3 (HIt.out.kept b3) (by omega))
      rw [hsame] at HS
      have B3 := Lib.hid (HBw.out.trans (b3.mono HBw.out.size))
      clear b3 i3 r3 o3 hn3 hsame hf3 HK2
      go_wp2_with (go_at_call 10; refine HS.out.mono ?_; rintro e w4 ⟨rfl, b4⟩)
      go_ret
      exact ⟨rfl, B3.out.trans (b4.mono B3.out.size)⟩
end Go.Proofs.YtpjdfogieiokkaaDoor
