/- What the proofs of this claim use, text by text. -/
import Derived.Test.YtfjpcjebecgglaaGreatDoorQE14
import Derived.Test.YtfjpcjebecgglaaGreatDoorQE19
import Derived.Test.YtfjpcjebecgglaaGreatDoorRows
import Derived.MapViews
import Derived.DeepKeys4
import Derived.Deep.Slices
import Derived.Deep.Fields
import Derived.ChangeSame
set_option linter.unusedSimpArgs false
set_option linter.unusedVariables false
set_option maxRecDepth 100000
set_option maxHeartbeats 25600000
namespace Go.Proofs.YtfjpcjebecgglaaGreatDoor
open Go.RowKit Go.Shelf
theorem Sh.ex1 : Sh.value 2 false (-5) [] = (Sh.app Sh.minus [Sh.atom 4 ⟨#[53]⟩], 0) := by
  unfold Sh.value
  rw [if_neg (by decide), if_pos rfl]
  unfold Sh.num
  rw [if_pos (by decide)]
  have : Sh.dig (-5 : Int).natAbs = [53] := by
    have := Sh.dec_dig (k := 5) (by decide)
    rw [show (-5 : Int).natAbs = 5 from rfl, ← this, Lib.decDigits_one (by decide)]
    rfl
  rw [this]
theorem Sh.may2 : Tx.May [(97, 1000), (98, 1)] := ⟨⟨fun x hx => by
    rcases List.mem_cons.1 hx with rfl | hx
    · exact ⟨by decide, by decide⟩
    · rw [List.mem_singleton.1 hx]; exact ⟨by decide, by decide⟩, fun i x y hx hy => by
    match i with
    | 0 =>
      simp at hx hy
      rw [← hx, ← hy]
      decide
    | i + 1 => simp at hy⟩, by decide, by decide⟩
theorem Sh.may3 : Tx.May [(97, 1001)] := ⟨⟨fun x hx => by rw [List.mem_singleton.1 hx]; exact ⟨by decide, by decide⟩, fun i x y hx hy => by simp at hy⟩, by decide, by decide⟩
theorem Sh.ex2 : Sh.value 3 false 0 [(97, 1000), (98, 1)] = (Sh.app Sh.cat [Sh.lit [(97, 1000)], Sh.lit [(98, 1)]], 0) := by
  unfold Sh.value
  rw [if_neg (by decide), if_neg (by decide), if_pos rfl, Tx.mayB_true Sh.may2, if_pos rfl]
  have hc : Sh.cut [] [(97, 1000), (98, 1)] = [[(97, 1000)], [(98, 1)]] := by decide
  have hp : Sh.pieces [(97, 1000), (98, 1)] = [Sh.lit [(97, 1000)], Sh.lit [(98, 1)]] := by
    unfold Sh.pieces
    rw [hc]
    rfl
  unfold Sh.text
  rw [hp]
  rw [if_neg (by simp), if_neg (by simp), if_neg (by simp [Sx.sizes, Sh.lit, Sh.atom_size])]
theorem Sh.ex3 : Sh.value 3 false 0 [(97, 1001)] = (Sh.long 97 1001, 0) := by
  unfold Sh.value
  rw [if_neg (by decide), if_neg (by decide), if_pos rfl, Tx.mayB_true Sh.may3, if_pos rfl]
  have hp : Sh.pieces [(97, 1001)] = [Sh.long 97 1001] := rfl
  unfold Sh.text
  rw [hp]
  rfl
theorem Sh.ex3_dep : Sx.dep 65 (Sh.long 97 1001) = 13 := by kernel_rfl
theorem Sh.ex1_print : Sx.print (Sh.app Sh.minus [Sh.atom 4 ⟨#[53]⟩]) = some [40, 45, 32, 53, 41] := by kernel_rfl
theorem WIn.zero12 (w : World) : WIn w false none 0 0 0 := ⟨⟨[], Lims.nil_ _ _, rfl, Nat.le_refl _, by unfold maxLen; omega, by omega⟩, rfl⟩
theorem kawake12 (w : World) (hN : NmT w) (hG : Gl w) : Calls Tryz.prog 7 #[] w fun e w' => e = .returned (.bool true) ∧ Below w.heap.size w w' := by
  have HO := Lib.hid (of_w (-5) w (by decide))
  have HA := Lib.hid fun W (hb : Below w.heap.size w W) => (show NmT W ∧ Gl W ∧ MaxL W from ⟨hN.below hb, hG.below hb, (hG.below hb).max⟩)
  have HV1 : Hid (∀ W A n c, Below w.heap.size w W → WIn W true A n c (-5) → Calls Tryz.prog 17 #[.agg #[.int .i64 2, .bool false, .bool true, .slice A n c, .slice none 0 0]] W fun e w' => (∃ A2 c2, e = .returned (.tuple #[.agg #[.bool true, .int .i64 0, .string ⟨#[]⟩, .int .i64 0, .int .i64 0, .slice A2 2 c2], .int .i64 0]) ∧ STree w' AnyP (Sh.app Sh.minus [Sh.atom 4 ⟨#[53]⟩]) A2 c2) ∧ Below w.heap.size w w') := fun W A n c hb hi => by
    have := kValue12 W 2 false true A n c (-5) none 0 0 [] hi (RunS.nil _ _) (Nat.zero_le _) (Nat.le_refl _) (HA.out W hb).1 (HA.out W hb).2.1
    rw [Sh.ex1] at this
    refine this.mono ?_
    rintro e w' ⟨⟨A2, c2, rfl, ht⟩, hb2⟩
    exact ⟨⟨A2, c2, rfl, ht.to fun _ _ _ _ => trivial⟩, hb.trans (hb2.mono hb.size)⟩
  have HP : Hid (∀ W A c, Below w.heap.size w W → STree W AnyP (Sh.app Sh.minus [Sh.atom 4 ⟨#[53]⟩]) A c → Calls Tryz.prog 25 #[.agg #[.bool true, .int .i64 0, .string ⟨#[]⟩, .int .i64 0, .int .i64 0, .slice A 2 c]] W fun e w' => e = .returned (.tuple #[.string ⟨#[40, 45, 32, 53, 41]⟩, .int .i64 0]) ∧ Below W.heap.size W w') := fun W A c hb ht => by
    have := kPrint (Sh.app Sh.minus [Sh.atom 4 ⟨#[53]⟩]) A c W (by rw [Sh.app_size]; simp [Sx.sizes, Sh.atom_size]) (by decide) ht (HA.out W hb).2.2
    rw [Sh.ex1_print] at this
    refine this.mono ?_
    rintro e w' ⟨⟨V, rfl, hV⟩, hb2⟩
    obtain rfl : V = ⟨#[40, 45, 32, 53, 41]⟩ := Lt.bytes_eq hV
    exact ⟨rfl, hb2⟩
  have HV2 : Hid (∀ W, Below w.heap.size w W → Calls Tryz.prog 17 #[.agg #[.int .i64 3, .bool false, .bool false, .slice none 0 0, .slice (some ⟨W.heap.size, 0, none⟩) 2 2]] (W.alloc (.cells #[.int .i64 97, .int .i64 1000, .int .i64 98, .int .i64 1] 70)) fun e w' => (∃ A2 c2, e = .returned (.tuple #[.agg #[.bool true, .int .i64 0, .string ⟨#[]⟩, .int .i64 0, .int .i64 0, .slice A2 3 c2], .int .i64 0])) ∧ Below w.heap.size w w') := fun W hb => by
    have hb1 := hb.alloc hb.size (.cells #[.int .i64 97, .int .i64 1000, .int .i64 98, .int .i64 1] 70)
    have := kValue12 (W.alloc (.cells #[.int .i64 97, .int .i64 1000, .int .i64 98, .int .i64 1] 70)) 3 false false none 0 0 0 (some ⟨W.heap.size, 0, none⟩) 2 2 [(97, 1000), (98, 1)] (WIn.zero12 _) (runs_lit12 W [(97, 1000), (98, 1)]) (by decide) (Nat.le_refl _) (HA.out _ hb1).1 (HA.out _ hb1).2.1
    rw [Sh.ex2] at this
    refine this.mono ?_
    rintro e w' ⟨⟨A2, c2, rfl, ht⟩, hb2⟩
    exact ⟨⟨A2, c2, rfl⟩, hb1.trans (hb2.mono hb1.size)⟩
  obtain ⟨x3, hx3⟩ : ∃ x, Sh.long 97 1001 = x := ⟨_, rfl⟩
  have hdep := Sh.ex3_dep
  rw [hx3] at hdep
  have HV3 : Hid (∀ W g, W.heap.size = g → Below w.heap.size w W → Calls Tryz.prog 17 #[.agg #[.int .i64 3, .bool false, .bool false, .slice none 0 0, .slice (some ⟨g, 0, none⟩) 1 1]] (W.alloc (.cells #[.int .i64 97, .int .i64 1001] 70)) fun e w' => (∃ A2 c2, e = .returned (.tuple #[sval x3 A2 c2, .int .i64 0]) ∧ STree w' AnyP x3 A2 c2) ∧ Below W.heap.size W w') := fun W g hg hb => by
    subst hg
    have hb1 := hb.alloc hb.size (.cells #[.int .i64 97, .int .i64 1001] 70)
    have := kValue12 (W.alloc (.cells #[.int .i64 97, .int .i64 1001] 70)) 3 false false none 0 0 0 (some ⟨W.heap.size, 0, none⟩) 1 1 [(97, 1001)] (WIn.zero12 _) (runs_lit12 W [(97, 1001)]) (by decide) (Nat.le_refl _) (HA.out _ hb1).1 (HA.out _ hb1).2.1
    rw [Sh.ex3, hx3] at this
    refine this.mono ?_
    rintro e w' ⟨⟨A2, c2, rfl, ht⟩, hb2⟩
    exact ⟨⟨A2, c2, rfl, ht.to fun _ _ _ _ => trivial⟩, ((Below.refl _ W).alloc (Nat.le_refl _) _).trans (hb2.mono (by simp))⟩
  have HD : Hid (∀ W A c, STree W AnyP x3 A c → Calls Tryz.prog 23 #[sval x3 A c] W fun e w' => e = .returned (.int .i64 13) ∧ Below W.heap.size W w') := fun W A c ht => by
    have := kDepth x3 A c W ht
    rw [hdep] at this
    exact this
  have HNm : Hid (∀ W, Below w.heap.size w W → Calls Tryz.prog 15 #[.int .i64 22] W fun e w' => e = .returned (.string Sh.cat) ∧ w' = W) := fun W hb => kname12 22 W (HA.out W hb).1
  clear hN hG hx3 hdep
  go_enter Tryz.func7, Tryz.ntmps7
  go_wp2_with fail
  refine HO.out.mono ?_
  rintro e w1 ⟨v1, rfl, hn1, b1⟩
  obtain ⟨A1, n1, c1, rfl, hi1⟩ := hn1.inn (k := 1) (by show (5 : Nat) < M.BB ^ 1; rw [Nat.pow_one, M.BB_eq]; decide) (by decide)
  rw [show decide ((-5 : Int) < 0) = true from rfl] at hi1 ⊢
  have HV1' := Lib.hid (HV1.out w1 A1 n1 c1 b1 hi1)
  clear hn1 hi1 b1 HO HV1
  go_wp2_with fail
  refine HV1'.out.mono ?_
  rintro e w2 ⟨⟨A2, c2, rfl, t2⟩, b2⟩
  have B2 := Lib.hid (b2.alloc b2.size (.cells #[.bool true, .int .i64 0, .string ⟨#[]⟩, .int .i64 0, .int .i64 0, .slice A2 2 c2] 49))
  have HP' := Lib.hid (HP.out _ A2 c2 B2.out (t2.kept ((Below.refl _ w2).alloc (Nat.le_refl _) _)))
  clear HV1' HP t2 b2
  go_wp2_with fail
  refine HP'.out.mono ?_
  rintro e w3 ⟨rfl, b3⟩
  have B3 := Lib.hid (B2.out.trans (b3.mono B2.out.size))
  have HV2' := Lib.hid (HV2.out w3 B3.out)
  clear HP' HV2 b3 B2
  go_wp2_with fail
  refine HV2'.out.mono ?_
  rintro e w4 ⟨⟨A4, c4, rfl⟩, b4⟩
  have B4 := Lib.hid (b4.alloc b4.size (.cells #[.bool true, .int .i64 0, .string ⟨#[]⟩, .int .i64 0, .int .i64 0, .slice A4 3 c4] 49))
  have HL4 := Lib.hid (Lies.new w4 49 #[.bool true, .int .i64 0, .string ⟨#[]⟩, .int .i64 0, .int .i64 0, .slice A4 3 c4])
  have HV3' := Lib.hid (HV3.out _ (w4.heap.size + 1) (by simp) B4.out)
  clear HV2' HV3 b4
  go_wp2_with fail
  refine HV3'.out.mono ?_
  rintro e w5 ⟨⟨A5, c5, rfl, t5⟩, b5⟩
  have B5 := Lib.hid (b5.alloc b5.size (.cells #[.bool x3.list, .int .i64 x3.k, .string x3.T, .int .i64 x3.ta, .int .i64 x3.at_, .slice A5 x3.L.length c5] 49))
  have hl5 := (B5.out.block _ HL4.out.lt).trans HL4.out
  have hl5 : LiesX (w5.alloc (.cells #[.bool x3.list, .int .i64 x3.k, .string x3.T, .int .i64 x3.ta, .int .i64 x3.at_, .slice A5 x3.L.length c5] 49)) w4.heap.size #[.bool true, .int .i64 0, .string ⟨#[]⟩, .int .i64 0, .int .i64 0, .slice A4 3 c4] := hl5
  have d5 := hl5.cell 5
  simp only [List.getElem?_toArray, List.getElem?_cons_succ, List.getElem?_cons_zero] at d5
  have hlt := hl5.lt
  have HD' := Lib.hid (HD.out _ A5 c5 (t5.kept ((Below.refl _ w5).alloc (Nat.le_refl _) (.cells #[.bool x3.list, .int .i64 x3.k, .string x3.T, .int .i64 x3.ta, .int .i64 x3.at_, .slice A5 x3.L.length c5] 49))))
  have HB6 := Lib.hid (B4.out.trans (B5.out.mono B4.out.size))
  clear HV3' HD t5 b5 hl5
  go_wp2_with (first
    | (go_at_call 23; refine HD'.out.mono ?_; rintro e w6 ⟨rfl, b6⟩; have B7 := Lib.hid (HB6.out.trans (b6.mono HB6.out.size)); clear b6)
    | (go_at_call 15; refine (HNm.out _ B7.out).mono ?_; rintro e w7 ⟨rfl, rfl⟩))
  go_ret
  exact ⟨rfl, B7.out⟩
end Go.Proofs.YtfjpcjebecgglaaGreatDoor
namespace Go.Proofs.YtfjpcjebecgglaaGreatDoor
open Go.RowKit Go.ChangeShapes Go.WideShapes Go.Deep
theorem NmT.of_laid {l : List (String × DataW Unit)} {W : World} (h : laidMet Tryz.prog l W) (h1 : ("gudgeon/show.names", Rows.laid_gudgeon_show_names) ∈ l) : NmT W := by
  obtain ⟨r, k⟩ := laid_mem h h1
  obtain ⟨ps, ⟨g', t', cs, fuel, p, q, hg', ht', hvar, hd, _, _⟩, _⟩ := k
  obtain rfl := Option.some.inj ((show Tryz.prog.globalNamed "gudgeon/show.names" = some 0 by kernel_rfl).symm.trans hg')
  obtain rfl := Option.some.inj ((show (Tryz.prog.globals[0]?).map (·.type) = some 97 by kernel_rfl).symm.trans ht')
  have k1 := (keyLits_of_trod (P := Tryz.prog) 5 97 (by kernel_rfl) _ _ _ hd).1
  have k2 := cells_of_lits (P := Tryz.prog) 5 97 (by kernel_rfl) _ _ _ k1
  intro i t hi
  have hcell := World.var?_cell (show Tryz.prog.globalNamed "gudgeon/show.names" = some 0 by kernel_rfl) hvar i
  rw [hcell]
  have hflat : (Rows.laid_gudgeon_show_names : DataW Unit).flat = Sh.nameL.map (fun (v : ByteArray) => Lit.string v.data.toList) := by kernel_rfl
  rw [← Array.getElem?_toList, k2, hflat, List.getElem?_map, List.getElem?_map, hi]
  rfl
structure ValIn (W : World) (n c : Nat) (A : Option Addr) (g : Bool) (z : Int) (B : Option Addr) (m d : Nat) (R : List (Int × Int)) : Prop where
  num : n ≤ 1000000 → WIn W g A n c z
  txt : RunS W B m R
  cap : m ≤ d
  ncap : n ≤ c ∧ c ≤ maxLen
  mcap : d ≤ maxLen
theorem runs_cap12 {H : Type} {enc : TypeId × Value → H} {W : World} {fuel : Nat} {C : Option Addr} {p f : Nat} {y : DataW H × List MemPlace} (h : DataW.trod enc Tryz.prog W 0 (fun _ => true) true fuel 40 [.slice C p f] = some y) : p ≤ f ∧ f ≤ maxLen := by
  rcases open_slice Tryz.underlying40 h with ⟨hcs, _⟩ | ⟨a, len, cap, m, n, D, Pl, hcs, _, hl, hm, hmm, _, hi⟩
  · injection hcs with hcs
    injection hcs with _ e2 e3
    subst e2 e3
    exact ⟨Nat.le_refl _, Nat.zero_le _⟩
  · injection hcs with hcs
    injection hcs with _ e2 e3
    subst e2 e3
    exact ⟨hl, hm⟩
theorem val_cells12 {H : Type} {enc : TypeId × Value → H} {W : World} {fuel : Nat} {cs : List Value} {y : DataW H × List MemPlace} (h : DataW.trod enc Tryz.prog W 0 (fun _ => true) true fuel 57 cs = some y) :
    ∃ (t : Int) (b g : Bool) (A : Option Addr) (n c : Nat) (B : Option Addr) (m d : Nat) (z : Int) (R : List (Int × Int)), cs = (valC t b g A n c B m d).toList ∧ ValIn W n c A g z B m d R := by
  obtain ⟨xs, k, _, _, hlen, hxl, hf⟩ := DataW.trod_struct Tryz.underlying57 h
  rw [show Tryz.prog.cellsOf 57 = 5 by kernel_rfl] at hlen
  match xs, hxl, cs, hlen with
  | [y0, y1, y2, y3], _, [v0, v1, v2, v3, v4], _ =>
    have e0 : DataW.trod enc Tryz.prog W 0 (fun _ => true) true k 3 [v0] = some y0 := hf 0 _ rfl
    have e1 : DataW.trod enc Tryz.prog W 0 (fun _ => true) true k 4 [v1] = some y1 := hf 1 _ rfl
    have e2 : DataW.trod enc Tryz.prog W 0 (fun _ => true) true k 39 [v2, v3] = some y2 := hf 2 _ rfl
    have e3 : DataW.trod enc Tryz.prog W 0 (fun _ => true) true k 40 [v4] = some y3 := hf 3 _ rfl
    obtain ⟨z0, hz0, _⟩ := DataW.trod_int Tryz.underlying3 e0
    obtain ⟨b, hb, _⟩ := DataW.trod_bool Tryz.underlying4 e1
    obtain ⟨us, k2, _, _, _, hul, hg⟩ := DataW.trod_struct Tryz.underlying39 e2
    match us, hul with
    | [u0, u1], _ =>
      have g0 : DataW.trod enc Tryz.prog W 0 (fun _ => true) true k2 4 [v2] = some u0 := hg 0 _ rfl
      have g1 : DataW.trod enc Tryz.prog W 0 (fun _ => true) true k2 37 [v3] = some u1 := hg 1 _ rfl
      obtain ⟨g, hgb, _⟩ := DataW.trod_bool Tryz.underlying4 g0
      obtain ⟨A, n, c, ls, hA, hl1, hl2, hl3, _⟩ := open_limbs g1
      obtain ⟨C, p, f, R, hC, hR⟩ := open_argR e3
      injection hz0 with hz0
      injection hb with hb
      injection hgb with hgb
      subst hz0 hb hgb hA hC
      exact ⟨z0, b, g, A, n, c, C, p, f, Z.sg g (M.val ls), R, rfl, fun e => ⟨⟨ls, hl1, by cases g <;> simp [Z.sg], hl2, hl3, e⟩, by cases g <;> simp [Z.sg]⟩, hR.1, (runs_cap12 e3).1, ⟨hl2, hl3⟩, (runs_cap12 e3).2⟩
theorem open_val12 {H : Type} {enc : TypeId × Value → H} {W : World} {r : Reach} {b0 : Nat} {v : Value} {dd : DataW H} {p : List MemPlace} (hv : Value.okWide Tryz.prog W r b0 57 v) (h : DataW.Trod enc Tryz.prog W 0 (fun _ => true) true 57 v dd p) :
    ∃ (x : Int × Bool × Bool × Option Addr × Nat × Nat) (y : Option Addr × Nat × Nat) (_ : Unit), v = .agg (valC x.1 x.2.1 x.2.2.1 x.2.2.2.1 x.2.2.2.2.1 x.2.2.2.2.2 y.1 y.2.1 y.2.2) ∧ ∃ z R, ValIn W x.2.2.2.2.1 x.2.2.2.2.2 x.2.2.2.1 x.2.2.1 z y.1 y.2.1 y.2.2 R := by
  obtain ⟨cs, rfl, _⟩ := okWide_struct Tryz.underlying57 hv
  obtain ⟨fuel, hf⟩ := h
  obtain ⟨t, b, g, A, n, c, B, m, d, z, R, e, hc⟩ := val_cells12 hf
  refine ⟨(t, b, g, A, n, c), (B, m, d), (), ?_, z, R, hc⟩
  congr 1
  exact Array.ext' e
theorem Sh.cut_two : ∀ (l cur : List (Int × Int)), (∀ x ∈ l, 1 ≤ x.2) → 1 < (Sh.cut cur l).length → 1000 < Lt.total cur + Lt.total l
  | [], cur, _, h => by simp [Sh.cut] at h
  | r :: l, cur, hl, h => by
    have hp := Lt.total_pos (R := l) fun x hx => Int.not_lt.2 (hl x (List.mem_cons_of_mem _ hx))
    have ht : Lt.total (r :: l) = r.2 + Lt.total l := by
      have := Lt.total_app [r] l
      rw [show [r] = [(r.1, r.2)] from rfl, Lt.total_one] at this
      exact this
    rw [Sh.cut] at h
    split at h
    · rename_i hc
      rw [ht]
      have := hc.2
      omega
    · have := Sh.cut_two l (cur ++ [r]) (fun x hx => hl x (List.mem_cons_of_mem _ hx)) h
      rw [Lt.total_app, show [r] = [(r.1, r.2)] from rfl, Lt.total_one] at this
      rw [ht]
      omega
theorem Sh.long_list {C : Int} {N : Nat} (hN : 0 < N) (h : N < 2 ^ 64) : (Sh.long C N).list = true := by
  have := Sh.bitLen_gt (N := N) (k := 0) h (by simp; omega)
  unfold Sh.long
  obtain ⟨k, hk⟩ : ∃ k, Lib.bitLen N = k + 1 := ⟨Lib.bitLen N - 1, by omega⟩
  rw [hk]
  rfl
theorem Sh.piece_list {P : List (Int × Int)} (h : Tx.May P) (h1 : 1000 < Lt.total P → ∃ r, P = [r]) : (Sh.piece P).list = decide (1000 < Lt.total P) := by
  unfold Sh.piece
  by_cases hl : 1000 < Lt.total P
  · rw [if_pos hl, decide_eq_true hl]
    obtain ⟨⟨C, y⟩, rfl⟩ := h1 hl
    have hm := h.most
    rw [Lt.total_one] at hm hl
    exact Sh.long_list (by show 0 < y.toNat; omega) (by show y.toNat < 18446744073709551616; omega)
  · rw [if_neg hl, decide_eq_false hl]
    rfl
theorem Sh.piece_dep {P : List (Int × Int)} (h : Tx.May P) (h1 : 1000 < Lt.total P → ∃ r, P = [r]) (m : Nat) : Sx.dep m (Sh.piece P) ≤ 44 := by
  unfold Sh.piece
  split
  · rename_i hl
    obtain ⟨⟨C, y⟩, rfl⟩ := h1 hl
    have hm := h.most
    rw [Lt.total_one] at hm
    exact Sh.dep_long (by show y.toNat < 2199023255552; omega) m
  · rw [Sh.lit, Sh.dep_atom]; exact Nat.zero_le _
theorem Sh.text_short {R : List (Int × Int)} (h : Tx.May R) : ((Sh.text R).2 ≠ 0 → (Sh.text R).1 = Sx.zero ∧ (Sh.text R).2 = 2) ∧ ((Sh.text R).2 = 0 → (Sh.text R).1.list = decide (1000 < Lt.total R) ∧ Sx.dep 65 (Sh.text R).1 ≤ 64) := by
  have hpos : ∀ x ∈ R, 1 ≤ x.2 := fun x hx => (h.own.pos x hx).2
  have hlen : (Sh.pieces R).length = (Sh.cut [] R).length := by unfold Sh.pieces; rw [List.length_map]
  have hdep : ∀ m, ∀ x ∈ Sh.pieces R, Sx.dep m x ≤ 44 := fun m x hx => by
    obtain ⟨P, hP, rfl⟩ := List.mem_map.1 hx
    exact Sh.piece_dep (Sh.cut_may h hP).1 (Sh.cut_may h hP).2 m
  unfold Sh.text
  split
  · exact ⟨fun _ => ⟨rfl, rfl⟩, fun e => by simp at e⟩
  · split
    · rename_i h1
      refine ⟨fun e => absurd rfl e, fun _ => ?_⟩
      obtain ⟨P, hP⟩ : ∃ P, Sh.cut [] R = [P] := by
        match hc : Sh.cut [] R with
        | [P] => exact ⟨P, rfl⟩
        | [] => rw [hlen, hc] at h1; simp at h1
        | _ :: _ :: _ => rw [hlen, hc] at h1; simp at h1
      have hPR : P = R := by
        have := Sh.cut_parts R []
        rw [hP] at this
        simpa using this
      have hm := Sh.cut_may h (P := P) (by rw [hP]; exact List.mem_singleton.2 rfl)
      have hp : Sh.pieces R = [Sh.piece P] := by unfold Sh.pieces; rw [hP]; rfl
      rw [hp]
      show (Sh.piece P).list = _ ∧ Sx.dep 65 (Sh.piece P) ≤ 64
      rw [Sh.piece_list hm.1 hm.2, hPR]
      exact ⟨rfl, Nat.le_trans (Sh.piece_dep (by rw [← hPR]; exact hm.1) (by rw [← hPR]; exact hm.2) 65) (by decide)⟩
    · split
      · exact ⟨fun _ => ⟨rfl, rfl⟩, fun e => by simp at e⟩
      · rename_i h1 _
        refine ⟨fun e => absurd rfl e, fun _ => ⟨?_, ?_⟩⟩
        · have h2 := Sh.cut_ne R []
          have := Sh.cut_two R [] hpos (by omega)
          rw [Lt.total] at this
          rw [decide_eq_true (by omega)]
          rfl
        · exact Nat.le_trans (Sh.dep_app' (d := 44) hdep) (by decide)
theorem Sh.value_short (t : Int) (b : Bool) (z : Int) (R : List (Int × Int)) :
    ((Sh.value t b z R).2 ≠ 0 → (Sh.value t b z R).1 = Sx.zero ∧ ((Sh.value t b z R).2 = 1 ∨ (Sh.value t b z R).2 = 2)) ∧
    ((Sh.value t b z R).2 = 0 → (Sh.value t b z R).1.list = ((decide (t = 3) && decide (1000 < (if Tx.mayB R then Lt.total R else 0))) || (decide (t = 2) && decide (z < 0))) ∧ Sx.dep 65 (Sh.value t b z R).1 ≤ 64) := by
  unfold Sh.value
  split
  · rename_i h1
    subst h1
    exact ⟨fun e => absurd rfl e, fun _ => ⟨rfl, by show Sx.dep 65 (Sh.atom _ _) ≤ 64; rw [Sh.dep_atom]; decide⟩⟩
  · split
    · rename_i h2
      subst h2
      refine ⟨fun e => absurd rfl e, fun _ => ?_⟩
      show (Sh.num z).list = _ ∧ Sx.dep 65 (Sh.num z) ≤ 64
      unfold Sh.num
      split
      · rename_i hz
        rw [decide_eq_true hz]
        refine ⟨by simp [Sh.app, Sh.list], Nat.le_trans (Sh.dep_app' (d := 0) fun m x hx => ?_) (by decide)⟩
        rw [List.mem_singleton.1 hx, Sh.dep_atom]
        exact Nat.le_refl _
      · rename_i hz
        rw [decide_eq_false hz]
        exact ⟨by simp [Sh.atom], by rw [Sh.dep_atom]; decide⟩
    · split
      · rename_i h2 h3
        subst h3
        by_cases hm : Tx.May R
        · rw [Tx.mayB_true hm, if_pos rfl, if_pos rfl]
          have := Sh.text_short hm
          refine ⟨fun e => ⟨(this.1 e).1, .inr (this.1 e).2⟩, fun e => ⟨?_, (this.2 e).2⟩⟩
          rw [(this.2 e).1]
          simp
        · rw [Tx.mayB_false hm, if_neg (by decide)]
          exact ⟨fun _ => ⟨rfl, .inl rfl⟩, fun e => by simp at e⟩
      · exact ⟨fun _ => ⟨rfl, .inl rfl⟩, fun e => by simp at e⟩
end Go.Proofs.YtfjpcjebecgglaaGreatDoor
