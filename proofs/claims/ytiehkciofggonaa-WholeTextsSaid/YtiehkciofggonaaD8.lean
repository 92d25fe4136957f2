/- the reference's Text: what it answers. -/
import Derived.Test.YtiehkciofggonaaGS
import Derived.Test.YtiehkciofggonaaGM
import Derived.Test.YtiehkciofggonaaGE
namespace Go.Proofs.Ytiehkciofggonaa
open Go.RowKit

/-- the cells of whole numbers -/
def cellsI (l : List Nat) : List Value := l.map fun (x : Nat) => .int .i64 (x : Int)
theorem cellsI_length (l : List Nat) : (cellsI l).length = l.length := by simp [cellsI]
theorem cellsI_get {l : List Nat} {j : Nat} (h : j < l.length) : (cellsI l)[j]? = some (.int .i64 ((l.getD j 0 : Nat) : Int)) := by
  simp [cellsI, List.getD_eq_getElem?_getD, h]
theorem cellsI_one {l : List Nat} : ∀ v ∈ cellsI l, v.oneCell' = true := by
  intro v hv
  obtain ⟨x, _, rfl⟩ := List.mem_map.1 hv
  rfl
theorem Try.info_int : (Try.prog.info? 3).map (fun i => (i.zero, i.size, i.bytes)) = some (some (.int .i64 0), 1, 8) := by kernel_rfl
/-- v holds the whole numbers l, in a row of the call's own from block B on -/
def OwnI (w : World) (B : Nat) (v : Value) (l : List Nat) : Prop := w.ownsRow B 3 1 v l.length (cellsI l)
theorem OwnI.nil_ (w : World) (B : Nat) : OwnI w B (.slice none 0 0) [] := World.ownsRow_nil w B _ _
theorem OwnI.length {w : World} {B : Nat} {v : Value} {l : List Nat} (h : OwnI w B v l) : ∃ A c, v = .slice A l.length c := by
  obtain ⟨_, ⟨rfl, h2⟩ | ⟨g, cap, cur, rfl, _⟩⟩ := h
  · exact ⟨none, 0, by rw [h2]⟩
  · exact ⟨_, _, rfl⟩
theorem OwnI.form {w : World} {B : Nat} {v : Value} {l : List Nat} (h : OwnI w B v l) (hl : 0 < l.length) :
    ∃ g c, v = .slice (some ⟨g, 0, none⟩) l.length c ∧ B ≤ g ∧ (∀ j, j < l.length → w.cell? ⟨g, j, none⟩ = some (.int .i64 ((l.getD j 0 : Nat) : Int))) ∧ (∀ j, w.frozen? ⟨g, j, none⟩ = false) ∧
      ∀ j x, OwnI (w.setCell ⟨g, j, none⟩ (.int .i64 ((x : Nat) : Int))) B v (l.set j x) := by
  have h0 := h
  obtain ⟨h1, h2⟩ := h
  rcases h2 with ⟨_, h2⟩ | ⟨g, cap, cur, rfl, hb, hh, hc, hm, hs, ht⟩
  · omega
  · refine ⟨g, cap, rfl, hb, fun j hj => ?_, fun j => World.ownsRow.frozenAt h0 j, fun j x => ?_⟩
    · rw [World.ownsRow.cellAt h0 j (by omega), cellsI_get hj]
    · have := (World.ownsRow.stored h0 j (.int .i64 ((x : Nat) : Int))).1
      unfold OwnI
      rw [List.length_set]
      have e : (cellsI l).set j (.int .i64 ((x : Nat) : Int)) = cellsI (l.set j x) := by simp [cellsI, List.map_set]
      rw [← e]
      exact this
theorem OwnI.own_ge {w : World} {B : Nat} {v : Value} {l : List Nat} (h : OwnI w B v l) {b : Nat} (hb : b ≤ B) : ∀ k, v.ownBlock = some k → b ≤ k := fun k e => by
  have := (World.ownsRow.lt h k e).1
  omega
theorem OwnI.alloc {w : World} {B : Nat} {v : Value} {l : List Nat} (h : OwnI w B v l) (o : Obj) : OwnI (w.alloc o) B v l := World.ownsRow.alloc h o

/-- append of one whole number -/
theorem appendI {w : World} {ops : Array Oper} {rest : List Oper} {o : Oper} {a : Act} {Q : Exit → Act → World → Prop} (hgd : o.guard = none) (s x : Operand)
    (ho : o.op = .call { callee := .builtin .append, args := #[s, x], argTypes := #[82, 82] })
    {B g n c d : Nat} {v : Value} {l : List Nat} (hs : a.eval s = v) (hown : OwnI w B v l) (hx : a.eval x = .slice (some ⟨g, 0, none⟩) 1 c)
    (hd : w.cell? ⟨g, 0, none⟩ = some (.int .i64 (d : Int))) (hn : l.length ≤ n) (hn' : n ≤ 1000000000) (hB : B ≤ w.heap.size)
    (h : ∀ v' w', OwnI w' B v' (l ++ [d]) → w.grownBy w' v.ownBlock → wpList Try.prog ops Q rest (a.put o.dst v') w') :
    wpList Try.prog ops Q (o :: rest) a w := by
  obtain ⟨i0, hi0, hz0, hz1, hz2⟩ := info_parts Try.info_int
  refine wpList_append_own w hgd s x 82 ho B 3 i0 (.int .i64 0) 1 8 Try.underlying82 hi0 hz0 hz1 hz2 rfl (by omega) v l.length (cellsI l) hs hown ⟨g, 0, none⟩ 1 c (cellsI [d]) hx rfl ?_ cellsI_one (by unfold maxLen; omega) (by omega) hB ?_
  · intro j u hu
    match j, hu with
    | 0, hu => simp [cellsI] at hu; subst hu; simpa [Addr.add] using hd
    | j + 1, hu => simp [cellsI] at hu
  · intro v' w' h1 h2 _
    refine h v' w' ?_ h2
    have e : cellsI l ++ cellsI [d] = cellsI (l ++ [d]) := by simp [cellsI]
    rw [e] at h1
    unfold OwnI
    rw [List.length_append]
    exact h1

set_option maxHeartbeats 4000000 in
theorem rtext_num (A : Option Addr) (n c N k : Nat) (w : World) (h : In w A n c N) (hN : N < M.BB ^ k) (hk : k ≤ 100000) :
    Calls Try.prog 59 #[.slice A n c] w (GivesText w N) := by
  have hN := Lib.hid hN
  go_enter Try.func59, Try.ntmps59
  go_wp2_with fail
  refine (bits_num h).mono ?_
  rintro e w1 ⟨v1, rfl, n1, b1⟩
  obtain ⟨A1, m, c1, bs, rfl, t1, _, e1, q1⟩ := n1.bts hN.out
  have E1 := Lib.hid e1
  have hm : m ≤ 3200000 := by omega
  have HBL : Hid (bs.length = m) := t1.1
  clear e1 n1 q1
  go_wp2_with fail
  go_loopw [4, 5] (fun dv iv wr => ∃ (i : Nat) (ds : List Nat), i ≤ m ∧ iv = .int .i64 ((i : Int) - 1) ∧ ds.length ≤ m - i ∧ T.Digs ds (Bt.val (bs.drop i)) ∧ OwnI wr w1.heap.size dv ds ∧ Below w1.heap.size w1 wr) (fun _ iv _ => (intOf iv + 1).toNat)
  case atStart => exact ⟨m, [], by omega, rfl, by simp, by rw [List.drop_of_length_le (by rw [HBL.out]; exact Nat.le_refl _)]; exact T.Digs.nil, OwnI.nil_ _ _, Below.refl _ _⟩
  case round =>
    obtain ⟨i, ds, hi, rfl, hdl, hdg, hown, hbel⟩ := hrel
    by_cases h0 : 0 < i
    · obtain ⟨j, hj⟩ : ∃ j : Nat, Hid (i - 1 = j) := ⟨_, rfl⟩
      have he : (i : Int) - 1 = (j : Int) := by have := hj.out; omega
      have hjm : j < m := by have := hj.out; omega
      obtain ⟨b, off, rfl, hb, hcs⟩ := t1.at_ (by omega)
      obtain ⟨x, HX, hcell⟩ := hcs j hjm
      have hcx : wr.cell? ⟨b, off + j, none⟩ = some (.bool x) := (hbel.cell hb).trans hcell
      clear hcs hcell
      have hdr : Hid (Bt.val (bs.drop j) = 2 * Bt.val (bs.drop i) + x.toNat) := by
        rw [Bt.val_drop bs j, ← HX.out, show j + 1 = i from by have := hj.out; omega]
        exact Nat.add_comm _ _
      obtain ⟨dl, hdl2⟩ : ∃ dl, Hid (ds.length = dl) := ⟨_, rfl⟩
      have hdl3 : dl ≤ m - i := by rw [← hdl2.out]; exact hdl
      obtain ⟨Ad, cd, rfl⟩ := hown.length
      rw [hdl2.out] at hown ⊢
      obtain ⟨wo, rfl⟩ : ∃ wo : World, wo = wr := ⟨_, rfl⟩
      obtain ⟨y, hy, hy1⟩ : ∃ y, Hid (x.toNat = y) ∧ y ≤ 1 := ⟨_, rfl, Bt.bit_le x⟩
      rw [hy.out] at hdr
      have HDG := Lib.hid hdg
      have HFD := Lib.hid hdg.fit
      have HX0 := Lib.hid HX.out
      clear hdg HX hdl
      rcases (show (x = false ∧ y = 0) ∨ (x = true ∧ y = 1) from by
        cases x
        · exact .inl ⟨rfl, hy.out.symm⟩
        · exact .inr ⟨rfl, hy.out.symm⟩) with ⟨rfl, hy0⟩ | ⟨rfl, hy0⟩
      all_goals
        have HY0 := Lib.hid hy0
        clear hy0
        go_wp2_with fail
        go_loopw [6, 7] (fun cv kv wi => ∃ (q cc : Nat) (es : List Nat), q ≤ dl ∧ cc ≤ 1 ∧ kv = .int .i64 q ∧ cv = .int .i64 cc ∧ T.Dbl ds es dl q y cc ∧ OwnI wi w1.heap.size (.slice Ad dl cd) es ∧ Below w1.heap.size w1 wi) (fun _ kv _ => dl - (intOf kv).toNat)
        case atStart => exact ⟨0, y, ds, by omega, hy1, rfl, by rw [HY0.out]; rfl, T.Dbl.start hdl2.out HFD.out hy1, hown, hbel⟩
        case round =>
          obtain ⟨q, cc, es, hq, hcc, rfl, rfl, hdb, hown2, hbel2⟩ := hrel
          have HEL : Hid (es.length = dl) := hdb.len
          by_cases hql : q < dl
          · obtain ⟨g, cg, hv', hBg, hcells, hfr, hset⟩ := hown2.form (by rw [HEL.out]; omega)
            injection hv' with hv1 hv2 hv3
            subst hv1
            obtain ⟨v, HV⟩ : ∃ v, Hid (v = es.getD q 0) := ⟨_, rfl⟩
            have hcell := hcells q (by rw [HEL.out]; exact hql)
            rw [← HV.out] at hcell
            have hv9 : v ≤ 9 := by have := hdb.fit q; rw [← HV.out, T.BB_eq] at this; omega
            have hfq := hfr q
            have HS : Hid (OwnI (wr.setCell ⟨g, q, none⟩ (.int .i64 ((2 * (v : Int) + (cc : Int)) % 10))) w1.heap.size (.slice (some ⟨g, 0, none⟩) dl cd) (es.set q ((2 * v + cc) % 10))) := by
              have := hset q ((2 * v + cc) % 10)
              rw [show (((2 * v + cc) % 10 : Nat) : Int) = (2 * (v : Int) + (cc : Int)) % 10 from by omega] at this
              exact this
            have hdb2 := hdb.step (t := 2 * v + cc) hql HV.out rfl
            have HB2 := Lib.hid (hbel2.setCell (p := ⟨g, q, none⟩) hBg (.int .i64 ((2 * (v : Int) + (cc : Int)) % 10)))
            clear hcells hfr hset hv2 hv3 hown2 hdb
            go_wp2_with fail
            go_roundw
            case rel => exact ⟨q + 1, (2 * v + cc) / 10, _, by omega, by omega, by go_num, by go_num, hdb2, HS.out, HB2.out⟩
            case measure => simp [intOf]; omega
          · obtain rfl : q = dl := by omega
            by_cases hc0 : 0 < cc
            · have hd2 := HDG.out.end1 hdb hdl2.out hc0
              rw [← hdr.out] at hd2
              have hlit : ∀ W : World, (W.alloc (.cells #[.int .i64 (cc : Int)] 3)).cell? ⟨W.heap.size, 0, none⟩ = some (.int .i64 (cc : Int)) := fun W => by
                rw [World.cell?_alloc_at _ _ _ _ rfl]; rfl
              have HLIT := Lib.hid hlit
              clear hlit
              go_wp2_with (refine appendI rfl (.tmp 46) (.tmp 48) rfl rfl (hown2.alloc _) rfl (HLIT.out _) (n := 4000000) (by rw [HEL.out]; omega) (by omega) (by simp; have := hbel2.size; omega) ?_; intro v4 w4 ho4 hg4)
              have hbel4 := (hbel2.alloc hbel2.size _).grown hg4 (by simp; have := hbel2.size; omega) (hown2.own_ge (Nat.le_refl _))
              go_roundw
              case rel => exact ⟨j, _, by omega, by go_num, by rw [List.length_append, HEL.out]; simp; have := hj.out; omega, hd2, ho4, hbel4⟩
              case measure => simp [intOf]; omega
            · obtain rfl : cc = 0 := by omega
              have hd2 := HDG.out.end0 hdb hdl2.out
              rw [← hdr.out] at hd2
              go_wp2_with fail
              go_roundw
              case rel => exact ⟨j, es, by omega, by go_num, by rw [HEL.out]; have := hj.out; omega, hd2, hown2, hbel2⟩
              case measure => simp [intOf]; omega
    · have hi00 : i ≤ 0 := by omega
      have hz : (i : Int) - 1 < 0 := by omega
      have hdg0 : T.Digs ds N := by have := hdg; rw [show i = 0 from by omega, List.drop_zero, E1.out] at this; exact this
      have HDG := Lib.hid hdg0
      obtain ⟨dl, hdl2⟩ : ∃ dl, Hid (ds.length = dl) := ⟨_, rfl⟩
      obtain ⟨Ad, cd, rfl⟩ := hown.length
      rw [hdl2.out] at hown hdl ⊢
      clear hdg hdg0
      by_cases hd0 : dl = 0
      · subst hd0
        have hnil : ds = [] := List.eq_nil_of_length_eq_zero hdl2.out
        have hT : Hid (T.Txt N [48]) := T.Digs.zero (by rw [← hnil]; exact HDG.out)
        clear hnil
        go_wp2_with fail
        go_ret
        exact ⟨[48], rfl, hT.out, b1.trans (hbel.mono b1.size)⟩
      · have hd1 : ((dl : Int) == 0) = false := by simp; omega
        have hdp : 0 < dl := by omega
        obtain ⟨g, cg, hv', hBg, hcells, _, _⟩ := hown.form (by rw [hdl2.out]; exact hdp)
        injection hv' with hv1 hv2 hv3
        subst hv1
        have hgl : g < wr.heap.size := (World.ownsRow.lt hown g rfl).2
        have hT : Hid (T.Txt N (T.byt (T.asc ds).reverse)) := HDG.out.txt (by rintro rfl; have := hdl2.out; simp at this; omega)
        have HC := Lib.hid hcells
        clear hcells hd0 hv2 hv3 hown
        obtain ⟨wo, rfl⟩ : ∃ wo : World, wo = wr := ⟨_, rfl⟩
        go_wp2_with fail
        go_loopw [9, 10] (fun ov iv wi => ∃ (i : Nat), i ≤ dl ∧ iv = .int .i64 ((i : Int) - 1) ∧ Own8 wi wo.heap.size ov (T.asc (ds.drop i)).reverse ∧ Below wo.heap.size wo wi) (fun _ iv _ => (intOf iv + 1).toNat)
        case atStart => exact ⟨dl, by omega, rfl, by rw [List.drop_of_length_le (by rw [hdl2.out]; exact Nat.le_refl _)]; exact Own8.nil_ _ _, Below.refl _ _⟩
        case round =>
          obtain ⟨i, hi, rfl, ho8, hb8⟩ := hrel
          have hol : (T.asc (ds.drop i)).reverse.length = dl - i := by rw [List.length_reverse, T.asc_length, List.length_drop, hdl2.out]
          by_cases hi0 : 0 < i
          · obtain ⟨j, hj⟩ : ∃ j : Nat, Hid (i - 1 = j) := ⟨_, rfl⟩
            have he : (i : Int) - 1 = (j : Int) := by have := hj.out; omega
            have hjd : j < dl := by have := hj.out; omega
            obtain ⟨v, HV⟩ : ∃ v, Hid (v = ds.getD j 0) := ⟨_, rfl⟩
            have hcell := HC.out j (by rw [hdl2.out]; exact hjd)
            rw [← HV.out] at hcell
            have hcell2 : wr.cell? ⟨g, j, none⟩ = some (.int .i64 (v : Int)) := (hb8.cell (p := ⟨g, j, none⟩) hgl).trans hcell
            have hv9 : v ≤ 9 := by have := HDG.out.fit j; rw [← HV.out, T.BB_eq] at this; omega
            have HDD : Hid (∀ W : World, (W.alloc (.cells #[.int .u8 (48 + (v : Int))] 5)).cell? ⟨W.heap.size, 0, none⟩ = some (.int .u8 ((48 + v : Nat) : Int))) := fun W => by
              rw [World.cell?_alloc_at _ _ _ _ rfl]
              simp
            have HAS : Hid ((T.asc (ds.drop j)).reverse = (T.asc (ds.drop i)).reverse ++ [48 + v]) := by
              rw [T.asc_drop ds j (by rw [hdl2.out]; exact hjd), ← HV.out, show j + 1 = i from by have := hj.out; omega]
              exact rfl
            have HOL := Lib.hid hol
            clear hol hcell
            go_wp2_with (refine append8 rfl (.tmp 60) (.tmp 67) rfl rfl (ho8.alloc _) rfl (HDD.out _) (n := 4000000) (by rw [HOL.out]; omega) (by omega) (by simp; have := hb8.size; omega) ?_; intro v4 w4 ho4 hg4)
            rw [← HAS.out] at ho4
            have hb9 := (hb8.alloc hb8.size _).grown hg4 (by simp; have := hb8.size; omega) (ho8.own_ge (Nat.le_refl _))
            go_roundw
            case rel => exact ⟨j, by omega, by go_num, ho4, hb9⟩
            case measure => simp [intOf]; omega
          · obtain rfl : i = 0 := by omega
            have hz0 : ((0 : Nat) : Int) - 1 < 0 := by omega
            rw [List.drop_zero] at ho8
            obtain ⟨g8, c8, rfl, _, _, _, hby⟩ := ho8.form (by rw [List.length_reverse, T.asc_length, hdl2.out]; exact hdp)
            obtain ⟨n8, hn8⟩ : ∃ n8, Hid ((T.asc ds).reverse.length = n8) := ⟨_, rfl⟩
            have hcv := conv8 (w := wr) (n := n8) (c := c8) hby hn8.out.symm
            rw [hn8.out] at ho8 ⊢
            clear hol ho8
            go_wp2_with fail
            go_ret
            exact ⟨_, rfl, hT.out, (b1.trans (hbel.mono b1.size)).trans (hb8.mono (b1.trans (hbel.mono b1.size)).size)⟩
end Go.Proofs.Ytiehkciofggonaa
