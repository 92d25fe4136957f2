/- slices.Concat, slices.Delete over runs. -/
import Derived.Test.YtdpbglofijpfnaaUA
import Derived.Deep.DeepAppendRoom
namespace Go.Proofs.Ytdpbglofijpfnaa
open Go.RowKit

set_option maxRecDepth 100000 in
set_option maxHeartbeats 4000000 in
theorem klconcat8 (w : World) (g : Nat) (A : Option Addr) (n c : Nat) (R : List (Int × Int)) (B : Option Addr) (m d : Nat) (S : List (Int × Int)) (hg : g < w.heap.size) (h0 : w.cell? ⟨g, 0, none⟩ = some (.slice A n c)) (h1 : w.cell? ⟨g, 1, none⟩ = some (.slice B m d))
    (hR : RunS w A n R) (hS : RunS w B m S) (hn : n ≤ 500000) (hm : m ≤ 500000) :
    Calls Try.prog 48 #[.slice (some ⟨g, 0, none⟩) 2 2] w fun e w' => RSaid w (R ++ S) e w' := by
  have HG : Hid (Calls Try.prog 52 #[.slice none 0 0, .int .i64 ((n : Int) + (m : Int))] w fun e w' => RSaid w [] e w') := by
    have := kgrow8 w (n + m) (by omega)
    rwa [Int.natCast_add] at this
  have HC : Hid (∀ W, Below w.heap.size w W → W.cell? ⟨g, 0, none⟩ = some (.slice A n c) ∧ W.cell? ⟨g, 1, none⟩ = some (.slice B m d)) := fun W hW => ⟨(hW.cell (p := ⟨g, 0, none⟩) hg).trans h0, (hW.cell (p := ⟨g, 1, none⟩) hg).trans h1⟩
  have HR := Lib.hid hR
  have HS := Lib.hid hS
  have hn0 : (0 : Int) ≤ (n : Int) := by omega
  have hm0 : (0 : Int) ≤ (n : Int) + (m : Int) := by omega
  have hn1 : decide ((n : Int) < 0) = false := decide_eq_false (by omega)
  have hm1 : decide ((n : Int) + (m : Int) < 0) = false := decide_eq_false (by omega)
  clear hR hS
  go_enter Try.func48, Try.ntmps48
  go_wp2
  go_loopw [3, 11] (fun sv iv wr => w = wr ∧ ((iv = .int .i64 0 ∧ sv = .int .i64 0) ∨ (iv = .int .i64 1 ∧ sv = .int .i64 n) ∨ (iv = .int .i64 2 ∧ sv = .int .i64 ((n : Int) + (m : Int))))) (fun _ iv _ => 2 - (intOf iv).toNat)
  case atStart => exact ⟨rfl, .inl ⟨rfl, rfl⟩⟩
  case round =>
    obtain ⟨rfl, hways⟩ := hrel
    rcases hways with ⟨rfl, rfl⟩ | ⟨rfl, rfl⟩ | ⟨rfl, rfl⟩
    · go_wp2
      go_roundw
      case rel => exact ⟨by first | trivial | rfl, .inr (.inl ⟨by go_num, by go_num⟩)⟩
      case measure => simp [intOf]
    · go_wp2
      go_roundw
      case rel => exact ⟨by first | trivial | rfl, .inr (.inr ⟨by go_num, by go_num⟩)⟩
      case measure => simp [intOf]
    · go_wp2_with fail
      refine HG.out.mono ?_
      rintro e w1 ⟨⟨A1, c1, rfl, o1⟩, b1⟩
      have HI : Hid (OwnR w1 w.heap.size A1 c1 [] ∧ Below w.heap.size w w1) := ⟨o1, b1⟩
      clear o1 b1 HG h0 h1
      go_wp2
      go_loopw [6, 27] (fun v iv wr => ∃ A c, (iv = .int .i64 0 ∧ v = .slice A 0 c ∧ Hid (OwnR wr w.heap.size A c [] ∧ Below w.heap.size w wr)) ∨ (iv = .int .i64 1 ∧ v = .slice A n c ∧ Hid (OwnR wr w.heap.size A c R ∧ Below w.heap.size w wr)) ∨ (iv = .int .i64 2 ∧ v = .slice A (n + m) c ∧ Hid (OwnR wr w.heap.size A c (R ++ S) ∧ Below w.heap.size w wr))) (fun _ iv _ => 2 - (intOf iv).toNat)
      case atStart => exact ⟨A1, c1, .inl ⟨rfl, rfl, HI⟩⟩
      case round =>
        obtain ⟨A2, c2, ⟨rfl, rfl, HJ⟩ | ⟨rfl, rfl, HJ⟩ | ⟨rfl, rfl, HJ⟩⟩ := hrel
        · obtain ⟨q1, q2⟩ := HC.out wr HJ.out.2
          have hR' := Lib.hid (HR.out.below HJ.out.2)
          have hbs := HJ.out.2.size
          go_wp2_with (at_builtin; refine appendRS _ rfl (.tmp 31) (.tmp 32) rfl w.heap.size _ [] 0 rfl rfl HJ.out.1 A n c R rfl hR'.out (by omega) hbs ?_; intro A3 c3 w3 o3 g3; simp only [Nat.zero_add, List.nil_append] at o3 ⊢; have HN : Hid (OwnR w3 w.heap.size A3 c3 R ∧ Below w.heap.size w w3) := ⟨o3, HJ.out.2.grown g3 hbs (fun k hk => (HJ.out.1.lt rfl hk).1)⟩; clear o3 g3)
          go_roundw
          case rel => exact ⟨A3, c3, .inr (.inl ⟨by go_num, rfl, HN⟩)⟩
          case measure => simp [intOf]
        · obtain ⟨q1, q2⟩ := HC.out wr HJ.out.2
          have hS' := Lib.hid (HS.out.below HJ.out.2)
          have hbs := HJ.out.2.size
          have hl := HR.out.len
          have hown : Hid (wr.ownsRow w.heap.size 38 2 (.slice A2 n c2) n (rcells R)) := by have := HJ.out.1; unfold OwnR at this; rwa [hl] at this
          go_wp2_with (at_builtin; refine appendRS _ rfl (.tmp 31) (.tmp 32) rfl w.heap.size _ R n hl rfl hown.out B m d S rfl hS'.out (by omega) hbs ?_; intro A3 c3 w3 o3 g3; have HN : Hid (OwnR w3 w.heap.size A3 c3 (R ++ S) ∧ Below w.heap.size w w3) := ⟨o3, HJ.out.2.grown g3 hbs (fun k hk => (HJ.out.1.lt hl hk).1)⟩; clear o3 g3)
          go_roundw
          case rel => exact ⟨A3, c3, .inr (.inr ⟨by go_num, rfl, HN⟩)⟩
          case measure => simp [intOf]
        · have hl : (R ++ S).length = n + m := by rw [List.length_append, HR.out.len, HS.out.len]
          go_wp2
          go_ret
          exact ⟨⟨A2, c2, by rw [hl]; rfl, HJ.out.1⟩, HJ.out.2⟩

/-- what lies behind a row of one's own, within its block, may be turned -/
theorem OwnR.wipe {w : World} {B g c M : Nat} {L : List (Int × Int)} (h : OwnR w B (some ⟨g, 0, none⟩) c L) (hM : L.length = M) (hc : M + 1 ≤ c) (vs : List Value) :
    (∀ j, j < 2 → (w.cell? ⟨g, M * 2 + j, none⟩).isSome = true) ∧ (∀ j, j < 2 → w.frozen? ⟨g, M * 2 + j, none⟩ = false) ∧ OwnR (w.setCells g (M * 2) vs) B (some ⟨g, 0, none⟩) c L ∧ w.grownBy (w.setCells g (M * 2) vs) (some g) := by
  subst hM
  rcases h.2 with ⟨e, _⟩ | ⟨g', cap, cur, e, hB, hg, hnc, hcm, hsz, htk⟩
  · cases e
  · cases e
    have hl : Lies w g 38 cur := hg
    obtain ⟨cs', q1, q2, q3, q4⟩ := Lies.fill vs (L.length * 2) hl
    refine ⟨fun j hj => ?_, fun j _ => hl.free _, ⟨h.1, .inr ⟨g, c, cs', rfl, hB, q1, hnc, hcm, by rw [q2, hsz], ?_⟩⟩, q4⟩
    · rw [hl.cell, Array.getElem?_eq_getElem (by omega)]
      rfl
    · rw [← htk]
      refine List.ext_getElem? fun i => ?_
      rw [List.getElem?_take, List.getElem?_take]
      split
      · rename_i hi
        rw [Array.getElem?_toList, Array.getElem?_toList]
        exact q3 i hi
      · rfl
theorem stepSpareR {w : World} {ops : Array Oper} {o : Oper} {a : Act} {K : Act → World → Prop} {Q : Exit → Act → World → Prop} {E : Prop} (hgd : o.guard = none) (s x : Operand)
    (ho : o.op = .call { callee := .builtin .append, args := #[s, x], argTypes := #[22, 22] }) (B g n cap : Nat) (L : List (Int × Int)) (hn : L.length = n) (hs : a.eval s = .slice (some ⟨g, 0, none⟩) n cap) (hown : OwnR w B (some ⟨g, 0, none⟩) cap L)
    (X : Option Addr) (m d : Nat) (S : List (Int × Int)) (hx : a.eval x = .slice X m d) (hr : RunS w X m S) (hroom : n + m ≤ cap)
    (h : ∀ w', OwnR w' B (some ⟨g, 0, none⟩) cap (L ++ S) → w.grownBy w' (some g) → K (a.put o.dst (.slice (some ⟨g, 0, none⟩) (n + m) cap)) w') :
    if Region.wanted o (yielded ops a.tmps) = true then Oper.wp Try.prog o a w K Q else E := by
  have hw : Region.wanted o (yielded ops a.tmps) = true := by simp [Region.wanted, hgd]
  rw [if_pos hw]
  obtain ⟨i0, hi, hz0, hz1, hz2⟩ := info_parts infoR7
  subst hn
  have hS := hr.len
  rcases Nat.eq_zero_or_pos m with e | e
  · subst e
    obtain rfl := List.eq_nil_of_length_eq_zero hS
    have hrun : (Builtin.append_ #[22, 22] o.type #[.slice (some ⟨g, 0, none⟩) L.length cap, .slice X 0 d]).run Try.prog w = .ok (.slice (some ⟨g, 0, none⟩) (L.length + 0) cap) w := by
      have hnc : L.length ≤ cap := hroom
      cases X <;> simp [Builtin.append_, run_underlying Try.underlying22, sizeOf, typeInfo, hi, Builtin.lenOf, Builtin.firstCells, loadCells, loadCellsFrom, hnc, storeCells]
    unfold Oper.wp execOp
    simp only [ho, resolve, invoke, builtin, Sem.run_bind, Sem.run_pure, Result.andThen_ok, List.map_toArray, List.map_cons, List.map_nil, hs, hx, hrun]
    exact h w (by rw [List.append_nil]; exact hown) ⟨rfl, rfl, rfl, Nat.le_refl _, fun _ _ _ => rfl⟩
  · obtain ⟨b, off, rfl, _⟩ := hr.at_ e
    refine wp_append_own_spare w s x 22 ho B 38 i0 2 Try.underlying22 hi hz1 g L.length cap (rcells L) hs hown ⟨b, off, none⟩ m d (rcells S) hx (by rw [rs_length, hS]) hr.cells (rs_one S) hroom fun w' q1 q2 => h w' ?_ q2
    unfold OwnR
    rw [rs_app, List.length_append, hS]
    exact q1
theorem OwnR.prefix_ {w : World} {B : Nat} {A : Option Addr} {c k : Nat} {L : List (Int × Int)} (h : OwnR w B A c L) (hk : k ≤ L.length) : OwnR w B A c (L.take k) := by
  have hl : (L.take k).length = k := by rw [List.length_take, Nat.min_eq_left hk]
  have e : rcells (L.take k) = (rcells L).take (k * 2) := by
    have e0 : rcells L = rcells (L.take k) ++ rcells (L.drop k) := by rw [← rs_app, List.take_append_drop]
    rw [e0, List.take_left' (by rw [rs_length, hl])]
  unfold OwnR
  rw [hl, e]
  refine ⟨by rw [List.length_take, rs_length]; omega, ?_⟩
  rcases h.2 with ⟨e1, h0⟩ | ⟨g, cap, cur, e1, q1, q2, q3, q4, q5, q6⟩
  · injection e1 with e1 e2 e3
    subst e1
    subst e3
    obtain rfl : k = 0 := by omega
    exact .inl ⟨rfl, rfl⟩
  · injection e1 with e1 e2 e3
    subst e1
    subst e3
    refine .inr ⟨g, c, cur, rfl, q1, q2, by omega, q4, q5, ?_⟩
    rw [← q6, List.take_take, Nat.min_eq_left (by omega)]

set_option maxRecDepth 100000 in
set_option maxHeartbeats 4000000 in
theorem kldelete8 (w : World) (base g c N i : Nat) (L : List (Int × Int)) (h : OwnR w base (some ⟨g, 0, none⟩) c L) (hN : L.length = N) (hi : i < N) (hn : N ≤ 1000000) (hb : base ≤ w.heap.size) :
    Calls Try.prog 49 #[.slice (some ⟨g, 0, none⟩) N c, .int .i64 i, .int .i64 ((i : Int) + 1)] w fun e w' => e = .returned (.slice (some ⟨g, 0, none⟩) (N - 1) c) ∧ OwnR w' base (some ⟨g, 0, none⟩) c (L.take i ++ L.drop (i + 1)) ∧ Below base w w' := by
  have hc : N ≤ c := by
    rcases h.2 with ⟨e, _⟩ | ⟨g', cap, cur, e, _, _, hnc, _⟩
    · cases e
    · cases e
      omega
  have hg := (h.lt hN rfl).1
  have hr := h.runs hN
  have hb1 := h.prefix_ (k := i) (by omega)
  have hb2 := hr.drop (c := c) (k := i + 1) (by omega) hc
  have hne : ((i : Int) == (i : Int) + 1) = false := beq_eq_false_iff_ne.2 (by omega)
  have hii : (i : Int) ≤ (i : Int) + 1 := by omega
  have hiN : (i : Int) + 1 ≤ (N : Int) := by omega
  have hNc : (N : Int) ≤ (c : Int) := by omega
  have hi0 : (0 : Int) ≤ (i : Int) := by omega
  have HS0 : Hid (∀ W, ∃ v, (Instr.slice 22 (.slice (some ⟨g, 0, none⟩) N c) (some (.int .i64 (i : Int))) (some (.int .i64 ((i : Int) + 1))) (some (.int .i64 (N : Int)))).run Try.prog W = .ok v W) := fun W => by
    rw [run_slice_lhm W 22 _ N c (by kernel_rfl) .i64 .i64 .i64 (i : Int) ((i : Int) + 1) (N : Int) (by omega) (by omega) (by omega) (by omega), rcut_size]
    exact ⟨_, rfl⟩
  have HS1 := Lib.hid fun W => rcut_h (b := g) (off := 0) (n := N) (c := c) (k := i) W (by omega)
  have HS2 : Hid (∀ W, (Instr.slice 22 (.slice (some ⟨g, 0, none⟩) N c) (some (.int .i64 ((i : Int) + 1))) none none).run Try.prog W = .ok (.slice (if c = i + 1 then some ⟨g, 0, none⟩ else (some (⟨g, 0, none⟩ : Addr)).map (·.add ((i + 1) * 2))) (N - (i + 1)) (c - (i + 1))) W) := fun W => rcut_l (A := some ⟨g, 0, none⟩) (n := N) (c := c) (k := i + 1) W (by omega)
  generalize (if c = i + 1 then some (⟨g, 0, none⟩ : Addr) else (some (⟨g, 0, none⟩ : Addr)).map (·.add ((i + 1) * 2))) = X at hb2 HS2
  obtain ⟨m, hm⟩ : ∃ m, N - (i + 1) = m := ⟨_, rfl⟩
  generalize c - (i + 1) = d at HS2
  rw [hm] at hb2 HS2
  have hT : (L.take i ++ L.drop (i + 1)).length = i + m := by rw [List.length_append, List.length_take, List.length_drop]; omega
  have hti : (L.take i).length = i := by rw [List.length_take]; omega
  generalize hTd : L.take i ++ L.drop (i + 1) = T at hT ⊢
  have HD : Hid (∀ W, Below w.heap.size w W → OwnR W base (some ⟨g, 0, none⟩) c (L.take i) ∧ RunS W X m (L.drop (i + 1))) := fun W hW => ⟨hb1.kept hW, hb2.below hW⟩
  have HM : Hid (∀ W, OwnR W base (some ⟨g, 0, none⟩) c T → (∀ ty, (Builtin.clear_ #[22] ty #[.slice (some ⟨g, (i + m) * 2, none⟩) 1 (c - (i + m))]).run Try.prog W = .ok (.tuple #[]) (W.setCells g ((i + m) * 2) [.int .i64 0, .int .i64 0])) ∧ OwnR (W.setCells g ((i + m) * 2) [.int .i64 0, .int .i64 0]) base (some ⟨g, 0, none⟩) c T ∧ W.grownBy (W.setCells g ((i + m) * 2) [.int .i64 0, .int .i64 0]) (some g)) := fun W hW => by
    obtain ⟨q1, q2, q3, q4⟩ := hW.wipe hT (by omega) [.int .i64 0, .int .i64 0]
    refine ⟨fun ty => ?_, q3, q4⟩
    have hst := run_storeCells_cells (P := Try.prog) g ((i + m) * 2) [.int .i64 0, .int .i64 0] 0 W (by simpa using q1) (by simpa using q2) (by intro v hv; simp at hv; rw [hv]; rfl)
    simp only [Nat.add_zero] at hst
    have hz : (Builtin.zeroCells (Value.agg #[.int .i64 0, .int .i64 0]).cells 1).toList = [.int .i64 0, .int .i64 0] := by kernel_rfl
    have hv : ∀ W, (zeroValue 38).run Try.prog W = .ok (.agg #[.int .i64 0, .int .i64 0]) W := fun W => by kernel_rfl
    simp [Builtin.clear_, run_underlying Try.underlying22, hv, hz, hst]
  have HS3 : Hid (∀ W, (Instr.slice 22 (.slice (some ⟨g, 0, none⟩) (i + m) c) (some (.int .i64 ((i : Int) + (m : Int)))) (some (.int .i64 (N : Int))) none).run Try.prog W = .ok (.slice (some ⟨g, (i + m) * 2, none⟩) 1 (c - (i + m))) W) := fun W => by
    have := rcut_lh (A := some ⟨g, 0, none⟩) (n := i + m) (c := c) (k := i + m) (m := N) W (by omega) hc
    rw [if_neg (by omega), show N - (i + m) = 1 by omega, Int.natCast_add] at this
    simpa [addr_add] using this
  have hNm : N - 1 = i + m := by omega
  rw [hNm]
  have him : (i : Int) + (m : Int) ≤ (N : Int) := by omega
  obtain ⟨v0, hv0⟩ : ∃ v0 : World → Value, ∀ W, (Instr.slice 22 (.slice (some ⟨g, 0, none⟩) N c) (some (.int .i64 (i : Int))) (some (.int .i64 ((i : Int) + 1))) (some (.int .i64 (N : Int)))).run Try.prog W = .ok (v0 W) W := ⟨fun W => (HS0.out W).choose, fun W => (HS0.out W).choose_spec⟩
  clear h hr hb1 hb2 HS0 hm hNm
  go_enter Try.func49, Try.ntmps49
  go_wp2
  have s1 := HS1.out
  have s2 := HS2.out
  have HDd := Lib.hid (HD.out w.drew (Below.drew_ w _))
  clear HD HS1 HS2
  go_region_held3 (fun _ => True) (trivial)
    ((refine stepSpareR rfl (.tmp 22) (.tmp 25) rfl base g i c (L.take i) hti rfl HDd.out.1 X m d (L.drop (i + 1)) rfl HDd.out.2 (by omega) ?_; intro w2 o2 g2; have HO := Lib.hid o2; have HB2 : Hid (Below base w w2) := (Below.drew_ w base).trans ((Below.refl base w.drew).grown g2 hb (fun k hk => by cases hk; exact hg)); clear o2 g2))
  rw [hTd] at HO
  obtain ⟨hcl, hO3, hG3⟩ := HM.out w2 HO.out
  have hfin : Hid (OwnR (w2.setCells g ((i + m) * 2) [.int .i64 0, .int .i64 0]) base (some ⟨g, 0, none⟩) c T ∧ Below base w (w2.setCells g ((i + m) * 2) [.int .i64 0, .int .i64 0])) := ⟨hO3, HB2.out.grown hG3 (Nat.le_trans hb HB2.out.size) (fun k hk => by cases hk; exact hg)⟩
  have s3 := HS3.out
  clear HM HS3 HO HB2 hO3 hG3 HDd s1 s2 hv0
  go_wp2
  go_ret
  exact ⟨rfl, hfin.out⟩
end Go.Proofs.Ytdpbglofijpfnaa
