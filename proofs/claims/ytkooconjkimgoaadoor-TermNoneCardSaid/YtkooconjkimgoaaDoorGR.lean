/- several texts in one. -/
import Derived.Test.YtkooconjkimgoaaDoorGA
import Derived.Test.YtkooconjkimgoaaDoorGM
import Derived.Laws.AppendOwnNone
/- lists of bits in memory; append; the reference's trim: what it answers. -/
namespace Go.Proofs.YtkooconjkimgoaaDoor
open Go.RowKit

def cellsB (l : List Bool) : List Value := l.map Value.bool
theorem cellsB_length (l : List Bool) : (cellsB l).length = l.length := by simp [cellsB]
theorem cellsB_get {l : List Bool} {j : Nat} (h : j < l.length) : (cellsB l)[j]? = some (.bool (l.getD j false)) := by
  simp [cellsB, List.getD_eq_getElem?_getD, h]
theorem cellsB_one {l : List Bool} : ∀ v ∈ cellsB l, v.oneCell' = true := by
  intro v hv
  obtain ⟨x, _, rfl⟩ := List.mem_map.1 hv
  rfl
theorem Tryd.info_bool : (Tryd.prog.info? 4).map (fun i => (i.zero, i.size, i.bytes)) = some (some (.bool false), 1, 1) := by kernel_rfl

/-- the slice of n cells at A reads as the bits l -/
def Bts (w : World) (A : Option Addr) (n c : Nat) (l : List Bool) : Prop :=
  l.length = n ∧ n ≤ c ∧ c ≤ maxLen ∧ ((A = none ∧ n = 0 ∧ c = 0) ∨ ∃ b off, A = some ⟨b, off, none⟩ ∧ b < w.heap.size ∧ ∀ j, j < n → w.cell? ⟨b, off + j, none⟩ = some (.bool (l.getD j false)))

theorem Bts.below {w w' : World} {A : Option Addr} {n c : Nat} {l : List Bool} (h : Bts w A n c l) (hb : Below w.heap.size w w') : Bts w' A n c l := by
  obtain ⟨h1, h2, h3, h4⟩ := h
  refine ⟨h1, h2, h3, ?_⟩
  rcases h4 with h4 | ⟨b, off, e, h5, h6⟩
  · exact .inl h4
  · exact .inr ⟨b, off, e, Nat.lt_of_lt_of_le h5 hb.size, fun j hj => (hb.cell h5).trans (h6 j hj)⟩
theorem Bts.take {w : World} {A : Option Addr} {n c : Nat} {l : List Bool} (h : Bts w A n c l) {k : Nat} (hk : k ≤ n) : Bts w A k c (l.take k) := by
  obtain ⟨h1, h2, h3, h4⟩ := h
  refine ⟨by rw [List.length_take]; omega, by omega, h3, ?_⟩
  rcases h4 with ⟨h4, h5, h6⟩ | ⟨b, off, e, h5, h6⟩
  · exact .inl ⟨h4, by omega, h6⟩
  · refine .inr ⟨b, off, e, h5, fun j hj => (h6 j (by omega)).trans ?_⟩
    congr 2
    simp [List.getD_eq_getElem?_getD, hj]
theorem Bts.at_ {w : World} {A : Option Addr} {n c : Nat} {l : List Bool} (h : Bts w A n c l) (hn : 0 < n) :
    ∃ b off, A = some ⟨b, off, none⟩ ∧ b < w.heap.size ∧ ∀ j, j < n → ∃ x : Bool, Hid (x = l.getD j false) ∧ w.cell? ⟨b, off + j, none⟩ = some (.bool x) := by
  obtain ⟨_, _, _, h4⟩ := h
  rcases h4 with ⟨_, h5, _⟩ | ⟨b, off, e, h5, h6⟩
  · omega
  · exact ⟨b, off, e, h5, fun j hj => ⟨_, rfl, h6 j hj⟩⟩

/-- v holds the bits l, in a row of the call's own from block B on -/
def OwnB (w : World) (B : Nat) (v : Value) (l : List Bool) : Prop := w.ownsRow B 4 1 v l.length (cellsB l)
theorem OwnB.nil_ (w : World) (B : Nat) : OwnB w B (.slice none 0 0) [] := World.ownsRow_nil w B _ _
theorem OwnB.bts {w : World} {B : Nat} {v : Value} {l : List Bool} (h : OwnB w B v l) : ∃ A c, v = .slice A l.length c ∧ Bts w A l.length c l := by
  obtain ⟨h1, ⟨rfl, h2⟩ | ⟨g, cap, cur, rfl, hb, hh, hc, hm, hs, ht⟩⟩ := h
  · exact ⟨none, 0, by rw [h2], rfl, by omega, by omega, .inl ⟨rfl, h2, rfl⟩⟩
  · have hlt : g < w.heap.size := by
      rcases Nat.lt_or_ge g w.heap.size with h | h
      · exact h
      · rw [Array.getElem?_eq_none h] at hh; cases hh
    refine ⟨_, cap, rfl, rfl, hc, hm, .inr ⟨g, 0, rfl, hlt, fun j hj => ?_⟩⟩
    rw [Nat.zero_add, cell_of_row w g j cur _ (0, 0) hh]
    have := congrArg (·[j]?) ht
    simp only [Nat.mul_one] at this
    rw [cellsB_get hj, List.getElem?_take, if_pos hj] at this
    simpa using this
theorem OwnB.own_ge {w : World} {B : Nat} {v : Value} {l : List Bool} (h : OwnB w B v l) {b : Nat} (hb : b ≤ B) : ∀ k, v.ownBlock = some k → b ≤ k := fun k e => by
  have := (World.ownsRow.lt h k e).1
  omega
theorem OwnB.alloc {w : World} {B : Nat} {v : Value} {l : List Bool} (h : OwnB w B v l) (o : Obj) : OwnB (w.alloc o) B v l := World.ownsRow.alloc h o
/-- a literal list -/
theorem OwnB.lit (w : World) {B : Nat} (b : Bool) (hB : B ≤ w.heap.size) : OwnB (w.alloc (.cells #[.bool b] 4)) B (.slice (some ⟨w.heap.size, 0, none⟩) 1 1) [b] :=
  World.ownsRow_lit w #[.bool b] 1 hB (by unfold maxLen; omega) rfl

set_option maxRecDepth 100000 in
/-- append of bits -/
theorem appendB {w : World} {ops : Array Oper} {rest : List Oper} {o : Oper} {a : Act} {Q : Exit → Act → World → Prop} (hgd : o.guard = none) (s x : Operand)
    (ho : o.op = .call { callee := .builtin .append, args := #[s, x], argTypes := #[110, 110] })
    {B m c N : Nat} {A : Option Addr} {v : Value} {l k : List Bool} (hs : a.eval s = v) (hown : OwnB w B v l) (hx : a.eval x = .slice A m c) (hk : Bts w A m c k)
    (hn : l.length + m ≤ N) (hN : N ≤ 1000000000) (hB : B ≤ w.heap.size)
    (h : ∀ v' w', OwnB w' B v' (l ++ k) → w.grownBy w' v.ownBlock → wpList Tryd.prog ops Q rest (a.put o.dst v') w') :
    wpList Tryd.prog ops Q (o :: rest) a w := by
  obtain ⟨i0, hi0, hz0, hz1, hz2⟩ := info_parts Tryd.info_bool
  obtain ⟨h1, h2, h3, h4⟩ := hk
  rcases h4 with ⟨rfl, rfl, rfl⟩ | ⟨b, off, rfl, h5, h6⟩
  · obtain rfl : k = [] := List.eq_nil_of_length_eq_zero h1
    refine wpList_append_own_none hgd s x 110 ho B 4 i0 1 Tryd.underlying110 hi0 v l.length (cellsB l) hs hown hx ?_
    exact h v w (by rw [List.append_nil]; exact hown) (World.grownBy.refl _ _)
  · refine wpList_append_own w hgd s x 110 ho B 4 i0 (.bool false) 1 1 Tryd.underlying110 hi0 hz0 hz1 hz2 rfl (by omega) v l.length (cellsB l) hs hown ⟨b, off, none⟩ m c (cellsB k) hx (by rw [cellsB_length, h1, Nat.mul_one]) ?_ cellsB_one (by unfold maxLen; omega) (by omega) hB ?_
    · intro j u hu
      have hj : j < k.length := by
        rcases Nat.lt_or_ge j k.length with h1 | h1
        · exact h1
        · rw [List.getElem?_eq_none (by rw [cellsB_length]; exact h1)] at hu; cases hu
      rw [cellsB_get hj] at hu
      injection hu with hu
      subst hu
      have := h6 j (by omega)
      unfold Addr.add
      split <;> simp_all
    · intro v' w' g1 g2 _
      refine h v' w' ?_ g2
      have e : cellsB l ++ cellsB k = cellsB (l ++ k) := by simp [cellsB]
      rw [e] at g1
      unfold OwnB
      rw [List.length_append, h1]
      exact g1

/-- a number as bits, in its own form, in memory -/
def BNum (w : World) (v : Value) (N : Nat) : Prop := ∃ A n c l, v = .slice A n c ∧ Bts w A n c l ∧ Bt.Top l ∧ Bt.val l = N
def GivesB (W : World) (N : Nat) (e : Ending) (w' : World) : Prop := ∃ v, e = .returned v ∧ BNum w' v N ∧ Below W.heap.size W w'
theorem BNum.below {w w' : World} {v : Value} {N : Nat} (h : BNum w v N) (hb : Below w.heap.size w w') : BNum w' v N := by
  obtain ⟨A, n, c, l, e, h1, h2⟩ := h
  exact ⟨A, n, c, l, e, h1.below hb, h2⟩

/-- the reference's trim -/
theorem rtrim_any (A : Option Addr) (n c : Nat) (l : List Bool) (w : World) (h : Bts w A n c l) (hs : n ≤ 100000000) :
    Calls Tryd.prog 68 #[.slice A n c] w (GivesB w (Bt.val l)) := by
  have hc : c ≤ 9223372036854775807 := h.2.2.1
  have hn := h.2.1
  go_enter Tryd.func68, Tryd.ntmps68
  go_wp2_with fail
  go_loop [3] (fun t => ∃ k : Nat, k ≤ n ∧ t = .int .i64 k ∧ Hid (∀ j, k ≤ j → l.getD j false = false)) (fun t => (intOf t).toNat)
  case atStart => exact ⟨n, Nat.le_refl _, rfl, fun j hj => Bt.getD_ge (by rw [h.1]; exact hj)⟩
  case round =>
    obtain ⟨k, hk, rfl, HZ⟩ := hrel
    by_cases hgo : 0 < k ∧ l.getD (k - 1) false = false
    · obtain ⟨h0, hb0⟩ := hgo
      obtain ⟨b, off, rfl, hb, hcs⟩ := h.at_ (by omega)
      obtain ⟨x, HX, hcell⟩ := hcs (k - 1) (by omega)
      rw [hb0] at HX
      have HX' := Lib.hid hb0
      obtain rfl : x = false := HX.out
      clear hcs hb0
      go_wp2_with fail
      go_round
      case rel => exact ⟨k - 1, by omega, by go_num, fun j hj => by
        by_cases e : j = k - 1
        · subst e; exact HX'.out
        · exact HZ.out j (by omega)⟩
      case measure => simp [intOf]; omega
    · have htop : Hid (Bt.Top (l.take k)) := Bt.top_take l k (by rw [h.1]; exact hk) fun h0 => by
        cases e : l.getD (k - 1) false with
        | true => rfl
        | false => exact absurd ⟨h0, e⟩ hgo
      have hval : Hid (Bt.val (l.take k) = Bt.val l) := Bt.val_zeros l k HZ.out
      have hfin : ∀ v w', OwnB w' w.heap.size v (([] : List Bool) ++ l.take k) → w.grownBy w' (Value.slice none 0 0).ownBlock → GivesB w (Bt.val l) (.returned v) w' := by
        intro v w' ho hg
        rw [List.nil_append] at ho
        obtain ⟨A', c', rfl, hb⟩ := ho.bts
        exact ⟨_, rfl, ⟨A', _, c', _, rfl, hb, htop.out, hval.out⟩, (Below.refl _ _).grown hg (Nat.le_refl _) (by intro q hq; cases hq)⟩
      have HF := Lib.hid hfin
      clear hfin
      have happ : Hid (Bts w A k c (l.take k)) := h.take hk
      by_cases h0 : 0 < k
      · have hb0 : l.getD (k - 1) false = true := by
          cases e : l.getD (k - 1) false with
          | true => rfl
          | false => exact absurd ⟨h0, e⟩ hgo
        obtain ⟨b, off, rfl, hb, hcs⟩ := h.at_ (by omega)
        obtain ⟨x, HX, hcell⟩ := hcs (k - 1) (by omega)
        rw [hb0] at HX
        obtain rfl : x = true := HX.out
        clear hcs hb0 hgo
        go_wp2_with (refine appendB rfl (.const (.slice none 0 0)) (.tmp 20) rfl (N := n) rfl (OwnB.nil_ _ _) rfl happ.out (by simp; omega) (by omega) (Nat.le_refl _) ?_; intro v w2 ho hg)
        go_ret
        exact HF.out _ _ ho hg
      · obtain rfl : k = 0 := by omega
        clear hgo
        go_wp2_with (refine appendB rfl (.const (.slice none 0 0)) (.tmp 20) rfl (N := n) rfl (OwnB.nil_ _ _) rfl happ.out (by simp) (by omega) (Nat.le_refl _) ?_; intro v w2 ho hg)
        go_ret
        exact HF.out _ _ ho hg
end Go.Proofs.YtkooconjkimgoaaDoor

/- the reference's Bits: what it answers. -/
namespace Go.Proofs.YtkooconjkimgoaaDoor
open Go.RowKit

def lenOfB : Value → Nat | .slice _ n _ => n | _ => 0

set_option maxHeartbeats 1000000 in
theorem bits_any (A : Option Addr) (n c : Nat) (l : List Nat) (w : World) (h : Lims w A n l) (hs : n ≤ 1000000) :
    Calls Tryd.prog 60 #[.slice A n c] w (GivesB w (M.val l)) := by
  have hN : Hid (M.val l = M.val (l.take n)) := by rw [List.take_of_length_le (by rw [h.1]; exact Nat.le_refl _)]; exact rfl
  go_enter Tryd.func60, Tryd.ntmps60
  go_wp2_with fail
  go_loopw [3, 4] (fun dv iv wr => ∃ (i : Nat) (ds : List Bool), i ≤ n ∧ iv = .int .i64 i ∧ Bt.Bitting l ds i ∧ OwnB wr w.heap.size dv ds ∧ Below w.heap.size w wr) (fun _ iv _ => n - (intOf iv).toNat)
  case atStart => exact ⟨0, [], by omega, rfl, Bt.Bitting.start l, OwnB.nil_ _ _, Below.refl _ _⟩
  case round =>
    obtain ⟨i, ds, hi, rfl, hbt, hown, hbel⟩ := hrel
    have hdl := hbt.len
    have HDL := Lib.hid hdl
    clear hdl
    by_cases hlt : i < n
    · obtain ⟨b, off, rfl, hb, hcs⟩ := h.at_ (by omega)
      obtain ⟨x, HX, hx, hcell⟩ := hcs i hlt
      have hcell' : wr.cell? ⟨b, off + i, none⟩ = some (.int .u32 (x : Int)) := (hbel.cell hb).trans hcell
      clear hcs hcell
      obtain ⟨wo, rfl⟩ : ∃ wo : World, wo = wr := ⟨_, rfl⟩
      go_wp2_with fail
      go_loopw [3, 5, 6] (fun dv cv jv wi => ∃ (j cc : Nat) (es : List Bool), j ≤ 32 ∧ cc ≤ 4294967295 ∧ jv = .int .i64 j ∧ cv = .int .u32 cc ∧ Bt.Chunk ds es x j cc ∧ OwnB wi w.heap.size dv es ∧ Below w.heap.size w wi) (fun _ _ jv _ => 32 - (intOf jv).toNat)
      case atStart => exact ⟨0, x, ds, by omega, hx, rfl, rfl, Bt.Chunk.start (by omega), hown, hbel⟩
      case round =>
        obtain ⟨j, cc, es, hj, hcc, rfl, rfl, hch, hown2, hbel2⟩ := hrel
        have hel := hch.len
        have hel2 : es.length ≤ 33000000 := by have := HDL.out; omega
        clear hel
        by_cases hj32 : j < 32
        · have hch' := hch.step hj32
          obtain ⟨bb, HB⟩ : ∃ bb, Hid (decide (cc % 2 = 1) = bb) := ⟨_, rfl⟩
          rw [HB.out] at hch'
          have hbb : ((cc : Int) % 2 == 1) = bb := by
            rw [← HB.out]
            cases e : decide (cc % 2 = 1) with
            | true => have := of_decide_eq_true e; simp; omega
            | false => have := of_decide_eq_false e; simp; omega
          have hbo := fun W : World => (OwnB.lit W (B := W.heap.size) bb (Nat.le_refl _)).bts
          have HBO : Hid (∀ W : World, Bts (W.alloc (.cells #[.bool bb] 4)) (some ⟨W.heap.size, 0, none⟩) 1 1 [bb]) := fun W => by
            obtain ⟨A', c', e, h⟩ := hbo W
            injection e with e1 _ e2
            subst e1 e2
            exact h
          clear hbo
          go_wp2_with (refine appendB rfl (.tmp 21) (.tmp 25) rfl (N := 33000001) rfl (hown2.alloc _) rfl (HBO.out _) (by omega) (by omega) (by simp; have := hbel2.size; omega) ?_; intro v4 w4 ho4 hg4)
          have hbel4 := (hbel2.alloc hbel2.size (.cells #[.bool bb] 4)).grown hg4 (by simp; have := hbel2.size; omega) (hown2.own_ge (Nat.le_refl _))
          go_roundw
          case rel => exact ⟨j + 1, cc / 2, _, by omega, by omega, by go_num, by go_num, hch', ho4, hbel4⟩
          case measure => simp [intOf]; omega
        · obtain rfl : j = 32 := by omega
          have hbt' := hbt.step HX.out hch
          go_wp2_with fail
          go_roundw
          case rel => exact ⟨i + 1, es, by omega, by go_num, hbt', hown2, hbel2⟩
          case measure => simp [intOf]; omega
    · obtain rfl : i = n := by omega
      obtain ⟨A', c', rfl, hb⟩ := hown.bts
      have hd : ds.length ≤ 100000000 := by have := HDL.out; omega
      have HS := Lib.hid (hbt.sum.trans hN.out.symm)
      go_wp2_with fail
      refine (rtrim_any _ _ _ _ _ hb hd).mono ?_
      rintro e w2 ⟨v, rfl, hv, hb2⟩
      rw [HS.out] at hv
      go_wp2_with fail
      go_ret
      exact ⟨v, rfl, hv, hbel.trans (hb2.mono hbel.size)⟩
end Go.Proofs.YtkooconjkimgoaaDoor

/- the reference's Limbs, Norm, Of, Int: what each answers. -/
namespace Go.Proofs.YtkooconjkimgoaaDoor
open Go.RowKit

/-- v holds the limbs l, in a row of the call's own from block B on -/
def OwnU (w : World) (B : Nat) (v : Value) (l : List Nat) : Prop := w.ownsRow B 104 1 v l.length (cellsOf l)
theorem OwnU.nil_ (w : World) (B : Nat) : OwnU w B (.slice none 0 0) [] := World.ownsRow_nil w B _ _
theorem OwnU.lims {w : World} {B : Nat} {v : Value} {l : List Nat} (h : OwnU w B v l) (hf : M.Fit l) : ∃ A c, v = .slice A l.length c ∧ Lims w A l.length l ∧ l.length ≤ c ∧ c ≤ maxLen := by
  obtain ⟨h1, ⟨rfl, h2⟩ | ⟨g, cap, cur, rfl, hb, hh, hc, hm, hs, ht⟩⟩ := h
  · exact ⟨none, 0, by rw [h2], ⟨rfl, hf, fun h => by omega⟩, by omega, by omega⟩
  · have hlt : g < w.heap.size := by
      rcases Nat.lt_or_ge g w.heap.size with h | h
      · exact h
      · rw [Array.getElem?_eq_none h] at hh; cases hh
    refine ⟨_, cap, rfl, ⟨rfl, hf, fun _ => ⟨g, 0, rfl, hlt, fun j hj => ?_⟩⟩, hc, hm⟩
    rw [Nat.zero_add, cell_of_row w g j cur _ (0, 0) hh]
    have := congrArg (·[j]?) ht
    simp only [Nat.mul_one] at this
    rw [cellsOf_get hj, List.getElem?_take, if_pos hj] at this
    simpa using this
theorem OwnU.own_ge {w : World} {B : Nat} {v : Value} {l : List Nat} (h : OwnU w B v l) {b : Nat} (hb : b ≤ B) : ∀ k, v.ownBlock = some k → b ≤ k := fun k e => by
  have := (World.ownsRow.lt h k e).1
  omega
theorem OwnU.alloc {w : World} {B : Nat} {v : Value} {l : List Nat} (h : OwnU w B v l) (o : Obj) : OwnU (w.alloc o) B v l := World.ownsRow.alloc h o

set_option maxRecDepth 100000 in
/-- append of limbs -/
theorem appendU {w : World} {ops : Array Oper} {rest : List Oper} {o : Oper} {a : Act} {Q : Exit → Act → World → Prop} (hgd : o.guard = none) (s x : Operand)
    (ho : o.op = .call { callee := .builtin .append, args := #[s, x], argTypes := #[37, 37] })
    {B m c N : Nat} {A : Addr} {v : Value} {l k : List Nat} (hs : a.eval s = v) (hown : OwnU w B v l) (hx : a.eval x = .slice (some A) m c) (hk : Lims w (some A) m k)
    (hn : l.length + m ≤ N) (hN : N ≤ 1000000000) (hB : B ≤ w.heap.size)
    (h : ∀ v' w', OwnU w' B v' (l ++ k) → w.grownBy w' v.ownBlock → wpList Tryd.prog ops Q rest (a.put o.dst v') w') :
    wpList Tryd.prog ops Q (o :: rest) a w := by
  obtain ⟨i0, hi0, hz0, hz1, hz2⟩ := info_parts Tryd.info_u32
  obtain ⟨h1, h2, h3⟩ := hk
  refine wpList_append_own w hgd s x 37 ho B 104 i0 (.int .u32 0) 1 4 Tryd.underlying37 hi0 hz0 hz1 hz2 rfl (by omega) v l.length (cellsOf l) hs hown A m c (cellsOf k) hx (by rw [cellsOf_length, h1, Nat.mul_one]) ?_ cellsOf_one (by unfold maxLen; omega) (by omega) hB ?_
  · intro j u hu
    have hj : j < k.length := by
      rcases Nat.lt_or_ge j k.length with h1 | h1
      · exact h1
      · rw [List.getElem?_eq_none (by rw [cellsOf_length]; exact h1)] at hu; cases hu
    rw [cellsOf_get hj] at hu
    injection hu with hu
    subst hu
    obtain ⟨b, off, e, _, h6⟩ := h3 (by omega)
    injection e with e
    subst e
    have := h6 j (by omega)
    unfold Addr.add
    split <;> simp_all
  · intro v' w' g1 g2 _
    refine h v' w' ?_ g2
    have e : cellsOf l ++ cellsOf k = cellsOf (l ++ k) := by simp [cellsOf]
    rw [e] at g1
    unfold OwnU
    rw [List.length_append, h1]
    exact g1

/-- .. and where: in blocks of its own -/
def GivesO (W : World) (N : Nat) (e : Ending) (w' : World) : Prop := ∃ v, e = .returned v ∧ Num w' v N ∧ Below W.heap.size W w' ∧ ∀ q, v.ownBlock = some q → W.heap.size ≤ q
set_option maxHeartbeats 1000000 in
theorem limbs_own (A : Option Addr) (n c : Nat) (l : List Bool) (w : World) (h : Bts w A n c l) (hs : n ≤ 30000000) :
    Calls Tryd.prog 59 #[.slice A n c] w (GivesO w (Bt.val l)) := by
  obtain ⟨V, HV⟩ : ∃ V, Hid (Bt.val l = V) := ⟨_, rfl⟩
  have hVn : Hid (V < 2 ^ n) := by rw [← HV.out]; have := Bt.val_lt l; rw [h.1] at this; exact this
  rw [HV.out]
  have HT := Lib.hid (rtrim_any A n c l w h (by omega))
  rw [HV.out] at HT
  go_enter Tryd.func59, Tryd.ntmps59
  go_wp2_with fail
  refine HT.out.mono ?_
  rintro e w1 ⟨v1, rfl, ⟨A', n', c', bs, rfl, hbs, htop, hval⟩, hb1⟩
  have hn' : n' ≤ 30000000 := by
    have := Bt.len_le (k := n) htop (by rw [hval]; exact hVn.out)
    rw [hbs.1] at this
    omega
  have HTOP := Lib.hid htop
  have HVAL := Lib.hid hval
  clear htop hval
  go_wp2_with fail
  go_loopw [3, 4] (fun dv iv wr => ∃ (t : Nat) (out : List Nat), iv = .int .i64 ((32 * t : Nat) : Int) ∧ (t = 0 ∨ 32 * (t - 1) < n') ∧ Bt.Limbing bs out t ∧ OwnU wr w1.heap.size dv out ∧ Below w.heap.size w wr ∧ Below w1.heap.size w1 wr)
    (fun _ iv _ => n' + 32 - (intOf iv).toNat)
  case atStart => exact ⟨0, [], rfl, .inl rfl, Bt.Limbing.start bs, OwnU.nil_ _ _, hb1, Below.refl _ _⟩
  case round =>
    obtain ⟨t, out, rfl, ht, hlim, hown, hbel, hbel1⟩ := hrel
    have hol := hlim.len
    have HOL := Lib.hid hol
    clear hol
    have ht6 : t ≤ 1000000 := by omega
    obtain ⟨i, HI⟩ : ∃ i, Hid (32 * t = i) := ⟨_, rfl⟩
    rw [HI.out]
    have hi : i ≤ 32000000 := by have := HI.out; omega
    by_cases hlt : i < n'
    · obtain ⟨wo, rfl⟩ : ∃ wo : World, wo = wr := ⟨_, rfl⟩
      go_wp2_with fail
      go_loop [5, 6] (fun nv kv => ∃ r nn : Nat, r ≤ 32 ∧ nn ≤ 4294967295 ∧ kv = .int .i64 ((i : Int) + r - 1) ∧ nv = .int .u32 nn ∧ Hid (nn = Bt.val ((bs.drop (i + r)).take (32 - r)))) (fun _ kv => (intOf kv - i + 1).toNat)
      case atStart => exact ⟨32, 0, by omega, by omega, by go_num, rfl, rfl⟩
      case round =>
        obtain ⟨r, nn, hr, hnn, rfl, rfl, HN⟩ := hrel
        by_cases hr0 : 0 < r
        · obtain ⟨k, hk⟩ : ∃ k : Nat, Hid (i + r - 1 = k) := ⟨_, rfl⟩
          have he : (i : Int) + (r : Int) - 1 = (k : Int) := by have := hk.out; omega
          have hik : i ≤ k := by have := hk.out; omega
          have hkb : k ≤ 40000000 := by have := hk.out; omega
          have hnn2 : nn ≤ 2147483647 := by
            have h1 := Bt.val_piece_lt bs (i + r) (32 - r)
            rw [← HN.out] at h1
            have h2 : 2 ^ (32 - r) ≤ 2 ^ 31 := Nat.pow_le_pow_right (by omega) (by omega)
            omega
          obtain ⟨bb, HB⟩ : ∃ bb, Hid (bs.getD k false = bb) := ⟨_, rfl⟩
          have hstep : Hid (bb.toNat + 2 * nn = Bt.val ((bs.drop (i + (r - 1))).take (32 - (r - 1)))) := by
            have h1 := Bt.val_piece bs k (32 - r)
            have e1 : k + 1 = i + r := by have := hk.out; omega
            have e2 : i + (r - 1) = k := by have := hk.out; omega
            rw [e1, ← HN.out, HB.out] at h1
            rw [e2, show 32 - (r - 1) = 32 - r + 1 from by omega, h1]
            exact rfl
          by_cases hkn : k < n'
          · obtain ⟨b, off, rfl, hb, hcs⟩ := (hbs.below hbel1).at_ (by omega)
            obtain ⟨x, HX, hcell⟩ := hcs k hkn
            rw [HB.out] at HX
            obtain rfl : x = bb := HX.out
            clear hcs
            cases x
            · go_wp2_with fail
              go_round
              case rel => exact ⟨r - 1, 2 * nn, by omega, by omega, by go_num, by go_num, (show _ = _ from by simpa using hstep.out)⟩
              case measure => simp [intOf]; omega
            · go_wp2_with fail
              go_round
              case rel => exact ⟨r - 1, 1 + 2 * nn, by omega, by omega, by go_num, by go_num, (show _ = _ from by simpa using hstep.out)⟩
              case measure => simp [intOf]; omega
          · have hbf : bb = false := by rw [← HB.out]; exact Bt.getD_ge (by rw [hbs.1]; omega)
            subst hbf
            go_wp2_with fail
            go_round
            case rel => exact ⟨r - 1, 2 * nn, by omega, by omega, by go_num, by go_num, (show _ = _ from by simpa using hstep.out)⟩
            case measure => simp [intOf]; omega
        · obtain rfl : r = 0 := by omega
          have HN' : Hid (nn = Bt.val ((bs.drop (32 * t)).take 32)) := by rw [HI.out]; exact HN.out
          have hlim' := hlim.step HN'.out
          have hlu : ∀ W : World, Lims (W.alloc (.cells #[.int .u32 (nn : Int)] 104)) (some ⟨W.heap.size, 0, none⟩) 1 [nn] := fun W => lims_one W nn hnn
          have HLU := Lib.hid hlu
          clear hlu
          have hz : ((0 : Nat) : Int) = 0 := rfl
          have hlt' : (i : Int) + ((0 : Nat) : Int) - 1 < (i : Int) := by omega
          go_wp2_with (refine appendU rfl (.tmp 36) (.tmp 38) rfl (N := 1000001) rfl (hown.alloc _) rfl (HLU.out _) (by have := HOL.out; omega) (by omega) (by simp; have := hbel1.size; omega) ?_; intro v4 w4 ho4 hg4)
          have hbel4 := (hbel.alloc hbel.size (.cells #[.int .u32 (nn : Int)] 104)).grown hg4 (by simp; have := hbel.size; omega) (hown.own_ge hb1.size)
          have hbel14 := (hbel1.alloc hbel1.size (.cells #[.int .u32 (nn : Int)] 104)).grown hg4 (by simp; have := hbel1.size; omega) (hown.own_ge (Nat.le_refl _))
          go_roundw
          case rel => exact ⟨t + 1, _, by have := HI.out; go_num, .inr (by have := HI.out; omega), hlim', ho4, hbel4, hbel14⟩
          case measure => simp [intOf]; omega
    · obtain ⟨htp, hvl⟩ := hlim.end_ HTOP.out (by rw [hbs.1]; have := HI.out; omega) (by rw [hbs.1]; exact ht)
      have HTP := Lib.hid htp
      have HVL := Lib.hid (hvl.trans HVAL.out)
      have hfit := hlim.fit
      clear htp hvl
      obtain ⟨Ao, co, rfl, hlo, hlc, hcm⟩ := hown.lims hfit
      have HOW := Lib.hid (hown.own_ge hb1.size)
      go_wp2_with fail
      go_ret
      exact ⟨_, rfl, ⟨Ao, _, co, out, rfl, hlo, HTP.out, HVL.out, hlc, hcm⟩, hbel, HOW.out⟩
theorem limbs_any (A : Option Addr) (n c : Nat) (l : List Bool) (w : World) (h : Bts w A n c l) (hs : n ≤ 30000000) :
    Calls Tryd.prog 59 #[.slice A n c] w (Gives w (Bt.val l)) :=
  (limbs_own A n c l w h hs).mono fun _ _ ⟨v, h1, h2, h3, _⟩ => ⟨v, h1, h2, h3⟩

theorem rnorm_own (A : Option Addr) (n c : Nat) (l : List Nat) (w : World) (h : Lims w A n l) (hs : n ≤ 900000) :
    Calls Tryd.prog 45 #[.slice A n c] w (GivesO w (M.val l)) := by
  have hlt := M.val_lt h.2.1
  rw [h.1, Bt.pow_BB] at hlt
  have HLT := Lib.hid hlt
  clear hlt
  have HB := Lib.hid (bits_any A n c l w h (by omega))
  generalize M.val l = V at *
  go_enter Tryd.func45, Tryd.ntmps45
  go_wp2_with fail
  refine HB.out.mono ?_
  rintro e w1 ⟨v1, rfl, ⟨A', n', c', bs, rfl, hbs, htop, hval⟩, hb1⟩
  have hn' : n' ≤ 30000000 := by
    have := Bt.len_le (k := 32 * n) htop (by rw [hval]; exact HLT.out)
    rw [hbs.1] at this
    omega
  have HL := Lib.hid (limbs_own A' n' c' bs w1 hbs hn')
  rw [hval] at HL
  clear hval
  go_wp2_with fail
  refine HL.out.mono ?_
  rintro e w2 ⟨v, rfl, hv, hb2, ho2⟩
  have HO2 := Lib.hid ho2
  clear ho2
  go_wp2_with fail
  go_ret
  exact ⟨v, rfl, hv, hb1.trans (hb2.mono hb1.size), fun q hq => Nat.le_trans hb1.size (HO2.out q hq)⟩
theorem rnorm_any (A : Option Addr) (n c : Nat) (l : List Nat) (w : World) (h : Lims w A n l) (hs : n ≤ 900000) :
    Calls Tryd.prog 45 #[.slice A n c] w (Gives w (M.val l)) :=
  (rnorm_own A n c l w h hs).mono fun _ _ ⟨v, h1, h2, h3, _⟩ => ⟨v, h1, h2, h3⟩

end Go.Proofs.YtkooconjkimgoaaDoor

/- the reference's at, cmp, add, sub, over bits: what each answers. -/
namespace Go.Proofs.YtkooconjkimgoaaDoor
open Go.RowKit

end Go.Proofs.YtkooconjkimgoaaDoor

/- the reference's add and sub, over bits: what each answers. -/
namespace Go.Proofs.YtkooconjkimgoaaDoor
open Go.RowKit

theorem bts_lit (bb : Bool) (W : World) : Bts (W.alloc (.cells #[.bool bb] 4)) (some ⟨W.heap.size, 0, none⟩) 1 1 [bb] := by
  obtain ⟨A', c', e, h⟩ := (OwnB.lit W (B := W.heap.size) bb (Nat.le_refl _)).bts
  injection e with e1 _ e2
  subst e1 e2
  exact h

end Go.Proofs.YtkooconjkimgoaaDoor

/- the reference's sub and mul, over bits: what each answers. -/
namespace Go.Proofs.YtkooconjkimgoaaDoor
open Go.RowKit

end Go.Proofs.YtkooconjkimgoaaDoor
