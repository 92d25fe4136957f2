/- several texts in one. -/
import Derived.Test.YtiehkciofggonaaGA
import Derived.Test.YtiehkciofggonaaGM
import Derived.Laws.AppendOwnNone
/- lists of bits in memory; append; the reference's trim: what it answers. -/
namespace Go.Proofs.Ytiehkciofggonaa
open Go.RowKit

def cellsB (l : List Bool) : List Value := l.map Value.bool
theorem cellsB_length (l : List Bool) : (cellsB l).length = l.length := by simp [cellsB]
theorem cellsB_get {l : List Bool} {j : Nat} (h : j < l.length) : (cellsB l)[j]? = some (.bool (l.getD j false)) := by
  simp [cellsB, List.getD_eq_getElem?_getD, h]
theorem cellsB_one {l : List Bool} : ∀ v ∈ cellsB l, v.oneCell' = true := by
  intro v hv
  obtain ⟨x, _, rfl⟩ := List.mem_map.1 hv
  rfl
theorem Try.info_bool : (Try.prog.info? 4).map (fun i => (i.zero, i.size, i.bytes)) = some (some (.bool false), 1, 1) := by kernel_rfl

/-- the slice of n cells at A reads as the bits l -/
def Bts (w : World) (A : Option Addr) (n c : Nat) (l : List Bool) : Prop :=
  l.length = n ∧ n ≤ c ∧ c ≤ maxLen ∧ ((A = none ∧ n = 0 ∧ c = 0) ∨ ∃ b off, A = some ⟨b, off, none⟩ ∧ b < w.heap.size ∧ ∀ j, j < n → w.cell? ⟨b, off + j, none⟩ = some (.bool (l.getD j false)))

theorem Bts.below {w w' : World} {A : Option Addr} {n c : Nat} {l : List Bool} (h : Bts w A n c l) (hb : Below w.heap.size w w') : Bts w' A n c l := by
  obtain ⟨h1, h2, h3, h4⟩ := h
  refine ⟨h1, h2, h3, ?_⟩
  rcases h4 with h4 | ⟨b, off, e, h5, h6⟩
  · exact .inl h4
  · exact .inr ⟨b, off, e, Nat.lt_of_lt_of_le h5 hb.size, fun j hj => (hb.cell h5).trans (h6 j hj)⟩
theorem Bts.take {w : World} {A : Option Addr} {n c : Nat} {l : List Bool} (h : Bts w A n c l) {k : Nat} (hk : k ≤ n) : Bts w A k c (l.take k) := by
  obtain ⟨h1, h2, h3, h4⟩ := h
  refine ⟨by rw [List.length_take]; omega, by omega, h3, ?_⟩
  rcases h4 with ⟨h4, h5, h6⟩ | ⟨b, off, e, h5, h6⟩
  · exact .inl ⟨h4, by omega, h6⟩
  · refine .inr ⟨b, off, e, h5, fun j hj => (h6 j (by omega)).trans ?_⟩
    congr 2
    simp [List.getD_eq_getElem?_getD, hj]
theorem Bts.at_ {w : World} {A : Option Addr} {n c : Nat} {l : List Bool} (h : Bts w A n c l) (hn : 0 < n) :
    ∃ b off, A = some ⟨b, off, none⟩ ∧ b < w.heap.size ∧ ∀ j, j < n → ∃ x : Bool, Hid (x = l.getD j false) ∧ w.cell? ⟨b, off + j, none⟩ = some (.bool x) := by
  obtain ⟨_, _, _, h4⟩ := h
  rcases h4 with ⟨_, h5, _⟩ | ⟨b, off, e, h5, h6⟩
  · omega
  · exact ⟨b, off, e, h5, fun j hj => ⟨_, rfl, h6 j hj⟩⟩

/-- v holds the bits l, in a row of the call's own from block B on -/
def OwnB (w : World) (B : Nat) (v : Value) (l : List Bool) : Prop := w.ownsRow B 4 1 v l.length (cellsB l)
theorem OwnB.nil_ (w : World) (B : Nat) : OwnB w B (.slice none 0 0) [] := World.ownsRow_nil w B _ _
theorem OwnB.bts {w : World} {B : Nat} {v : Value} {l : List Bool} (h : OwnB w B v l) : ∃ A c, v = .slice A l.length c ∧ Bts w A l.length c l := by
  obtain ⟨h1, ⟨rfl, h2⟩ | ⟨g, cap, cur, rfl, hb, hh, hc, hm, hs, ht⟩⟩ := h
  · exact ⟨none, 0, by rw [h2], rfl, by omega, by omega, .inl ⟨rfl, h2, rfl⟩⟩
  · have hlt : g < w.heap.size := by
      rcases Nat.lt_or_ge g w.heap.size with h | h
      · exact h
      · rw [Array.getElem?_eq_none h] at hh; cases hh
    refine ⟨_, cap, rfl, rfl, hc, hm, .inr ⟨g, 0, rfl, hlt, fun j hj => ?_⟩⟩
    rw [Nat.zero_add, cell_of_row w g j cur _ (0, 0) hh]
    have := congrArg (·[j]?) ht
    simp only [Nat.mul_one] at this
    rw [cellsB_get hj, List.getElem?_take, if_pos hj] at this
    simpa using this
theorem OwnB.own_ge {w : World} {B : Nat} {v : Value} {l : List Bool} (h : OwnB w B v l) {b : Nat} (hb : b ≤ B) : ∀ k, v.ownBlock = some k → b ≤ k := fun k e => by
  have := (World.ownsRow.lt h k e).1
  omega
theorem OwnB.alloc {w : World} {B : Nat} {v : Value} {l : List Bool} (h : OwnB w B v l) (o : Obj) : OwnB (w.alloc o) B v l := World.ownsRow.alloc h o
/-- a literal list -/
theorem OwnB.lit (w : World) {B : Nat} (b : Bool) (hB : B ≤ w.heap.size) : OwnB (w.alloc (.cells #[.bool b] 4)) B (.slice (some ⟨w.heap.size, 0, none⟩) 1 1) [b] :=
  World.ownsRow_lit w #[.bool b] 1 hB (by unfold maxLen; omega) rfl

/-- append of bits -/
theorem appendB {w : World} {ops : Array Oper} {rest : List Oper} {o : Oper} {a : Act} {Q : Exit → Act → World → Prop} (hgd : o.guard = none) (s x : Operand)
    (ho : o.op = .call { callee := .builtin .append, args := #[s, x], argTypes := #[66, 66] })
    {B m c N : Nat} {A : Option Addr} {v : Value} {l k : List Bool} (hs : a.eval s = v) (hown : OwnB w B v l) (hx : a.eval x = .slice A m c) (hk : Bts w A m c k)
    (hn : l.length + m ≤ N) (hN : N ≤ 1000000000) (hB : B ≤ w.heap.size)
    (h : ∀ v' w', OwnB w' B v' (l ++ k) → w.grownBy w' v.ownBlock → wpList Try.prog ops Q rest (a.put o.dst v') w') :
    wpList Try.prog ops Q (o :: rest) a w := by
  obtain ⟨i0, hi0, hz0, hz1, hz2⟩ := info_parts Try.info_bool
  obtain ⟨h1, h2, h3, h4⟩ := hk
  rcases h4 with ⟨rfl, rfl, rfl⟩ | ⟨b, off, rfl, h5, h6⟩
  · obtain rfl : k = [] := List.eq_nil_of_length_eq_zero h1
    refine wpList_append_own_none hgd s x 66 ho B 4 i0 1 Try.underlying66 hi0 v l.length (cellsB l) hs hown hx ?_
    exact h v w (by rw [List.append_nil]; exact hown) (World.grownBy.refl _ _)
  · refine wpList_append_own w hgd s x 66 ho B 4 i0 (.bool false) 1 1 Try.underlying66 hi0 hz0 hz1 hz2 rfl (by omega) v l.length (cellsB l) hs hown ⟨b, off, none⟩ m c (cellsB k) hx (by rw [cellsB_length, h1, Nat.mul_one]) ?_ cellsB_one (by unfold maxLen; omega) (by omega) hB ?_
    · intro j u hu
      have hj : j < k.length := by
        rcases Nat.lt_or_ge j k.length with h1 | h1
        · exact h1
        · rw [List.getElem?_eq_none (by rw [cellsB_length]; exact h1)] at hu; cases hu
      rw [cellsB_get hj] at hu
      injection hu with hu
      subst hu
      have := h6 j (by omega)
      unfold Addr.add
      split <;> simp_all
    · intro v' w' g1 g2 _
      refine h v' w' ?_ g2
      have e : cellsB l ++ cellsB k = cellsB (l ++ k) := by simp [cellsB]
      rw [e] at g1
      unfold OwnB
      rw [List.length_append, h1]
      exact g1

/-- a number as bits, in its own form, in memory -/
def BNum (w : World) (v : Value) (N : Nat) : Prop := ∃ A n c l, v = .slice A n c ∧ Bts w A n c l ∧ Bt.Top l ∧ Bt.val l = N
def GivesB (W : World) (N : Nat) (e : Ending) (w' : World) : Prop := ∃ v, e = .returned v ∧ BNum w' v N ∧ Below W.heap.size W w'
theorem BNum.below {w w' : World} {v : Value} {N : Nat} (h : BNum w v N) (hb : Below w.heap.size w w') : BNum w' v N := by
  obtain ⟨A, n, c, l, e, h1, h2⟩ := h
  exact ⟨A, n, c, l, e, h1.below hb, h2⟩

/-- the reference's trim -/
theorem rtrim_any (A : Option Addr) (n c : Nat) (l : List Bool) (w : World) (h : Bts w A n c l) (hs : n ≤ 100000000) :
    Calls Try.prog 80 #[.slice A n c] w (GivesB w (Bt.val l)) := by
  have hc : c ≤ 9223372036854775807 := h.2.2.1
  have hn := h.2.1
  go_enter Try.func80, Try.ntmps80
  go_wp2_with fail
  go_loop [3] (fun t => ∃ k : Nat, k ≤ n ∧ t = .int .i64 k ∧ Hid (∀ j, k ≤ j → l.getD j false = false)) (fun t => (intOf t).toNat)
  case atStart => exact ⟨n, Nat.le_refl _, rfl, fun j hj => Bt.getD_ge (by rw [h.1]; exact hj)⟩
  case round =>
    obtain ⟨k, hk, rfl, HZ⟩ := hrel
    by_cases hgo : 0 < k ∧ l.getD (k - 1) false = false
    · obtain ⟨h0, hb0⟩ := hgo
      obtain ⟨b, off, rfl, hb, hcs⟩ := h.at_ (by omega)
      obtain ⟨x, HX, hcell⟩ := hcs (k - 1) (by omega)
      rw [hb0] at HX
      have HX' := Lib.hid hb0
      obtain rfl : x = false := HX.out
      clear hcs hb0
      go_wp2_with fail
      go_round
      case rel => exact ⟨k - 1, by omega, by go_num, fun j hj => by
        by_cases e : j = k - 1
        · subst e; exact HX'.out
        · exact HZ.out j (by omega)⟩
      case measure => simp [intOf]; omega
    · have htop : Hid (Bt.Top (l.take k)) := Bt.top_take l k (by rw [h.1]; exact hk) fun h0 => by
        cases e : l.getD (k - 1) false with
        | true => rfl
        | false => exact absurd ⟨h0, e⟩ hgo
      have hval : Hid (Bt.val (l.take k) = Bt.val l) := Bt.val_zeros l k HZ.out
      have hfin : ∀ v w', OwnB w' w.heap.size v (([] : List Bool) ++ l.take k) → w.grownBy w' (Value.slice none 0 0).ownBlock → GivesB w (Bt.val l) (.returned v) w' := by
        intro v w' ho hg
        rw [List.nil_append] at ho
        obtain ⟨A', c', rfl, hb⟩ := ho.bts
        exact ⟨_, rfl, ⟨A', _, c', _, rfl, hb, htop.out, hval.out⟩, (Below.refl _ _).grown hg (Nat.le_refl _) (by intro q hq; cases hq)⟩
      have HF := Lib.hid hfin
      clear hfin
      have happ : Hid (Bts w A k c (l.take k)) := h.take hk
      by_cases h0 : 0 < k
      · have hb0 : l.getD (k - 1) false = true := by
          cases e : l.getD (k - 1) false with
          | true => rfl
          | false => exact absurd ⟨h0, e⟩ hgo
        obtain ⟨b, off, rfl, hb, hcs⟩ := h.at_ (by omega)
        obtain ⟨x, HX, hcell⟩ := hcs (k - 1) (by omega)
        rw [hb0] at HX
        obtain rfl : x = true := HX.out
        clear hcs hb0 hgo
        go_wp2_with (refine appendB rfl (.const (.slice none 0 0)) (.tmp 20) rfl (N := n) rfl (OwnB.nil_ _ _) rfl happ.out (by simp; omega) (by omega) (Nat.le_refl _) ?_; intro v w2 ho hg)
        go_ret
        exact HF.out _ _ ho hg
      · obtain rfl : k = 0 := by omega
        clear hgo
        go_wp2_with (refine appendB rfl (.const (.slice none 0 0)) (.tmp 20) rfl (N := n) rfl (OwnB.nil_ _ _) rfl happ.out (by simp) (by omega) (Nat.le_refl _) ?_; intro v w2 ho hg)
        go_ret
        exact HF.out _ _ ho hg
end Go.Proofs.Ytiehkciofggonaa

/- the reference's Bits: what it answers. -/
namespace Go.Proofs.Ytiehkciofggonaa
open Go.RowKit

def lenOfB : Value → Nat | .slice _ n _ => n | _ => 0

set_option maxHeartbeats 1000000 in
theorem bits_any (A : Option Addr) (n c : Nat) (l : List Nat) (w : World) (h : Lims w A n l) (hs : n ≤ 1000000) :
    Calls Try.prog 62 #[.slice A n c] w (GivesB w (M.val l)) := by
  have hN : Hid (M.val l = M.val (l.take n)) := by rw [List.take_of_length_le (by rw [h.1]; exact Nat.le_refl _)]; exact rfl
  go_enter Try.func62, Try.ntmps62
  go_wp2_with fail
  go_loopw [3, 4] (fun dv iv wr => ∃ (i : Nat) (ds : List Bool), i ≤ n ∧ iv = .int .i64 i ∧ Bt.Bitting l ds i ∧ OwnB wr w.heap.size dv ds ∧ Below w.heap.size w wr) (fun _ iv _ => n - (intOf iv).toNat)
  case atStart => exact ⟨0, [], by omega, rfl, Bt.Bitting.start l, OwnB.nil_ _ _, Below.refl _ _⟩
  case round =>
    obtain ⟨i, ds, hi, rfl, hbt, hown, hbel⟩ := hrel
    have hdl := hbt.len
    have HDL := Lib.hid hdl
    clear hdl
    by_cases hlt : i < n
    · obtain ⟨b, off, rfl, hb, hcs⟩ := h.at_ (by omega)
      obtain ⟨x, HX, hx, hcell⟩ := hcs i hlt
      have hcell' : wr.cell? ⟨b, off + i, none⟩ = some (.int .u32 (x : Int)) := (hbel.cell hb).trans hcell
      clear hcs hcell
      obtain ⟨wo, rfl⟩ : ∃ wo : World, wo = wr := ⟨_, rfl⟩
      go_wp2_with fail
      go_loopw [3, 5, 6] (fun dv cv jv wi => ∃ (j cc : Nat) (es : List Bool), j ≤ 32 ∧ cc ≤ 4294967295 ∧ jv = .int .i64 j ∧ cv = .int .u32 cc ∧ Bt.Chunk ds es x j cc ∧ OwnB wi w.heap.size dv es ∧ Below w.heap.size w wi) (fun _ _ jv _ => 32 - (intOf jv).toNat)
      case atStart => exact ⟨0, x, ds, by omega, hx, rfl, rfl, Bt.Chunk.start (by omega), hown, hbel⟩
      case round =>
        obtain ⟨j, cc, es, hj, hcc, rfl, rfl, hch, hown2, hbel2⟩ := hrel
        have hel := hch.len
        have hel2 : es.length ≤ 33000000 := by have := HDL.out; omega
        clear hel
        by_cases hj32 : j < 32
        · have hch' := hch.step hj32
          obtain ⟨bb, HB⟩ : ∃ bb, Hid (decide (cc % 2 = 1) = bb) := ⟨_, rfl⟩
          rw [HB.out] at hch'
          have hbb : ((cc : Int) % 2 == 1) = bb := by
            rw [← HB.out]
            cases e : decide (cc % 2 = 1) with
            | true => have := of_decide_eq_true e; simp; omega
            | false => have := of_decide_eq_false e; simp; omega
          have hbo := fun W : World => (OwnB.lit W (B := W.heap.size) bb (Nat.le_refl _)).bts
          have HBO : Hid (∀ W : World, Bts (W.alloc (.cells #[.bool bb] 4)) (some ⟨W.heap.size, 0, none⟩) 1 1 [bb]) := fun W => by
            obtain ⟨A', c', e, h⟩ := hbo W
            injection e with e1 _ e2
            subst e1 e2
            exact h
          clear hbo
          go_wp2_with (refine appendB rfl (.tmp 21) (.tmp 25) rfl (N := 33000001) rfl (hown2.alloc _) rfl (HBO.out _) (by omega) (by omega) (by simp; have := hbel2.size; omega) ?_; intro v4 w4 ho4 hg4)
          have hbel4 := (hbel2.alloc hbel2.size (.cells #[.bool bb] 4)).grown hg4 (by simp; have := hbel2.size; omega) (hown2.own_ge (Nat.le_refl _))
          go_roundw
          case rel => exact ⟨j + 1, cc / 2, _, by omega, by omega, by go_num, by go_num, hch', ho4, hbel4⟩
          case measure => simp [intOf]; omega
        · obtain rfl : j = 32 := by omega
          have hbt' := hbt.step HX.out hch
          go_wp2_with fail
          go_roundw
          case rel => exact ⟨i + 1, es, by omega, by go_num, hbt', hown2, hbel2⟩
          case measure => simp [intOf]; omega
    · obtain rfl : i = n := by omega
      obtain ⟨A', c', rfl, hb⟩ := hown.bts
      have hd : ds.length ≤ 100000000 := by have := HDL.out; omega
      have HS := Lib.hid (hbt.sum.trans hN.out.symm)
      go_wp2_with fail
      refine (rtrim_any _ _ _ _ _ hb hd).mono ?_
      rintro e w2 ⟨v, rfl, hv, hb2⟩
      rw [HS.out] at hv
      go_wp2_with fail
      go_ret
      exact ⟨v, rfl, hv, hbel.trans (hb2.mono hbel.size)⟩
end Go.Proofs.Ytiehkciofggonaa

/- the reference's Limbs, Norm, Of, Int: what each answers. -/
namespace Go.Proofs.Ytiehkciofggonaa
open Go.RowKit

/-- v holds the limbs l, in a row of the call's own from block B on -/
def OwnU (w : World) (B : Nat) (v : Value) (l : List Nat) : Prop := w.ownsRow B 57 1 v l.length (cellsOf l)
theorem OwnU.nil_ (w : World) (B : Nat) : OwnU w B (.slice none 0 0) [] := World.ownsRow_nil w B _ _
theorem OwnU.lims {w : World} {B : Nat} {v : Value} {l : List Nat} (h : OwnU w B v l) (hf : M.Fit l) : ∃ A c, v = .slice A l.length c ∧ Lims w A l.length l ∧ l.length ≤ c ∧ c ≤ maxLen := by
  obtain ⟨h1, ⟨rfl, h2⟩ | ⟨g, cap, cur, rfl, hb, hh, hc, hm, hs, ht⟩⟩ := h
  · exact ⟨none, 0, by rw [h2], ⟨rfl, hf, fun h => by omega⟩, by omega, by omega⟩
  · have hlt : g < w.heap.size := by
      rcases Nat.lt_or_ge g w.heap.size with h | h
      · exact h
      · rw [Array.getElem?_eq_none h] at hh; cases hh
    refine ⟨_, cap, rfl, ⟨rfl, hf, fun _ => ⟨g, 0, rfl, hlt, fun j hj => ?_⟩⟩, hc, hm⟩
    rw [Nat.zero_add, cell_of_row w g j cur _ (0, 0) hh]
    have := congrArg (·[j]?) ht
    simp only [Nat.mul_one] at this
    rw [cellsOf_get hj, List.getElem?_take, if_pos hj] at this
    simpa using this
theorem OwnU.own_ge {w : World} {B : Nat} {v : Value} {l : List Nat} (h : OwnU w B v l) {b : Nat} (hb : b ≤ B) : ∀ k, v.ownBlock = some k → b ≤ k := fun k e => by
  have := (World.ownsRow.lt h k e).1
  omega
theorem OwnU.alloc {w : World} {B : Nat} {v : Value} {l : List Nat} (h : OwnU w B v l) (o : Obj) : OwnU (w.alloc o) B v l := World.ownsRow.alloc h o

/-- append of limbs -/
theorem appendU {w : World} {ops : Array Oper} {rest : List Oper} {o : Oper} {a : Act} {Q : Exit → Act → World → Prop} (hgd : o.guard = none) (s x : Operand)
    (ho : o.op = .call { callee := .builtin .append, args := #[s, x], argTypes := #[22, 22] })
    {B m c N : Nat} {A : Addr} {v : Value} {l k : List Nat} (hs : a.eval s = v) (hown : OwnU w B v l) (hx : a.eval x = .slice (some A) m c) (hk : Lims w (some A) m k)
    (hn : l.length + m ≤ N) (hN : N ≤ 1000000000) (hB : B ≤ w.heap.size)
    (h : ∀ v' w', OwnU w' B v' (l ++ k) → w.grownBy w' v.ownBlock → wpList Try.prog ops Q rest (a.put o.dst v') w') :
    wpList Try.prog ops Q (o :: rest) a w := by
  obtain ⟨i0, hi0, hz0, hz1, hz2⟩ := info_parts Try.info_u32
  obtain ⟨h1, h2, h3⟩ := hk
  refine wpList_append_own w hgd s x 22 ho B 57 i0 (.int .u32 0) 1 4 Try.underlying22 hi0 hz0 hz1 hz2 rfl (by omega) v l.length (cellsOf l) hs hown A m c (cellsOf k) hx (by rw [cellsOf_length, h1, Nat.mul_one]) ?_ cellsOf_one (by unfold maxLen; omega) (by omega) hB ?_
  · intro j u hu
    have hj : j < k.length := by
      rcases Nat.lt_or_ge j k.length with h1 | h1
      · exact h1
      · rw [List.getElem?_eq_none (by rw [cellsOf_length]; exact h1)] at hu; cases hu
    rw [cellsOf_get hj] at hu
    injection hu with hu
    subst hu
    obtain ⟨b, off, e, _, h6⟩ := h3 (by omega)
    injection e with e
    subst e
    have := h6 j (by omega)
    unfold Addr.add
    split <;> simp_all
  · intro v' w' g1 g2 _
    refine h v' w' ?_ g2
    have e : cellsOf l ++ cellsOf k = cellsOf (l ++ k) := by simp [cellsOf]
    rw [e] at g1
    unfold OwnU
    rw [List.length_append, h1]
    exact g1

set_option maxHeartbeats 1000000 in
theorem limbs_any (A : Option Addr) (n c : Nat) (l : List Bool) (w : World) (h : Bts w A n c l) (hs : n ≤ 30000000) :
    Calls Try.prog 61 #[.slice A n c] w (Gives w (Bt.val l)) := by
  obtain ⟨V, HV⟩ : ∃ V, Hid (Bt.val l = V) := ⟨_, rfl⟩
  have hVn : Hid (V < 2 ^ n) := by rw [← HV.out]; have := Bt.val_lt l; rw [h.1] at this; exact this
  rw [HV.out]
  have HT := Lib.hid (rtrim_any A n c l w h (by omega))
  rw [HV.out] at HT
  go_enter Try.func61, Try.ntmps61
  go_wp2_with fail
  refine HT.out.mono ?_
  rintro e w1 ⟨v1, rfl, ⟨A', n', c', bs, rfl, hbs, htop, hval⟩, hb1⟩
  have hn' : n' ≤ 30000000 := by
    have := Bt.len_le (k := n) htop (by rw [hval]; exact hVn.out)
    rw [hbs.1] at this
    omega
  have HTOP := Lib.hid htop
  have HVAL := Lib.hid hval
  clear htop hval
  go_wp2_with fail
  go_loopw [3, 4] (fun dv iv wr => ∃ (t : Nat) (out : List Nat), iv = .int .i64 ((32 * t : Nat) : Int) ∧ (t = 0 ∨ 32 * (t - 1) < n') ∧ Bt.Limbing bs out t ∧ OwnU wr w1.heap.size dv out ∧ Below w.heap.size w wr ∧ Below w1.heap.size w1 wr)
    (fun _ iv _ => n' + 32 - (intOf iv).toNat)
  case atStart => exact ⟨0, [], rfl, .inl rfl, Bt.Limbing.start bs, OwnU.nil_ _ _, hb1, Below.refl _ _⟩
  case round =>
    obtain ⟨t, out, rfl, ht, hlim, hown, hbel, hbel1⟩ := hrel
    have hol := hlim.len
    have HOL := Lib.hid hol
    clear hol
    have ht6 : t ≤ 1000000 := by omega
    obtain ⟨i, HI⟩ : ∃ i, Hid (32 * t = i) := ⟨_, rfl⟩
    rw [HI.out]
    have hi : i ≤ 32000000 := by have := HI.out; omega
    by_cases hlt : i < n'
    · obtain ⟨wo, rfl⟩ : ∃ wo : World, wo = wr := ⟨_, rfl⟩
      go_wp2_with fail
      go_loop [5, 6] (fun nv kv => ∃ r nn : Nat, r ≤ 32 ∧ nn ≤ 4294967295 ∧ kv = .int .i64 ((i : Int) + r - 1) ∧ nv = .int .u32 nn ∧ Hid (nn = Bt.val ((bs.drop (i + r)).take (32 - r)))) (fun _ kv => (intOf kv - i + 1).toNat)
      case atStart => exact ⟨32, 0, by omega, by omega, by go_num, rfl, rfl⟩
      case round =>
        obtain ⟨r, nn, hr, hnn, rfl, rfl, HN⟩ := hrel
        by_cases hr0 : 0 < r
        · obtain ⟨k, hk⟩ : ∃ k : Nat, Hid (i + r - 1 = k) := ⟨_, rfl⟩
          have he : (i : Int) + (r : Int) - 1 = (k : Int) := by have := hk.out; omega
          have hik : i ≤ k := by have := hk.out; omega
          have hkb : k ≤ 40000000 := by have := hk.out; omega
          have hnn2 : nn ≤ 2147483647 := by
            have h1 := Bt.val_piece_lt bs (i + r) (32 - r)
            rw [← HN.out] at h1
            have h2 : 2 ^ (32 - r) ≤ 2 ^ 31 := Nat.pow_le_pow_right (by omega) (by omega)
            omega
          obtain ⟨bb, HB⟩ : ∃ bb, Hid (bs.getD k false = bb) := ⟨_, rfl⟩
          have hstep : Hid (bb.toNat + 2 * nn = Bt.val ((bs.drop (i + (r - 1))).take (32 - (r - 1)))) := by
            have h1 := Bt.val_piece bs k (32 - r)
            have e1 : k + 1 = i + r := by have := hk.out; omega
            have e2 : i + (r - 1) = k := by have := hk.out; omega
            rw [e1, ← HN.out, HB.out] at h1
            rw [e2, show 32 - (r - 1) = 32 - r + 1 from by omega, h1]
            exact rfl
          by_cases hkn : k < n'
          · obtain ⟨b, off, rfl, hb, hcs⟩ := (hbs.below hbel1).at_ (by omega)
            obtain ⟨x, HX, hcell⟩ := hcs k hkn
            rw [HB.out] at HX
            obtain rfl : x = bb := HX.out
            clear hcs
            cases x
            · go_wp2_with fail
              go_round
              case rel => exact ⟨r - 1, 2 * nn, by omega, by omega, by go_num, by go_num, (show _ = _ from by simpa using hstep.out)⟩
              case measure => simp [intOf]; omega
            · go_wp2_with fail
              go_round
              case rel => exact ⟨r - 1, 1 + 2 * nn, by omega, by omega, by go_num, by go_num, (show _ = _ from by simpa using hstep.out)⟩
              case measure => simp [intOf]; omega
          · have hbf : bb = false := by rw [← HB.out]; exact Bt.getD_ge (by rw [hbs.1]; omega)
            subst hbf
            go_wp2_with fail
            go_round
            case rel => exact ⟨r - 1, 2 * nn, by omega, by omega, by go_num, by go_num, (show _ = _ from by simpa using hstep.out)⟩
            case measure => simp [intOf]; omega
        · obtain rfl : r = 0 := by omega
          have HN' : Hid (nn = Bt.val ((bs.drop (32 * t)).take 32)) := by rw [HI.out]; exact HN.out
          have hlim' := hlim.step HN'.out
          have hlu : ∀ W : World, Lims (W.alloc (.cells #[.int .u32 (nn : Int)] 57)) (some ⟨W.heap.size, 0, none⟩) 1 [nn] := fun W => lims_one W nn hnn
          have HLU := Lib.hid hlu
          clear hlu
          have hz : ((0 : Nat) : Int) = 0 := rfl
          have hlt' : (i : Int) + ((0 : Nat) : Int) - 1 < (i : Int) := by omega
          go_wp2_with (refine appendU rfl (.tmp 36) (.tmp 38) rfl (N := 1000001) rfl (hown.alloc _) rfl (HLU.out _) (by have := HOL.out; omega) (by omega) (by simp; have := hbel1.size; omega) ?_; intro v4 w4 ho4 hg4)
          have hbel4 := (hbel.alloc hbel.size (.cells #[.int .u32 (nn : Int)] 57)).grown hg4 (by simp; have := hbel.size; omega) (hown.own_ge hb1.size)
          have hbel14 := (hbel1.alloc hbel1.size (.cells #[.int .u32 (nn : Int)] 57)).grown hg4 (by simp; have := hbel1.size; omega) (hown.own_ge (Nat.le_refl _))
          go_roundw
          case rel => exact ⟨t + 1, _, by have := HI.out; go_num, .inr (by have := HI.out; omega), hlim', ho4, hbel4, hbel14⟩
          case measure => simp [intOf]; omega
    · obtain ⟨htp, hvl⟩ := hlim.end_ HTOP.out (by rw [hbs.1]; have := HI.out; omega) (by rw [hbs.1]; exact ht)
      have HTP := Lib.hid htp
      have HVL := Lib.hid (hvl.trans HVAL.out)
      have hfit := hlim.fit
      clear htp hvl
      obtain ⟨Ao, co, rfl, hlo, hlc, hcm⟩ := hown.lims hfit
      go_wp2_with fail
      go_ret
      exact ⟨_, rfl, ⟨Ao, _, co, out, rfl, hlo, HTP.out, HVL.out, hlc, hcm⟩, hbel⟩

theorem rnorm_any (A : Option Addr) (n c : Nat) (l : List Nat) (w : World) (h : Lims w A n l) (hs : n ≤ 900000) :
    Calls Try.prog 41 #[.slice A n c] w (Gives w (M.val l)) := by
  have hlt := M.val_lt h.2.1
  rw [h.1, Bt.pow_BB] at hlt
  have HLT := Lib.hid hlt
  clear hlt
  have HB := Lib.hid (bits_any A n c l w h (by omega))
  generalize M.val l = V at *
  go_enter Try.func41, Try.ntmps41
  go_wp2_with fail
  refine HB.out.mono ?_
  rintro e w1 ⟨v1, rfl, ⟨A', n', c', bs, rfl, hbs, htop, hval⟩, hb1⟩
  have hn' : n' ≤ 30000000 := by
    have := Bt.len_le (k := 32 * n) htop (by rw [hval]; exact HLT.out)
    rw [hbs.1] at this
    omega
  have HL := Lib.hid (limbs_any A' n' c' bs w1 hbs hn')
  rw [hval] at HL
  clear hval
  go_wp2_with fail
  refine HL.out.mono ?_
  rintro e w2 ⟨v, rfl, hv, hb2⟩
  go_wp2_with fail
  go_ret
  exact ⟨v, rfl, hv, hb1.trans (hb2.mono hb1.size)⟩

theorem rof_any (x : Nat) (w : World) (hx : x ≤ 18446744073709551615) :
    Calls Try.prog 55 #[.int .u64 x] w (Gives w x) := by
  have hv : M.val [x % 4294967296, x / 4294967296] = x := by simp [M.val, M.BB_eq]; omega
  have HT := Lib.hid (rnorm_any (some ⟨w.heap.size, 0, none⟩) 2 2 [x % 4294967296, x / 4294967296] _ (lims_two w (x % 4294967296) (x / 4294967296) (by omega) (by omega)) (by omega))
  rw [hv] at HT
  clear hv
  go_enter Try.func55, Try.ntmps55
  go_wp2_with fail
  refine HT.out.mono ?_
  rintro e w1 ⟨v, rfl, hv, hb⟩
  go_wp2_with fail
  go_ret
  exact ⟨v, rfl, hv, ((Below.refl _ _).alloc (Nat.le_refl _) _).trans (hb.mono (by simp))⟩

theorem rint_great (A : Option Addr) (n c : Nat) (l : List Nat) (w : World) (h : Lims w A n l) (hs : n ≤ 900000) (hv : 4611686018427387904 ≤ (M.val l : Int)) :
    Calls Try.prog 57 #[.slice A n c] w fun e w' => e = .returned (.tuple #[.int .i64 0, .bool false]) ∧ Below w.heap.size w w' := by
  have HB := Lib.hid (bits_any A n c l w h (by omega))
  have HV := Lib.hid hv
  clear hv
  generalize M.val l = V at *
  go_enter Try.func57, Try.ntmps57
  go_wp2_with fail
  refine HB.out.mono ?_
  rintro e w1 ⟨v1, rfl, ⟨A', n', c', bs, rfl, hbs, htop, hval⟩, hb1⟩
  have hn' : 62 < n' := by
    rcases Nat.lt_or_ge 62 n' with h1 | h1
    · exact h1
    · have := Bt.val_lt bs
      rw [hval, hbs.1] at this
      have h2 : 2 ^ n' ≤ 2 ^ 62 := Nat.pow_le_pow_right (by omega) h1
      have := HV.out
      omega
  clear hval htop HV
  go_wp2_with fail
  go_ret2
  exact ⟨rfl, hb1⟩

theorem rint_small (A : Option Addr) (n c : Nat) (l : List Nat) (w : World) (h : Lims w A n l) (hs : n ≤ 900000) (hv : (M.val l : Int) < 4611686018427387904) :
    Calls Try.prog 57 #[.slice A n c] w fun e w' => e = .returned (.tuple #[.int .i64 (M.val l : Nat), .bool true]) ∧ Below w.heap.size w w' := by
  have HB := Lib.hid (bits_any A n c l w h (by omega))
  have HV := Lib.hid hv
  clear hv
  generalize M.val l = V at *
  go_enter Try.func57, Try.ntmps57
  go_wp2_with fail
  refine HB.out.mono ?_
  rintro e w1 ⟨v1, rfl, ⟨A', n', c', bs, rfl, hbs, htop, hval⟩, hb1⟩
  have hn' : n' ≤ 62 := by
    have := Bt.len_le (k := 62) htop (by rw [hval]; have := HV.out; omega)
    rw [hbs.1] at this
    exact this
  have HVAL := Lib.hid hval
  clear hval htop HV
  go_wp2_with fail
  go_loop [5, 6] (fun nv iv => ∃ i nn : Nat, i ≤ n' ∧ iv = .int .i64 ((i : Int) - 1) ∧ nv = .int .i64 nn ∧ Hid (nn = Bt.val (bs.drop i))) (fun _ iv => (intOf iv + 1).toNat)
  case atStart => exact ⟨n', 0, by omega, by go_num, rfl, by rw [List.drop_of_length_le (by rw [hbs.1]; exact Nat.le_refl _)]; exact rfl⟩
  case round =>
    obtain ⟨i, nn, hi, rfl, rfl, HN⟩ := hrel
    by_cases h0 : 0 < i
    · obtain ⟨k, hk⟩ : ∃ k : Nat, Hid (i - 1 = k) := ⟨_, rfl⟩
      have he : (i : Int) - 1 = (k : Int) := by have := hk.out; omega
      have hkn : k < n' := by have := hk.out; omega
      obtain ⟨b, off, rfl, hb, hcs⟩ := hbs.at_ (by omega)
      obtain ⟨x, HX, hcell⟩ := hcs k hkn
      clear hcs
      have hdr : Hid (x.toNat + 2 * nn = Bt.val (bs.drop k)) := by
        rw [HX.out, Bt.getD_lt (by rw [hbs.1]; exact hkn), HN.out, List.drop_eq_getElem_cons (i := k) (by rw [hbs.1]; exact hkn), Bt.val_cons, show k + 1 = i from by have := hk.out; omega]
        exact rfl
      have hlt : Hid (x.toNat + 2 * nn < 2 ^ 62) := by
        rw [hdr.out]
        have h1 := Bt.val_lt (bs.drop k)
        have h2 : 2 ^ (bs.drop k).length ≤ 2 ^ 62 := Nat.pow_le_pow_right (by omega) (by rw [List.length_drop, hbs.1]; omega)
        exact Nat.lt_of_lt_of_le h1 h2
      have hw1 : IntKind.i64.wrap ((nn : Int) * 2) = (nn : Int) * 2 := IntWalk.i64_in _ (by have := hlt.out; omega)
      have hw2 : x = true → IntKind.i64.wrap ((nn : Int) * 2 + 1) = (nn : Int) * 2 + 1 := fun e => IntWalk.i64_in _ (by have := hlt.out; rw [e] at this; simp at this; omega)
      clear hlt
      cases x
      · clear hw2
        go_wp2_with fail
        go_round
        case rel => exact ⟨k, 2 * nn, by omega, by go_num, by go_num, (show _ = _ from by simpa using hdr.out)⟩
        case measure => simp [intOf]; omega
      · have hw2 := hw2 rfl
        go_wp2_with fail
        go_round
        case rel => exact ⟨k, 1 + 2 * nn, by omega, by go_num, by go_num, (show _ = _ from by simpa using hdr.out)⟩
        case measure => simp [intOf]; omega
    · obtain rfl : i = 0 := by omega
      have hV : Hid (nn = V) := by rw [HN.out, List.drop_zero, HVAL.out]; exact rfl
      have hz : ((0 : Nat) : Int) - 1 < 0 := by omega
      go_wp2_with fail
      go_ret2
      refine ⟨?_, hb1⟩
      rw [← hV.out]
      rfl
end Go.Proofs.Ytiehkciofggonaa

/- the reference's at, cmp, add, sub, over bits: what each answers. -/
namespace Go.Proofs.Ytiehkciofggonaa
open Go.RowKit

theorem at_at {A : Option Addr} {n c i : Nat} {x : Bool} {l : List Bool} {w : World} (h : Bts w A n c l) (hi : i ≤ 1000000000) (hx : Hid (x = l.getD i false)) :
    Calls Try.prog 82 #[.slice A n c, .int .i64 i] w fun e w' => e = .returned (.bool x) ∧ w = w' := by
  have hc : c ≤ 9223372036854775807 := h.2.2.1
  have hn := h.2.1
  by_cases hlt : i < n
  · obtain ⟨b, off, rfl, _, hcs⟩ := h.at_ (by omega)
    obtain ⟨y, HY, hcell⟩ := hcs i hlt
    obtain rfl : y = x := HY.out.trans hx.out.symm
    clear hcs
    go_enter Try.func82, Try.ntmps82
    go_wp2
    go_ret
    exact ⟨rfl, rfl⟩
  · obtain rfl : x = false := by rw [hx.out]; exact Bt.getD_ge (by rw [h.1]; omega)
    go_enter Try.func82, Try.ntmps82
    go_wp2
    go_ret
    exact ⟨rfl, rfl⟩

theorem rcmp_any (A B : Option Addr) (n m c d : Nat) (k l : List Bool) (w : World) (hk : Bts w A n c k) (hl : Bts w B m d l) (hn : n ≤ 100000000) (hm : m ≤ 100000000) :
    Calls Try.prog 67 #[.slice A n c, .slice B m d] w fun e w' => e = .returned (.int .i64 (M.cmpI (Bt.val k) (Bt.val l))) ∧ w = w' := by
  obtain ⟨p, hp, hp1, hp2⟩ : ∃ p : Nat, Hid ((p = n ∧ m ≤ n) ∨ (p = m ∧ n < m)) ∧ n ≤ p ∧ m ≤ p := by
    by_cases h : n < m
    · exact ⟨m, .inr ⟨rfl, h⟩, by omega, by omega⟩
    · exact ⟨n, .inl ⟨rfl, by omega⟩, by omega, by omega⟩
  have hpb : p ≤ 100000000 := by rcases hp.out with h | h <;> omega
  obtain ⟨z, HZ⟩ : ∃ z, Hid (M.cmpI (Bt.val k) (Bt.val l) = z) := ⟨_, rfl⟩
  rw [HZ.out]
  rcases (show (p = n ∧ m ≤ n ∧ decide (n < m) = false) ∨ (p = m ∧ n < m ∧ decide (n < m) = true) from by
    rcases hp.out with ⟨h1, h2⟩ | ⟨h1, h2⟩
    · exact .inl ⟨h1, h2, by simp; omega⟩
    · exact .inr ⟨h1, h2, by simp; omega⟩) with ⟨rfl, hq, hdb⟩ | ⟨rfl, hq, hdb⟩
  all_goals
    clear hp
    go_enter Try.func67, Try.ntmps67
    go_wp2_with fail
    go_loopw [6] (fun iv wr => ∃ i : Nat, i ≤ p ∧ iv = .int .i64 ((i : Int) - 1) ∧ Hid (∀ j, i ≤ j → k.getD j false = l.getD j false) ∧ wr = w) (fun iv _ => (intOf iv + 1).toNat)
    case atStart => exact ⟨p, by omega, rfl, fun j hj => by rw [Bt.getD_ge (by rw [hk.1]; omega), Bt.getD_ge (by rw [hl.1]; omega)], rfl⟩
    case round =>
      obtain ⟨i, hi, rfl, HE, rfl⟩ := hrel
      by_cases h0 : 0 < i
      · obtain ⟨j, hj⟩ : ∃ j : Nat, Hid (i - 1 = j) := ⟨_, rfl⟩
        have he : (i : Int) - 1 = (j : Int) := by have := hj.out; omega
        have hjb : j ≤ 100000000 := by have := hj.out; omega
        obtain ⟨x, HX⟩ : ∃ x, Hid (x = k.getD j false) := ⟨_, rfl⟩
        obtain ⟨y, HY⟩ : ∃ y, Hid (y = l.getD j false) := ⟨_, rfl⟩
        have H1 := Lib.hid (at_at hk (show j ≤ 1000000000 by omega) HX)
        have H2 := Lib.hid (at_at hl (show j ≤ 1000000000 by omega) HY)
        have HE' : Hid (∀ q, j < q → k.getD q false = l.getD q false) := fun q hq => HE.out q (by have := hj.out; omega)
        have hz : Hid ((x = false ∧ y = true → z = -1) ∧ (x = true ∧ y = false → z = 1)) := by
          constructor
          · rintro ⟨rfl, rfl⟩
            rw [← HZ.out, M.cmpI_lt (Bt.lt_of_top j HE'.out HX.out.symm HY.out.symm)]
          · rintro ⟨rfl, rfl⟩
            rw [← HZ.out, M.cmpI_gt (Bt.lt_of_top j (fun q hq => (HE'.out q hq).symm) HY.out.symm HX.out.symm)]
        cases x <;> cases y
        · go_wp2_with fail
          refine H1.out.mono ?_
          rintro e w1 ⟨rfl, rfl⟩
          go_wp2_with fail
          refine H2.out.mono ?_
          rintro e w1 ⟨rfl, rfl⟩
          go_wp2_with fail
          go_roundw
          case rel => exact ⟨j, by omega, by go_num, fun q hq => by
            by_cases e : q = j
            · subst e; rw [← HX.out, ← HY.out]
            · exact HE'.out q (by omega), by trivial⟩
          case measure => simp [intOf]; omega
        · go_wp2_with fail
          refine H1.out.mono ?_
          rintro e w1 ⟨rfl, rfl⟩
          go_wp2_with fail
          refine H2.out.mono ?_
          rintro e w1 ⟨rfl, rfl⟩
          go_wp2_with fail
          go_ret
          exact ⟨ret_int (hz.out.1 ⟨by trivial, by trivial⟩).symm, by trivial⟩
        · go_wp2_with fail
          refine H1.out.mono ?_
          rintro e w1 ⟨rfl, rfl⟩
          go_wp2_with fail
          refine H2.out.mono ?_
          rintro e w1 ⟨rfl, rfl⟩
          go_wp2_with fail
          go_ret
          exact ⟨ret_int (hz.out.2 ⟨by trivial, by trivial⟩).symm, by trivial⟩
        · go_wp2_with fail
          refine H1.out.mono ?_
          rintro e w1 ⟨rfl, rfl⟩
          go_wp2_with fail
          refine H2.out.mono ?_
          rintro e w1 ⟨rfl, rfl⟩
          go_wp2_with fail
          go_roundw
          case rel => exact ⟨j, by omega, by go_num, fun q hq => by
            by_cases e : q = j
            · subst e; rw [← HX.out, ← HY.out]
            · exact HE'.out q (by omega), by trivial⟩
          case measure => simp [intOf]; omega
      · obtain rfl : i = 0 := by omega
        have hz : Hid (z = 0) := by
          rw [← HZ.out, Bt.val_ext fun j => HE.out j (by omega)]
          exact M.cmpI_eq _
        have hneg : ((0 : Nat) : Int) - 1 < 0 := by omega
        go_wp2_with fail
        go_ret
        exact ⟨ret_int hz.out.symm, by trivial⟩
end Go.Proofs.Ytiehkciofggonaa

/- the reference's add and sub, over bits: what each answers. -/
namespace Go.Proofs.Ytiehkciofggonaa
open Go.RowKit

theorem bts_lit (bb : Bool) (W : World) : Bts (W.alloc (.cells #[.bool bb] 4)) (some ⟨W.heap.size, 0, none⟩) 1 1 [bb] := by
  obtain ⟨A', c', e, h⟩ := (OwnB.lit W (B := W.heap.size) bb (Nat.le_refl _)).bts
  injection e with e1 _ e2
  subst e1 e2
  exact h

set_option maxHeartbeats 4000000 in
theorem radd_any (A B : Option Addr) (n m c d : Nat) (k l : List Bool) (w : World) (hk : Bts w A n c k) (hl : Bts w B m d l) (hn : n ≤ 90000000) (hm : m ≤ 90000000) :
    Calls Try.prog 66 #[.slice A n c, .slice B m d] w (GivesB w (Bt.val k + Bt.val l)) := by
  obtain ⟨p, hpn, hpm, hpb⟩ : ∃ p : Nat, n ≤ p ∧ m ≤ p ∧ p ≤ 90000000 := ⟨max n m, by omega, by omega, by omega⟩
  have HLIT := Lib.hid bts_lit
  go_enter Try.func66, Try.ntmps66
  go_wp2_with fail
  go_loopw [5, 6, 7] (fun dv cv iv wr => ∃ (i : Nat) (cy : Bool) (out : List Bool), i ≤ p + 1 ∧ (i ≤ p ∨ cy = false) ∧ iv = .int .i64 i ∧ cv = .bool cy ∧ Bt.AddInv k l out i cy ∧ OwnB wr w.heap.size dv out ∧ Below w.heap.size w wr) (fun _ _ iv _ => p + 1 - (intOf iv).toNat)
  case atStart => exact ⟨0, false, [], by omega, .inl (by omega), rfl, rfl, Bt.AddInv.start k l, OwnB.nil_ _ _, Below.refl _ _⟩
  case round =>
    obtain ⟨i, cy, out, hi, hst, rfl, rfl, hinv, hown, hbel⟩ := hrel
    have hol := hinv.len
    have hol2 : out.length ≤ 90000001 := by omega
    clear hol
    by_cases hgo : i < n ∨ i < m ∨ cy = true
    · have hip : i ≤ p := by
        rcases hgo with h | h | h
        · omega
        · omega
        · rcases hst with h2 | h2
          · exact h2
          · rw [h] at h2; cases h2
      obtain ⟨x, HX⟩ : ∃ x, Hid (x = k.getD i false) := ⟨_, rfl⟩
      obtain ⟨y, HY⟩ : ∃ y, Hid (y = l.getD i false) := ⟨_, rfl⟩
      have H1 := Lib.hid (at_at (hk.below hbel) (show i ≤ 1000000000 by omega) HX)
      have H2 := Lib.hid (at_at (hl.below hbel) (show i ≤ 1000000000 by omega) HY)
      have hstep := hinv.step HX.out HY.out rfl
      have HS := Lib.hid hstep
      have hnx : i + 1 ≤ p ∨ (decide (1 < x.toNat + y.toNat + cy.toNat)) = false := by
        rcases Nat.lt_or_ge i p with h | h
        · exact .inl h
        · right
          have hx : x = false := by rw [HX.out]; exact Bt.getD_ge (by rw [hk.1]; omega)
          have hy : y = false := by rw [HY.out]; exact Bt.getD_ge (by rw [hl.1]; omega)
          subst hx hy
          cases cy <;> rfl
      have HNX := Lib.hid hnx
      clear hstep hnx hst
      rcases (show i < n ∨ (¬ i < n ∧ i < m) ∨ (¬ i < n ∧ ¬ i < m ∧ cy = true) from by
        rcases hgo with h | h | h
        · exact .inl h
        · by_cases h1 : i < n
          · exact .inl h1
          · exact .inr (.inl ⟨h1, h⟩)
        · by_cases h1 : i < n
          · exact .inl h1
          · by_cases h2 : i < m
            · exact .inr (.inl ⟨h1, h2⟩)
            · exact .inr (.inr ⟨h1, h2, h⟩)) with hc1 | ⟨hc1, hc2⟩ | ⟨hc1, hc2, rfl⟩
      all_goals
        clear hgo
        try cases cy
        all_goals
          cases x <;> cases y
          all_goals
            go_wp2_with fail
            refine H1.out.mono ?_
            rintro e w1 ⟨rfl, rfl⟩
            go_wp2_with fail
            refine H2.out.mono ?_
            rintro e w1 ⟨rfl, rfl⟩
            go_wp2_with (refine appendB rfl (.tmp 41) (.tmp 45) rfl (N := 90000002) rfl (hown.alloc _) rfl (HLIT.out _ _) (by omega) (by omega) (by simp; have := hbel.size; omega) ?_; intro v4 w4 ho4 hg4)
            have hbel4 := (hbel.alloc hbel.size _).grown hg4 (by simp; have := hbel.size; omega) (hown.own_ge (Nat.le_refl _))
            go_roundw
            case rel => exact ⟨i + 1, _, _, by omega, HNX.out, by go_num, rfl, HS.out, ho4, hbel4⟩
            case measure => simp [intOf]; omega
    · have hcy : cy = false := by
        cases cy with
        | false => rfl
        | true => exact absurd (.inr (.inr rfl)) hgo
      subst hcy
      have h1 : ¬ i < n := fun h => hgo (.inl h)
      have h2 : ¬ i < m := fun h => hgo (.inr (.inl h))
      have HE := Lib.hid (hinv.end_ (by rw [hk.1]; omega) (by rw [hl.1]; omega))
      obtain ⟨A', c', rfl, hb⟩ := hown.bts
      clear hgo hst
      go_wp2_with fail
      refine (rtrim_any _ _ _ _ _ hb (by omega)).mono ?_
      rintro e w2 ⟨v, rfl, hv, hb2⟩
      rw [HE.out] at hv
      go_wp2_with fail
      go_ret
      exact ⟨v, rfl, hv, hbel.trans (hb2.mono hbel.size)⟩
end Go.Proofs.Ytiehkciofggonaa

/- the reference's sub and mul, over bits: what each answers. -/
namespace Go.Proofs.Ytiehkciofggonaa
open Go.RowKit

set_option maxHeartbeats 4000000 in
theorem rsub_any (A B : Option Addr) (n m c d : Nat) (k l : List Bool) (w : World) (hk : Bts w A n c k) (hl : Bts w B m d l) (hn : n ≤ 90000000) (hmn : m ≤ n) (hle : Bt.val l ≤ Bt.val k) :
    Calls Try.prog 68 #[.slice A n c, .slice B m d] w (GivesB w (Bt.val k - Bt.val l)) := by
  have HLIT := Lib.hid bts_lit
  have HLE := Lib.hid hle
  clear hle
  go_enter Try.func68, Try.ntmps68
  go_wp2_with fail
  go_loopw [5, 6, 7] (fun dv cv iv wr => ∃ (i : Nat) (cy : Bool) (out : List Bool), i ≤ n ∧ iv = .int .i64 i ∧ cv = .bool cy ∧ Bt.SubInv k l out i cy ∧ OwnB wr w.heap.size dv out ∧ Below w.heap.size w wr) (fun _ _ iv _ => n - (intOf iv).toNat)
  case atStart => exact ⟨0, false, [], by omega, rfl, rfl, Bt.SubInv.start k l, OwnB.nil_ _ _, Below.refl _ _⟩
  case round =>
    obtain ⟨i, cy, out, hi, rfl, rfl, hinv, hown, hbel⟩ := hrel
    have hol := hinv.len
    have hol2 : out.length ≤ 90000001 := by omega
    clear hol
    by_cases hlt : i < n
    · obtain ⟨y, HY⟩ : ∃ y, Hid (y = l.getD i false) := ⟨_, rfl⟩
      have H2 := Lib.hid (at_at (hl.below hbel) (show i ≤ 1000000000 by omega) HY)
      obtain ⟨b, off, rfl, hb, hcs⟩ := hk.at_ (by omega)
      obtain ⟨x, HX, hcell⟩ := hcs i hlt
      have hcx : wr.cell? ⟨b, off + i, none⟩ = some (.bool x) := (hbel.cell hb).trans hcell
      clear hcs hcell
      have HI := Lib.hid hinv
      clear hinv
      cases cy
      all_goals
        cases x <;> cases y
        all_goals
          go_wp2_with fail
          refine H2.out.mono ?_
          rintro e w1 ⟨rfl, rfl⟩
          go_wp2_with (refine appendB rfl (.tmp 29) (.tmp 36) rfl (N := 90000002) rfl (hown.alloc _) rfl (HLIT.out _ _) (by omega) (by omega) (by simp; have := hbel.size; omega) ?_; intro v4 w4 ho4 hg4)
          have hbel4 := (hbel.alloc hbel.size _).grown hg4 (by simp; have := hbel.size; omega) (hown.own_ge (Nat.le_refl _))
          go_roundw
          case rel => exact ⟨i + 1, _, _, by omega, by go_num, rfl, by exact HI.out.step HX.out HY.out (by rfl), ho4, hbel4⟩
          case measure => simp [intOf]; omega
    · obtain rfl : i = n := by omega
      have HE := Lib.hid (hinv.end_ (by rw [hk.1]; exact Nat.le_refl _) (by rw [hl.1]; exact hmn) HLE.out)
      obtain ⟨A', c', rfl, hb⟩ := hown.bts
      go_wp2_with fail
      refine (rtrim_any _ _ _ _ _ hb (by omega)).mono ?_
      rintro e w2 ⟨v, rfl, hv, hb2⟩
      rw [HE.out] at hv
      go_wp2_with fail
      go_ret
      exact ⟨v, rfl, hv, hbel.trans (hb2.mono hbel.size)⟩

set_option maxHeartbeats 4000000 in
theorem rmul_any (A B : Option Addr) (n m c d : Nat) (k l : List Bool) (w : World) (hk : Bts w A n c k) (hl : Bts w B m d l) (hn : n ≤ 40000000) (hm : m ≤ 40000000) :
    Calls Try.prog 70 #[.slice A n c, .slice B m d] w (GivesB w (Bt.val k * Bt.val l)) := by
  have HLB : Hid (Bt.val l < 2 ^ m) := by have := Bt.val_lt l; rw [hl.1] at this; exact this
  have HKL : Hid (k.length = n) := hk.1
  go_enter Try.func70, Try.ntmps70
  go_wp2_with fail
  go_loopw [5, 6] (fun dv iv wr => ∃ (i : Nat) (A' : Option Addr) (n' c' : Nat) (os : List Bool), i ≤ n ∧ iv = .int .i64 ((i : Int) - 1) ∧ dv = .slice A' n' c' ∧ Bts wr A' n' c' os ∧ n' ≤ n - i + m ∧ Hid (Bt.val os = Bt.val (k.drop i) * Bt.val l) ∧ Below w.heap.size w wr) (fun _ iv _ => (intOf iv + 1).toNat)
  case atStart => exact ⟨n, none, 0, 0, [], by omega, rfl, rfl, ⟨rfl, by omega, by omega, .inl ⟨rfl, rfl, rfl⟩⟩, by omega, by rw [List.drop_of_length_le (by rw [HKL.out]; exact Nat.le_refl _)]; exact (Nat.zero_mul _).symm, Below.refl _ _⟩
  case round =>
    obtain ⟨i, A', n', c', os, hi, rfl, rfl, hos, hn', HV, hbel⟩ := hrel
    by_cases h0 : 0 < i
    · obtain ⟨j, hj⟩ : ∃ j : Nat, Hid (i - 1 = j) := ⟨_, rfl⟩
      have he : (i : Int) - 1 = (j : Int) := by have := hj.out; omega
      have hjn : j < n := by have := hj.out; omega
      obtain ⟨b, off, rfl, hb, hcs⟩ := hk.at_ (by omega)
      obtain ⟨x, HX, hcell⟩ := hcs j hjn
      have HC0 := Lib.hid hcell
      clear hcs hcell
      have hdr : Hid (Bt.val (k.drop j) = x.toNat + 2 * Bt.val (k.drop i)) := by
        rw [Bt.val_drop k j, HX.out, show j + 1 = i from by have := hj.out; omega]
        exact rfl
      have hlit := fun W : World => OwnB.lit W (B := w.heap.size) false
      have HLIT := Lib.hid hlit
      clear hlit
      have hnb : n' ≤ 80000000 := by omega
      have hn2 : n' + 1 ≤ n - j + m := by have := hj.out; omega
      have hl5 : ([false] ++ os).length ≤ n - j + m := by simp; rw [hos.1]; omega
      obtain ⟨n5, hn5⟩ : ∃ n5, Hid (([false] ++ os).length = n5) := ⟨_, rfl⟩
      rw [hn5.out] at hl5
      have HV5 : Hid (Bt.val ([false] ++ os) = 2 * (Bt.val (k.drop i) * Bt.val l)) := by
        rw [List.singleton_append, Bt.val_cons, HV.out]
        exact (Nat.zero_add _)
      cases x
      · go_wp2_with (refine appendB rfl (.tmp 14) (.tmp 15) rfl (N := 80000001) rfl (HLIT.out _ hbel.size) rfl (hos.below ((Below.refl _ _).alloc (Nat.le_refl _) _)) (by simp; omega) (by omega) (by simp; have := hbel.size; omega) ?_; intro v4 w4 ho4 hg4; have hbel4 := (hbel.alloc hbel.size _).grown hg4 (by simp; have := hbel.size; omega) (OwnB.own_ge (HLIT.out _ hbel.size) (Nat.le_refl _)); have hcx4 := (hbel4.cell (p := ⟨b, off + j, none⟩) hb).trans HC0.out; obtain ⟨A5, c5, e5, hb5⟩ := ho4.bts; rw [hn5.out] at e5 hb5; subst e5)
        have HV6 : Hid (Bt.val ([false] ++ os) = Bt.val (k.drop j) * Bt.val l) := (show Bt.val ([false] ++ os) = Bt.val (k.drop j) * Bt.val l from by rw [hdr.out, HV5.out, ← Nat.mul_assoc]; simp)
        go_roundw
        case rel => exact ⟨j, A5, n5, c5, _, by omega, by go_num, rfl, hb5, hl5, HV6, hbel4⟩
        case measure => simp [intOf]; omega
      · go_wp2_with (refine appendB rfl (.tmp 14) (.tmp 15) rfl (N := 80000001) rfl (HLIT.out _ hbel.size) rfl (hos.below ((Below.refl _ _).alloc (Nat.le_refl _) _)) (by simp; omega) (by omega) (by simp; have := hbel.size; omega) ?_; intro v4 w4 ho4 hg4; have hbel4 := (hbel.alloc hbel.size _).grown hg4 (by simp; have := hbel.size; omega) (OwnB.own_ge (HLIT.out _ hbel.size) (Nat.le_refl _)); have hcx4 := (hbel4.cell (p := ⟨b, off + j, none⟩) hb).trans HC0.out; obtain ⟨A5, c5, e5, hb5⟩ := ho4.bts; rw [hn5.out] at e5 hb5; subst e5)
        have hradd := radd_any A5 B n5 m c5 d _ l w4 hb5 (hl.below hbel4) (by omega) (by omega)
        have HV6 : Hid (Bt.val ([false] ++ os) + Bt.val l = Bt.val (k.drop j) * Bt.val l) := by
          rw [hdr.out, HV5.out, ← Nat.mul_assoc, show (true.toNat + 2 * Bt.val (k.drop i)) = 2 * Bt.val (k.drop i) + 1 from by simp; omega, Nat.add_mul, Nat.one_mul]
          exact rfl
        rw [HV6.out] at hradd
        have HRA := Lib.hid hradd
        clear hradd
        go_wp2_with fail
        refine HRA.out.mono ?_
        rintro e w5 ⟨v, rfl, ⟨A6, n6, c6, ps, rfl, hb6, ht6, hv6⟩, hbel5⟩
        have hbel6 := hbel4.trans (hbel5.mono hbel4.size)
        have hn6 : n6 ≤ n - j + m := by
          have h1 : Bt.val ps < 2 ^ (n - j + m) := by
            rw [hv6, Nat.pow_add]
            have h2 := Bt.val_lt (k.drop j)
            rw [List.length_drop, HKL.out] at h2
            have h3 := HLB.out
            exact Nat.mul_lt_mul'' h2 h3
          have := Bt.len_le ht6 h1
          rw [hb6.1] at this
          exact this
        have HV7 := Lib.hid hv6
        clear hv6 ht6
        go_wp2_with fail
        go_roundw
        case rel => exact ⟨j, A6, n6, c6, ps, by omega, by go_num, rfl, hb6, hn6, HV7.out, hbel6⟩
        case measure => simp [intOf]; omega
    · obtain rfl : i = 0 := by omega
      have hz : ((0 : Nat) : Int) - 1 < 0 := by omega
      have HVV : Hid (Bt.val os = Bt.val k * Bt.val l) := by rw [HV.out, List.drop_zero]; exact rfl
      go_wp2_with fail
      refine (rtrim_any _ _ _ _ _ hos (by omega)).mono ?_
      rintro e w2 ⟨v, rfl, hv, hb2⟩
      rw [HVV.out] at hv
      go_wp2_with fail
      go_ret
      exact ⟨v, rfl, hv, hbel.trans (hb2.mono hbel.size)⟩
end Go.Proofs.Ytiehkciofggonaa
