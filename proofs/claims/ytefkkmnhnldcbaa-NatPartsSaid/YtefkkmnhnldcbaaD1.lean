/- lists of bits in memory; append; the reference's trim: what it answers. -/
import Derived.Test.YtefkkmnhnldcbaaBase
import Derived.Test.YtefkkmnhnldcbaaMathB
import Derived.Laws.AppendOwnNone
namespace Go.Proofs.Ytefkkmnhnldcbaa
open Go.RowKit

def cellsB (l : List Bool) : List Value := l.map Value.bool
theorem cellsB_length (l : List Bool) : (cellsB l).length = l.length := by simp [cellsB]
theorem cellsB_get {l : List Bool} {j : Nat} (h : j < l.length) : (cellsB l)[j]? = some (.bool (l.getD j false)) := by
  simp [cellsB, List.getD_eq_getElem?_getD, h]
theorem cellsB_one {l : List Bool} : ∀ v ∈ cellsB l, v.oneCell' = true := by
  intro v hv
  obtain ⟨x, _, rfl⟩ := List.mem_map.1 hv
  rfl
theorem Try.info_bool : (Try.prog.info? 4).map (fun i => (i.zero, i.size, i.bytes)) = some (some (.bool false), 1, 1) := by kernel_rfl

/-- the slice of n cells at A reads as the bits l -/
def Bts (w : World) (A : Option Addr) (n c : Nat) (l : List Bool) : Prop :=
  l.length = n ∧ n ≤ c ∧ c ≤ maxLen ∧ ((A = none ∧ n = 0 ∧ c = 0) ∨ ∃ b off, A = some ⟨b, off, none⟩ ∧ b < w.heap.size ∧ ∀ j, j < n → w.cell? ⟨b, off + j, none⟩ = some (.bool (l.getD j false)))

theorem Bts.below {w w' : World} {A : Option Addr} {n c : Nat} {l : List Bool} (h : Bts w A n c l) (hb : Below w.heap.size w w') : Bts w' A n c l := by
  obtain ⟨h1, h2, h3, h4⟩ := h
  refine ⟨h1, h2, h3, ?_⟩
  rcases h4 with h4 | ⟨b, off, e, h5, h6⟩
  · exact .inl h4
  · exact .inr ⟨b, off, e, Nat.lt_of_lt_of_le h5 hb.size, fun j hj => (hb.cell h5).trans (h6 j hj)⟩
theorem Bts.take {w : World} {A : Option Addr} {n c : Nat} {l : List Bool} (h : Bts w A n c l) {k : Nat} (hk : k ≤ n) : Bts w A k c (l.take k) := by
  obtain ⟨h1, h2, h3, h4⟩ := h
  refine ⟨by rw [List.length_take]; omega, by omega, h3, ?_⟩
  rcases h4 with ⟨h4, h5, h6⟩ | ⟨b, off, e, h5, h6⟩
  · exact .inl ⟨h4, by omega, h6⟩
  · refine .inr ⟨b, off, e, h5, fun j hj => (h6 j (by omega)).trans ?_⟩
    congr 2
    simp [List.getD_eq_getElem?_getD, hj]
theorem Bts.at_ {w : World} {A : Option Addr} {n c : Nat} {l : List Bool} (h : Bts w A n c l) (hn : 0 < n) :
    ∃ b off, A = some ⟨b, off, none⟩ ∧ b < w.heap.size ∧ ∀ j, j < n → ∃ x : Bool, Hid (x = l.getD j false) ∧ w.cell? ⟨b, off + j, none⟩ = some (.bool x) := by
  obtain ⟨_, _, _, h4⟩ := h
  rcases h4 with ⟨_, h5, _⟩ | ⟨b, off, e, h5, h6⟩
  · omega
  · exact ⟨b, off, e, h5, fun j hj => ⟨_, rfl, h6 j hj⟩⟩

/-- v holds the bits l, in a row of the call's own from block B on -/
def OwnB (w : World) (B : Nat) (v : Value) (l : List Bool) : Prop := w.ownsRow B 4 1 v l.length (cellsB l)
theorem OwnB.nil_ (w : World) (B : Nat) : OwnB w B (.slice none 0 0) [] := World.ownsRow_nil w B _ _
theorem OwnB.bts {w : World} {B : Nat} {v : Value} {l : List Bool} (h : OwnB w B v l) : ∃ A c, v = .slice A l.length c ∧ Bts w A l.length c l := by
  obtain ⟨h1, ⟨rfl, h2⟩ | ⟨g, cap, cur, rfl, hb, hh, hc, hm, hs, ht⟩⟩ := h
  · exact ⟨none, 0, by rw [h2], rfl, by omega, by omega, .inl ⟨rfl, h2, rfl⟩⟩
  · have hlt : g < w.heap.size := by
      rcases Nat.lt_or_ge g w.heap.size with h | h
      · exact h
      · rw [Array.getElem?_eq_none h] at hh; cases hh
    refine ⟨_, cap, rfl, rfl, hc, hm, .inr ⟨g, 0, rfl, hlt, fun j hj => ?_⟩⟩
    rw [Nat.zero_add, cell_of_row w g j cur _ (0, 0) hh]
    have := congrArg (·[j]?) ht
    simp only [Nat.mul_one] at this
    rw [cellsB_get hj, List.getElem?_take, if_pos hj] at this
    simpa using this
theorem OwnB.own_ge {w : World} {B : Nat} {v : Value} {l : List Bool} (h : OwnB w B v l) {b : Nat} (hb : b ≤ B) : ∀ k, v.ownBlock = some k → b ≤ k := fun k e => by
  have := (World.ownsRow.lt h k e).1
  omega
theorem OwnB.alloc {w : World} {B : Nat} {v : Value} {l : List Bool} (h : OwnB w B v l) (o : Obj) : OwnB (w.alloc o) B v l := World.ownsRow.alloc h o
/-- a literal list -/
theorem OwnB.lit (w : World) {B : Nat} (b : Bool) (hB : B ≤ w.heap.size) : OwnB (w.alloc (.cells #[.bool b] 4)) B (.slice (some ⟨w.heap.size, 0, none⟩) 1 1) [b] :=
  World.ownsRow_lit w #[.bool b] 1 hB (by unfold maxLen; omega) rfl

/-- append of bits -/
theorem appendB {w : World} {ops : Array Oper} {rest : List Oper} {o : Oper} {a : Act} {Q : Exit → Act → World → Prop} (hgd : o.guard = none) (s x : Operand)
    (ho : o.op = .call { callee := .builtin .append, args := #[s, x], argTypes := #[45, 45] })
    {B m c N : Nat} {A : Option Addr} {v : Value} {l k : List Bool} (hs : a.eval s = v) (hown : OwnB w B v l) (hx : a.eval x = .slice A m c) (hk : Bts w A m c k)
    (hn : l.length + m ≤ N) (hN : N ≤ 1000000000) (hB : B ≤ w.heap.size)
    (h : ∀ v' w', OwnB w' B v' (l ++ k) → w.grownBy w' v.ownBlock → wpList Try.prog ops Q rest (a.put o.dst v') w') :
    wpList Try.prog ops Q (o :: rest) a w := by
  obtain ⟨i0, hi0, hz0, hz1, hz2⟩ := info_parts Try.info_bool
  obtain ⟨h1, h2, h3, h4⟩ := hk
  rcases h4 with ⟨rfl, rfl, rfl⟩ | ⟨b, off, rfl, h5, h6⟩
  · obtain rfl : k = [] := List.eq_nil_of_length_eq_zero h1
    refine wpList_append_own_none hgd s x 45 ho B 4 i0 1 Try.underlying45 hi0 v l.length (cellsB l) hs hown hx ?_
    exact h v w (by rw [List.append_nil]; exact hown) (World.grownBy.refl _ _)
  · refine wpList_append_own w hgd s x 45 ho B 4 i0 (.bool false) 1 1 Try.underlying45 hi0 hz0 hz1 hz2 rfl (by omega) v l.length (cellsB l) hs hown ⟨b, off, none⟩ m c (cellsB k) hx (by rw [cellsB_length, h1, Nat.mul_one]) ?_ cellsB_one (by unfold maxLen; omega) (by omega) hB ?_
    · intro j u hu
      have hj : j < k.length := by
        rcases Nat.lt_or_ge j k.length with h1 | h1
        · exact h1
        · rw [List.getElem?_eq_none (by rw [cellsB_length]; exact h1)] at hu; cases hu
      rw [cellsB_get hj] at hu
      injection hu with hu
      subst hu
      have := h6 j (by omega)
      unfold Addr.add
      split <;> simp_all
    · intro v' w' g1 g2 _
      refine h v' w' ?_ g2
      have e : cellsB l ++ cellsB k = cellsB (l ++ k) := by simp [cellsB]
      rw [e] at g1
      unfold OwnB
      rw [List.length_append, h1]
      exact g1

/-- a number as bits, in its own form, in memory -/
def BNum (w : World) (v : Value) (N : Nat) : Prop := ∃ A n c l, v = .slice A n c ∧ Bts w A n c l ∧ Bt.Top l ∧ Bt.val l = N
def GivesB (W : World) (N : Nat) (e : Ending) (w' : World) : Prop := ∃ v, e = .returned v ∧ BNum w' v N ∧ Below W.heap.size W w'
theorem BNum.below {w w' : World} {v : Value} {N : Nat} (h : BNum w v N) (hb : Below w.heap.size w w') : BNum w' v N := by
  obtain ⟨A, n, c, l, e, h1, h2⟩ := h
  exact ⟨A, n, c, l, e, h1.below hb, h2⟩

/-- the reference's trim -/
theorem rtrim_any (A : Option Addr) (n c : Nat) (l : List Bool) (w : World) (h : Bts w A n c l) (hs : n ≤ 100000000) :
    Calls Try.prog 54 #[.slice A n c] w (GivesB w (Bt.val l)) := by
  have hc : c ≤ 9223372036854775807 := h.2.2.1
  have hn := h.2.1
  go_enter Try.func54, Try.ntmps54
  go_wp2_with fail
  go_loop [3] (fun t => ∃ k : Nat, k ≤ n ∧ t = .int .i64 k ∧ Hid (∀ j, k ≤ j → l.getD j false = false)) (fun t => (intOf t).toNat)
  case atStart => exact ⟨n, Nat.le_refl _, rfl, fun j hj => Bt.getD_ge (by rw [h.1]; exact hj)⟩
  case round =>
    obtain ⟨k, hk, rfl, HZ⟩ := hrel
    by_cases hgo : 0 < k ∧ l.getD (k - 1) false = false
    · obtain ⟨h0, hb0⟩ := hgo
      obtain ⟨b, off, rfl, hb, hcs⟩ := h.at_ (by omega)
      obtain ⟨x, HX, hcell⟩ := hcs (k - 1) (by omega)
      rw [hb0] at HX
      have HX' := Lib.hid hb0
      obtain rfl : x = false := HX.out
      clear hcs hb0
      go_wp2_with fail
      go_round
      case rel => exact ⟨k - 1, by omega, by go_num, fun j hj => by
        by_cases e : j = k - 1
        · subst e; exact HX'.out
        · exact HZ.out j (by omega)⟩
      case measure => simp [intOf]; omega
    · have htop : Hid (Bt.Top (l.take k)) := Bt.top_take l k (by rw [h.1]; exact hk) fun h0 => by
        cases e : l.getD (k - 1) false with
        | true => rfl
        | false => exact absurd ⟨h0, e⟩ hgo
      have hval : Hid (Bt.val (l.take k) = Bt.val l) := Bt.val_zeros l k HZ.out
      have hfin : ∀ v w', OwnB w' w.heap.size v (([] : List Bool) ++ l.take k) → w.grownBy w' (Value.slice none 0 0).ownBlock → GivesB w (Bt.val l) (.returned v) w' := by
        intro v w' ho hg
        rw [List.nil_append] at ho
        obtain ⟨A', c', rfl, hb⟩ := ho.bts
        exact ⟨_, rfl, ⟨A', _, c', _, rfl, hb, htop.out, hval.out⟩, (Below.refl _ _).grown hg (Nat.le_refl _) (by intro q hq; cases hq)⟩
      have HF := Lib.hid hfin
      clear hfin
      have happ : Hid (Bts w A k c (l.take k)) := h.take hk
      by_cases h0 : 0 < k
      · have hb0 : l.getD (k - 1) false = true := by
          cases e : l.getD (k - 1) false with
          | true => rfl
          | false => exact absurd ⟨h0, e⟩ hgo
        obtain ⟨b, off, rfl, hb, hcs⟩ := h.at_ (by omega)
        obtain ⟨x, HX, hcell⟩ := hcs (k - 1) (by omega)
        rw [hb0] at HX
        obtain rfl : x = true := HX.out
        clear hcs hb0 hgo
        go_wp2_with (refine appendB rfl (.const (.slice none 0 0)) (.tmp 20) rfl (N := n) rfl (OwnB.nil_ _ _) rfl happ.out (by simp; omega) (by omega) (Nat.le_refl _) ?_; intro v w2 ho hg)
        go_ret
        exact HF.out _ _ ho hg
      · obtain rfl : k = 0 := by omega
        clear hgo
        go_wp2_with (refine appendB rfl (.const (.slice none 0 0)) (.tmp 20) rfl (N := n) rfl (OwnB.nil_ _ _) rfl happ.out (by simp) (by omega) (Nat.le_refl _) ?_; intro v w2 ho hg)
        go_ret
        exact HF.out _ _ ho hg
end Go.Proofs.Ytefkkmnhnldcbaa
