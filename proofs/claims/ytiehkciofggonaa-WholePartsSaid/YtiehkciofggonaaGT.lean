/- several texts in one. -/
import Derived.Test.YtiehkciofggonaaGS
import Derived.Test.YtiehkciofggonaaGB
/- the reference's division over bits: what it answers. -/
namespace Go.Proofs.Ytiehkciofggonaa
open Go.RowKit

/-- a number as bits, in a row of the call's own -/
def GivesO (W : World) (N : Nat) (e : Ending) (w' : World) : Prop := ∃ v bs, e = .returned v ∧ OwnB w' W.heap.size v bs ∧ Bt.Top bs ∧ Bt.val bs = N ∧ Below W.heap.size W w'
theorem OwnB.lower {w : World} {B C : Nat} {v : Value} {l : List Bool} (h : OwnB w B v l) (hc : C ≤ B) : OwnB w C v l := by
  obtain ⟨h1, h2 | ⟨g, cap, cur, e, hb, r⟩⟩ := h
  · exact ⟨h1, .inl h2⟩
  · exact ⟨h1, .inr ⟨g, cap, cur, e, Nat.le_trans hc hb, r⟩⟩
theorem Bts.far {w : World} {A : Option Addr} {n c g i : Nat} {l : List Bool} {u : Value} (h : Bts w A n c l) (hne : ∀ b off, A = some ⟨b, off, none⟩ → b ≠ g) : Bts (w.setCell ⟨g, i, none⟩ u) A n c l := by
  obtain ⟨h1, h2, h3, h4⟩ := h
  refine ⟨h1, h2, h3, ?_⟩
  rcases h4 with h4 | ⟨b, off, e, h5, h6⟩
  · exact .inl h4
  · refine .inr ⟨b, off, e, by simpa [World.setCell] using h5, fun j hj => (World.cell?_of_block (Below.heap_setCell w ⟨g, i, none⟩ u b (hne b off e))).trans (h6 j hj)⟩

/-- the reference's trim: its answer is a row of its own -/
theorem rtrim_own (A : Option Addr) (n c : Nat) (l : List Bool) (w : World) (h : Bts w A n c l) (hs : n ≤ 100000000) :
    Calls Try.prog 80 #[.slice A n c] w (GivesO w (Bt.val l)) := by
  have hc : c ≤ 9223372036854775807 := h.2.2.1
  have hn := h.2.1
  go_enter Try.func80, Try.ntmps80
  go_wp2_with fail
  go_loop [3] (fun t => ∃ k : Nat, k ≤ n ∧ t = .int .i64 k ∧ Hid (∀ j, k ≤ j → l.getD j false = false)) (fun t => (intOf t).toNat)
  case atStart => exact ⟨n, Nat.le_refl _, rfl, fun j hj => Bt.getD_ge (by rw [h.1]; exact hj)⟩
  case round =>
    obtain ⟨k, hk, rfl, HZ⟩ := hrel
    by_cases hgo : 0 < k ∧ l.getD (k - 1) false = false
    · obtain ⟨h0, hb0⟩ := hgo
      obtain ⟨b, off, rfl, hb, hcs⟩ := h.at_ (by omega)
      obtain ⟨x, HX, hcell⟩ := hcs (k - 1) (by omega)
      rw [hb0] at HX
      have HX' := Lib.hid hb0
      obtain rfl : x = false := HX.out
      clear hcs hb0
      go_wp2_with fail
      go_round
      case rel => exact ⟨k - 1, by omega, by go_num, fun j hj => by
        by_cases e : j = k - 1
        · subst e; exact HX'.out
        · exact HZ.out j (by omega)⟩
      case measure => simp [intOf]; omega
    · have htop : Hid (Bt.Top (l.take k)) := Bt.top_take l k (by rw [h.1]; exact hk) fun h0 => by
        cases e : l.getD (k - 1) false with
        | true => rfl
        | false => exact absurd ⟨h0, e⟩ hgo
      have hval : Hid (Bt.val (l.take k) = Bt.val l) := Bt.val_zeros l k HZ.out
      have hfin : ∀ v w', OwnB w' w.heap.size v (([] : List Bool) ++ l.take k) → w.grownBy w' (Value.slice none 0 0).ownBlock → GivesO w (Bt.val l) (.returned v) w' := by
        intro v w' ho hg
        rw [List.nil_append] at ho
        exact ⟨_, _, rfl, ho, htop.out, hval.out, (Below.refl _ _).grown hg (Nat.le_refl _) (by intro q hq; cases hq)⟩
      have HF := Lib.hid hfin
      clear hfin
      have happ : Hid (Bts w A k c (l.take k)) := h.take hk
      by_cases h0 : 0 < k
      · have hb0 : l.getD (k - 1) false = true := by
          cases e : l.getD (k - 1) false with
          | true => rfl
          | false => exact absurd ⟨h0, e⟩ hgo
        obtain ⟨b, off, rfl, hb, hcs⟩ := h.at_ (by omega)
        obtain ⟨x, HX, hcell⟩ := hcs (k - 1) (by omega)
        rw [hb0] at HX
        obtain rfl : x = true := HX.out
        clear hcs hb0 hgo
        go_wp2_with (refine appendB rfl (.const (.slice none 0 0)) (.tmp 20) rfl (N := n) rfl (OwnB.nil_ _ _) rfl happ.out (by simp; omega) (by omega) (Nat.le_refl _) ?_; intro v w2 ho hg)
        go_ret
        exact HF.out _ _ ho hg
      · obtain rfl : k = 0 := by omega
        clear hgo
        go_wp2_with (refine appendB rfl (.const (.slice none 0 0)) (.tmp 20) rfl (N := n) rfl (OwnB.nil_ _ _) rfl happ.out (by simp) (by omega) (Nat.le_refl _) ?_; intro v w2 ho hg)
        go_ret
        exact HF.out _ _ ho hg

set_option maxHeartbeats 4000000 in
theorem rsub_own (A B : Option Addr) (n m c d : Nat) (k l : List Bool) (w : World) (hk : Bts w A n c k) (hl : Bts w B m d l) (hn : n ≤ 90000000) (hmn : m ≤ n) (hle : Bt.val l ≤ Bt.val k) :
    Calls Try.prog 68 #[.slice A n c, .slice B m d] w (GivesO w (Bt.val k - Bt.val l)) := by
  have HLIT := Lib.hid bts_lit
  have HLE := Lib.hid hle
  clear hle
  go_enter Try.func68, Try.ntmps68
  go_wp2_with fail
  go_loopw [5, 6, 7] (fun dv cv iv wr => ∃ (i : Nat) (cy : Bool) (out : List Bool), i ≤ n ∧ iv = .int .i64 i ∧ cv = .bool cy ∧ Bt.SubInv k l out i cy ∧ OwnB wr w.heap.size dv out ∧ Below w.heap.size w wr) (fun _ _ iv _ => n - (intOf iv).toNat)
  case atStart => exact ⟨0, false, [], by omega, rfl, rfl, Bt.SubInv.start k l, OwnB.nil_ _ _, Below.refl _ _⟩
  case round =>
    obtain ⟨i, cy, out, hi, rfl, rfl, hinv, hown, hbel⟩ := hrel
    have hol := hinv.len
    have hol2 : out.length ≤ 90000001 := by omega
    clear hol
    by_cases hlt : i < n
    · obtain ⟨y, HY⟩ : ∃ y, Hid (y = l.getD i false) := ⟨_, rfl⟩
      have H2 := Lib.hid (at_at (hl.below hbel) (show i ≤ 1000000000 by omega) HY)
      obtain ⟨b, off, rfl, hb, hcs⟩ := hk.at_ (by omega)
      obtain ⟨x, HX, hcell⟩ := hcs i hlt
      have hcx : wr.cell? ⟨b, off + i, none⟩ = some (.bool x) := (hbel.cell hb).trans hcell
      clear hcs hcell
      have HI := Lib.hid hinv
      clear hinv
      cases cy
      all_goals
        cases x <;> cases y
        all_goals
          go_wp2_with fail
          refine H2.out.mono ?_
          rintro e w1 ⟨rfl, rfl⟩
          go_wp2_with (refine appendB rfl (.tmp 29) (.tmp 36) rfl (N := 90000002) rfl (hown.alloc _) rfl (HLIT.out _ _) (by omega) (by omega) (by simp; have := hbel.size; omega) ?_; intro v4 w4 ho4 hg4)
          have hbel4 := (hbel.alloc hbel.size _).grown hg4 (by simp; have := hbel.size; omega) (hown.own_ge (Nat.le_refl _))
          go_roundw
          case rel => exact ⟨i + 1, _, _, by omega, by go_num, rfl, by exact HI.out.step HX.out HY.out (by rfl), ho4, hbel4⟩
          case measure => simp [intOf]; omega
    · obtain rfl : i = n := by omega
      have HE := Lib.hid (hinv.end_ (by rw [hk.1]; exact Nat.le_refl _) (by rw [hl.1]; exact hmn) HLE.out)
      obtain ⟨A', c', rfl, hb⟩ := hown.bts
      go_wp2_with fail
      refine (rtrim_own _ _ _ _ _ hb (by omega)).mono ?_
      rintro e w2 ⟨v, bs, rfl, hv, ht2, hv2, hb2⟩
      rw [HE.out] at hv2
      have HV2 := Lib.hid hv2
      have HT2 := Lib.hid ht2
      clear hv2 ht2
      go_wp2_with fail
      go_ret
      exact ⟨v, bs, rfl, hv.lower hbel.size, HT2.out, HV2.out, hbel.trans (hb2.mono hbel.size)⟩

/-- block g is a row of bits of the call's own -/
def RowB (w : World) (g : Nat) (l : List Bool) : Prop := w.heap[g]? = some (.cells (cellsB l).toArray 4 (0, 0))
theorem RowB.lt {w : World} {g : Nat} {l : List Bool} (h : RowB w g l) : g < w.heap.size := by
  rcases Nat.lt_or_ge g w.heap.size with hlt | hge
  · exact hlt
  · unfold RowB at h; rw [Array.getElem?_eq_none hge] at h; cases h
theorem RowB.cell {w : World} {g : Nat} {l : List Bool} (h : RowB w g l) {j : Nat} (hj : j < l.length) : w.cell? ⟨g, j, none⟩ = some (.bool (l.getD j false)) := by
  rw [cell_of_row w g j _ _ (0, 0) h, List.getElem?_toArray, cellsB_get hj]
theorem RowB.frozen {w : World} {g : Nat} {l : List Bool} (h : RowB w g l) (i : Nat) : w.frozen? ⟨g, i, none⟩ = false := by
  unfold RowB at h
  simp [World.frozen?, h]
theorem RowB.bts {w : World} {g : Nat} {l : List Bool} (h : RowB w g l) {n : Nat} (hn : l.length = n) (hm : n ≤ maxLen) : Bts w (some ⟨g, 0, none⟩) n n l :=
  ⟨hn, Nat.le_refl _, hm, .inr ⟨g, 0, rfl, h.lt, fun j hj => by rw [Nat.zero_add]; exact h.cell (by omega)⟩⟩
theorem RowB.below {w w' : World} {g : Nat} {l : List Bool} {B : Nat} (h : RowB w g l) (hb : Below B w w') (hg : g < B) : RowB w' g l := (hb.block g hg).trans h
theorem RowB.set_ {w : World} {g : Nat} {l : List Bool} (h : RowB w g l) (i : Nat) (x : Bool) : RowB (w.setCell ⟨g, i, none⟩ (.bool x)) g (l.set i x) := by
  unfold RowB at h ⊢
  simp [World.setCell, Array.getElem?_modify, h, cellsB, List.map_set]
def falses (n : Nat) : Array Value := (cellsB (List.replicate n false)).toArray
theorem RowB.falses_ (w : World) (n : Nat) : RowB (w.alloc (.cells (falses n) 4)) w.heap.size (List.replicate n false) := heap_alloc_new w _
theorem falses_eq (n : Nat) : madeCells #[Value.bool false] n = falses n := by
  apply Array.ext
  · simp [madeCells, falses, cellsB]
  · intro i h1 h2
    have e : i % 1 = 0 := by omega
    simp [madeCells, falses, cellsB, e]
theorem makeB_any (n : Nat) (hn : n ≤ 1099511627776) (w : World) :
    (Instr.makeSlice 66 (.int .i64 (n : Int)) (.int .i64 (n : Int))).run Try.prog w = .ok (.slice (some ⟨w.heap.size, 0, none⟩) n n) (w.alloc (.cells (falses n) 4)) := by
  rw [← falses_eq]
  exact run_make_row' 66 4 (.bool false) 1 Try.underlying66 Try.info_bool rfl .i64 .i64 n (by omega) (by omega) w

theorem set_drop (Q : List Bool) (j : Nat) (x : Bool) (hj : j < Q.length) : Bt.val ((Q.set j x).drop j) = x.toNat + 2 * Bt.val (Q.drop (j + 1)) := by
  rw [Bt.val_drop (Q.set j x) j, List.drop_set_of_lt (by omega)]
  congr 2
  simp [List.getD_eq_getElem?_getD, hj]

/-- two numbers as bits -/
def GivesBB (W : World) (N R : Nat) (e : Ending) (w' : World) : Prop := ∃ u v, e = .returned (.tuple #[u, v]) ∧ BNum w' u N ∧ BNum w' v R ∧ Below W.heap.size W w'

/-- where the division stands: bits i and above are done -/
structure RD (k Q : List Bool) (V n i R : Nat) : Prop where
  len : Q.length = n
  lt : R < V
  sum : Bt.val (k.drop i) = V * Bt.val (Q.drop i) + R
  low : ∀ j, j < i → Q.getD j false = false
theorem RD.start {k : List Bool} {V n : Nat} (hk : k.length = n) (hV : 0 < V) : RD k (List.replicate n false) V n n 0 :=
  ⟨by simp, hV, by rw [List.drop_of_length_le (by omega), List.drop_of_length_le (by simp)]; simp [Bt.val_nil], fun j hj => by simp [List.getD_eq_getElem?_getD, hj]⟩
theorem RD.no {k Q : List Bool} {V n j R : Nat} {x : Bool} (h : RD k Q V n (j + 1) R) (hx : x = k.getD j false) (hlt : x.toNat + 2 * R < V) : RD k Q V n j (x.toNat + 2 * R) := by
  refine ⟨h.len, hlt, ?_, fun i hi => h.low i (by omega)⟩
  rw [Bt.val_drop k j, Bt.val_drop Q j, ← hx, h.low j (by omega), h.sum]
  simp only [Bool.toNat_false, Nat.zero_add, Nat.mul_add]
  rw [Nat.mul_left_comm V 2]
  omega
theorem RD.yes {k Q : List Bool} {V n j R : Nat} {x : Bool} (h : RD k Q V n (j + 1) R) (hj : j < n) (hx : x = k.getD j false) (hle : V ≤ x.toNat + 2 * R) : RD k (Q.set j true) V n j (x.toNat + 2 * R - V) := by
  have hr := h.lt
  have hb := Bt.bit_le x
  refine ⟨by rw [List.length_set]; exact h.len, by omega, ?_, fun i hi => ?_⟩
  · rw [Bt.val_drop k j, set_drop Q j true (by rw [h.len]; exact hj), ← hx, h.sum]
    simp only [Bool.toNat_true, Nat.mul_add, Nat.mul_one]
    rw [Nat.mul_left_comm V 2]
    omega
  · rw [List.getD_eq_getElem?_getD, List.getElem?_set_ne (by omega), ← List.getD_eq_getElem?_getD]
    exact h.low i (by omega)
theorem RD.end_ {k Q : List Bool} {V n R : Nat} (h : RD k Q V n 0 R) : Bt.val Q = Bt.val k / V ∧ R = Bt.val k % V := by
  have hs := h.sum
  rw [List.drop_zero, List.drop_zero] at hs
  have hr := h.lt
  constructor
  · rw [hs, Nat.mul_add_div (by omega), Nat.div_eq_of_lt hr, Nat.add_zero]
  · rw [hs, Nat.mul_add_mod, Nat.mod_eq_of_lt hr]

set_option maxHeartbeats 4000000 in
theorem rdivmod_any (A B : Option Addr) (n m c d : Nat) (k l : List Bool) (w : World) (hk : Bts w A n c k) (hl : Bts w B m d l) (tl : Bt.Top l) (hV : 0 < Bt.val l) (hn : n ≤ 1000000) (hm : m ≤ 1000000) :
    Calls Try.prog 73 #[.slice A n c, .slice B m d] w (GivesBB w (Bt.val k / Bt.val l) (Bt.val k % Bt.val l)) := by
  have HLB : Hid (Bt.val l < 2 ^ m) := by have := Bt.val_lt l; rw [hl.1] at this; exact this
  have HKL : Hid (k.length = n) := hk.1
  have HVP := Lib.hid hV
  have hmk := makeB_any n (by omega)
  have HR0 := Lib.hid (RowB.falses_ w n)
  have HB0 : Hid (Below w.heap.size w (w.alloc (.cells (falses n) 4))) := (Below.refl _ _).alloc (Nat.le_refl _) _
  clear hV
  go_enter Try.func73, Try.ntmps73
  go_wp2_with fail
  go_loopw [7, 8] (fun rv iv wr => ∃ (i R : Nat) (Q : List Bool), i ≤ n ∧ iv = .int .i64 ((i : Int) - 1) ∧ BNum wr rv R ∧ RD k Q (Bt.val l) n i R ∧ RowB wr w.heap.size Q ∧ Below w.heap.size w wr) (fun _ iv _ => (intOf iv + 1).toNat)
  case atStart => exact ⟨n, 0, _, by omega, rfl, ⟨none, 0, 0, [], rfl, ⟨rfl, by omega, by omega, .inl ⟨rfl, rfl, rfl⟩⟩, Bt.top_nil, rfl⟩, RD.start HKL.out HVP.out, HR0.out, HB0.out⟩
  case round =>
    obtain ⟨i, R, Q, hi, rfl, ⟨A', n', c', os, rfl, hos, htop, hval⟩, hrd, hrow, hbel⟩ := hrel
    have hn' : n' ≤ m := by
      have := Bt.len_le (k := m) htop (by rw [hval]; exact Nat.lt_trans hrd.lt HLB.out)
      rw [hos.1] at this
      exact this
    have HV1 := Lib.hid hval
    have HRD := Lib.hid hrd
    have htop' := htop
    clear hval hrd htop
    have hsz := hbel.size
    have hlt0 := hrow.lt
    by_cases h0 : 0 < i
    · obtain ⟨j, hj⟩ : ∃ j : Nat, Hid (i - 1 = j) := ⟨_, rfl⟩
      have he : (i : Int) - 1 = (j : Int) := by have := hj.out; omega
      have hjn : j < n := by have := hj.out; omega
      obtain ⟨b, off, rfl, hb, hcs⟩ := hk.at_ (by omega)
      obtain ⟨x, HX, hcell⟩ := hcs j hjn
      have hcx : wr.cell? ⟨b, off + j, none⟩ = some (.bool x) := (hbel.cell hb).trans hcell
      clear hcs hcell
      have HLIT : Hid (∀ W : World, w.heap.size + 1 ≤ W.heap.size → OwnB (W.alloc (.cells #[.bool x] 4)) (w.heap.size + 1) (.slice (some ⟨W.heap.size, 0, none⟩) 1 1) [x]) := fun W q => OwnB.lit W (B := w.heap.size + 1) x q
      obtain ⟨n5, hn5⟩ : ∃ n5, Hid (([x] ++ os).length = n5) := ⟨_, rfl⟩
      have hn5b : n5 ≤ 1000001 := by rw [← hn5.out]; simp; rw [hos.1]; omega
      have HXB := Lib.hid (Bt.bit_le x)
      obtain ⟨S, HS⟩ : ∃ S, Hid (x.toNat + 2 * R = S) := ⟨_, rfl⟩
      have HV5 : Hid (Bt.val ([x] ++ os) = S) := by
        rw [List.singleton_append, Bt.val_cons, HV1.out]
        exact HS.out
      have HSB : Hid (S < 2 ^ (m + 1)) := (show S < 2 ^ (m + 1) from by rw [Nat.pow_succ, ← HS.out]; have := HRD.out.lt; have := HLB.out; have := HXB.out; omega)
      have HRJ := HRD.out
      rw [show i = j + 1 from by have := hj.out; omega] at HRJ
      have HRJ := Lib.hid HRJ
      go_wp2_with (refine appendB rfl (.tmp 23) (.tmp 24) rfl (N := 2000001) rfl (HLIT.out _ (by omega)) rfl (hos.below ((Below.refl _ _).alloc (Nat.le_refl _) _)) (by simp; omega) (by omega) (by simp; omega) ?_; intro v4 w4 ho4 hg4; have hr4 : Below (w.heap.size + 1) wr w4 := ((Below.refl (w.heap.size + 1) wr).alloc (by omega) _).grown hg4 (by simp; omega) (OwnB.own_ge (HLIT.out _ (by omega)) (Nat.le_refl _)); obtain ⟨A5, c5, e5, hb5⟩ := ho4.bts; rw [hn5.out] at e5 hb5; subst e5)
      refine (rtrim_any A5 n5 c5 _ w4 hb5 (by omega)).mono ?_
      rintro e w5 ⟨v5, rfl, ⟨A6, n6, c6, ps, rfl, hb6, ht6, hv6⟩, hbel5⟩
      rw [HV5.out] at hv6
      have hsz4 := hr4.size
      have hr5 : Below (w.heap.size + 1) wr w5 := hr4.trans (hbel5.mono (by omega))
      have hn6 : n6 ≤ m + 1 := by
        have := Bt.len_le ht6 (k := m + 1) (by rw [hv6]; exact HSB.out)
        rw [hb6.1] at this
        exact this
      have hrow5 := hrow.below hr5 (by omega)
      have hbel5 : Below w.heap.size w w5 := hbel.trans (hr5.mono (by omega))
      have HC := Lib.hid (rcmp_any A6 B n6 m c6 d ps l w5 hb6 (hl.below hbel5) (by omega) (by omega))
      rw [hv6] at HC
      clear hr4 hb5 ho4 hg4 hos hr5
      by_cases hlt : S < Bt.val l
      · rw [M.cmpI_lt hlt] at HC
        have HN := HRJ.out.no HX.out (by rw [HS.out]; exact hlt)
        rw [HS.out] at HN
        have HN := Lib.hid HN
        have HV6 := Lib.hid hv6
        have HT6 := Lib.hid ht6
        clear hv6 ht6 hlt
        go_wp2_with fail
        refine HC.out.mono ?_
        rintro e w6 ⟨rfl, rfl⟩
        go_wp2_with fail
        go_roundw
        case rel => exact ⟨j, S, Q, by omega, by go_num, ⟨A6, n6, c6, ps, rfl, hb6, HT6.out, HV6.out⟩, HN.out, hrow5, hbel5⟩
        case measure => simp [intOf]; omega
      · have hge : Bt.val l ≤ S := by omega
        obtain ⟨z, Hz, hz0⟩ : ∃ z : Int, Hid (M.cmpI S (Bt.val l) = z) ∧ 0 ≤ z := ⟨_, rfl, by unfold M.cmpI; rw [if_neg hlt]; split <;> omega⟩
        rw [Hz.out] at HC
        have HN := HRJ.out.yes hjn HX.out (by rw [HS.out]; exact hge)
        rw [HS.out] at HN
        have HN := Lib.hid HN
        have hmn : m ≤ n6 := by
          have h1 := Bt.len_le (k := n6) tl (by
            refine Nat.lt_of_le_of_lt hge ?_
            rw [← hv6, ← hb6.1]
            exact Bt.val_lt ps)
          rw [hl.1] at h1
          exact h1
        have HSU := Lib.hid (rsub_own A6 B n6 m c6 d ps l w5 hb6 (hl.below hbel5) (by omega) hmn (by rw [hv6]; exact hge))
        rw [hv6] at HSU
        clear hv6 ht6 hlt hge
        go_wp2_with fail
        refine HC.out.mono ?_
        rintro e w6 ⟨rfl, rfl⟩
        go_wp2_with fail
        refine HSU.out.mono ?_
        rintro e w7 ⟨v7, bs7, rfl, ho7, ht7, hv7, hb7⟩
        have hsz5 := hbel5.size
        have hlt5 := hrow5.lt
        have hrow7 := hrow5.below hb7 hlt5
        obtain ⟨A7, c7, rfl, hbt7⟩ := ho7.bts
        have hfar : ∀ b off, A7 = some ⟨b, off, none⟩ → b ≠ w.heap.size := by
          rintro b off rfl
          have := ho7.own_ge (Nat.le_refl _) b rfl
          omega
        have HB7 := Lib.hid (hbt7.far (i := j) (u := .bool true) hfar)
        have HT7 := Lib.hid ht7
        have HV7 := Lib.hid hv7
        have hst : w7.cell? ⟨w.heap.size, j, none⟩ = some (.bool (Q.getD j false)) := hrow7.cell (by rw [HRJ.out.len]; exact hjn)
        have hfr := hrow7.frozen j
        generalize Q.getD j false = old at hst
        have HR7 := Lib.hid (hrow7.set_ j true)
        have HBL := Lib.hid ((hbel5.trans (hb7.mono hbel5.size)).setCell (p := ⟨w.heap.size, j, none⟩) (show w.heap.size ≤ w.heap.size from Nat.le_refl _) (.bool true))
        clear ht7 hv7 hfar
        go_wp2_with fail
        go_roundw
        case rel => exact ⟨j, _, _, by omega, by go_num, ⟨A7, _, c7, bs7, rfl, HB7.out, HT7.out, HV7.out⟩, HN.out, HR7.out, HBL.out⟩
        case measure => simp [intOf]; omega
    · obtain rfl : i = 0 := by omega
      obtain ⟨e1, e2⟩ := HRD.out.end_
      have E1 := Lib.hid e1
      have E2 := Lib.hid e2
      have HLQ := Lib.hid HRD.out.len
      have hbQ := hrow.bts HLQ.out (by unfold maxLen; omega)
      have hz : ((0 : Nat) : Int) - 1 < 0 := by omega
      clear e1 e2
      go_wp2_with fail
      refine (rtrim_any _ _ _ _ _ hbQ (by omega)).mono ?_
      rintro e w2 ⟨v, rfl, hv, hb2⟩
      rw [E1.out] at hv
      have hos2 := hos.below hb2
      have HT := Lib.hid htop'
      go_wp2_with fail
      go_ret2
      exact ⟨v, _, rfl, hv, ⟨A', n', c', os, rfl, hos2, HT.out, HV1.out.trans E2.out⟩, hbel.trans (hb2.mono hbel.size)⟩
end Go.Proofs.Ytiehkciofggonaa

/- the reference's DivMod and Gcd by the numbers that their arguments say. -/
namespace Go.Proofs.Ytiehkciofggonaa
open Go.RowKit

theorem BNum.zero {w : World} {v : Value} (h : BNum w v 0) : ∃ A c, v = .slice A 0 c := by
  obtain ⟨A, n, c, l, rfl, h1, h2, h3⟩ := h
  have := Bt.len_le (k := 0) h2 (by rw [h3]; simp)
  rw [h1.1] at this
  obtain rfl : n = 0 := by omega
  exact ⟨A, c, rfl⟩
theorem bnum_pos {w : World} {A : Option Addr} {n c N : Nat} {l : List Bool} (h : Bts w A n c l) (hv : Bt.val l = N) (hN : 0 < N) : 0 < n := by
  rcases Nat.eq_zero_or_pos n with rfl | h0
  · rw [List.eq_nil_of_length_eq_zero h.1] at hv
    simp [Bt.val_nil] at hv
    omega
  · exact h0
theorem bnum_no {w : World} {A : Option Addr} {c N : Nat} {l : List Bool} (h : Bts w A 0 c l) (hv : Bt.val l = N) : N = 0 := by
  rw [List.eq_nil_of_length_eq_zero h.1] at hv
  simpa [Bt.val_nil] using hv.symm

set_option maxHeartbeats 2000000 in
theorem rDivMod_num {w : World} {A B : Option Addr} {n m c d N K i : Nat} (h : In w A n c N) (k : In w B m d K) (hN : N < M.BB ^ i) (hK : K < M.BB ^ i) (hi : i ≤ 5000) (hp : 0 < K) :
    Calls Try.prog 50 #[.slice A n c, .slice B m d] w (GivesTwo w (N / K) (N % K)) := by
  have hQ : Hid (N / K < M.BB ^ i) := Nat.lt_of_le_of_lt (Nat.div_le_self _ _) hN
  have hR : Hid (N % K < M.BB ^ i) := Nat.lt_trans (Nat.mod_lt _ hp) hK
  have hN := Lib.hid hN
  have hK := Lib.hid hK
  have hP := Lib.hid hp
  clear hp
  go_enter Try.func50, Try.ntmps50
  go_wp2_with fail
  refine (bits_num k).mono ?_
  rintro e w1 ⟨v1, rfl, n1, b1⟩
  have h := h.below b1
  obtain ⟨A1, m1, c1, l1, rfl, t1, p1, e1, q1⟩ := n1.bts hK.out
  have hm1 := bnum_pos t1 e1 hP.out
  have E1 := Lib.hid e1
  clear e1
  go_wp2_with fail
  refine (bits_num h).mono ?_
  rintro e w2 ⟨v2, rfl, n2, b2⟩
  obtain ⟨A2, m2, c2, l2, rfl, t2, p2, e2, q2⟩ := n2.bts hN.out
  have HD := Lib.hid (rdivmod_any A2 A1 m2 m1 c2 c1 l2 l1 w2 t2 (t1.below b2) p1 (by rw [E1.out]; exact hP.out) (by omega) (by omega))
  rw [e2, E1.out] at HD
  have b2 : Below w.heap.size w w2 := b1.trans (b2.mono b1.size)
  clear e2 n1 n2 b1
  go_wp2_with fail
  refine HD.out.mono ?_
  rintro e w3 ⟨v3, v4, rfl, n3, n4, b3⟩
  have b3 : Below w.heap.size w w3 := b2.trans (b3.mono b2.size)
  obtain ⟨A3, m3, c3, rfl, L3⟩ := limbs_num n3 hQ.out (by omega)
  have L3 := Lib.hid L3
  clear b2 n3
  go_wp2_with fail
  refine L3.out.mono ?_
  rintro e w5 ⟨v5, rfl, n5, b5⟩
  obtain ⟨A4, m4, c4, rfl, L4⟩ := limbs_num (n4.below b5) hR.out (by omega)
  have L4 := Lib.hid L4
  have b5 : Below w.heap.size w w5 := b3.trans (b5.mono b3.size)
  clear b3 n4
  go_wp2_with fail
  refine L4.out.mono ?_
  rintro e w6 ⟨v6, rfl, n6, b6⟩
  go_wp2_with fail
  go_ret3
  exact ⟨v5, v6, rfl, n5.below b6, n6, b5.trans (b6.mono b5.size)⟩

theorem rDivMod_zero {w : World} {A B : Option Addr} {n m c d K : Nat} (k : In w B m d K) (hp : K = 0) :
    Calls Try.prog 50 #[.slice A n c, .slice B m d] w fun e w' => e = .returned (.tuple #[.slice none 0 0, .slice none 0 0, .int .i64 7]) ∧ Below w.heap.size w w' := by
  subst hp
  go_enter Try.func50, Try.ntmps50
  go_wp2_with fail
  refine (bits_num k).mono ?_
  rintro e w1 ⟨v1, rfl, n1, b1⟩
  obtain ⟨A1, c1, rfl⟩ := n1.zero
  go_wp2_with fail
  go_ret3
  exact ⟨rfl, b1⟩

/-- the number that lies at a slice of bits -/
def valAtB (w : World) (v : Value) : Nat :=
  match v with
  | .slice (some a) n _ => Bt.val ((List.range n).map fun j => match w.cell? ⟨a.block, a.off + j, none⟩ with | some (.bool x) => x | _ => false)
  | _ => 0
theorem Bts.valAtB {w : World} {A : Option Addr} {n c : Nat} {l : List Bool} (h : Bts w A n c l) : valAtB w (.slice A n c) = Bt.val l := by
  obtain ⟨h1, h2, h3, ⟨rfl, h4, _⟩ | ⟨b, off, rfl, _, hc⟩⟩ := h
  · rw [List.eq_nil_of_length_eq_zero (h1.trans h4)]
    simp [Go.Proofs.Ytiehkciofggonaa.valAtB, Bt.val_nil]
  · have e : ((List.range n).map fun j => match w.cell? ⟨b, off + j, none⟩ with | some (.bool x) => x | _ => false) = l := by
      apply List.ext_getElem
      · simp [h1]
      · intro i h4 h5
        simp only [List.length_map, List.length_range] at h4
        simp only [List.getElem_map, List.getElem_range, hc i h4]
        exact Bt.getD_lt h5
    exact congrArg Bt.val e
theorem BNum.valAtB {w : World} {v : Value} {N : Nat} (h : BNum w v N) : valAtB w v = N := by
  obtain ⟨A, n, c, l, rfl, h1, h2, h3⟩ := h
  rw [h1.valAtB, h3]

end Go.Proofs.Ytiehkciofggonaa
