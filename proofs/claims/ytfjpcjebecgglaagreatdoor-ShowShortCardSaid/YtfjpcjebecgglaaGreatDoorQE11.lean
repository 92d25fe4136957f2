/- What the proofs of this claim use, text by text. -/
import Derived.Test.YtfjpcjebecgglaaGreatDoorQE10
import Derived.Lib.RabinKarpLaws
import Derived.Laws.EntriesVeiled
set_option linter.unusedSimpArgs false
set_option linter.unusedVariables false
set_option maxRecDepth 100000
set_option maxHeartbeats 25600000
namespace Go.Proofs.YtfjpcjebecgglaaGreatDoor
open Go.RowKit Go.Shelf
theorem app_room {w W W7 : World} {op : ByteArray} {L : List Sx} {m : Nat} {e : Ending} (hm : L.length = m) (hb : Below (w.alloc roomO).heap.size (w.alloc roomO) W) (h : SxSaid (fun b => w.heap.size + 1 ≤ b) W (Sh.app op L) e W7) :
    ∃ A' c', e = .returned (.agg #[.bool true, .int .i64 0, .string ⟨#[]⟩, .int .i64 0, .int .i64 0, .slice A' (m + 1) c']) ∧ LiesX W7 w.heap.size zX ∧
      SxSaid (fun _ => False) w (Sh.app op L) (.returned (.agg #[.bool true, .int .i64 0, .string ⟨#[]⟩, .int .i64 0, .int .i64 0, .slice A' (m + 1) c'])) (fillX W7 w.heap.size (.bool true) (.int .i64 0) (.string ⟨#[]⟩) (.int .i64 0) (.int .i64 0) (.slice A' (m + 1) c')) := by
  subst hm
  obtain ⟨⟨A', c', rfl, ht⟩, hb7⟩ := h
  have hs := hb.size
  simp at hs
  obtain ⟨hr, hbw⟩ := room_lies (hb.trans (hb7.mono hb.size))
  refine ⟨A', c', rfl, hr, ?_⟩
  exact fill_said (Nat.le_refl _) hbw (ht.to fun b _ _ h => ⟨.inr (by omega), by omega⟩)
theorem ksum12 (N : Nat) (hN0 : 0 < N) (hN : N < 2 ^ 41) (w : World) (hT : NmT w) :
    Calls Tryz.prog 133 #[.int .i64 (N : Nat)] w (SxSaid (fun _ => False) w (Sh.sum N)) := by
  have hN' : N < 2199023255552 := hN
  obtain ⟨K, hK⟩ : ∃ K, Lib.bitLen N = K := ⟨_, rfl⟩
  have hK41 : K ≤ 41 := by rw [← hK]; exact Lib.bitLen_le N 41 (by decide) hN
  have hK1 : 1 ≤ K := by
    have := Sh.bitLen_gt (N := N) (k := 0) (Nat.lt_of_lt_of_le hN (Nat.pow_le_pow_right (by decide) (by decide))) (by simp; omega)
    omega
  have HB := Lib.hid fun W => Tryz.bits_Len (N : Int) W (by omega) (by omega)
  rw [show ((N : Int).toNat) = N by simp, hK] at HB
  obtain ⟨L, hL⟩ : ∃ L, Sh.names N K = L := ⟨_, rfl⟩
  have hsum : Sh.sum N = Sh.one Sh.cat L := by rw [← hL, ← hK]; rfl
  have HL := Lib.hid hL
  have HSum := Lib.hid hsum
  have HTb := Lib.hid fun W (hb : Below w.heap.size w W) => hT.below hb
  obtain ⟨Post, hPost⟩ : ∃ Post : Ending → World → Prop, Post = SxSaid (fun _ => False) w (Sh.sum N) := ⟨_, rfl⟩
  rw [← hPost]
  have HPo := Lib.hid hPost
  have HK : Hid (Lib.bitLen N = K) := hK
  have HW0 : Hid (Below w.heap.size w (w.alloc roomO)) := (Below.refl _ w).alloc (Nat.le_refl _) _
  clear hL hsum hT hPost hK hN
  go_enter Tryz.func133, Tryz.ntmps133
  go_wp2_with (go_at_call 130; refine (HB.out _).mono ?_; rintro e w' ⟨rfl, rfl⟩)
  generalize hW0 : w.alloc (Obj.cells #[Value.bool false, Value.int IntKind.i64 0, Value.string { data := #[] }, Value.int IntKind.i64 0, Value.int IntKind.i64 0, Value.slice none 0 0] 49) = W0 at HW0
  have hRm : LiesX W0 w.heap.size zX ∧ W0.heap.size = w.heap.size + 1 := by rw [← hW0]; exact ⟨Lies.new w _ _, by simp⟩
  have HRm := Lib.hid hRm
  have HWe : Hid (w.alloc roomO = W0) := hW0
  clear hRm hW0
  go_loopw [3, 4] (fun pv kv wr => ∃ (i m : Nat) (A' : Option Addr) (c' : Nat) (lx : List MSx), i ≤ K ∧ m + i ≤ K ∧ kv = .int .i64 ((i : Nat) - 1 : Int) ∧ pv = .slice A' m c' ∧ Hid (Below W0.heap.size W0 wr ∧ OwnX wr W0.heap.size A' c' lx ∧ lx.length = m ∧ lx.map (·.1) ++ Sh.names N i = L)) (fun _ kv _ => (intOf kv + 1).toNat)
  case atStart => exact ⟨K, 0, none, 0, [], Nat.le_refl _, by omega, rfl, rfl, Below.refl _ _, OwnX.nil _ _, rfl, HL.out⟩
  case round =>
    obtain ⟨i, m, A', c', lx, hi, hmi, rfl, rfl, HI⟩ := hrel
    by_cases hi0 : i = 0
    · obtain ⟨hI1, hI2, hI3, hI4⟩ := HI.out
      rw [hi0, Sh.names, List.append_nil] at hI4
      obtain ⟨z, hz⟩ : ∃ z : Int, ((i : Nat) : Int) - 1 = z := ⟨_, rfl⟩
      rw [hz]
      have hz0 : decide (0 ≤ z) = false := decide_eq_false (by omega)
      have hLl : L.length = m := by rw [← hI4, List.length_map]; exact hI3
      have hm1 : m ≤ 41 := by omega
      have hbW : Below (w.alloc roomO).heap.size (w.alloc roomO) wr := by rw [show w.alloc roomO = W0 from HWe.out]; exact hI1
      have hb0 : Below w.heap.size w wr := HW0.out.trans (hI1.mono HW0.out.size)
      have hW0s := HRm.out.2
      by_cases h1 : m = 1
      · have hlen : ((m : Int) == 1) = true := by rw [h1]; rfl
        obtain ⟨⟨x, xA, xc⟩, rfl⟩ : ∃ x, lx = [x] := by
          match lx, hI3 with
          | [x], _ => exact ⟨x, rfl⟩
          | [], h => simp at h; omega
          | _ :: _ :: _, h => simp at h; omega
        have hLx : L = [x] := hI4.symm
        have hSx : Sh.sum N = x := by rw [HSum.out, hLx]; rfl
        have htr := hI2.trees _ (List.mem_singleton.2 rfl)
        obtain ⟨_, _, ⟨_, h⟩ | ⟨g, rfl, hg, hgl⟩⟩ := hI2.parts
        · cases h
        have hs := hI2.at_ (i := 0) rfl
        rw [Nat.zero_mul] at hs
        obtain ⟨_, c0, c1, c2, c3, c4, c5⟩ := hs
        simp only [Nat.zero_add] at c0 c1 c2 c3 c4 c5
        have hn0 : (0 : Int) < (m : Int) := by omega
        have hn1 : 0 < m := by omega
        obtain ⟨hr, _⟩ := room_lies hbW
        have hsaid : SxSaid (fun _ => False) w x (.returned (sval x xA xc)) (fillX wr w.heap.size (.bool x.list) (.int .i64 x.k) (.string x.T) (.int .i64 x.ta) (.int .i64 x.at_) (.slice xA x.L.length xc)) :=
          fill_said (Nat.le_refl _) hb0 (htr.to fun b _ _ h => ⟨.inr (by have := h.1; omega), by have := h.1; omega⟩)
        obtain ⟨n, hn⟩ : ∃ n, x.L.length = n := ⟨_, rfl⟩
        rw [hn] at c5
        unfold sval at hsaid
        rw [hn] at hsaid
        obtain ⟨r0, r1, r2, r3, r4, r5⟩ := fill_cells hr (.bool x.list) (.int .i64 x.k) (.string x.T) (.int .i64 x.ta) (.int .i64 x.at_) (.slice xA n xc)
        obtain ⟨k0, k1, k2, k3, k4, k5, y0, y1, y2, y3, y4, y5⟩ := ready hr
        have hlt := hr.lt
        have HB2 : Hid (Post (.returned (.agg #[.bool x.list, .int .i64 x.k, .string x.T, .int .i64 x.ta, .int .i64 x.at_, .slice xA n xc])) (fillX wr w.heap.size (.bool x.list) (.int .i64 x.k) (.string x.T) (.int .i64 x.ta) (.int .i64 x.at_) (.slice xA n xc))) := by
          show Post _ _
          rw [HPo.out, hSx]
          exact hsaid
        clear HI hI1 hI2 hI3 hI4 hi0 hz hLl hbW hb0 h1 hLx hSx htr hg hr hsaid hn HPo HSum HL HTb HW0 HRm HWe HB hW0s hN' hN0 hmi hi
        go_wp2_with fail
        exact bodyPost_ret (v := .agg #[.bool x.list, .int .i64 x.k, .string x.T, .int .i64 x.ta, .int .i64 x.at_, .slice xA n xc]) (by simp [results, Tryz.results133, go_sem, r0, r1, r2, r3, r4, r5]) rfl HB2.out
      · have hlen : ((m : Int) == 1) = false := beq_eq_false_iff_ne.2 (by omega)
        have hLn : L ≠ [] := by
          intro e
          have h0 := Sh.names_nil (HL.out.trans e)
          have hbb := Lib.bitLenAux_bounds 64 N (by omega) (by omega)
          rw [show Lib.bitLenAux 64 N = K from HK.out] at hbb
          rw [Nat.mod_eq_of_lt hbb.2.2] at h0
          omega
        have h0m : 0 < m := by rw [← hLl]; exact List.length_pos_iff.2 hLn
        have hSx : Sh.sum N = Sh.app Sh.cat L := by
          rw [HSum.out]
          match L, hLl with
          | [_], h => simp at h; omega
          | [], _ => exact absurd rfl hLn
          | _ :: _ :: _, _ => rfl
        have ht := hI2.tree
        rw [hI4, hW0s] at ht
        have HAp := Lib.hid (kapply12 22 A' m c' L wr (fun b => w.heap.size + 1 ≤ b) hLl h0m (by omega) ht (HTb.out wr hb0))
        have HBW := Lib.hid hbW
        have HLl := Lib.hid hLl
        have HSx := Lib.hid hSx
        clear HI hI1 hI2 hI3 hI4 hi0 hz hLl hbW hb0 h1 hLn hSx ht HSum HL HTb HW0 HRm HWe HB hW0s hN' hN0 hmi hi
        go_wp2_with fail
        refine HAp.out.mono ?_
        intro e w7 hs
        obtain ⟨A7, c7, rfl, hr, hsaid⟩ := app_room HLl.out HBW.out hs
        obtain ⟨k0, k1, k2, k3, k4, k5, y0, y1, y2, y3, y4, y5⟩ := ready hr
        obtain ⟨r0, r1, r2, r3, r4, r5⟩ := fill_cells hr (.bool true) (.int .i64 0) (.string ⟨#[]⟩) (.int .i64 0) (.int .i64 0) (.slice A7 (m + 1) c7)
        have hlt := hr.lt
        have HB2 : Hid (Post (.returned (.agg #[.bool true, .int .i64 0, .string ⟨#[]⟩, .int .i64 0, .int .i64 0, .slice A7 (m + 1) c7])) (fillX w7 w.heap.size (.bool true) (.int .i64 0) (.string ⟨#[]⟩) (.int .i64 0) (.int .i64 0) (.slice A7 (m + 1) c7))) := by
          show Post _ _
          rw [HPo.out, HSx.out]
          exact hsaid
        clear hs hsaid hr HAp HBW HLl HSx HPo
        go_wp2_with fail
        exact bodyPost_ret (v := .agg #[.bool true, .int .i64 0, .string ⟨#[]⟩, .int .i64 0, .int .i64 0, .slice A7 (m + 1) c7]) (by simp [results, Tryz.results133, go_sem, r0, r1, r2, r3, r4, r5]) rfl HB2.out
    · obtain ⟨j, rfl⟩ : ∃ j, i = j + 1 := ⟨i - 1, by omega⟩
      have hj : ((j + 1 : Nat) : Int) - 1 = (j : Int) := by omega
      rw [hj]
      obtain ⟨hI1, hI2, hI3, hI4⟩ := HI.out
      obtain ⟨d, hd⟩ : ∃ d, N / 2 ^ j = d := ⟨_, rfl⟩
      have hdi : (N : Int) / 2 ^ j = (d : Int) := by rw [← hd]; simp
      have hj0 : (0 : Int) ≤ (j : Int) := by omega
      have hj63 : (j : Int) < 64 := by omega
      rw [Sh.names, hd] at hI4
      have hdN : d ≤ N := by rw [← hd]; exact Nat.div_le_self _ _
      have hbt := Go.Proofs.and_one d (by omega)
      by_cases hb : d % 2 = 1
      · rw [if_pos hb] at hI4
        have hbit : (bits .and .i64 (d : Int) 1 == 1) = true := by rw [hbt, hb]; rfl
        have H1 := Lib.hid hI1
        have H2 := Lib.hid hI2
        have H3 := Lib.hid hI3
        have H4 : Hid ((lx ++ [((Sh.nm j, none, 0) : MSx)]).map (fun q : MSx => q.1) ++ Sh.names N j = L) := by show _ = _; rw [List.map_append, List.append_assoc]; exact hI4
        have HNm := Lib.hid (knm12 j (by omega) wr)
        have hwr := hI1.size
        have hmj : m + 1 + j ≤ K := by omega
        have hm1 : m ≤ 1000 := by omega
        have HMe : Hid ((j : Int) - 1 + 1 = (j : Int) ∧ (j : Int) + 1 = ((j : Int) + 1)) := ⟨by omega, rfl⟩
        clear HI hI1 hI2 hI3 hI4 hi0 hj hd hb hbt hdN hN' hN0
        go_wp2_with (first
          | (go_at_call 148; refine HNm.out.mono ?_; rintro e w1 ⟨rfl, b1⟩; have B1 := Lib.hid (H1.out.trans (b1.mono hwr)); have O1 := Lib.hid (H2.out.kept b1); clear b1)
          | (at_builtin; refine appendX w1 rfl (.tmp 18) (.tmp 21) rfl W0.heap.size A' c' lx m H3.out (Sh.nm j, none, 0) w1.heap.size rfl rfl O1.out ⟨⟨Nat.le_refl _, Nat.zero_le _⟩, .nil _⟩ rfl (by omega) B1.out.size ?_; intro A3 c3 w3 o3 g3; have O3 := Lib.hid o3; have B3 := Lib.hid (B1.out.grown g3 B1.out.size (fun q hq => (O1.out.lt H3.out hq).1)); clear o3 g3))
        go_roundw
        case rel => exact ⟨j, m + 1, A3, c3, lx ++ [(Sh.nm j, none, 0)], by omega, by omega, rfl, rfl, B3.out, O3.out, by rw [List.length_append, H3.out]; rfl, H4.out⟩
        case measure => simp [intOf]
      · rw [if_neg hb] at hI4
        have hbit : (bits .and .i64 (d : Int) 1 == 1) = false := by rw [hbt, beq_eq_false_iff_ne]; omega
        have HN := Lib.hid (show Below W0.heap.size W0 wr ∧ OwnX wr W0.heap.size A' c' lx ∧ lx.length = m ∧ lx.map (·.1) ++ Sh.names N j = L from ⟨hI1, hI2, hI3, hI4⟩)
        have hmj : m + j ≤ K := by omega
        clear HI hI1 hI2 hI3 hI4 hi0 hj hd hb hbt hdN hN' hN0
        go_wp2_with fail
        go_roundw
        case rel => exact ⟨j, m, A', c', lx, by omega, by omega, rfl, rfl, HN.out⟩
        case measure => simp [intOf]
end Go.Proofs.YtfjpcjebecgglaaGreatDoor
namespace Go.Proofs.YtfjpcjebecgglaaGreatDoor
open Go.RowKit Go.Shelf
inductive ArS (w : World) (C : Int) (Rb : Nat) : Nat → Value → Prop
  | zero : ArS w C Rb 0 (.func (.func 129) #[] #[])
  | succ (j : Nat) (v : Value) (q p : Nat) : ArS w C Rb j v → q < w.heap.size → w.cell? ⟨q, 0, none⟩ = some v → p < w.heap.size → w.cell? ⟨p, 0, none⟩ = some (.int .i64 (j : Nat)) → Rb < w.heap.size → w.cell? ⟨Rb, 0, none⟩ = some (.int .i64 C) → ArS w C Rb (j + 1) (.func (.func 131) #[] #[.pointer (some ⟨q, 0, none⟩), .pointer (some ⟨p, 0, none⟩), .pointer (some ⟨Rb, 0, none⟩)])
theorem ArS.kept {w w' : World} {C : Int} {Rb j : Nat} {v : Value} (h : ArS w C Rb j v) (hb : Below w.heap.size w w') : ArS w' C Rb j v := by
  induction h with
  | zero => exact .zero
  | succ j v q p _ h1 h2 h3 h4 h5 h6 ih =>
    exact .succ j v q p ih (Nat.lt_of_lt_of_le h1 hb.size) ((hb.cell (p := ⟨q, 0, none⟩) h1).trans h2) (Nat.lt_of_lt_of_le h3 hb.size) ((hb.cell (p := ⟨p, 0, none⟩) h3).trans h4) (Nat.lt_of_lt_of_le h5 hb.size) ((hb.cell (p := ⟨Rb, 0, none⟩) h5).trans h6)
def ArCalls (v a : Value) (W : World) (Q : Ending → World → Prop) : Prop :=
  (v = .func (.func 129) #[] #[] ∧ Calls Tryz.prog 129 #[a] W Q) ∨
  ∃ x y z, v = .func (.func 131) #[] #[x, y, z] ∧ Calls Tryz.prog 131 #[a, x, y, z] W Q
theorem ArCalls.one {a : Value} {W : World} {Q : Ending → World → Prop} (h : ArCalls (.func (.func 129) #[] #[]) a W Q) : Calls Tryz.prog 129 #[a] W Q := by
  rcases h with ⟨_, h⟩ | ⟨x, y, z, e, _⟩
  · exact h
  · rw [Value.func.injEq] at e
    have := congrArg Array.size e.2.2
    simp at this
theorem ArCalls.two {a x y z : Value} {W : World} {Q : Ending → World → Prop} (h : ArCalls (.func (.func 131) #[] #[x, y, z]) a W Q) : Calls Tryz.prog 131 #[a, x, y, z] W Q := by
  rcases h with ⟨e, _⟩ | ⟨x', y', z', e, h⟩
  · rw [Value.func.injEq] at e
    have := congrArg Array.size e.2.2
    simp at this
  · rw [Value.func.injEq] at e
    obtain ⟨rfl, rfl, rfl⟩ : x = x' ∧ y = y' ∧ z = z' := by simpa using e.2.2
    exact h
theorem klong1 (x : Sx) (A : Option Addr) (c : Nat) (w : World) (G : Nat → Prop) (hx : STree w (fun b _ => G b) x A c) : Calls Tryz.prog 129 #[sval x A c] w (SxSaid G w x) := by
  have hb0 : Below w.heap.size w ((w.alloc (sbox x A c)).alloc (sbox x A c)) := ((Below.refl _ w).alloc (Nat.le_refl _) _).alloc (by simp) _
  have hs : SxSaid G w x (.returned (sval x A c)) ((w.alloc (sbox x A c)).alloc (sbox x A c)) :=
    ⟨⟨A, c, rfl, (hx.to (G' := fun b _ => G b ∨ w.heap.size ≤ b) fun b _ _ h => .inl h).kept hb0⟩, hb0⟩
  obtain ⟨n, hn⟩ : ∃ n, x.L.length = n := ⟨_, rfl⟩
  unfold sval at hs ⊢
  unfold sbox at hs
  rw [hn] at hs ⊢
  have HS := Lib.hid hs
  clear hb0 hx hs hn
  go_enter Tryz.func129, Tryz.ntmps129
  go_wp2_with fail
  exact bodyPost_ret (v := .agg #[.bool x.list, .int .i64 x.k, .string x.T, .int .i64 x.ta, .int .i64 x.at_, .slice A n c]) (by simp [results, Tryz.results129, go_sem]) rfl HS.out
abbrev ArL (p q kk Rb : Nat) (xl : Bool) (xk : Int) (xT : ByteArray) (xta xat : Int) (A : Option Addr) (n c : Nat) (v : Value) (j : Nat) (C : Int) (W : World) : Prop := W.cell? ⟨q, 0, none⟩ = some v ∧ W.cell? ⟨kk, 0, none⟩ = some (.int .i64 (j : Nat)) ∧ W.cell? ⟨Rb, 0, none⟩ = some (.int .i64 C) ∧
  W.cell? ⟨p, 0, none⟩ = some (.bool xl) ∧ W.cell? ⟨p, 1, none⟩ = some (.int .i64 xk) ∧ W.cell? ⟨p, 2, none⟩ = some (.string xT) ∧ W.cell? ⟨p, 3, none⟩ = some (.int .i64 xta) ∧ W.cell? ⟨p, 4, none⟩ = some (.int .i64 xat) ∧ W.cell? ⟨p, 5, none⟩ = some (.slice A n c)
theorem ar_later {w W : World} {G : Nat → Prop} {x : Sx} {A : Option Addr} {n c q kk Rb j : Nat} {C : Int} {v : Value} (hx : STree w (fun b _ => G b) x A c) (hn : x.L.length = n) (h1 : q < w.heap.size) (h2 : w.cell? ⟨q, 0, none⟩ = some v) (h3 : kk < w.heap.size) (h4 : w.cell? ⟨kk, 0, none⟩ = some (.int .i64 (j : Nat))) (h5 : Rb < w.heap.size) (h6 : w.cell? ⟨Rb, 0, none⟩ = some (.int .i64 C)) (hb : Below (letW w x A c).heap.size (letW w x A c) W) :
    ArL w.heap.size q kk Rb x.list x.k x.T x.ta x.at_ A n c v j C W ∧ LiesX W (w.heap.size + 1) zX ∧ Below w.heap.size w W ∧ STree W (fun b _ => G b ∧ b < w.heap.size) x A c ∧ (∀ b k t ta a s, ArL w.heap.size q kk Rb x.list x.k x.T x.ta x.at_ A n c v j C (fillX W (w.heap.size + 1) b k t ta a s)) := by
  subst hn
  have hb0 : Below w.heap.size w (letW w x A c) := ((Below.refl _ w).alloc (Nat.le_refl _) _).alloc (by simp) _
  have lx : LiesX (letW w x A c) w.heap.size (scells x A c).toArray := ((Below.refl _ (w.alloc (sbox x A c))).alloc (Nat.le_refl _) roomO).block _ (Lies.new w _ _).lt |>.trans (Lies.new w _ _)
  have lr : LiesX (letW w x A c) (w.heap.size + 1) zX := by
    have := Lies.new (w.alloc (sbox x A c)) 49 zX
    simpa using this
  have T := Turn.of_below (F := fun _ => False) hb
  have hbw := hb0.trans (hb.mono hb0.size)
  have lx' : LiesX W w.heap.size (scells x A c).toArray := T.lies lx id
  have lr' := T.lies lr id
  refine ⟨⟨(hbw.cell (p := ⟨q, 0, none⟩) h1).trans h2, (hbw.cell (p := ⟨kk, 0, none⟩) h3).trans h4, (hbw.cell (p := ⟨Rb, 0, none⟩) h5).trans h6, lx'.cell 0, lx'.cell 1, lx'.cell 2, lx'.cell 3, lx'.cell 4, lx'.cell 5⟩, lr', hbw, (hx.to (G' := fun b _ => G b ∧ b < w.heap.size) fun b _ hlt h => ⟨h, hlt⟩).kept hbw, fun b k t ta a s => ?_⟩
  have F := fill_turn (W := W) (R := w.heap.size + 1) b k t ta a s
  have l2 : LiesX (fillX W (w.heap.size + 1) b k t ta a s) w.heap.size (scells x A c).toArray := F.lies lx' (by omega)
  have hs := hbw.size
  exact ⟨(F.cell (p := ⟨q, 0, none⟩) (by show q < _; omega) (by show ¬ q = _; omega)).trans ((hbw.cell (p := ⟨q, 0, none⟩) h1).trans h2), (F.cell (p := ⟨kk, 0, none⟩) (by show kk < _; omega) (by show ¬ kk = _; omega)).trans ((hbw.cell (p := ⟨kk, 0, none⟩) h3).trans h4), (F.cell (p := ⟨Rb, 0, none⟩) (by show Rb < _; omega) (by show ¬ Rb = _; omega)).trans ((hbw.cell (p := ⟨Rb, 0, none⟩) h5).trans h6), l2.cell 0, l2.cell 1, l2.cell 2, l2.cell 3, l2.cell 4, l2.cell 5⟩
end Go.Proofs.YtfjpcjebecgglaaGreatDoor
namespace Go.Proofs.YtfjpcjebecgglaaGreatDoor
open Go.RowKit Go.Shelf
theorem ArS.form {w : World} {C : Int} {Rb j : Nat} {v : Value} (h : ArS w C Rb j v) : v = .func (.func 129) #[] #[] ∨ ∃ x y z, v = .func (.func 131) #[] #[x, y, z] := by
  cases h with
  | zero => exact .inl rfl
  | succ j v q p => exact .inr ⟨_, _, _, rfl⟩
theorem ar_end {w w2 w3 : World} {G : Nat → Prop} {z : Sx} {A : Option Addr} {c : Nat} {x : Sx} {xA : Option Addr} {xc : Nat} (b2 : Below (letW w x xA xc).heap.size (letW w x xA xc) w2) (b3 : Below w2.heap.size w2 w3) (ht : STree w3 (fun b _ => ((G b ∧ b < w.heap.size) ∨ w.heap.size + 2 ≤ b) ∨ w2.heap.size ≤ b) z A c) :
    SxSaid G w z (.returned (sval z A c)) (fillX w3 (w.heap.size + 1) (.bool z.list) (.int .i64 z.k) (.string z.T) (.int .i64 z.ta) (.int .i64 z.at_) (.slice A z.L.length c)) := by
  have hb0 : Below w.heap.size w (letW w x xA xc) := ((Below.refl _ w).alloc (Nat.le_refl _) _).alloc (by simp) _
  have hs := b2.size
  simp at hs
  refine fill_said (by omega) (hb0.trans ((b2.trans (b3.mono b2.size)).mono hb0.size)) (ht.to fun b _ _ h => ?_)
  rcases h with (⟨h1, h2⟩ | h) | h
  · exact ⟨.inl h1, by omega⟩
  · exact ⟨.inr (by omega), by omega⟩
  · exact ⟨.inr (by omega), by omega⟩
theorem karound12 (C : Int) (hC : Lt.pt C = true) (Rb : Nat) : ∀ (j : Nat), j ≤ 60 → ∀ (v : Value) (w0 : World), ArS w0 C Rb j v → ∀ (w : World) (x : Sx) (A : Option Addr) (c : Nat) (G : Nat → Prop), Below w0.heap.size w0 w → STree w (fun b _ => G b) x A c → NmT w → Gl w →
    ArCalls v (sval x A c) w (SxSaid G w (Sh.lets C 0 j x)) := by
  intro j
  induction j with
  | zero =>
    intro _ v w0 h w x A c G _ hx _ _
    cases h
    exact .inl ⟨rfl, klong1 x A c w G hx⟩
  | succ j ih =>
    intro hj v0 w0 h w x A c G hb hx hN hG
    cases h with
    | succ _ v q kk h1 h2 h3 h4 h5 h6 h7 =>
    refine .inr ⟨_, _, _, rfl, ?_⟩
    rw [Sh.lets_snoc, Nat.zero_add]
    obtain ⟨n, hn⟩ : ∃ n, x.L.length = n := ⟨_, rfl⟩
    have hq := Nat.lt_of_lt_of_le h2 hb.size
    have hkk := Nat.lt_of_lt_of_le h4 hb.size
    have hRb := Nat.lt_of_lt_of_le h6 hb.size
    have HLt := Lib.hid fun W (hW : Below (letW w x A c).heap.size (letW w x A c) W) => ar_later hx hn hq ((hb.cell (p := ⟨q, 0, none⟩) h2).trans h3) hkk ((hb.cell (p := ⟨kk, 0, none⟩) h4).trans h5) hRb ((hb.cell (p := ⟨Rb, 0, none⟩) h6).trans h7) hW
    have hD : Below (letW w x A c).heap.size (letW w x A c) (letW w x A c).drew := ⟨rfl, rfl, rfl, Nat.le_refl _, fun _ _ => rfl⟩
    have hds : (letW w x A c).drew.heap.size = w.heap.size + 2 := by show (letW w x A c).heap.size = _; simp
    have hLet : Calls Tryz.prog 132 #[.int .i64 (j : Nat), .int .i64 C, sval x A c] (letW w x A c).drew fun e w' => ∃ A2 c2, e = .returned (.agg #[.bool true, .int .i64 0, .string ⟨#[]⟩, .int .i64 0, .int .i64 0, .slice A2 3 c2]) ∧ STree w' (fun b _ => (G b ∧ b < w.heap.size) ∨ w.heap.size + 2 ≤ b) (Sh.letx j C x) A2 c2 ∧ Below (letW w x A c).heap.size (letW w x A c) w' := by
      obtain ⟨_, _, hbw, hxt, _⟩ := HLt.out _ hD
      refine (klet12 j (by omega) C hC x A c (letW w x A c).drew (fun b => G b ∧ b < w.heap.size) hxt (hN.below hbw) (hG.below hbw)).mono ?_
      rintro e w' ⟨⟨A2, c2, rfl, ht⟩, hb2⟩
      rw [hds] at ht
      exact ⟨A2, c2, rfl, ht, hD.trans (hb2.mono (Nat.le_refl _))⟩
    have HL := Lib.hid hLet
    have HIH := Lib.hid fun w2 A2 c2 (b2 : Below (letW w x A c).heap.size (letW w x A c) w2) (t2 : STree w2 (fun b _ => (G b ∧ b < w.heap.size) ∨ w.heap.size + 2 ≤ b) (Sh.letx j C x) A2 c2) => by
      obtain ⟨_, _, hbw, _, _⟩ := HLt.out _ b2
      exact ih (by omega) v w0 h1 w2 (Sh.letx j C x) A2 c2 (fun b => (G b ∧ b < w.heap.size) ∨ w.heap.size + 2 ≤ b) (hb.trans (hbw.mono hb.size)) t2 (hN.below hbw) (hG.below hbw)
    have HE := Lib.hid fun z A3 c3 w2 w3 b2 b3 ht => ar_end (w := w) (w2 := w2) (w3 := w3) (G := G) (z := z) (A := A3) (c := c3) (x := x) (xA := A) (xc := c) b2 b3 ht
    obtain ⟨z, hz⟩ : ∃ z, Sh.lets C 0 j (Sh.letx j C x) = z := ⟨_, rfl⟩
    rw [hz] at HIH ⊢
    have HS0 := Lib.hid (HLt.out _ hD).1
    have hvf := h1.form
    obtain ⟨y, hy⟩ : ∃ y, Sh.letx j C x = y := ⟨_, rfl⟩
    have hyv : ∀ A2 c2, sval y A2 c2 = .agg #[.bool true, .int .i64 0, .string ⟨#[]⟩, .int .i64 0, .int .i64 0, .slice A2 3 c2] := fun A2 c2 => by rw [← hy]; rfl
    rw [hy] at HIH HL
    simp only [hyv] at HIH
    clear ih h1 h2 h3 h4 h5 h6 h7 hq hkk hRb hb hx hN hG hLet hds hD hz hy hyv hC hj
    unfold sval at HL ⊢
    rw [hn] at HL ⊢
    unfold letW at HL HS0 HLt HIH HE
    unfold sbox at HL HS0 HLt HIH HE
    rw [hn] at HL HS0 HLt HIH HE
    clear hn
    rcases hvf with rfl | ⟨a1, a2, a3, rfl⟩
    · have HI1 := Lib.hid fun w2 A2 c2 b2 t2 => (HIH.out w2 A2 c2 b2 t2).one
      clear HIH
      go_enter Tryz.func131, Tryz.ntmps131
      go_wp2_with fail
      go_region_held3 (ArL w.heap.size q kk Rb x.list x.k x.T x.ta x.at_ A n c (.func (.func 129) #[] #[]) j C)
        (first | (with_reducible exact HS0.out) | (with_reducible exact (HLt.out _ B2.out).1) | (with_reducible exact (HLt.out _ B3.out).1) | (with_reducible exact (HLt.out _ B3.out).2.2.2.2 _ _ _ _ _ _))
        (first | (go_at_call 132; refine HL.out.mono ?_; rintro e w2 ⟨A2, c2, rfl, t2, b2⟩; have T2 := Lib.hid t2; have B2 := Lib.hid b2; clear t2 b2) | (go_at_call 129; refine (HI1.out w2 A2 c2 B2.out T2.out).mono ?_; rintro e w3 ⟨⟨A3, c3, rfl, t3⟩, b3⟩; have HSd := Lib.hid (HE.out z A3 c3 w2 w3 B2.out b3 t3); have B3 := Lib.hid (B2.out.trans (b3.mono B2.out.size)); obtain ⟨k0, k1, k2, k3, k4, k5, y0, y1, y2, y3, y4, y5⟩ := ready (HLt.out _ B3.out).2.1; obtain ⟨r0, r1, r2, r3, r4, r5⟩ := fill_cells (HLt.out _ B3.out).2.1 (.bool z.list) (.int .i64 z.k) (.string z.T) (.int .i64 z.ta) (.int .i64 z.at_) (.slice A3 z.L.length c3); have hlt := (HLt.out _ B3.out).2.1.lt; clear t3 b3))
      all_goals
        clear HL HI1 HE HS0 HLt B2 B3 T2
        go_wp2
        exact bodyPost_ret (v := sval z A3 c3) (by simp [results, Tryz.results131, go_sem, r0, r1, r2, r3, r4, r5]) rfl HSd.out
    · have HI1 := Lib.hid fun w2 A2 c2 b2 t2 => (HIH.out w2 A2 c2 b2 t2).two
      clear HIH
      go_enter Tryz.func131, Tryz.ntmps131
      go_wp2_with fail
      go_region_held3 (ArL w.heap.size q kk Rb x.list x.k x.T x.ta x.at_ A n c (.func (.func 131) #[] #[a1, a2, a3]) j C)
        (first | (with_reducible exact HS0.out) | (with_reducible exact (HLt.out _ B2.out).1) | (with_reducible exact (HLt.out _ B3.out).1) | (with_reducible exact (HLt.out _ B3.out).2.2.2.2 _ _ _ _ _ _))
        (first | (go_at_call 132; refine HL.out.mono ?_; rintro e w2 ⟨A2, c2, rfl, t2, b2⟩; have T2 := Lib.hid t2; have B2 := Lib.hid b2; clear t2 b2) | (go_at_call 131; refine (HI1.out w2 A2 c2 B2.out T2.out).mono ?_; rintro e w3 ⟨⟨A3, c3, rfl, t3⟩, b3⟩; have HSd := Lib.hid (HE.out z A3 c3 w2 w3 B2.out b3 t3); have B3 := Lib.hid (B2.out.trans (b3.mono B2.out.size)); obtain ⟨k0, k1, k2, k3, k4, k5, y0, y1, y2, y3, y4, y5⟩ := ready (HLt.out _ B3.out).2.1; obtain ⟨r0, r1, r2, r3, r4, r5⟩ := fill_cells (HLt.out _ B3.out).2.1 (.bool z.list) (.int .i64 z.k) (.string z.T) (.int .i64 z.ta) (.int .i64 z.at_) (.slice A3 z.L.length c3); have hlt := (HLt.out _ B3.out).2.1.lt; clear t3 b3))
      all_goals
        clear HL HI1 HE HS0 HLt B2 B3 T2
        go_wp2
        exact bodyPost_ret (v := sval z A3 c3) (by simp [results, Tryz.results131, go_sem, r0, r1, r2, r3, r4, r5]) rfl HSd.out
end Go.Proofs.YtfjpcjebecgglaaGreatDoor
namespace Go.Proofs.YtfjpcjebecgglaaGreatDoor
open Go.RowKit Go.Shelf
abbrev longW (w : World) (C N : Int) : World := (w.alloc (.cells #[.int .i64 C, .int .i64 N] 70)).alloc roomO
theorem long_later {w W : World} {C N : Int} (hb : Below (longW w C N).heap.size (longW w C N) W) : Lies W w.heap.size 70 #[.int .i64 C, .int .i64 N] ∧ LiesX W (w.heap.size + 1) zX ∧ Below w.heap.size w W ∧ w.heap.size + 2 ≤ W.heap.size := by
  have l0 : Lies (longW w C N) w.heap.size 70 #[.int .i64 C, .int .i64 N] := ((Below.refl _ (w.alloc (.cells #[.int .i64 C, .int .i64 N] 70))).alloc (Nat.le_refl _) roomO).block _ (Lies.new w _ _).lt |>.trans (Lies.new w _ _)
  have l1 : LiesX (longW w C N) (w.heap.size + 1) zX := by
    have := Lies.new (w.alloc (.cells #[.int .i64 C, .int .i64 N] 70)) 49 zX
    simpa using this
  have hs := hb.size
  simp at hs
  exact ⟨(hb.block _ l0.lt).trans l0, (hb.block _ l1.lt).trans l1, (((Below.refl _ w).alloc (Nat.le_refl _) _).alloc (by simp) _).trans (hb.mono (by simp; omega)), hs⟩
theorem ar_next {w wr : World} {C : Int} {N : Int} {i : Nat} {v : Value} {t : TypeId} (h : ArS wr C w.heap.size i v) (hb : Below (longW w C N).heap.size (longW w C N) wr) :
    ArS ((wr.alloc (.cells #[.int .i64 (i : Nat)] 3)).alloc (.cells #[v] t)) C w.heap.size (i + 1) (.func (.func 131) #[] #[.pointer (some ⟨wr.heap.size + 1, 0, none⟩), .pointer (some ⟨wr.heap.size, 0, none⟩), .pointer (some ⟨w.heap.size, 0, none⟩)]) ∧
    Below (longW w C N).heap.size (longW w C N) ((wr.alloc (.cells #[.int .i64 (i : Nat)] 3)).alloc (.cells #[v] t)) := by
  have h1 : Below wr.heap.size wr ((wr.alloc (.cells #[.int .i64 (i : Nat)] 3)).alloc (.cells #[v] t)) := ((Below.refl _ wr).alloc (Nat.le_refl _) _).alloc (by simp) _
  have hb2 := hb.trans (h1.mono hb.size)
  obtain ⟨l, _, _, hs⟩ := long_later hb2
  have l1 : Lies ((wr.alloc (.cells #[.int .i64 (i : Nat)] 3)).alloc (.cells #[v] t)) wr.heap.size 3 #[.int .i64 (i : Nat)] := ((Below.refl _ (wr.alloc (.cells #[.int .i64 (i : Nat)] 3))).alloc (Nat.le_refl _) _).block _ (Lies.new wr _ _).lt |>.trans (Lies.new wr _ _)
  have l2 : Lies ((wr.alloc (.cells #[.int .i64 (i : Nat)] 3)).alloc (.cells #[v] t)) (wr.heap.size + 1) t #[v] := by
    have := Lies.new (wr.alloc (.cells #[.int .i64 (i : Nat)] 3)) t #[v]
    simpa using this
  exact ⟨.succ i v _ _ (h.kept h1) l2.lt (l2.cell 0) l1.lt (l1.cell 0) l.lt (l.cell 0), hb2⟩
theorem long_end {w wr w2 w3 : World} {C N : Int} {z : Sx} {A : Option Addr} {c : Nat} (hb : Below (longW w C N).heap.size (longW w C N) wr) (b2 : Below wr.heap.size wr w2) (b3 : Below w2.heap.size w2 w3) (ht : STree w3 (fun b _ => (False ∨ wr.heap.size ≤ b) ∨ w2.heap.size ≤ b) z A c) :
    LiesX w3 (w.heap.size + 1) zX ∧ SxSaid (fun _ => False) w z (.returned (sval z A c)) (fillX w3 (w.heap.size + 1) (.bool z.list) (.int .i64 z.k) (.string z.T) (.int .i64 z.ta) (.int .i64 z.at_) (.slice A z.L.length c)) := by
  have h3 := hb.trans ((b2.trans (b3.mono b2.size)).mono hb.size)
  obtain ⟨_, hr, hbw, _⟩ := long_later h3
  obtain ⟨_, _, _, hs⟩ := long_later hb
  have := b2.size
  exact ⟨hr, fill_said (by omega) hbw (ht.to fun b _ _ h => by
    rcases h with (h | h) | h
    · exact h.elim
    · exact ⟨.inr (by omega), by omega⟩
    · exact ⟨.inr (by omega), by omega⟩)⟩
theorem klong12 (C : Int) (hC : Lt.pt C = true) (N : Nat) (hN0 : 0 < N) (hN : N < 2 ^ 41) (w : World) (hT : NmT w) (hG : Gl w) :
    Calls Tryz.prog 114 #[.agg #[.int .i64 C, .int .i64 (N : Nat)]] w (SxSaid (fun _ => False) w (Sh.long C N)) := by
  have hN' : N < 2199023255552 := hN
  obtain ⟨K, hK⟩ : ∃ K, Lib.bitLen N = K := ⟨_, rfl⟩
  have hK41 : K ≤ 41 := by rw [← hK]; exact Lib.bitLen_le N 41 (by decide) hN
  have HB := Lib.hid fun W => Tryz.bits_Len (N : Int) W (by omega) (by omega)
  rw [show ((N : Int).toNat) = N by simp, hK] at HB
  have HSm := Lib.hid fun W (hb : Below (longW w C N).heap.size (longW w C N) W) => ksum12 N hN0 hN W (hT.below (long_later hb).2.2.1)
  have HAr := Lib.hid fun v w0 (h : ArS w0 C w.heap.size K v) w2 A c (hb : Below w0.heap.size w0 w2) (ht : STree w2 (fun b _ => False ∨ w0.heap.size ≤ b) (Sh.sum N) A c) (hbw : Below w.heap.size w w2) => karound12 C hC w.heap.size K (by omega) v w0 h w2 (Sh.sum N) A c (fun b => False ∨ w0.heap.size ≤ b) hb ht (hT.below hbw) (hG.below hbw)
  have HLa := Lib.hid fun W (hb : Below (longW w C N).heap.size (longW w C N) W) => long_later hb
  have HNx := Lib.hid fun wr i v t (h : ArS wr C w.heap.size i v) (hb : Below (longW w C N).heap.size (longW w C N) wr) => ar_next (t := t) h hb
  have HE := Lib.hid fun z wr w2 w3 A c (hb : Below (longW w C N).heap.size (longW w C N) wr) b2 b3 ht => long_end (w2 := w2) (w3 := w3) (z := z) (A := A) (c := c) hb b2 b3 ht
  have hlong : Sh.long C N = Sh.lets C 0 K (Sh.sum N) := by rw [← hK]; rfl
  rw [hlong]
  obtain ⟨s, hs⟩ : ∃ s, Sh.sum N = s := ⟨_, rfl⟩
  obtain ⟨z, hz⟩ : ∃ z, Sh.lets C 0 K s = z := ⟨_, rfl⟩
  rw [hs] at HSm HAr ⊢
  rw [hz] at HAr ⊢
  obtain ⟨Post, hPost⟩ : ∃ Post : Ending → World → Prop, Post = SxSaid (fun _ => False) w z := ⟨_, rfl⟩
  rw [← hPost]
  have HPo := Lib.hid hPost
  have HN0 := Lib.hid hN0
  clear hlong hs hz hK hN hT hG hC hPost hN0
  go_enter Tryz.func114, Tryz.ntmps114
  go_wp2_with (go_at_call 130; refine (HB.out _).mono ?_; rintro e w' ⟨rfl, rfl⟩)
  have hb0 : Hid (Below (longW w C N).heap.size (longW w C N) (longW w C N)) := Below.refl _ _
  go_loopw [3, 10] (fun pv kv wr => ∃ (i : Nat) (v : Value), i ≤ K ∧ kv = .int .i64 (i : Nat) ∧ pv = v ∧ Hid (ArS wr C w.heap.size i v ∧ Below (longW w C N).heap.size (longW w C N) wr)) (fun _ kv _ => K - (intOf kv).toNat)
  case atStart => exact ⟨0, _, Nat.zero_le _, rfl, rfl, .zero, hb0.out⟩
  case round =>
    obtain ⟨i, v, hi, rfl, hv, HI⟩ := hrel
    rw [hv]
    clear hv
    obtain ⟨hI1, hI2⟩ := HI.out
    obtain ⟨ll, lr, hbw, hsz⟩ := HLa.out _ hI2
    have hvf := hI1.form
    by_cases hlt : i < K
    · have HX := Lib.hid (HNx.out wr i v 192 hI1 hI2)
      have hlt' : (i : Int) < (K : Int) := by omega
      clear HI hI1 hI2 ll lr hbw hsz HSm HAr HLa HNx HE HPo HN0
      rcases hvf with rfl | ⟨a1, a2, a3, rfl⟩
      · go_wp2_with fail
        go_roundw
        case rel => exact ⟨i + 1, _, by omega, by go_num, rfl, HX.out⟩
        case measure => simp [intOf]; omega
      · go_wp2_with fail
        go_roundw
        case rel => exact ⟨i + 1, _, by omega, by go_num, rfl, HX.out⟩
        case measure => simp [intOf]; omega
    · obtain rfl : i = K := by omega
      have hlt' : ¬ (i : Int) < (i : Int) := by omega
      have c1 := ll.cell 1
      simp at c1
      have hlw := ll.lt
      have HSum := Lib.hid (HSm.out wr hI2)
      have HEn := Lib.hid fun w2 w3 A c b2 b3 ht => HE.out z wr w2 w3 A c hI2 b2 b3 ht
      have HCl : Hid (∀ w2 A c, Below wr.heap.size wr w2 → STree w2 (fun b _ => False ∨ wr.heap.size ≤ b) s A c → ArCalls v (sval s A c) w2 (SxSaid (fun b => False ∨ wr.heap.size ≤ b) w2 z)) := fun w2 A c b2 ht => HAr.out v wr hI1 w2 A c b2 ht (hbw.trans (b2.mono hbw.size))
      clear HI hI1 hI2 ll lr hbw hsz HSm HAr HLa HNx HE HN0 hi hlt
      have HC1 : Hid (v = .func (.func 129) #[] #[] → ∀ w2 A c, Below wr.heap.size wr w2 → STree w2 (fun b _ => False ∨ wr.heap.size ≤ b) s A c → Calls Tryz.prog 129 #[sval s A c] w2 (SxSaid (fun b => False ∨ wr.heap.size ≤ b) w2 z)) := fun e w2 A c b2 ht => by
        have := HCl.out w2 A c b2 ht
        rw [e] at this
        exact this.one
      have HC2 : Hid (∀ a1 a2 a3, v = .func (.func 131) #[] #[a1, a2, a3] → ∀ w2 A c, Below wr.heap.size wr w2 → STree w2 (fun b _ => False ∨ wr.heap.size ≤ b) s A c → Calls Tryz.prog 131 #[sval s A c, a1, a2, a3] w2 (SxSaid (fun b => False ∨ wr.heap.size ≤ b) w2 z)) := fun a1 a2 a3 e w2 A c b2 ht => by
        have := HCl.out w2 A c b2 ht
        rw [e] at this
        exact this.two
      clear HCl
      rcases hvf with hvf | ⟨a1, a2, a3, hvf⟩
      case' inl =>
        have HD := Lib.hid (HC1.out hvf)
        subst hvf
      case' inr =>
        have HD := Lib.hid (HC2.out a1 a2 a3 hvf)
        subst hvf
      all_goals
        clear HC1 HC2
        go_wp2_with fail
        refine HSum.out.mono ?_
        rintro e w2 ⟨⟨A2, c2, rfl, t2⟩, b2⟩
        have HD2 := Lib.hid (HD.out w2 A2 c2 b2 t2)
        have B2 := Lib.hid b2
        clear HSum HD b2 t2 c1 hlw
        go_wp2_with fail
        refine HD2.out.mono ?_
        rintro e w3 ⟨⟨A3, c3, rfl, t3⟩, b3⟩
        obtain ⟨hr, hsd⟩ := HEn.out w2 w3 A3 c3 B2.out b3 t3
        obtain ⟨k0, k1, k2, k3, k4, k5, y0, y1, y2, y3, y4, y5⟩ := ready hr
        obtain ⟨r0, r1, r2, r3, r4, r5⟩ := fill_cells hr (.bool z.list) (.int .i64 z.k) (.string z.T) (.int .i64 z.ta) (.int .i64 z.at_) (.slice A3 z.L.length c3)
        have hlt := hr.lt
        have HSd := Lib.hid hsd
        clear HD2 HEn b3 t3 hr hsd B2
        go_wp2_with fail
        exact bodyPost_ret (v := sval z A3 c3) (by simp [results, Tryz.results114, go_sem, r0, r1, r2, r3, r4, r5]) rfl (by rw [HPo.out]; exact HSd.out)
end Go.Proofs.YtfjpcjebecgglaaGreatDoor
namespace Go.Proofs.YtfjpcjebecgglaaGreatDoor
open Go.RowKit Go.Shelf
theorem rcut12_size (W : World) : (sizeOf (Tryz.prog.elem 40)).run Tryz.prog W = .ok 2 W := by kernel_rfl
theorem rcut12_l {A : Option Addr} {n c k : Nat} (W : World) (hk : k ≤ n) : (Instr.slice 40 (.slice A n c) (some (.int .i64 (k : Nat))) none none).run Tryz.prog W = .ok (.slice (if c = k then A else A.map (·.add (k * 2))) (n - k) (c - k)) W := by
  rw [run_slice_l W 40 A n c (by kernel_rfl) .i64 (k : Nat) (by omega) (by omega), rcut12_size]
  simp only [Result.andThen, sliced, Int.toNat_natCast]
theorem rcut12_lh {A : Option Addr} {n c k m : Nat} (W : World) (hk : k ≤ m) (hm : m ≤ c) : (Instr.slice 40 (.slice A n c) (some (.int .i64 (k : Nat))) (some (.int .i64 (m : Nat))) none).run Tryz.prog W = .ok (.slice (if c = k then A else A.map (·.add (k * 2))) (m - k) (c - k)) W := by
  rw [run_slice_lh W 40 A n c (by kernel_rfl) .i64 .i64 (k : Nat) (m : Nat) (by omega) (by omega) (by omega), rcut12_size]
  simp only [Result.andThen, sliced, Int.toNat_natCast]
theorem RunS.part12 {w : World} {A : Option Addr} {n c f i : Nat} {R : List (Int × Int)} (h : RunS w A n R) (hf : f ≤ i) (hi : i ≤ n) (hc : n ≤ c) : RunS w (if c = f then A else A.map (·.add (f * 2))) (i - f) ((R.take i).drop f) :=
  ⟨by rw [List.length_drop, List.length_take, h.len]; omega, fun h0 => by
    obtain ⟨b, off, e, hlt, hq⟩ := h.at_ (by omega)
    rw [if_neg (by omega), e]
    refine ⟨b, off + f * 2, by simp [addr_add], hlt, fun j x hx => ?_⟩
    rw [List.getElem?_drop, List.getElem?_take] at hx
    split at hx
    · have := hq (f + j) x hx
      rw [show off + (f + j) * 2 = off + f * 2 + j * 2 by omega] at this
      exact this
    · cases hx⟩
abbrev PcR := (Option Addr × Nat × Nat) × List (Int × Int)
abbrev pcs (l : List PcR) : List Value := l.map fun q => .slice q.1.1 q.1.2.1 q.1.2.2
structure OwnP (w w0 : World) (B : Nat) (A : Option Addr) (c : Nat) (l : List PcR) : Prop where
  row : w.ownsRow B 40 1 (.slice A l.length c) l.length (pcs l)
  txt : ∀ q ∈ l, RunS w0 q.1.1 q.1.2.1 q.2 ∧ q.1.2.1 ≤ q.1.2.2
theorem OwnP.kept {w w' w0 : World} {B : Nat} {A : Option Addr} {c : Nat} {l : List PcR} (h : OwnP w w0 B A c l) (hb : Below w.heap.size w w') : OwnP w' w0 B A c l := ⟨(Turn.of_below (F := fun _ => False) hb).own h.row (fun _ _ => id), h.txt⟩
theorem OwnP.nil (w w0 : World) (B : Nat) : OwnP w w0 B none 0 [] := ⟨World.ownsRow_nil _ _ _ _, fun _ hx => absurd hx List.not_mem_nil⟩
theorem OwnP.lt {w w0 : World} {B : Nat} {A : Option Addr} {c n : Nat} {l : List PcR} (h : OwnP w w0 B A c l) (hn : l.length = n) {q : Nat} (hq : (Value.slice A n c).ownBlock = some q) : B ≤ q ∧ q < w.heap.size := by
  subst hn
  exact h.row.lt q hq
theorem infoP12 : (Tryz.prog.info? 40).map (fun i => (i.zero, i.size, i.bytes)) = some (some (.slice none 0 0), 1, 24) := by kernel_rfl
theorem appendP (w : World) {ops : Array Oper} {rest : List Oper} {o : Oper} {a : Act} {Q : Exit → Act → World → Prop} (hgd : o.guard = none) (s x : Operand)
    (ho : o.op = .call { callee := .builtin .append, args := #[s, x], argTypes := #[148, 148] }) (w0 : World) (B : Nat) (A : Option Addr) (c : Nat) (l : List PcR) (n : Nat) (hn : l.length = n) (d : PcR) (g : Nat) (hg : w.heap.size = g)
    (hs : a.eval s = .slice A n c) (hown : OwnP w w0 B A c l) (hd : RunS w0 d.1.1 d.1.2.1 d.2 ∧ d.1.2.1 ≤ d.1.2.2) (hx : a.eval x = .slice (some ⟨g, 0, none⟩) 1 1) (hl : n ≤ 1000000) (hB : B ≤ w.heap.size)
    (h : ∀ A' c' w', OwnP w' w0 B A' c' (l ++ [d]) → w.grownBy w' (Value.slice A n c).ownBlock → wpList Tryz.prog ops Q rest (a.put o.dst (.slice A' (n + 1) c')) w') :
    wpList Tryz.prog ops Q (o :: rest) a (w.alloc (.cells #[.slice d.1.1 d.1.2.1 d.1.2.2] 40)) := by
  subst hn
  subst hg
  obtain ⟨i0, hi, hz0, hz1, hz2⟩ := info_parts infoP12
  refine append_row (w.alloc (.cells #[.slice d.1.1 d.1.2.1 d.1.2.2] 40)) hgd s x 148 ho B 40 i0 (.slice none 0 0) 24 Tryz.underlying148 hi hz0 hz1 hz2 rfl (.slice A l.length c) l.length (pcs l) hs (World.ownsRow.alloc hown.row _) ⟨w.heap.size, 0, none⟩ 1 1 [.slice d.1.1 d.1.2.1 d.1.2.2] hx rfl (fun j u hu => ?_) (fun u hu => by rw [List.mem_singleton.1 hu]; rfl) (by unfold maxLen; omega) (by omega) (by simp; omega) fun A' c' w' q1 q2 _ => ?_
  · have l := Lies.new w 40 #[.slice d.1.1 d.1.2.1 d.1.2.2]
    rw [addr_add, Nat.zero_add, l.cell j, ← hu]
    simp
  · refine h A' c' w' ⟨?_, fun q hq => ?_⟩ ⟨q2.os, q2.tape, q2.output, Nat.le_trans (by simp) q2.size, fun k hk hne => (q2.block k (by simp; omega) hne).trans (Below.heap_alloc w _ k hk)⟩
    · rw [show pcs l ++ [Value.slice d.1.1 d.1.2.1 d.1.2.2] = pcs (l ++ [d]) by simp [pcs]] at q1
      rw [List.length_append]
      exact q1
    · rcases List.mem_append.1 hq with hq | hq
      · exact hown.txt q hq
      · rw [List.mem_singleton.1 hq]; exact hd
theorem Sh.tot_part {R : List (Int × Int)} (hR : ∀ x ∈ R, ¬ x.2 < 1) {f i : Nat} (hf : f ≤ i) {x : Int × Int} (hx : R[i]? = some x) : Lt.total ((R.take i).drop f) + x.2 ≤ Lt.total R ∧ 0 ≤ Lt.total ((R.take i).drop f) ∧ (R.take (i + 1)).drop f = (R.take i).drop f ++ [x] := by
  have h1 := Lt.take_le (R := R) (i + 1) hR
  rw [Lt.take_total hx] at h1
  have h2 : Lt.total (R.take i) = Lt.total ((R.take i).take f) + Lt.total ((R.take i).drop f) := by rw [← Lt.total_app, List.take_append_drop]
  have h3 := Lt.total_pos (R := (R.take i).take f) fun y hy => hR y (List.mem_of_mem_take (List.mem_of_mem_take hy))
  have h4 := Lt.total_pos (R := (R.take i).drop f) fun y hy => hR y (List.mem_of_mem_take (List.mem_of_mem_drop hy))
  refine ⟨by omega, h4, ?_⟩
  rw [take_one hx, List.drop_append_of_le_length]
  rw [List.length_take]
  have := (List.getElem?_eq_some_iff.1 hx).1
  omega
end Go.Proofs.YtfjpcjebecgglaaGreatDoor
