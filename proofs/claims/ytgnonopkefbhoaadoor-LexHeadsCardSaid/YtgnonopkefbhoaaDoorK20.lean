/- LexHeads: its walk. -/
import Derived.Test.YtgnonopkefbhoaaDoorK19
namespace Go.Proofs.YtgnonopkefbhoaaDoor
open Go.RowKit Go.Shelf

/-- the first so many tokens of a row -/
theorem slice_toks {w : World} {B : Nat} {A : Option Addr} {c m n : Nat} {l : List MTok} (h : OwnL w B A c l) (hm : l.length = m) (hn : n ≤ m) (W : World) :
    (Instr.slice 23 (.slice A m c) none (some (.int .i64 (n : Nat))) none).run Tryd.prog W = .ok (.slice A n c) W := by
  have hz : (sizeOf (Tryd.prog.elem 23)).run Tryd.prog W = .ok 3 W := by kernel_rfl
  have hc : n ≤ c := by
    rcases h.parts with ⟨rfl, rfl, rfl⟩ | ⟨g, rfl, hc, _⟩
    · simp at hm
      omega
    · omega
  rw [run_slice_h W 23 A m c (by kernel_rfl) .i64 (n : Nat) (by omega) (by omega), hz]
  simp only [Result.andThen, sliced]
  rcases h.parts with ⟨rfl, rfl, rfl⟩ | ⟨g, rfl, _, _⟩
  · simp
  · split
    · simp
    · simp [addr_add]
theorem TokS.take {w : World} {A : Option Addr} {n k : Nat} {l : List ITok} (h : TokS w A n l) (hk : k ≤ n) : TokS w A k (l.take k) :=
  ⟨by rw [List.length_take, h.len]; omega, fun h0 => by
    obtain ⟨b, off, e, hlt, hc⟩ := h.at_ (by omega)
    refine ⟨b, off, e, hlt, fun i x hx => hc i x ?_⟩
    rw [List.getElem?_take] at hx
    split at hx
    · exact hx
    · cases hx⟩
theorem keys_up (s : ByteArray) (n N : Nat) (l : List MTok) (h : ∀ x ∈ l, x.2.2 ≤ s.size) (hN : N = s.size + n) : ((l.map (pureTok s)).map (Lx.up n)).map (keyAt N) = (l.map (pureTok s)).map (keyAt s.size) := by
  rw [List.map_map, List.map_map, List.map_map]
  apply List.map_congr_left
  intro x hx
  have := h x hx
  simp only [Function.comp, Lx.up, keyAt, pureTok]
  rw [show N - (s.size - x.2.2 + n) = s.size - (s.size - x.2.2) by omega]
theorem LSaid.heads {a b : ByteArray} {s m : List UInt8} {wa wa' wb wb' : World} {Aa Ab : Option Addr} {ca cb pa pb : Nat} {la lb : List MTok} {Ea Eb : Int} (qa : LSaid a wa Aa ca la Ea pa wa') (qb : LSaid b wb Ab cb lb Eb pb wb')
    (ha : a.data.toList = s ++ [10]) (hb : b.data.toList = s ++ 10 :: m) (has : a.size ≤ 16384) (hbs : b.size ≤ 16384) :
    (Ea ≠ 0 → Ea = 51 ∨ Ea = Eb) ∧ (Ea = 0 → la.length ≤ lb.length ∧ sameT true (la.map toI) ((lb.map toI).take la.length) = true) := by
  obtain ⟨a1, a2, _⟩ := qa.toks has
  obtain ⟨b1, b2, _⟩ := qb.toks hbs
  obtain ⟨h1, h2⟩ := Lx.heads s m
  rw [← ha, ← hb, ← a2, ← b2] at h1
  rw [← ha, ← hb, ← a2, ← a1, ← b1] at h2
  refine ⟨h1, fun h0 => ?_⟩
  obtain ⟨y, hy⟩ := h2 h0
  have hlen := congrArg List.length hy
  rw [List.length_append, List.length_map, List.length_map, List.length_map] at hlen
  refine ⟨by omega, ?_⟩
  have ht : (lb.take la.length).map (pureTok b) = (la.map (pureTok a)).map (Lx.up m.length) := by
    rw [List.map_take, hy, List.take_append_of_le_length (by simp), List.take_of_length_le (by simp)]
  have hN : b.size = a.size + m.length := by
    rw [← len_bytes, ← len_bytes, ha, hb]
    simp
    omega
  unfold sameT
  rw [← List.map_take, keys_true a la qa.at_, keys_true b (lb.take la.length) (fun x hx => qb.at_ x (List.mem_of_mem_take hx)), ht, keys_up a m.length b.size la qa.at_ hN, decide_eq_true rfl]

set_option maxRecDepth 100000 in
set_option maxHeartbeats 3200000 in
theorem lexHeads_walk (s m : ByteArray) (w : World) (hs : s.size ≤ maxLen) (hms : m.size ≤ maxLen) (hm : MaxL w) :
    Calls Tryd.prog 8 #[.string s, .string m] w fun e w' => e = .returned (.bool true) ∧ Below w.heap.size w w' := by
  have HA := Lib.hid (kawake w hm)
  have HM := Lib.hid hm
  unfold maxLen at hs hms
  clear hm
  by_cases hl : 4000 < s.size ∨ 4000 < m.size
  · have hl' : (4000 : Int) < (s.size : Int) ∨ ¬ (4000 : Int) < (s.size : Int) ∧ (4000 : Int) < (m.size : Int) := by omega
    clear hl
    rcases hl' with h1 | ⟨h1, h2⟩
    all_goals
      go_enter Tryd.func8, Tryd.ntmps8
      go_wp2_with (go_at_call 9; refine HA.out.mono ?_; rintro e w1 ⟨rfl, b1⟩)
      go_ret
      exact ⟨rfl, b1⟩
  have h1 : ¬ (4000 : Int) < (s.size : Int) := by omega
  have h2 : ¬ (4000 : Int) < (m.size : Int) := by omega
  have hadd : ∀ (a b : ByteArray) (W : World), a.size ≤ 8388608 → b.size ≤ 8388608 → (Op.stringOp .add a b).run Tryd.prog W = .ok (.string (a ++ b)) W := fun a b W ha hb => run_string_add W a b (by omega) (by omega)
  have a1 := fun W => hadd s ⟨#[10]⟩ W (by omega) (by decide)
  obtain ⟨V1, hV1⟩ : ∃ V : ByteArray, s ++ ⟨#[10]⟩ = V := ⟨_, rfl⟩
  obtain ⟨y1, z1⟩ := app_bytes s ⟨#[10]⟩
  rw [hV1] at a1 y1 z1
  have z1' : V1.size = s.size + 1 := z1
  have a2 := fun W => hadd V1 m W (by omega) (by omega)
  obtain ⟨V, hV⟩ : ∃ V : ByteArray, V1 ++ m = V := ⟨_, rfl⟩
  obtain ⟨y2, z2⟩ := app_bytes V1 m
  rw [hV] at a2 y2 z2
  have HY1 : Hid (V1.data.toList = s.data.toList ++ [10]) := by show _ = _; rw [y1]
  have HY2 : Hid (V.data.toList = s.data.toList ++ 10 :: m.data.toList) := by show _ = _; rw [y2, y1]; simp
  have HZ : Hid (V1.size = s.size + 1 ∧ V.size = s.size + 1 + m.size ∧ s.size ≤ 4000 ∧ m.size ≤ 4000) := by show _ ∧ _; omega
  have HK1 := Lib.hid fun W hW => klex V1 W (by omega) hW
  have HK2 := Lib.hid fun W hW => klex V W (by omega) hW
  clear hl hadd hV1 hV y1 y2 z1 z1' z2
  go_enter Tryd.func8, Tryd.ntmps8
  go_wp2_with fail
  refine HA.out.mono ?_
  rintro e w1 ⟨rfl, b1⟩
  have B1 := Lib.hid b1
  have HM1 := Lib.hid (HM.out.below b1)
  clear b1
  go_wp2_with fail
  refine (HK1.out _ HM1.out).mono ?_
  rintro e w2 ⟨A2, c2, l2, E2, p2, rfl, q2⟩
  have B2 := Lib.hid (B1.out.trans (q2.below.mono B1.out.size))
  have HM2 := Lib.hid (HM1.out.below q2.below)
  obtain ⟨n2, hn2⟩ : ∃ n, l2.length = n := ⟨_, rfl⟩
  rw [hn2]
  have N2 := Lib.hid hn2
  have Q2 := Lib.hid q2
  clear hn2 q2
  go_wp2_with fail
  refine (HK2.out _ HM2.out).mono ?_
  rintro e w3 ⟨A3, c3, l3, E3, p3, rfl, q3⟩
  obtain ⟨g1, g2⟩ := Q2.out.heads q3 HY1.out HY2.out (by have := HZ.out; omega) (by have := HZ.out; omega)
  have B3 := Lib.hid (B2.out.trans (q3.below.mono B2.out.size))
  have T2 := Lib.hid (Q2.out.own.toks.below q3.below)
  obtain ⟨n3, hn3⟩ : ∃ n, l3.length = n := ⟨_, rfl⟩
  rw [hn3]
  have N3 := Lib.hid hn3
  have Q3 := Lib.hid q3
  clear hn3 q3
  by_cases hE : E2 = 0
  case neg =>
    have e1 : (E2 != 0) = true := bne_iff_ne.2 hE
    have e2 : (E2 == 0) = false := beq_eq_false_iff_ne.2 hE
    have hways : (E2 == 51) = true ∨ (E2 == 51) = false ∧ (E2 == E3) = true := by
      rcases g1 hE with h | h
      · exact .inl (beq_iff_eq.2 h)
      · by_cases h51 : E2 = 51
        · exact .inl (beq_iff_eq.2 h51)
        · exact .inr ⟨beq_eq_false_iff_ne.2 h51, beq_iff_eq.2 h⟩
    clear g1 g2 hE
    rcases hways with e3 | ⟨e3, e4⟩
    all_goals
      go_wp2
      go_ret
      exact ⟨rfl, B3.out⟩
  obtain ⟨g3, g4⟩ := g2 hE
  subst hE
  have hle : n2 ≤ n3 := by rw [← N2.out, ← N3.out]; exact g3
  have hle' : ¬ (n3 : Int) < (n2 : Int) := by omega
  have hsl := fun W => slice_toks Q3.out.own N3.out hle W
  have t2 := T2.out
  have t3 := Q3.out.own.toks
  rw [N3.out] at t3
  rw [N2.out] at t2 g4
  have HS := Lib.hid (rsame w3 A2 n2 c2 (l2.map toI) A3 n2 c3 ((l3.map toI).take n2) true t2 (t3.take hle) (by have := Q2.out.few; have := N2.out; omega))
  rw [g4] at HS
  have hp : (p3 : Int) ≤ (s.size : Int) + 1 + (m.size : Int) := by have := Q3.out.le; have := HZ.out; omega
  have hp0 : (0 : Int) ≤ (p3 : Int) := by omega
  clear g1 g2 g3 g4 t2 t3 hle
  go_wp2_with (go_at_call 12; refine HS.out.mono ?_; rintro e w4 ⟨rfl, q, rfl⟩)
  go_ret
  exact ⟨rfl, B3.out.trans ((Turn.none_ ((Turn.refl (fun _ => False) _).drewN _) (fun _ => id)).mono B3.out.size)⟩
end Go.Proofs.YtgnonopkefbhoaaDoor
