/- The reference's Const, Bool, Num, Str; a call in memory; the law's refDoes. -/
import Derived.Test.YtkooconjkimgoaaDoorN6
namespace Go.Proofs.YtkooconjkimgoaaDoor
open Go.RowKit

set_option maxRecDepth 100000 in
theorem rconst9 (w : World) (A : Option Addr) (n c : Nat) (l : List Nd) (s : ByteArray) (sort : Int) {G : Nat → Prop} (h : NodS w G A n c l) (hn : n ≤ 30000) :
    Calls Tryd.prog 23 #[.slice A n c, .string s, .int .i64 sort] w fun e w' => NAns w G (Tm.const l s sort) e w' := by
  have hl := h.len
  by_cases hbad : sort < 1 ∨ 3 < sort ∨ 16384 < s.size
  · have HE : Hid (NAns w G (Tm.const l s sort) (.returned (.tuple #[.slice A n c, .int .i64 0, .int .i64 1])) w) := by
      show NAns w G (Tm.const l s sort) _ w
      unfold Tm.const
      rw [if_pos hbad]
      exact ⟨⟨A, c, by rw [hl], by rw [hl]; exact h.mono fun _ => .inl⟩, Below.refl _ _⟩
    generalize Tm.const l s sort = r at HE
    clear h hl
    by_cases h1 : sort < 1
    · have d1 : decide (sort < 1) = true := decide_eq_true h1
      clear hbad h1
      go_enter Tryd.func23, Tryd.ntmps23
      go_wp2
      first | exact HE.out | exact bodyPost_ret (by simp [results, Tryd.results23, go_sem]) rfl HE.out
    have d1 : decide (sort < 1) = false := decide_eq_false h1
    by_cases h2 : 3 < sort
    · have d2 : decide (3 < sort) = true := decide_eq_true h2
      clear hbad h1 h2
      go_enter Tryd.func23, Tryd.ntmps23
      go_wp2
      first | exact HE.out | exact bodyPost_ret (by simp [results, Tryd.results23, go_sem]) rfl HE.out
    have d2 : decide (3 < sort) = false := decide_eq_false h2
    have d3 : decide ((16384 : Int) < (s.size : Int)) = true := decide_eq_true (by omega)
    have d4 : decide (16384 < s.size) = true := decide_eq_true (by omega)
    clear hbad h1 h2
    go_enter Tryd.func23, Tryd.ntmps23
    go_wp2
    first | exact HE.out | exact bodyPost_ret (by simp [results, Tryd.results23, go_sem]) rfl HE.out
  · have hc : Tm.const l s sort = Tm.add l ⟨1, sort, [], s, 0, []⟩ := by unfold Tm.const; rw [if_neg hbad]
    rw [hc]
    have HA := Lib.hid (radd9 w A n c l ⟨none, 0, 0, false, none, 0, 0, none, 0, 0⟩ ⟨1, sort, [], s, 0, []⟩ h ⟨NumS.nil _ _, ⟨⟨[], Lims.nil_ _ _, rfl, Nat.le_refl _, Nat.zero_le _, Nat.zero_le _⟩, rfl⟩, RunS.nil _ _, ⟨Nat.zero_le _, Nat.zero_le _, Nat.zero_le _⟩, ⟨Gs.zero _ _, Gs.zero _ _, Gs.zero _ _⟩⟩ hn)
    have d1 : decide (sort < 1) = false := decide_eq_false (by omega)
    have d2 : decide (3 < sort) = false := decide_eq_false (by omega)
    have d3 : decide ((16384 : Int) < (s.size : Int)) = false := decide_eq_false (by omega)
    have d4 : decide (16384 < s.size) = false := decide_eq_false (by omega)
    generalize Tm.add l ⟨1, sort, [], s, 0, []⟩ = r at HA
    clear h hl hc hbad
    go_enter Tryd.func23, Tryd.ntmps23
    go_wp2_with fail
    refine HA.out.mono ?_
    rintro e w1 ha
    have HE := Lib.hid ha
    obtain ⟨⟨A1, c1, rfl, _⟩, _⟩ := ha
    clear HA
    go_wp2
    first | exact HE.out | exact bodyPost_ret (by simp [results, Tryd.results23, go_sem]) rfl HE.out
set_option maxRecDepth 100000 in
theorem rbool9 (w : World) (A : Option Addr) (n c : Nat) (l : List Nd) (b : Bool) {G : Nat → Prop} (h : NodS w G A n c l) (hn : n ≤ 30000) :
    Calls Tryd.prog 24 #[.slice A n c, .bool b] w fun e w' => NAns w G (Tm.bool l b) e w' := by
  have HA := Lib.hid (radd9 w A n c l ⟨none, 0, 0, false, none, 0, 0, none, 0, 0⟩ ⟨if b = true then 2 else 3, 1, [], ByteArray.empty, 0, []⟩ h ⟨NumS.nil _ _, ⟨⟨[], Lims.nil_ _ _, rfl, Nat.le_refl _, Nat.zero_le _, Nat.zero_le _⟩, rfl⟩, RunS.nil _ _, ⟨Nat.zero_le _, Nat.zero_le _, Nat.zero_le _⟩, ⟨Gs.zero _ _, Gs.zero _ _, Gs.zero _ _⟩⟩ hn)
  unfold Tm.bool
  generalize Tm.add l ⟨if b = true then 2 else 3, 1, [], ByteArray.empty, 0, []⟩ = r at HA
  clear h
  cases b
  all_goals
    go_enter Tryd.func24, Tryd.ntmps24
    go_wp2_with fail
    refine HA.out.mono ?_
    rintro e w1 ha
    have HE := Lib.hid ha
    obtain ⟨⟨A1, c1, rfl, _⟩, _⟩ := ha
    clear HA
    go_wp2
    first | exact HE.out | exact bodyPost_ret (by simp [results, Tryd.results24, go_sem]) rfl HE.out
set_option maxRecDepth 100000 in
theorem rstr9 (w : World) (A : Option Addr) (n c : Nat) (l : List Nd) (C : Option Addr) (p f : Nat) (t : List (Int × Int)) {G : Nat → Prop} (h : NodS w G A n c l) (ht : RunS w C p t) (hg : Gs G C p) (hn : n ≤ 30000) (hp : p ≤ 1000000) :
    Calls Tryd.prog 26 #[.slice A n c, .slice C p f] w fun e w' => NAns w G (Tm.str l t) e w' := by
  have HM := Lib.hid (rmay8 w C p f t ht)
  have hl := h.len
  cases hb : Tx.mayB t with
  | false =>
    have hs : Tm.str l t = (l, 0, 1) := by unfold Tm.str; rw [hb]; rfl
    rw [hs]
    rw [hb] at HM
    have HE : Hid (∀ w1, Below w.heap.size w w1 → NAns w G (l, 0, 1) (.returned (.tuple #[.slice A n c, .int .i64 0, .int .i64 1])) w1) := fun w1 b1 => ⟨⟨A, c, by rw [hl], by rw [hl]; exact (h.below b1).mono fun _ => .inl⟩, b1⟩
    clear h ht hl hs hb
    go_enter Tryd.func26, Tryd.ntmps26
    go_wp2_with fail
    refine HM.out.mono ?_
    rintro e w1 ⟨rfl, b1⟩
    have HF := Lib.hid (HE.out w1 b1)
    clear HM HE b1
    go_wp2
    first | exact HF.out | exact bodyPost_ret (by simp [results, Tryd.results26, go_sem]) rfl HF.out
  | true =>
    have hs : Tm.str l t = Tm.add l ⟨5, 3, [], ByteArray.empty, 0, t⟩ := by unfold Tm.str; rw [hb]; rfl
    rw [hs]
    rw [hb] at HM
    have HA := Lib.hid fun w1 (b1 : Below w.heap.size w w1) => radd9 w1 A n c l ⟨none, 0, 0, false, none, 0, 0, C, p, f⟩ ⟨5, 3, [], ByteArray.empty, 0, t⟩ (h.below b1) ⟨NumS.nil _ _, ⟨⟨[], Lims.nil_ _ _, rfl, Nat.le_refl _, Nat.zero_le _, Nat.zero_le _⟩, rfl⟩, ht.below b1, ⟨Nat.zero_le _, Nat.zero_le _, hp⟩, ⟨Gs.zero _ _, Gs.zero _ _, hg⟩⟩ hn
    generalize Tm.add l ⟨5, 3, [], ByteArray.empty, 0, t⟩ = r at HA
    clear h ht hl hs hb
    go_enter Tryd.func26, Tryd.ntmps26
    go_wp2_with fail
    refine HM.out.mono ?_
    rintro e w1 ⟨rfl, b1⟩
    have HA1 := Lib.hid (HA.out w1 b1)
    have HB1 := Lib.hid b1
    clear HM HA b1
    go_wp2_with fail
    refine HA1.out.mono ?_
    rintro e w2 ha
    have HE : Hid (NAns w G r e w2) := ha.up HB1.out fun _ => .inl
    obtain ⟨⟨A1, c1, rfl, _⟩, _⟩ := ha
    clear HA1 HB1
    go_wp2
    first | exact HE.out | exact bodyPost_ret (by simp [results, Tryd.results26, go_sem]) rfl HE.out
theorem Num.in9 {w : World} {v : Value} {N : Nat} (h : Num w v N) (hN : N < M.BB ^ 20) : ∃ A n c, v = .slice A n c ∧ In w A n c N ∧ n ≤ 2000 := by
  obtain ⟨A, n, c, l, rfl, h1, h2, h3, h4, h5⟩ := h
  have : n ≤ 20 := M.len_le h2 h1.1 (by rw [h3]; exact hN)
  exact ⟨A, n, c, rfl, ⟨l, h1, h3, h4, h5, by omega⟩, by omega⟩
theorem sgn_neg {z : Int} : (Z.sgn z < 0) ↔ z < 0 := by
  rcases Z.sgn_cases z with ⟨h1, h2⟩ | ⟨h1, h2⟩ | ⟨h1, h2⟩ <;> rw [h2] <;> omega
set_option maxRecDepth 100000 in
theorem rnum9 (w : World) (A : Option Addr) (n c : Nat) (l : List Nd) (g : Bool) (B : Option Addr) (m d : Nat) (z : Int) {G : Nat → Prop} (h : NodS w G A n c l) (hz : WIn w g B m d z) (hn : n ≤ 30000) (hm : m ≤ 20) :
    Calls Tryd.prog 25 #[.slice A n c, .agg #[.bool g, .slice B m d]] w fun e w' => NAns w G (Tm.num l z) e w' := by
  obtain ⟨W0, hW0⟩ : ∃ W0, w.alloc (.cells #[.bool g, .slice B m d] 39) = W0 := ⟨_, rfl⟩
  have B0 : Below w.heap.size w W0 := by rw [← hW0]; exact (Below.refl _ w).alloc (Nat.le_refl _) _
  have L0 : Lies W0 w.heap.size 39 #[.bool g, .slice B m d] := by rw [← hW0]; exact Lies.new w _ _
  have HS := Lib.hid (rsign_w g B m d z W0 (hz.below B0) (by omega))
  have hl := h.len
  have hlt : z.natAbs < M.BB ^ 20 := by
    obtain ⟨⟨l, h1, h2, h3, h4, _⟩, _⟩ := hz
    have := (in_of (k := 20) h1 h3 h4 hm (by omega)).2
    rwa [h2] at this
  have HL := Lib.hid hlt
  have HB0 := Lib.hid B0
  have c0 : W0.cell? ⟨w.heap.size, 0, none⟩ = some (.bool g) := by rw [L0.cell]; rfl
  have c1 : W0.cell? ⟨w.heap.size, 1, none⟩ = some (.slice B m d) := by rw [L0.cell]; rfl
  have HL0 := Lib.hid L0
  obtain ⟨sg, hsg⟩ : ∃ sg, Z.sgn z = sg := ⟨_, rfl⟩
  rw [hsg] at HS
  by_cases hneg : z < 0
  · have hs : Tm.num l z = (l, 0, 1) := by unfold Tm.num; rw [if_pos hneg]
    rw [hs]
    have d1 : decide (sg < 0) = true := decide_eq_true (by rw [← hsg]; exact sgn_neg.2 hneg)
    have HE : Hid (∀ w1, Below w.heap.size w w1 → NAns w G (l, 0, 1) (.returned (.tuple #[.slice A n c, .int .i64 0, .int .i64 1])) w1) := fun w1 b1 => ⟨⟨A, c, by rw [hl], by rw [hl]; exact (h.below b1).mono fun _ => .inl⟩, b1⟩
    clear h hz B0 L0 hl hlt hs hneg hsg
    go_enter Tryd.func25, Tryd.ntmps25
    go_wp2_with fail
    refine HS.out.mono ?_
    rintro e w1 ⟨rfl, b1⟩
    have HF := Lib.hid (HE.out w1 (HB0.out.trans (b1.mono HB0.out.size)))
    clear HS HE b1
    go_wp2
    first | exact HF.out | exact bodyPost_ret (by simp [results, Tryd.results25, go_sem]) rfl HF.out
  · have hs : Tm.num l z = Tm.add l ⟨4, 2, [], ByteArray.empty, z.natAbs, []⟩ := by unfold Tm.num; rw [if_neg hneg]
    rw [hs]
    have d1 : decide (sg < 0) = false := decide_eq_false (by rw [← hsg]; exact fun e => hneg (sgn_neg.1 e))
    have HNm := Lib.hid fun w1 (b1 : Below W0.heap.size W0 w1) => rnorm_numO (A := B) (n := m) (c := d) ((hz.below B0).below b1).1 (by omega)
    have HA : Hid (∀ w1 A5 n5 c5, Below w.heap.size w w1 → In w1 A5 n5 c5 z.natAbs → n5 ≤ 2000 → Gs (fun k => G k ∨ w.heap.size ≤ k) A5 n5 → Calls Tryd.prog 43 #[.slice A n c, .agg #[.int .i64 4, .int .i64 2, .slice none 0 0, .string ⟨#[]⟩, .bool false, .slice A5 n5 c5, .slice none 0 0]] w1 fun e w' => NAns w1 (fun k => G k ∨ w.heap.size ≤ k) (Tm.add l ⟨4, 2, [], ByteArray.empty, z.natAbs, []⟩) e w') := fun w1 A5 n5 c5 b1 h5 hn5 hg5 =>
      radd9 w1 A n c l ⟨none, 0, 0, false, A5, n5, c5, none, 0, 0⟩ ⟨4, 2, [], ByteArray.empty, z.natAbs, []⟩ ((h.below b1).mono fun _ => .inl) ⟨NumS.nil _ _, ⟨by simpa using h5, by simp [Z.sg_false]⟩, RunS.nil _ _, ⟨Nat.zero_le _, hn5, Nat.zero_le _⟩, ⟨Gs.zero _ _, hg5, Gs.zero _ _⟩⟩ hn
    generalize Tm.add l ⟨4, 2, [], ByteArray.empty, z.natAbs, []⟩ = r at HA
    clear h hz B0 L0 hl hlt hs hneg hsg
    go_enter Tryd.func25, Tryd.ntmps25
    go_wp2_with fail
    refine HS.out.mono ?_
    rintro e w1 ⟨rfl, b1⟩
    have k0 : Lies w1 w.heap.size 39 #[.bool g, .slice B m d] := (b1.block _ HL0.out.lt).trans HL0.out
    have k1 : w1.cell? ⟨w.heap.size, 1, none⟩ = some (.slice B m d) := by rw [k0.cell]; rfl
    clear k0
    have HN1 := Lib.hid (HNm.out w1 b1)
    have HB1 := Lib.hid (HB0.out.trans (b1.mono HB0.out.size))
    clear HS HNm b1 c0 c1
    go_wp2_with fail
    refine HN1.out.mono ?_
    rintro e w2 ⟨v, rfl, hv, b2, ho2⟩
    obtain ⟨A5, n5, c5, rfl, h5, hn5⟩ := hv.in9 HL.out
    have HB2 := Lib.hid (HB1.out.trans (b2.mono HB1.out.size))
    have HA2 := Lib.hid (HA.out w2 A5 n5 c5 HB2.out h5 hn5 fun ad e _ => .inr (Nat.le_trans HB1.out.size (ho2 ad.block (by rw [e]; rfl))))
    clear HN1 HA hv b2 h5 k1 ho2
    go_wp2_with fail
    refine HA2.out.mono ?_
    rintro e w3 ha
    have HE : Hid (NAns w G r e w3) := ha.up HB2.out fun _ => id
    obtain ⟨⟨A1, c1, rfl, _⟩, _⟩ := ha
    clear HA2 HB1
    go_wp2
    first | exact HE.out | exact bodyPost_ret (by simp [results, Tryd.results25, go_sem]) rfl HE.out
end Go.Proofs.YtkooconjkimgoaaDoor
