/- several texts in one. -/
import Derived.Test.YtkooconjkimgoaaDoorNK12
import Derived.Test.YtkooconjkimgoaaDoorU2
import Derived.Test.YtkooconjkimgoaaDoorN8
import Derived.Test.YtkooconjkimgoaaDoorGW
import Derived.Test.YtkooconjkimgoaaDoorJ14
/- The bank's App, Const, Bool, Num, Str; the law's Does. -/
namespace Go.Proofs.YtkooconjkimgoaaDoor
open Go.RowKit

theorem kapp9 (w : World) (b : Nat) (F : Nat → Prop) (l : List Nd) (h : Bk w b F l) (hI : Tm.Inv l) (op : Int) (A : Option Addr) (n c : Nat) (a : List Int) {G : Nat → Prop} (ha : NumS w A n a) (hwa : ∀ z ∈ a, (Lit.int .i64 z).wf = true) (hg : Gs G A n) (hG : ∀ k, G k → ¬ F k)
    (hn : n ≤ 1000) (hln : l.length ≤ 30000) (hT : Pow9 w) (hK : Ask9 w) :
    Calls Tryd.prog 15 #[.pointer (some ⟨b, 0, none⟩), .int .i64 op, .slice A n c] w fun e w' => BAns w b F (Tm.app l op a) e w' := by
  by_cases h0 : 0 ≤ op
  · by_cases h1 : op < 31
    · obtain ⟨a0, a1, p0, p1, p2, ow, hrow, q0, q1, q2, q3, q4, q5, q6⟩ := Tm.row_is h0 h1
      obtain ⟨o, rfl⟩ : ∃ o : Nat, op = o := ⟨op.toNat, by omega⟩
      rw [Int.toNat_natCast] at hrow
      rcases q6 with ⟨rfl, hasks⟩ | ⟨hpos, ws, more, own, hasks, hr⟩
      · have hap : Tm.app l (o : Int) a = (l, 0, 101) := by rw [Tm.app, hasks]
        rw [hap]
        have g1 := hK o _ hrow 1 0 rfl
        have HV := Lib.hid (BAns.same (x := 0) (y := 101) h (Below.refl _ w))
        have ho' : (o : Int) < 31 := by omega
        clear h hI ha hwa hg hG hT hK hrow hasks hap h1
        go_enter Tryd.func15, Tryd.ntmps15
        go_wp2
        go_ret2
        exact HV.out
      · exact kappRow9 w b F l h hI o A n c a ha hwa hg hG hn hln hT hK (by omega) hrow q0 q1 q2 q3 q4 q5 hpos hasks hr
    · have hap : Tm.app l op a = (l, 0, 101) := by rw [Tm.app, Tm.asks_none (by omega)]
      rw [hap]
      have HV := Lib.hid (BAns.same (x := 0) (y := 101) h (Below.refl _ w))
      have ho' : (31 : Int) ≤ op := by omega
      have d0 : ¬ op < 0 := by omega
      clear h hI ha hwa hg hG hT hK hap h1
      go_enter Tryd.func15, Tryd.ntmps15
      go_wp2
      go_ret2
      exact HV.out
  · have hap : Tm.app l op a = (l, 0, 101) := by rw [Tm.app, Tm.asks_none (by omega)]
    rw [hap]
    have HV := Lib.hid (BAns.same (x := 0) (y := 101) h (Below.refl _ w))
    have d0 : op < 0 := by omega
    clear h hI ha hwa hg hG hT hK hap h0
    go_enter Tryd.func15, Tryd.ntmps15
    go_wp2
    go_ret2
    exact HV.out

theorem NdK.leaf (w : World) (G : Nat → Prop) (op sort : Int) (s : ByteArray) : NdK w G ⟨none, 0, 0, false, none, 0, 0, none, 0, 0⟩ ⟨op, sort, [], s, 0, []⟩ :=
  ⟨NumS.nil _ _, by rw [show Tm.limbs (Nd.num ⟨op, sort, [], s, 0, []⟩) = [] from Tm.limbs_zero]; exact Lims.nil_ _ _, RunS.nil _ _, rfl, ⟨Nat.le_refl _, Nat.zero_le _⟩, ⟨by simp, by simp, by simp⟩, fun z hz => absurd hz List.not_mem_nil, fun r hr => absurd hr List.not_mem_nil, Gs.zero _ _, Gs.zero _ _, Gs.zero _ _⟩
set_option maxRecDepth 100000 in
theorem kconst9 (w : World) (b : Nat) (F : Nat → Prop) (l : List Nd) (h : Bk w b F l) (s : ByteArray) (sort : Int) (hln : l.length ≤ 30000) (hT : Pow9 w) :
    Calls Tryd.prog 18 #[.pointer (some ⟨b, 0, none⟩), .string s, .int .i64 sort] w fun e w' => BAns w b F (Tm.const l s sort) e w' := by
  by_cases hbad : sort < 1 ∨ 3 < sort ∨ 16384 < s.size
  · have hc : Tm.const l s sort = (l, 0, 1) := by unfold Tm.const; rw [if_pos hbad]
    rw [hc]
    have HV := Lib.hid (BAns.same (x := 0) (y := 1) h (Below.refl _ w))
    by_cases h1 : sort < 1
    · clear h hT hc hbad
      go_enter Tryd.func18, Tryd.ntmps18
      go_wp2
      go_ret2
      exact HV.out
    by_cases h3 : 3 < sort
    · clear h hT hc hbad
      go_enter Tryd.func18, Tryd.ntmps18
      go_wp2
      go_ret2
      exact HV.out
    · have hs : 16384 < s.size := by omega
      have hs' : (16384 : Int) < (s.size : Int) := by omega
      have h1' : 1 ≤ sort := by omega
      have h3' : sort ≤ 3 := by omega
      clear h hT hc hbad h1 h3
      go_enter Tryd.func18, Tryd.ntmps18
      go_wp2
      go_ret2
      exact HV.out
  · have hc : Tm.const l s sort = Tm.add l ⟨1, sort, [], s, 0, []⟩ := by unfold Tm.const; rw [if_neg hbad]
    rw [hc]
    have h1 : ¬ sort < 1 := by omega
    have h3 : ¬ 3 < sort := by omega
    have hs : ¬ 16384 < s.size := by omega
    have hs' : ¬ (16384 : Int) < (s.size : Int) := by omega
    have HA := Lib.hid (kadd9 w b F l ⟨none, 0, 0, false, none, 0, 0, none, 0, 0⟩ ⟨1, sort, [], s, 0, []⟩ (G := fun _ => False) h (NdK.leaf w _ _ _ _) (fun _ e => e.elim) (.inr (.inr ⟨by simp, by simp, rfl, rfl⟩)) (show (Lit.int .i64 1).wf = true by decide) (WalkArith.wf_i64 (n := sort) (by omega)) (by simp only; omega) hln hT)
    clear h hT hc hbad
    go_enter Tryd.func18, Tryd.ntmps18
    go_wp2_with fail
    refine HA.out.mono ?_
    rintro e w1 ha
    have HV := Lib.hid ha
    obtain ⟨rfl, _⟩ := ha
    clear HA
    go_wp2
    go_ret2
    exact HV.out
set_option maxRecDepth 100000 in
theorem kbool9 (w : World) (b : Nat) (F : Nat → Prop) (l : List Nd) (h : Bk w b F l) (v : Bool) (hln : l.length ≤ 30000) (hT : Pow9 w) :
    Calls Tryd.prog 21 #[.pointer (some ⟨b, 0, none⟩), .bool v] w fun e w' => BAns w b F (Tm.bool l v) e w' := by
  cases v with
  | true =>
    rw [show Tm.bool l true = Tm.add l ⟨2, 1, [], ByteArray.empty, 0, []⟩ from rfl]
    have HA := Lib.hid (kadd9 w b F l ⟨none, 0, 0, false, none, 0, 0, none, 0, 0⟩ ⟨2, 1, [], ByteArray.empty, 0, []⟩ (G := fun _ => False) h (NdK.leaf w _ _ _ _) (fun _ e => e.elim) (.inr (.inr ⟨by simp, by simp, rfl, rfl⟩)) (by decide) (by decide) (by simp) hln hT)
    clear h hT
    go_enter Tryd.func21, Tryd.ntmps21
    go_wp2_with fail
    refine HA.out.mono ?_
    rintro e w1 ha
    have HV := Lib.hid ha
    obtain ⟨rfl, _⟩ := ha
    clear HA
    go_wp2
    go_ret2
    exact HV.out
  | false =>
    rw [show Tm.bool l false = Tm.add l ⟨3, 1, [], ByteArray.empty, 0, []⟩ from rfl]
    have HA := Lib.hid (kadd9 w b F l ⟨none, 0, 0, false, none, 0, 0, none, 0, 0⟩ ⟨3, 1, [], ByteArray.empty, 0, []⟩ (G := fun _ => False) h (NdK.leaf w _ _ _ _) (fun _ e => e.elim) (.inr (.inr ⟨by simp, by simp, rfl, rfl⟩)) (by decide) (by decide) (by simp) hln hT)
    clear h hT
    go_enter Tryd.func21, Tryd.ntmps21
    go_wp2_with fail
    refine HA.out.mono ?_
    rintro e w1 ha
    have HV := Lib.hid ha
    obtain ⟨rfl, _⟩ := ha
    clear HA
    go_wp2
    go_ret2
    exact HV.out
set_option maxRecDepth 100000 in
theorem knum9 (w : World) (b : Nat) (F : Nat → Prop) (l : List Nd) (h : Bk w b F l) (g : Bool) (A : Option Addr) (n c : Nat) (z : Int) (hz : WIn w g A n c z) (hn : n ≤ 900) (hln : l.length ≤ 30000) (hT : Pow9 w) :
    Calls Tryd.prog 19 #[.pointer (some ⟨b, 0, none⟩), .agg #[.bool g, .slice A n c]] w fun e w' => BAns w b F (Tm.num l z) e w' := by
  obtain ⟨W0, hW0⟩ : ∃ W0, w.alloc (.cells #[.bool g, .slice A n c] 39) = W0 := ⟨_, rfl⟩
  have B0 : Below w.heap.size w W0 := by rw [← hW0]; exact (Below.refl _ w).alloc (Nat.le_refl _) _
  have L0 : Lies W0 w.heap.size 39 #[.bool g, .slice A n c] := by rw [← hW0]; exact Lies.new w _ _
  have HS := Lib.hid (sign_w g A n c z W0 (hz.below B0))
  have HB0 := Lib.hid B0
  have HL0 := Lib.hid L0
  have c0 : W0.cell? ⟨w.heap.size, 0, none⟩ = some (.bool g) := by rw [L0.cell]; rfl
  have c1 : W0.cell? ⟨w.heap.size, 1, none⟩ = some (.slice A n c) := by rw [L0.cell]; rfl
  obtain ⟨sg, hsg⟩ : ∃ sg, Z.sgn z = sg := ⟨_, rfl⟩
  rw [hsg] at HS
  by_cases hneg : z < 0
  · have hs : Tm.num l z = (l, 0, 1) := by unfold Tm.num; rw [if_pos hneg]
    rw [hs]
    have d1 : sg < 0 := by rw [← hsg]; exact sgn_neg9.2 hneg
    have HE : Hid (∀ w1, Below w.heap.size w w1 → BAns w b F (l, 0, 1) (.returned (.tuple #[.int .i64 0, .int .i64 1])) w1) := fun w1 b1 => BAns.same h b1
    clear h hz B0 L0 hs hneg hsg hT
    go_enter Tryd.func19, Tryd.ntmps19
    go_wp2_with fail
    refine HS.out.mono ?_
    rintro e w1 ⟨rfl, b1⟩
    have HV := Lib.hid (HE.out w1 (HB0.out.trans (b1.mono HB0.out.size)))
    clear HS HE b1
    go_wp2
    go_ret2
    exact HV.out
  · have hs : Tm.num l z = Tm.add l ⟨4, 2, [], ByteArray.empty, z.natAbs, []⟩ := by unfold Tm.num; rw [if_neg hneg]
    rw [hs]
    have d1 : ¬ sg < 0 := by rw [← hsg]; exact fun e => hneg (sgn_neg9.1 e)
    have HNm : Hid (∀ w1, Below w.heap.size w w1 → Calls Tryd.prog 39 #[.agg #[.bool g, .slice A n c]] w1 fun e w' => (∃ A' n' c', e = .returned (.agg #[.bool false, .slice A' n' c']) ∧ n' ≤ 900 ∧ LimK w' (fun k => w1.heap.size ≤ k) A' n' c' z.natAbs) ∧ Below w1.heap.size w1 w') := fun w1 b1 => norm9 g A n c z w1 (hz.below b1) hneg hn
    have HA : Hid (∀ w1 w2 A' n' c', Below w.heap.size w w1 → Below w1.heap.size w1 w2 → n' ≤ 900 → LimK w2 (fun k => w1.heap.size ≤ k) A' n' c' z.natAbs → Calls Tryd.prog 36 #[.pointer (some ⟨b, 0, none⟩), .agg #[.int .i64 4, .int .i64 2, .slice none 0 0, .string ⟨#[]⟩, .bool false, .slice A' n' c', .slice none 0 0]] w2 fun e w' => BAns w2 b F (Tm.add l ⟨4, 2, [], ByteArray.empty, z.natAbs, []⟩) e w') := fun w1 w2 A' n' c' b1 b2 hn' hk =>
      kadd9 w2 b F l ⟨none, 0, 0, false, A', n', c', none, 0, 0⟩ ⟨4, 2, [], ByteArray.empty, z.natAbs, []⟩ (G := fun k => w1.heap.size ≤ k) (h.below (b1.trans (b2.mono b1.size)))
        ⟨NumS.nil _ _, hk.lims, RunS.nil _ _, rfl, hk.cap, ⟨by simp, by simp only; omega, by simp⟩, fun z hz => absurd hz List.not_mem_nil, fun r hr => absurd hr List.not_mem_nil, Gs.zero _ _, hk.g, Gs.zero _ _⟩ (fun k hk e => by have := h.lt k e; have := b1.size; omega)
        (.inl ⟨rfl, rfl, rfl⟩) (show (Lit.int .i64 4).wf = true by decide) (show (Lit.int .i64 2).wf = true by decide) (by simp) hln (hT.on (b1.trans (b2.mono b1.size)))
    clear h hz B0 L0 hs hneg hsg hT
    go_enter Tryd.func19, Tryd.ntmps19
    go_wp2_with fail
    refine HS.out.mono ?_
    rintro e w1 ⟨rfl, b1⟩
    have hB1 := HB0.out.trans (b1.mono HB0.out.size)
    have hL1 := (b1.block _ HL0.out.lt).trans HL0.out
    have k0 := Lies.cell (t := 39) (cs := #[.bool g, .slice A n c]) hL1 0
    have k1 := Lies.cell (t := 39) (cs := #[.bool g, .slice A n c]) hL1 1
    simp at k0 k1
    have HN1 := Lib.hid (HNm.out w1 hB1)
    have HB1 := Lib.hid hB1
    clear HS HNm b1 hB1 hL1 HB0 HL0 c0 c1
    go_wp2_with fail
    refine HN1.out.mono ?_
    rintro e w2 ⟨⟨A', n', c', rfl, hn', hk⟩, b2⟩
    have HA2 := Lib.hid (HA.out w1 w2 A' n' c' HB1.out b2 hn' hk)
    have HB2 := Lib.hid (HB1.out.trans (b2.mono HB1.out.size))
    clear HN1 HA b2 hk HB1 k0 k1
    go_wp2_with fail
    refine HA2.out.mono ?_
    rintro e w3 ha
    have HV := Lib.hid (ha.up HB2.out)
    obtain ⟨rfl, _⟩ := ha
    clear HA2 HB2
    go_wp2
    go_ret2
    exact HV.out
set_option maxRecDepth 100000 in
theorem kstr9 (w : World) (b : Nat) (F : Nat → Prop) (l : List Nd) (h : Bk w b F l) (C : Option Addr) (p f : Nat) (t : List (Int × Int)) {G : Nat → Prop} (ht : RunS w C p t) (hwt : ∀ r ∈ t, (Lit.int .i64 r.1).wf = true ∧ (Lit.int .i64 r.2).wf = true) (hg : Gs G C p) (hG : ∀ k, G k → ¬ F k) (hp : p ≤ 1000) (hln : l.length ≤ 30000) (hT : Pow9 w) :
    Calls Tryd.prog 22 #[.pointer (some ⟨b, 0, none⟩), .slice C p f] w fun e w' => BAns w b F (Tm.str l t) e w' := by
  have HM := Lib.hid (kmayr w C p f t ht (by omega))
  obtain ⟨m, hm⟩ : ∃ m, Tx.mayB t = m := ⟨_, rfl⟩
  rw [hm] at HM
  cases m with
  | false =>
    have hs : Tm.str l t = (l, 0, 1) := by unfold Tm.str; rw [if_neg (by rw [hm]; decide)]
    rw [hs]
    have HE : Hid (∀ w1, Below w.heap.size w w1 → BAns w b F (l, 0, 1) (.returned (.tuple #[.int .i64 0, .int .i64 1])) w1) := fun w1 b1 => BAns.same h b1
    clear h ht hwt hg hG hT hm hs
    go_enter Tryd.func22, Tryd.ntmps22
    go_wp2_with fail
    refine HM.out.mono ?_
    rintro e w1 ⟨rfl, b1⟩
    have HV := Lib.hid (HE.out w1 b1)
    clear HM HE b1
    go_wp2
    go_ret2
    exact HV.out
  | true =>
    have hs : Tm.str l t = Tm.add l ⟨5, 3, [], ByteArray.empty, 0, t⟩ := by unfold Tm.str; rw [if_pos hm]
    rw [hs]
    have HA : Hid (∀ w1, Below w.heap.size w w1 → Calls Tryd.prog 36 #[.pointer (some ⟨b, 0, none⟩), .agg #[.int .i64 5, .int .i64 3, .slice none 0 0, .string ⟨#[]⟩, .bool false, .slice none 0 0, .slice C p f]] w1 fun e w' => BAns w1 b F (Tm.add l ⟨5, 3, [], ByteArray.empty, 0, t⟩) e w') := fun w1 b1 => by
      refine kadd9 w1 b F l ⟨none, 0, 0, false, none, 0, 0, C, p, f⟩ ⟨5, 3, [], ByteArray.empty, 0, t⟩ (G := G) (h.below b1)
        ⟨NumS.nil _ _, ?_, ht.below b1, rfl, ⟨Nat.le_refl _, Nat.zero_le _⟩, ⟨by simp, by simp, hp⟩, fun z hz => absurd hz List.not_mem_nil, hwt, Gs.zero _ _, Gs.zero _ _, hg⟩ hG (.inr (.inl ⟨rfl, rfl, rfl⟩)) (show (Lit.int .i64 5).wf = true by decide) (show (Lit.int .i64 3).wf = true by decide) (by simp) hln (hT.on b1)
      show Lims w1 none 0 (Tm.limbs 0)
      rw [Tm.limbs_zero]
      exact Lims.nil_ _ _
    clear h ht hwt hg hG hT hm hs
    go_enter Tryd.func22, Tryd.ntmps22
    go_wp2_with fail
    refine HM.out.mono ?_
    rintro e w1 ⟨rfl, b1⟩
    have HA1 := Lib.hid (HA.out w1 b1)
    have HB1 := Lib.hid b1
    clear HM HA b1
    go_wp2_with fail
    refine HA1.out.mono ?_
    rintro e w2 ha
    have HV := Lib.hid (ha.up HB1.out)
    obtain ⟨rfl, _⟩ := ha
    clear HA1 HB1
    go_wp2
    go_ret2
    exact HV.out
end Go.Proofs.YtkooconjkimgoaaDoor

/- The law's Does, over the bank. -/
namespace Go.Proofs.YtkooconjkimgoaaDoor
open Go.RowKit

theorem ClAs.gsa {w : World} {P : ClP} {x : Cl} (h : ClAs w P x) : Gs (fun k => k < w.heap.size) P.A P.n := fun a e hn => by
  obtain ⟨b, off, e2, hlt, _⟩ := h.a.at_ hn
  rw [e2] at e
  rw [← Option.some.inj e]
  exact hlt
theorem ClAs.gst {w : World} {P : ClP} {x : Cl} (h : ClAs w P x) : Gs (fun k => k < w.heap.size) P.C P.p := fun a e hn => by
  obtain ⟨b, off, e2, hlt, _⟩ := h.str.at_ hn
  rw [e2] at e
  rw [← Option.some.inj e]
  exact hlt
set_option maxRecDepth 100000 in
set_option maxHeartbeats 3200000 in
theorem kdoes9 (w0 w : World) (b : Nat) (F : Nat → Prop) (l : List Nd) (P : ClP) (x : Cl) (h : Bk w b F l) (hI : Tm.Inv l) (hx : ClAs w0 P x) (hb : Below w0.heap.size w0 w) (hF : ∀ k, F k → w0.heap.size ≤ k) (hf : P.few x) (hn : l.length ≤ 20000) (hT : Pow9 w0) (hK : Ask9 w0) :
    Calls Tryd.prog 9 #[.pointer (some ⟨b, 0, none⟩), .agg (P.cells x)] w fun e w' => e = .returned (.tuple #[.int .i64 (Tm.does l x).2.1, .int .i64 (Tm.does l x).2.2]) ∧ ∃ F', Bk w' b F' (Tm.does l x).1 ∧ Turn F w w' ∧ ∀ k, F' k → F k ∨ w.heap.size ≤ k := by
  show Calls Tryd.prog 9 #[.pointer (some ⟨b, 0, none⟩), .agg (P.cells x)] w fun e w' => BAns w b F (Tm.does l x) e w'
  obtain ⟨W0, hW0⟩ : ∃ W0, w.alloc (.cells (P.cells x) 42) = W0 := ⟨_, rfl⟩
  have B0 : Below w.heap.size w W0 := by rw [← hW0]; exact (Below.refl _ w).alloc (Nat.le_refl _) _
  have L0 : Lies W0 w.heap.size 42 (P.cells x) := by rw [← hW0]; exact Lies.new w _ _
  have HB0 := Lib.hid B0
  have hb0 : Below w0.heap.size w0 W0 := hb.trans (B0.mono hb.size)
  have h0 := h.below B0
  have hx0 := hx.below hb0
  have hG : ∀ k, k < w0.heap.size → ¬ F k := fun k hk e => by have := hF k e; omega
  have hT0 := hT.on hb0
  have hK0 := hK.below hb0
  obtain ⟨f1, f2, f3, f4⟩ := hf
  have ck : W0.cell? ⟨w.heap.size, 0, none⟩ = some (.int .i64 x.kind) := by rw [L0.cell]; rfl
  rcases Tm.does_kind l x with ⟨k0, hd⟩ | ⟨k0, hd⟩ | ⟨k0, hd⟩ | ⟨k0, hd⟩ | ⟨k0, hd⟩
  · rw [hd]
    have e0 : (x.kind == 0) = true := beq_iff_eq.2 k0
    have c4 : W0.cell? ⟨w.heap.size, 4, none⟩ = some (.string x.s) := by rw [L0.cell]; rfl
    have c2 : W0.cell? ⟨w.heap.size, 2, none⟩ = some (.int .i64 x.sort) := by rw [L0.cell]; rfl
    have HA := Lib.hid (kconst9 W0 b F l h0 x.s x.sort (by omega) hT0)
    generalize Tm.const l x.s x.sort = r at HA
    clear h hI hx hb hF hT hK h0 hx0 hb0 hG hT0 hK0 L0 B0 hd k0 f1 f2 f3 f4
    go_enter Tryd.func9, Tryd.ntmps9
    go_wp2_with fail
    refine HA.out.mono ?_
    rintro e w1 ha
    have HV := Lib.hid (ha.up HB0.out)
    obtain ⟨rfl, _⟩ := ha
    clear HA
    go_wp2
    go_ret2
    exact HV.out
  · rw [hd]
    have e0 : (x.kind == 0) = false := beq_eq_false_iff_ne.2 (by omega)
    have e1 : (x.kind == 1) = true := beq_iff_eq.2 k0
    have c5 : W0.cell? ⟨w.heap.size, 5, none⟩ = some (.bool x.b) := by rw [L0.cell]; rfl
    have HA := Lib.hid (kbool9 W0 b F l h0 x.b (by omega) hT0)
    generalize Tm.bool l x.b = r at HA
    clear h hI hx hb hF hT hK h0 hx0 hb0 hG hT0 hK0 L0 B0 hd k0 f1 f2 f3 f4
    go_enter Tryd.func9, Tryd.ntmps9
    go_wp2_with fail
    refine HA.out.mono ?_
    rintro e w1 ha
    have HV := Lib.hid (ha.up HB0.out)
    obtain ⟨rfl, _⟩ := ha
    clear HA
    go_wp2
    go_ret2
    exact HV.out
  · rw [hd]
    have e0 : (x.kind == 0) = false := beq_eq_false_iff_ne.2 (by omega)
    have e1 : (x.kind == 1) = false := beq_eq_false_iff_ne.2 (by omega)
    have e2 : (x.kind == 2) = true := beq_iff_eq.2 k0
    have c6 : W0.cell? ⟨w.heap.size, 6, none⟩ = some (.bool P.g) := by rw [L0.cell]; rfl
    have c7 : W0.cell? ⟨w.heap.size, 7, none⟩ = some (.slice P.B P.m P.d) := by rw [L0.cell]; rfl
    have HA := Lib.hid (knum9 W0 b F l h0 P.g P.B P.m P.d x.z (hx0.num f2) (by omega) (by omega) hT0)
    generalize Tm.num l x.z = r at HA
    clear h hI hx hb hF hT hK h0 hx0 hb0 hG hT0 hK0 L0 B0 hd k0 f1 f2 f3 f4
    go_enter Tryd.func9, Tryd.ntmps9
    go_wp2_with fail
    refine HA.out.mono ?_
    rintro e w1 ha
    have HV := Lib.hid (ha.up HB0.out)
    obtain ⟨rfl, _⟩ := ha
    clear HA
    go_wp2
    go_ret2
    exact HV.out
  · rw [hd]
    have e0 : (x.kind == 0) = false := beq_eq_false_iff_ne.2 (by omega)
    have e1 : (x.kind == 1) = false := beq_eq_false_iff_ne.2 (by omega)
    have e2 : (x.kind == 2) = false := beq_eq_false_iff_ne.2 (by omega)
    have e3 : (x.kind == 3) = true := beq_iff_eq.2 k0
    have c8 : W0.cell? ⟨w.heap.size, 8, none⟩ = some (.slice P.C P.p P.f) := by rw [L0.cell]; rfl
    have HA := Lib.hid (kstr9 W0 b F l h0 P.C P.p P.f x.t hx0.str hx.wft hx.gst hG (by omega) (by omega) hT0)
    generalize Tm.str l x.t = r at HA
    clear h hI hx hb hF hT hK h0 hx0 hb0 hG hT0 hK0 L0 B0 hd k0 f1 f2 f3 f4
    go_enter Tryd.func9, Tryd.ntmps9
    go_wp2_with fail
    refine HA.out.mono ?_
    rintro e w1 ha
    have HV := Lib.hid (ha.up HB0.out)
    obtain ⟨rfl, _⟩ := ha
    clear HA
    go_wp2
    go_ret2
    exact HV.out
  · rw [hd]
    have e0 : (x.kind == 0) = false := beq_eq_false_iff_ne.2 (by omega)
    have e1 : (x.kind == 1) = false := beq_eq_false_iff_ne.2 (by omega)
    have e2 : (x.kind == 2) = false := beq_eq_false_iff_ne.2 (by omega)
    have e3 : (x.kind == 3) = false := beq_eq_false_iff_ne.2 (by omega)
    have c1 : W0.cell? ⟨w.heap.size, 1, none⟩ = some (.int .i64 x.op) := by rw [L0.cell]; rfl
    have c3 : W0.cell? ⟨w.heap.size, 3, none⟩ = some (.slice P.A P.n P.c) := by rw [L0.cell]; rfl
    have HA := Lib.hid (kapp9 W0 b F l h0 hI x.op P.A P.n P.c x.a hx0.a hx.wfa hx.gsa hG (by omega) (by omega) hT0 hK0)
    generalize Tm.app l x.op x.a = r at HA
    clear h hI hx hb hF hT hK h0 hx0 hb0 hG hT0 hK0 L0 B0 hd k0 f1 f2 f3 f4
    go_enter Tryd.func9, Tryd.ntmps9
    go_wp2_with fail
    refine HA.out.mono ?_
    rintro e w1 ha
    have HV := Lib.hid (ha.up HB0.out)
    obtain ⟨rfl, _⟩ := ha
    clear HA
    go_wp2
    go_ret2
    exact HV.out
end Go.Proofs.YtkooconjkimgoaaDoor

/- The chapter's examples: awake; the law's sorted. -/
namespace Go.Proofs.YtkooconjkimgoaaDoor
open Go.RowKit

abbrev Tm.ax : Nd := ⟨1, 2, [], ⟨#[120]⟩, 0, []⟩
abbrev Tm.an : Nd := ⟨4, 2, [], ByteArray.empty, 3, []⟩
abbrev Tm.as_ : Nd := ⟨15, 2, [0, 1], ByteArray.empty, 0, []⟩
abbrev Tm.am : Nd := ⟨17, 2, [0, 1], ByteArray.empty, 0, []⟩
theorem nd_op {x y : Nd} (h : x.op ≠ y.op) : x ≠ y := fun e => h (by rw [e])
theorem Tm.aw1 : Tm.const [] ⟨#[120]⟩ 2 = ([Tm.ax], 0, 0) := by
  unfold Tm.const
  rw [if_neg (by decide), Tm.add_new List.not_mem_nil (by decide)]
  rfl
theorem Tm.aw2 : Tm.num [Tm.ax] 3 = ([Tm.ax, Tm.an], 1, 0) := by
  unfold Tm.num
  rw [if_neg (by decide)]
  exact Tm.add_new (l := [Tm.ax]) (x := Tm.an) (fun h => nd_op (x := Tm.an) (y := Tm.ax) (by decide) (List.mem_singleton.1 h)) (by decide)
theorem Tm.app_some {l : List Nd} {op : Int} {a : List Int} {w : List Nat} {more : Bool} {own : Nat} (h : Tm.asks op = some (w, more, own)) : Tm.app l op a = if a.length < w.length ∨ (w.length < a.length ∧ more = false) ∨ 200 < a.length then (l, 0, 1)
    else if Tm.allIn l a = false then (l, 0, 1) else if Tm.oks w 0 63 (a.map (Tm.letAt l)) = false then (l, 0, 90) else if op = 17 ∧ 1 < Tm.free l a then (l, 0, 101) else Tm.add l (Tm.node op own l a) := by
  rw [Tm.app, h]
theorem Tm.aw3 : Tm.app [Tm.ax, Tm.an] 15 [0, 1] = ([Tm.ax, Tm.an, Tm.as_], 2, 0) := by
  rw [Tm.app_some (w := [73, 73]) (more := true) (own := 73) (by decide), if_neg (by decide), if_neg (by decide), if_neg (by decide), if_neg (by decide)]
  refine Tm.add_new (l := [Tm.ax, Tm.an]) (x := Tm.as_) (fun h => ?_) (by decide)
  rcases List.mem_cons.1 h with h | h
  · exact nd_op (x := Tm.as_) (y := Tm.ax) (by decide) h
  · exact nd_op (x := Tm.as_) (y := Tm.an) (by decide) (List.mem_singleton.1 h)
theorem Tm.aw_inv2 : Tm.Inv [Tm.ax, Tm.an] := by
  have h1 : Tm.Inv [Tm.ax] := Tm.Inv.nil.snoc (x := Tm.ax) List.not_mem_nil (by decide) (fun p hp => absurd hp List.not_mem_nil) (fun e => absurd e (by decide))
  exact h1.snoc (x := Tm.an) (fun h => nd_op (x := Tm.an) (y := Tm.ax) (by decide) (List.mem_singleton.1 h)) (by decide) (fun p hp => absurd hp List.not_mem_nil) (fun e => absurd e (by decide))
theorem Tm.aw_inv1 : Tm.Inv [Tm.ax] := Tm.Inv.nil.snoc (x := Tm.ax) List.not_mem_nil (by decide) (fun p hp => absurd hp List.not_mem_nil) (fun e => absurd e (by decide))
theorem Tm.aw_inv3 : Tm.Inv [Tm.ax, Tm.an, Tm.as_] := by
  have := Tm.app_inv Tm.aw_inv2 15 [0, 1]
  rwa [Tm.aw3] at this
theorem Tm.aw4 : Tm.app [Tm.ax, Tm.an, Tm.as_] 15 [0, 1] = ([Tm.ax, Tm.an, Tm.as_], 2, 0) := by
  have := (Tm.app_again Tm.aw_inv2 15 [0, 1]).1
  rwa [Tm.aw3] at this
theorem Tm.aw5 : Tm.app [Tm.ax, Tm.an, Tm.as_] 22 [0, 0] = ([Tm.ax, Tm.an, Tm.as_], 0, 90) := by
  rw [Tm.app_some (w := [83, 83]) (more := true) (own := 83) (by decide), if_neg (by decide), if_neg (by decide), if_pos (by decide)]
theorem Tm.aw6 : Tm.app [Tm.ax, Tm.an, Tm.as_] 17 [0, 0] = ([Tm.ax, Tm.an, Tm.as_], 0, 101) := by
  rw [Tm.app_some (w := [73, 73]) (more := true) (own := 73) (by decide), if_neg (by decide), if_neg (by decide), if_neg (by decide), if_pos (by decide)]
theorem Tm.aw7 : Tm.app [Tm.ax, Tm.an, Tm.as_] 17 [0, 1] = ([Tm.ax, Tm.an, Tm.as_, Tm.am], 3, 0) := by
  rw [Tm.app_some (w := [73, 73]) (more := true) (own := 73) (by decide), if_neg (by decide), if_neg (by decide), if_neg (by decide), if_neg (by decide)]
  refine Tm.add_new (l := [Tm.ax, Tm.an, Tm.as_]) (x := Tm.am) (fun h => ?_) (by decide)
  rcases List.mem_cons.1 h with h | h
  · exact nd_op (x := Tm.am) (y := Tm.ax) (by decide) h
  rcases List.mem_cons.1 h with h | h
  · exact nd_op (x := Tm.am) (y := Tm.an) (by decide) h
  · exact nd_op (x := Tm.am) (y := Tm.as_) (by decide) (List.mem_singleton.1 h)

/-- a bank of the law's own -/
structure BW (w W : World) (b : Nat) (F : Nat → Prop) (l : List Nd) : Prop where
  bk : Bk W b F l
  inv : Tm.Inv l
  far : ∀ k, F k → w.heap.size ≤ k
  bel : Below w.heap.size w W
theorem BW.below {w W W' : World} {b : Nat} {F : Nat → Prop} {l : List Nd} (h : BW w W b F l) (hb : Below W.heap.size W W') : BW w W' b F l := ⟨h.bk.below hb, h.inv, h.far, h.bel.trans (hb.mono h.bel.size)⟩
theorem BW.next {w W W' : World} {b : Nat} {F F' : Nat → Prop} {l l' : List Nd} (h : BW w W b F l) (h1 : Bk W' b F' l') (hi : Tm.Inv l') (h2 : Turn F W W') (h3 : ∀ k, F' k → F k ∨ W.heap.size ≤ k) : BW w W' b F' l' :=
  ⟨h1, hi, fun k hk => (h3 k hk).elim (h.far k) (fun e => Nat.le_trans h.bel.size e), h.bel.trans (h2.below h.bel.size h.far)⟩
theorem BW.new (w W : World) (hb : Below w.heap.size w W) : BW w (W.alloc (.cells Z9 32)) W.heap.size (fun k => k = W.heap.size) [] :=
  ⟨knew9 W, Tm.Inv.nil, fun k e => by rw [e]; exact hb.size, hb.alloc hb.size _⟩
theorem Num.in9k {w : World} {v : Value} {N : Nat} (h : Num w v N) (hN : N < M.BB ^ 20) : ∃ A n c, v = .slice A n c ∧ In w A n c N ∧ n ≤ 20 := by
  obtain ⟨A, n, c, l, rfl, h1, h2, h3, h4, h5⟩ := h
  have : n ≤ 20 := M.len_le h2 h1.1 (by rw [h3]; exact hN)
  exact ⟨A, n, c, rfl, ⟨l, h1, h3, h4, h5, by omega⟩, this⟩
/-- an operation over numbers that are laid in their place -/
theorem BW.app {w W : World} {b : Nat} {F : Nat → Prop} {l l' : List Nd} (h : BW w W b F l) (op p q r e : Int) (hp : (Lit.int .i64 p).wf = true) (hq : (Lit.int .i64 q).wf = true) (hl : l.length ≤ 30000) (hT : Pow9 w) (hK : Ask9 w) (hr : Tm.app l op [p, q] = (l', r, e)) :
    Calls Tryd.prog 15 #[.pointer (some ⟨b, 0, none⟩), .int .i64 op, .slice (some ⟨W.heap.size, 0, none⟩) 2 2] (W.alloc (.cells #[.int .i64 p, .int .i64 q] 3)) fun x w' => x = .returned (.tuple #[.int .i64 r, .int .i64 e]) ∧ ∃ F', BW w w' b F' l' := by
  have h1 := h.below ((Below.refl _ W).alloc (Nat.le_refl _) (.cells #[.int .i64 p, .int .i64 q] 3))
  refine (kapp9 _ b F l h1.bk h.inv op (some ⟨W.heap.size, 0, none⟩) 2 2 [p, q] (G := fun k => k = W.heap.size) (NumS.lit W [p, q]) (fun z hz => by
    rcases List.mem_cons.1 hz with rfl | hz
    · exact hp
    · rw [List.mem_singleton.1 hz]; exact hq) (fun a ha _ => by rw [← Option.some.inj ha]) (fun k hk e => by have := h.bk.lt k e; omega) (by decide) hl (hT.on h1.bel) (hK.below h1.bel)).mono ?_
  rintro x w' ⟨rfl, F', k1, k2, k3⟩
  have hi := Tm.app_inv h.inv op [p, q]
  rw [hr] at k1 hi ⊢
  exact ⟨rfl, F', h1.next k1 hi k2 k3⟩
set_option maxRecDepth 100000 in
set_option maxHeartbeats 3200000 in
theorem kawake9 (w : World) (hT : Pow9 w) (hK : Ask9 w) : Calls Tryd.prog 7 #[] w fun e w' => e = .returned (.bool true) ∧ Below w.heap.size w w' := by
  have HT := Lib.hid hT
  have HK := Lib.hid hK
  have bw0 := BW.new w w (Below.refl _ _)
  obtain ⟨W0, hW0⟩ : ∃ W0, w.alloc (.cells Z9 32) = W0 := ⟨_, rfl⟩
  rw [hW0] at bw0
  have HB0 := Lib.hid bw0
  have HC := Lib.hid (kconst9 W0 w.heap.size _ [] bw0.bk ⟨#[120]⟩ 2 (by decide) (hT.on bw0.bel))
  rw [Tm.aw1] at HC
  clear bw0 hT hK
  go_enter Tryd.func7, Tryd.ntmps7
  go_wp2_with fail
  refine HC.out.mono ?_
  rintro e w1 ⟨rfl, F1, k1, t1, f1⟩
  have HB1 := Lib.hid (HB0.out.next k1 Tm.aw_inv1 t1 f1)
  have HO := Lib.hid (of_w 3 w1 (by decide))
  clear HC HB0 k1 t1 f1 hW0
  go_wp2_with fail
  refine HO.out.mono ?_
  rintro e w2 ⟨v, rfl, ⟨u, rfl, hnum⟩, b2⟩
  obtain ⟨A3, n3, c3, rfl, hin, hn3⟩ := Num.in9k hnum (show (3 : Int).natAbs < M.BB ^ 20 by decide)
  have hB2 := HB1.out.below b2
  have HN := Lib.hid (knum9 w2 w.heap.size F1 [Tm.ax] hB2.bk (decide ((3 : Int) < 0)) A3 n3 c3 3 ⟨hin, by decide⟩ (by omega) (by decide) (HT.out.on hB2.bel))
  rw [Tm.aw2] at HN
  have HB2 := Lib.hid hB2
  clear HO HB1 hnum hin b2 hB2
  go_wp2_with fail
  refine HN.out.mono ?_
  rintro e w3 ⟨rfl, F3, k3, t3, f3⟩
  have HB3 := Lib.hid (HB2.out.next k3 Tm.aw_inv2 t3 f3)
  have HA3 := Lib.hid (HB3.out.app 15 0 1 2 0 (by decide) (by decide) (by decide) HT.out HK.out Tm.aw3)
  clear HN HB2 k3 t3 f3 HB3
  go_wp2_with fail
  refine HA3.out.mono ?_
  rintro e w4 ⟨rfl, F4, hB4⟩
  have HA4 := Lib.hid (hB4.app 15 0 1 2 0 (by decide) (by decide) (by decide) HT.out HK.out Tm.aw4)
  clear HA3 hB4
  go_wp2_with fail
  refine HA4.out.mono ?_
  rintro e w5 ⟨rfl, F5, hB5⟩
  have HA5 := Lib.hid (hB5.app 22 0 0 0 90 (by decide) (by decide) (by decide) HT.out HK.out Tm.aw5)
  clear HA4 hB5
  go_wp2_with fail
  refine HA5.out.mono ?_
  rintro e w6 ⟨rfl, F6, hB6⟩
  have HA6 := Lib.hid (hB6.app 17 0 0 0 101 (by decide) (by decide) (by decide) HT.out HK.out Tm.aw6)
  clear HA5 hB6
  go_wp2_with fail
  refine HA6.out.mono ?_
  rintro e w7 ⟨rfl, F7, hB7⟩
  have HA7 := Lib.hid (hB7.app 17 0 1 3 0 (by decide) (by decide) (by decide) HT.out HK.out Tm.aw7)
  clear HA6 hB7
  go_wp2_with fail
  refine HA7.out.mono ?_
  rintro e w8 ⟨rfl, F8, hB8⟩
  have HL := Lib.hid (klen9 w8 w.heap.size F8 _ hB8.bk)
  have HB8 := Lib.hid hB8
  clear HA7 hB8 HT HK
  go_wp2_with fail
  refine HL.out.mono ?_
  rintro e w9 ⟨rfl, b9⟩
  have HV := Lib.hid (HB8.out.bel.trans (b9.mono HB8.out.bel.size))
  clear HL HB8 b9
  go_wp2
  go_ret
  exact ⟨rfl, HV.out⟩
end Go.Proofs.YtkooconjkimgoaaDoor
