/- What the proofs of this claim use, text by text. -/
import Derived.Test.YtcgaeknikfaghaaGreatDoorQC10
import Derived.Test.YtcgaeknikfaghaaGreatDoorQC08
set_option linter.unusedSimpArgs false
set_option linter.unusedVariables false
set_option maxRecDepth 100000
set_option maxHeartbeats 25600000
namespace Go.Proofs.YtcgaeknikfaghaaGreatDoor
open Go.RowKit
structure Bk (w : World) (b : Nat) (F : Nat → Prop) (l : List Nd) : Prop where
  tab : ∃ (Ft I : Nat → Prop) (A : Option Addr) (c : Nat) (L : List (NdP × Nd)), TabK w Ft b (l.map Tm.key) (.slice A l.length c) ∧ (∀ k, F k ↔ (Ft k ∨ (Value.slice A l.length c).ownBlock = some k) ∨ I k) ∧ (∀ k, (Value.slice A l.length c).ownBlock = some k → ¬ Ft k) ∧ OwnD w 0 A c L ∧ L.map (·.2) = l ∧ (∀ q ∈ L, NdK w I q.1 q.2) ∧ ∀ k, I k → ¬ (Ft k ∨ (Value.slice A l.length c).ownBlock = some k) ∧ k < w.heap.size
  good : ∀ x ∈ l, Tm.Good x
theorem OwnD.turn9 {F : Nat → Prop} {w w' : World} {B : Nat} {A : Option Addr} {c n : Nat} {L : List (NdP × Nd)} (h : OwnD w B A c L) (hn : L.length = n) (hT : Turn F w w') (hF : ∀ k, (Value.slice A n c).ownBlock = some k → ¬ F k) : OwnD w' B A c L := by
  subst hn
  exact hT.own h hF
theorem OwnD.lt9 {w : World} {B : Nat} {A : Option Addr} {c n : Nat} {L : List (NdP × Nd)} (h : OwnD w B A c L) (hn : L.length = n) : ∀ k, (Value.slice A n c).ownBlock = some k → k < w.heap.size := by
  subst hn
  exact fun k hk => (World.ownsRow.lt h k hk).2
theorem Bk.turn {G F : Nat → Prop} {w w' : World} {b : Nat} {l : List Nd} (h : Bk w b F l) (hT : Turn G w w') (hG : ∀ k, F k → ¬ G k) : Bk w' b F l := by
  obtain ⟨⟨Ft, I, A, c, L, h1, h2, h3, h4, h5, h6, h7⟩, hg⟩ := h
  have hL : L.length = l.length := by rw [← h5, List.length_map]
  exact ⟨⟨Ft, I, A, c, L, h1.turn hT (fun i hi => hG i ((h2 i).2 (.inl (.inl hi)))), h2, h3, h4.turn9 hL hT (fun k hk => hG k ((h2 k).2 (.inl (.inr hk)))), h5, fun q hq => (h6 q hq).turn hT (fun k hk => hG k ((h2 k).2 (.inr hk))), fun k hk => ⟨(h7 k hk).1, Nat.lt_of_lt_of_le (h7 k hk).2 hT.size⟩⟩, hg⟩
theorem Bk.below {w w' : World} {b : Nat} {F : Nat → Prop} {l : List Nd} (h : Bk w b F l) (hb : Below w.heap.size w w') : Bk w' b F l := h.turn (G := fun _ => False) (Turn.of_below hb) fun _ _ => id
theorem Bk.lt {w : World} {b : Nat} {F : Nat → Prop} {l : List Nd} (h : Bk w b F l) : ∀ k, F k → k < w.heap.size := by
  obtain ⟨⟨Ft, I, A, c, L, h1, h2, h3, h4, h5, h6, h7⟩, hg⟩ := h
  have hL : L.length = l.length := by rw [← h5, List.length_map]
  intro k hk
  rcases (h2 k).1 hk with (e | e) | e
  · exact h1.lt k e
  · exact h4.lt9 hL k e
  · exact (h7 k e).2
abbrev Z9 : Array Value := #[.map none, .slice none 0 0, .slice none 0 0]
theorem knew9 (w : World) : Bk (w.alloc (.cells Z9 37)) w.heap.size (fun k => k = w.heap.size) [] :=
  ⟨⟨fun k => k = w.heap.size, fun _ => False, none, 0, [], TabK.new w _, fun _ => ⟨fun h => .inl (.inl h), fun h => h.elim (fun h => h.elim id (fun e => nomatch e)) False.elim⟩, (fun _ e => nomatch e), World.ownsRow_nil _ _ _ _, rfl, fun _ hq => absurd hq List.not_mem_nil, fun _ e => e.elim⟩, fun _ hx => absurd hx List.not_mem_nil⟩
theorem Bk.cell {w : World} {b : Nat} {F : Nat → Prop} {l : List Nd} (h : Bk w b F l) : ∃ A c, b < w.heap.size ∧ w.cell? ⟨b, 2, none⟩ = some (.slice A l.length c) ∧
    ∀ (i : Nat) x, l[i]? = some x → ∃ g off P, A = some ⟨g, off, none⟩ ∧ g < w.heap.size ∧ NdK w (fun _ => True) P x ∧ ∀ j u, (P.cells x)[j]? = some u → w.cell? ⟨g, off + i * 7 + j, none⟩ = some u := by
  obtain ⟨⟨Ft, I, A, c, L, ⟨⟨m, v, q1, _⟩, _⟩, h2, h3, h4, h5, h6, h7⟩, hg⟩ := h
  have hL : L.length = l.length := by rw [← h5, List.length_map]
  refine ⟨A, c, q1.lt, by rw [q1.cell]; rfl, fun i x hx => ?_⟩
  rw [← h5, List.getElem?_map] at hx
  obtain ⟨q, hq, rfl⟩ := Option.map_eq_some_iff.1 hx
  have hil := (List.getElem?_eq_some_iff.1 hq).1
  rcases h4.2 with ⟨_, e⟩ | ⟨g, cap, cur, e, _, hgl, _⟩
  · omega
  · injection e with e1 _ _
    subst e1
    exact ⟨g, 0, q.1, rfl, (Array.getElem?_eq_some_iff.1 hgl).1, (h6 q (List.mem_of_getElem? hq)).mono (fun _ _ => trivial), fun j u hu => by rw [Nat.zero_add]; exact h4.cell hq hu⟩
theorem klen9 (w : World) (b : Nat) (F : Nat → Prop) (l : List Nd) (h : Bk w b F l) : Calls Tryz.prog 14 #[.pointer (some ⟨b, 0, none⟩)] w fun e w' => e = .returned (.int .i64 (l.length : Nat)) ∧ Below w.heap.size w w' := by
  obtain ⟨A, c, hb, hc, _⟩ := h.cell
  obtain ⟨n, hn⟩ : ∃ n, l.length = n := ⟨_, rfl⟩
  rw [hn] at hc ⊢
  clear h hn
  go_enter Tryz.func14, Tryz.ntmps14
  go_wp2
  go_ret
  exact ⟨rfl, Below.refl _ _⟩
theorem khas9 (w : World) (b : Nat) (F : Nat → Prop) (l : List Nd) (h : Bk w b F l) (i : Int) : Calls Tryz.prog 34 #[.pointer (some ⟨b, 0, none⟩), .int .i64 i] w fun e w' => e = .returned (.bool (decide (0 ≤ i ∧ i < l.length))) ∧ Below w.heap.size w w' := by
  have HL := Lib.hid (klen9 w b F l h)
  obtain ⟨n, hn⟩ : ∃ n, l.length = n := ⟨_, rfl⟩
  rw [hn] at HL ⊢
  clear h hn
  by_cases h0 : 0 ≤ i
  · by_cases h1 : i < (n : Int)
    · rw [decide_eq_true (show 0 ≤ i ∧ i < (n : Int) from ⟨h0, h1⟩)]
      have d1 : decide (i < (n : Int)) = true := decide_eq_true h1
      go_enter Tryz.func34, Tryz.ntmps34
      go_wp2_with (go_at_call 14; refine HL.out.mono ?_; rintro e w1 ⟨rfl, b1⟩)
      go_ret
      exact ⟨rfl, b1⟩
    · rw [decide_eq_false (show ¬ (0 ≤ i ∧ i < (n : Int)) from fun h => h1 h.2)]
      have d1 : decide (i < (n : Int)) = false := decide_eq_false h1
      go_enter Tryz.func34, Tryz.ntmps34
      go_wp2_with (go_at_call 14; refine HL.out.mono ?_; rintro e w1 ⟨rfl, b1⟩)
      go_ret
      exact ⟨rfl, b1⟩
  · rw [decide_eq_false (show ¬ (0 ≤ i ∧ i < (n : Int)) from fun h => h0 h.1)]
    clear HL
    go_enter Tryz.func34, Tryz.ntmps34
    go_wp2
    go_ret
    exact ⟨rfl, Below.refl _ _⟩
theorem khasAll9 (w : World) (b : Nat) (F : Nat → Prop) (l : List Nd) (h : Bk w b F l) (A : Option Addr) (n c : Nat) (a : List Int) (ha : NumS w A n a) (hn : n ≤ 1000000) :
    Calls Tryz.prog 188 #[.pointer (some ⟨b, 0, none⟩), .slice A n c] w fun e w' => e = .returned (.bool (Tm.allIn l a)) ∧ Below w.heap.size w w' := by
  obtain ⟨r, hr⟩ : ∃ r, Tm.allIn l a = r := ⟨_, rfl⟩
  have HR : Hid (∀ i, i ≤ n → (∀ z ∈ a.take i, decide (0 ≤ z ∧ z < (l.length : Int)) = true) → (∀ z, a[i]? = some z → decide (0 ≤ z ∧ z < (l.length : Int)) = false → r = false) ∧ (i = n → r = true)) := fun i _ hi => by
    refine ⟨fun z hz hd => ?_, fun e => ?_⟩
    · rw [← hr]
      unfold Tm.allIn
      rw [List.all_eq_false]
      exact ⟨z, List.mem_of_getElem? hz, by simpa using hd⟩
    · rw [← hr]
      unfold Tm.allIn
      rw [List.all_eq_true]
      intro z hz
      have : z ∈ a.take i := by rw [e, ← ha.len, List.take_length]; exact hz
      exact hi z this
  rw [hr]
  have HA := Lib.hid ha
  have HH := Lib.hid fun W (hW : Below w.heap.size w W) (i : Int) => khas9 W b F l (h.below hW) i
  clear h ha hr
  go_enter Tryz.func188, Tryz.ntmps188
  go_wp2_with fail
  go_loopw [9] (fun iv wr => ∃ i : Nat, i ≤ n ∧ iv = .int .i64 (i : Nat) ∧ Hid (Below w.heap.size w wr ∧ ∀ z ∈ a.take i, decide (0 ≤ z ∧ z < (l.length : Int)) = true)) (fun iv _ => n - (intOf iv).toNat)
  case atStart => exact ⟨0, Nat.zero_le _, rfl, Below.refl _ _, fun z hz => by simp at hz⟩
  case round =>
    obtain ⟨i, hi, rfl, HI⟩ := hrel
    by_cases hlt : i < n
    · have hlt' : (i : Int) < (n : Int) := by omega
      have hi0 : (0 : Int) ≤ (i : Int) := by omega
      obtain ⟨bA, oA, z, rfl, hz, hzm, _, hc⟩ := HA.out.get hlt
      obtain ⟨_, cz⟩ := hc wr HI.out.1
      have HC := Lib.hid (HH.out wr HI.out.1 z)
      have HR1 := Lib.hid (HR.out i hi HI.out.2)
      have HZ := Lib.hid hz
      have HIT : Hid (∀ w1, Below wr.heap.size wr w1 → decide (0 ≤ z ∧ z < (l.length : Int)) = true → Below w.heap.size w w1 ∧ ∀ y ∈ a.take (i + 1), decide (0 ≤ y ∧ y < (l.length : Int)) = true) := fun w1 b1 hd => by
        refine ⟨HI.out.1.trans (b1.mono HI.out.1.size), fun y hy => ?_⟩
        rw [take_one hz] at hy
        rcases List.mem_append.1 hy with hy | hy
        · exact HI.out.2 y hy
        · rw [List.mem_singleton.1 hy]; exact hd
      have HBw : Hid (∀ w1, Below wr.heap.size wr w1 → Below w.heap.size w w1) := fun w1 b1 => HI.out.1.trans (b1.mono HI.out.1.size)
      have hiw : IntKind.i64.wrap ((i : Int) + 1) = (i : Int) + 1 := IntWalk.i64_in _ (by omega)
      obtain ⟨d, hd⟩ : ∃ d, decide (0 ≤ z ∧ z < (l.length : Int)) = d := ⟨_, rfl⟩
      rw [hd] at HC HIT
      have HD := Lib.hid hd
      clear hz hzm hc HI HA HH HR hd
      go_wp2_with fail
      refine HC.out.mono ?_
      rintro e w1 ⟨rfl, b1⟩
      have B1 := Lib.hid b1
      clear HC b1 cz
      cases d with
      | true =>
        have HV := Lib.hid (HIT.out w1 B1.out rfl)
        clear HIT HR1 HZ HD HBw B1
        go_wp2
        go_roundw
        case rel => exact ⟨i + 1, by omega, by go_num, HV.out⟩
        case measure => simp [intOf]; omega
      | false =>
        obtain rfl := HR1.out.1 z HZ.out HD.out
        have HV := Lib.hid (HBw.out w1 B1.out)
        clear HIT HR1 HZ HD HBw B1
        go_wp2
        go_ret
        exact ⟨rfl, HV.out⟩
    · have him : i = n := by omega
      have hlt2 : ¬ (i : Int) < (n : Int) := by omega
      obtain rfl := (HR.out i hi HI.out.2).2 him
      have HV := Lib.hid HI.out.1
      clear HI HA HH HR hlt him hi
      go_wp2
      go_ret
      exact ⟨rfl, HV.out⟩
theorem kat9 (w : World) (b : Nat) (F : Nat → Prop) (l : List Nd) (i : Nat) (x : Nd) (h : Bk w b F l) (hi : l[i]? = some x) : Calls Tryz.prog 15 #[.pointer (some ⟨b, 0, none⟩), .int .i64 (i : Int)] w fun e w' => (∃ P : NdP, e = .returned (.tuple #[.agg (P.cells x), .bool true]) ∧ NdAs w' (fun _ => True) P x) ∧ Below w.heap.size w w' := by
  obtain ⟨W0, hW0⟩ : ∃ W0, w.alloc (.cells #[.int .i64 0, .int .i64 0, .slice none 0 0, .string ⟨#[]⟩, .bool false, .slice none 0 0, .slice none 0 0] 50) = W0 := ⟨_, rfl⟩
  have B0 : Below w.heap.size w W0 := by rw [← hW0]; exact (Below.refl _ w).alloc (Nat.le_refl _) _
  have L0 : Lies W0 w.heap.size 50 #[.int .i64 0, .int .i64 0, .slice none 0 0, .string ⟨#[]⟩, .bool false, .slice none 0 0, .slice none 0 0] := by rw [← hW0]; exact Lies.new w _ _
  have hil := (List.getElem?_eq_some_iff.1 hi).1
  have HH := Lib.hid (khas9 W0 b F l (h.below B0) (i : Int))
  rw [decide_eq_true (show 0 ≤ (i : Int) ∧ (i : Int) < (l.length : Int) by omega)] at HH
  obtain ⟨A, c, hb, hc, hx⟩ := (h.below B0).cell
  obtain ⟨g, off, P, rfl, hg, hP, hcx⟩ := hx i x hi
  have hi0 : (0 : Int) ≤ (i : Int) := by omega
  obtain ⟨n, hn⟩ : ∃ n, l.length = n := ⟨_, rfl⟩
  rw [hn] at hc hil
  have hin : (i : Int) < (n : Int) := by omega
  have HB0 := Lib.hid B0
  have HL0 := Lib.hid L0
  have HP := Lib.hid hP
  have HC := Lib.hid hcx
  have HCb : Hid (W0.cell? ⟨b, 2, none⟩ = some (.slice (some ⟨g, off, none⟩) n c)) := hc
  obtain ⟨pA, pn, pc, pg, pB, pm, pd, pC, pp, pf⟩ := P
  clear h hi B0 L0 hx hP hcx hc hn hil
  go_enter Tryz.func15, Tryz.ntmps15
  go_wp2_with fail
  refine HH.out.mono ?_
  rintro e w1 ⟨rfl, b1⟩
  have hB1 := HB0.out.trans (b1.mono HB0.out.size)
  have cb : w1.cell? ⟨b, 2, none⟩ = some (.slice (some ⟨g, off, none⟩) n c) := (b1.cell (p := ⟨b, 2, none⟩) hb).trans HCb.out
  have cx : ∀ j u, (NdP.cells ⟨pA, pn, pc, pg, pB, pm, pd, pC, pp, pf⟩ x)[j]? = some u → w1.cell? ⟨g, off + i * 7 + j, none⟩ = some u := fun j u hu => (b1.cell (p := ⟨g, off + i * 7 + j, none⟩) hg).trans (HC.out j u hu)
  have c0 := cx 0 _ rfl
  have c1 := cx 1 _ rfl
  have c2 := cx 2 _ rfl
  have c3 := cx 3 _ rfl
  have c4 := cx 4 _ rfl
  have c5 := cx 5 _ rfl
  have c6 := cx 6 _ rfl
  have hL1 : Lies w1 w.heap.size 50 #[.int .i64 0, .int .i64 0, .slice none 0 0, .string ⟨#[]⟩, .bool false, .slice none 0 0, .slice none 0 0] := (b1.block _ HL0.out.lt).trans HL0.out
  have HOw := Lib.hid (ownK w1 _ x (HP.out.below b1))
  have HB1 := Lib.hid hB1
  have HL1 := Lib.hid hL1
  simp only [Nat.add_zero] at c0
  clear HH b1 HB0 HL0 HP HC HCb hB1 hL1 cx hW0
  go_wp2_with fail
  refine HOw.out.mono ?_
  rintro e w2 ⟨⟨P', rfl, hP'⟩, b2⟩
  obtain ⟨qA, qn, qc, qg, qB, qm, qd, qC, qp, qf⟩ := P'
  have hL2 : Lies w2 w.heap.size 50 #[.int .i64 0, .int .i64 0, .slice none 0 0, .string ⟨#[]⟩, .bool false, .slice none 0 0, .slice none 0 0] := (b2.block _ HL1.out.lt).trans HL1.out
  obtain ⟨W4, hW4⟩ : ∃ W4, ((((((w2.setCell ⟨w.heap.size, 0, none⟩ (.int .i64 x.op)).setCell ⟨w.heap.size, 1, none⟩ (.int .i64 x.sort)).setCell ⟨w.heap.size, 2, none⟩ (.slice qA qn qc)).setCell ⟨w.heap.size, 3, none⟩ (.string x.name)).setCell ⟨w.heap.size, 4, none⟩ (.bool qg)).setCell ⟨w.heap.size, 5, none⟩ (.slice qB qm qd)).setCell ⟨w.heap.size, 6, none⟩ (.slice qC qp qf) = W4 := ⟨_, rfl⟩
  have hL4 : Lies W4 w.heap.size 50 #[.int .i64 x.op, .int .i64 x.sort, .slice qA qn qc, .string x.name, .bool qg, .slice qB qm qd, .slice qC qp qf] := by
    rw [← hW4]
    exact ((((((hL2.put 0 (.int .i64 x.op)).put 1 (.int .i64 x.sort)).put 2 (.slice qA qn qc)).put 3 (.string x.name)).put 4 (.bool qg)).put 5 (.slice qB qm qd)).put 6 (.slice qC qp qf)
  have T4 : Turn (fun k => k = w.heap.size) w2 W4 := by
    rw [← hW4]
    exact (((((((Turn.refl (fun k => k = w.heap.size) w2).put (p := ⟨w.heap.size, 0, none⟩) (.inl rfl) _).put (p := ⟨w.heap.size, 1, none⟩) (.inl rfl) _).put (p := ⟨w.heap.size, 2, none⟩) (.inl rfl) _).put (p := ⟨w.heap.size, 3, none⟩) (.inl rfl) _).put (p := ⟨w.heap.size, 4, none⟩) (.inl rfl) _).put (p := ⟨w.heap.size, 5, none⟩) (.inl rfl) _).put (p := ⟨w.heap.size, 6, none⟩) (.inl rfl) _
  have HE : Hid (NdAs W4 (fun _ => True) ⟨qA, qn, qc, qg, qB, qm, qd, qC, qp, qf⟩ x ∧ Below w.heap.size w W4) := by
    refine ⟨((hP'.turn T4 (fun k hk e => by have := HL1.out.lt; omega)).as_).mono (fun _ _ => trivial), ?_⟩
    exact ((Turn.of_below (F := fun k => w.heap.size ≤ k) (HB1.out.trans (b2.mono HB1.out.size))).trans T4 (fun k hk => .inl (by omega))).below (Nat.le_refl _) (fun _ h => h)
  have k0 : W4.cell? ⟨w.heap.size, 0, none⟩ = some (.int .i64 x.op) := by rw [hL4.cell]; rfl
  have k1 : W4.cell? ⟨w.heap.size, 1, none⟩ = some (.int .i64 x.sort) := by rw [hL4.cell]; rfl
  have k2 : W4.cell? ⟨w.heap.size, 2, none⟩ = some (.slice qA qn qc) := by rw [hL4.cell]; rfl
  have k3 : W4.cell? ⟨w.heap.size, 3, none⟩ = some (.string x.name) := by rw [hL4.cell]; rfl
  have k4 : W4.cell? ⟨w.heap.size, 4, none⟩ = some (.bool qg) := by rw [hL4.cell]; rfl
  have k5 : W4.cell? ⟨w.heap.size, 5, none⟩ = some (.slice qB qm qd) := by rw [hL4.cell]; rfl
  have k6 : W4.cell? ⟨w.heap.size, 6, none⟩ = some (.slice qC qp qf) := by rw [hL4.cell]; rfl
  have r0 := hL2.cell 0
  have r1 := hL2.cell 1
  have r2 := hL2.cell 2
  have r3 := hL2.cell 3
  have r4 := hL2.cell 4
  have r5 := hL2.cell 5
  have r6 := hL2.cell 6
  have y0 := hL2.free 0
  have y1 := hL2.free 1
  have y2 := hL2.free 2
  have y3 := hL2.free 3
  have y4 := hL2.free 4
  have y5 := hL2.free 5
  have y6 := hL2.free 6
  have ll := hL2.lt
  simp at r0 r1 r2 r3 r4 r5 r6
  clear HOw hP' b2 hL2 hL4 T4 HB1 HL1 c0 c1 c2 c3 c4 c5 c6 cb
  go_wp2
  exact bodyPost_ret (v := .tuple #[.agg #[.int .i64 x.op, .int .i64 x.sort, .slice qA qn qc, .string x.name, .bool qg, .slice qB qm qd, .slice qC qp qf], .bool true]) (by simp [results, Tryz.results15, go_sem, k0, k1, k2, k3, k4, k5, k6]) rfl ⟨⟨⟨qA, qn, qc, qg, qB, qm, qd, qC, qp, qf⟩, rfl, HE.out.1⟩, HE.out.2⟩
theorem katno9 (w : World) (b : Nat) (F : Nat → Prop) (l : List Nd) (i : Int) (h : Bk w b F l) (hi : i < 0 ∨ (l.length : Int) ≤ i) : Calls Tryz.prog 15 #[.pointer (some ⟨b, 0, none⟩), .int .i64 i] w fun e w' => e = .returned (.tuple #[.agg #[.int .i64 0, .int .i64 0, .slice none 0 0, .string ⟨#[]⟩, .bool false, .slice none 0 0, .slice none 0 0], .bool false]) ∧ Below w.heap.size w w' := by
  obtain ⟨W0, hW0⟩ : ∃ W0, w.alloc (.cells #[.int .i64 0, .int .i64 0, .slice none 0 0, .string ⟨#[]⟩, .bool false, .slice none 0 0, .slice none 0 0] 50) = W0 := ⟨_, rfl⟩
  have B0 : Below w.heap.size w W0 := by rw [← hW0]; exact (Below.refl _ w).alloc (Nat.le_refl _) _
  have L0 : Lies W0 w.heap.size 50 #[.int .i64 0, .int .i64 0, .slice none 0 0, .string ⟨#[]⟩, .bool false, .slice none 0 0, .slice none 0 0] := by rw [← hW0]; exact Lies.new w _ _
  have HH := Lib.hid (khas9 W0 b F l (h.below B0) i)
  rw [decide_eq_false (show ¬ (0 ≤ i ∧ i < (l.length : Int)) by omega)] at HH
  have HB0 := Lib.hid B0
  have HL0 := Lib.hid L0
  clear h hi B0 L0
  go_enter Tryz.func15, Tryz.ntmps15
  go_wp2_with fail
  refine HH.out.mono ?_
  rintro e w2 ⟨rfl, b2⟩
  have hL2 : Lies w2 w.heap.size 50 #[.int .i64 0, .int .i64 0, .slice none 0 0, .string ⟨#[]⟩, .bool false, .slice none 0 0, .slice none 0 0] := (b2.block _ HL0.out.lt).trans HL0.out
  obtain ⟨W4, hW4⟩ : ∃ W4, ((((((w2.setCell ⟨w.heap.size, 0, none⟩ (.int .i64 0)).setCell ⟨w.heap.size, 1, none⟩ (.int .i64 0)).setCell ⟨w.heap.size, 2, none⟩ (.slice none 0 0)).setCell ⟨w.heap.size, 3, none⟩ (.string ⟨#[]⟩)).setCell ⟨w.heap.size, 4, none⟩ (.bool false)).setCell ⟨w.heap.size, 5, none⟩ (.slice none 0 0)).setCell ⟨w.heap.size, 6, none⟩ (.slice none 0 0) = W4 := ⟨_, rfl⟩
  have hL4 : Lies W4 w.heap.size 50 #[.int .i64 0, .int .i64 0, .slice none 0 0, .string ⟨#[]⟩, .bool false, .slice none 0 0, .slice none 0 0] := by
    rw [← hW4]
    exact ((((((hL2.put 0 (.int .i64 0)).put 1 (.int .i64 0)).put 2 (.slice none 0 0)).put 3 (.string ⟨#[]⟩)).put 4 (.bool false)).put 5 (.slice none 0 0)).put 6 (.slice none 0 0)
  have T4 : Turn (fun k => k = w.heap.size) w2 W4 := by
    rw [← hW4]
    exact (((((((Turn.refl (fun k => k = w.heap.size) w2).put (p := ⟨w.heap.size, 0, none⟩) (.inl rfl) _).put (p := ⟨w.heap.size, 1, none⟩) (.inl rfl) _).put (p := ⟨w.heap.size, 2, none⟩) (.inl rfl) _).put (p := ⟨w.heap.size, 3, none⟩) (.inl rfl) _).put (p := ⟨w.heap.size, 4, none⟩) (.inl rfl) _).put (p := ⟨w.heap.size, 5, none⟩) (.inl rfl) _).put (p := ⟨w.heap.size, 6, none⟩) (.inl rfl) _
  have HE : Hid (Below w.heap.size w W4) :=
    ((Turn.of_below (F := fun k => w.heap.size ≤ k) (HB0.out.trans (b2.mono HB0.out.size))).trans T4 (fun k hk => .inl (by omega))).below (Nat.le_refl _) (fun _ h => h)
  have k0 : W4.cell? ⟨w.heap.size, 0, none⟩ = some (.int .i64 0) := by rw [hL4.cell]; rfl
  have k1 : W4.cell? ⟨w.heap.size, 1, none⟩ = some (.int .i64 0) := by rw [hL4.cell]; rfl
  have k2 : W4.cell? ⟨w.heap.size, 2, none⟩ = some (.slice none 0 0) := by rw [hL4.cell]; rfl
  have k3 : W4.cell? ⟨w.heap.size, 3, none⟩ = some (.string ⟨#[]⟩) := by rw [hL4.cell]; rfl
  have k4 : W4.cell? ⟨w.heap.size, 4, none⟩ = some (.bool false) := by rw [hL4.cell]; rfl
  have k5 : W4.cell? ⟨w.heap.size, 5, none⟩ = some (.slice none 0 0) := by rw [hL4.cell]; rfl
  have k6 : W4.cell? ⟨w.heap.size, 6, none⟩ = some (.slice none 0 0) := by rw [hL4.cell]; rfl
  have r0 := hL2.cell 0
  have r1 := hL2.cell 1
  have r2 := hL2.cell 2
  have r3 := hL2.cell 3
  have r4 := hL2.cell 4
  have r5 := hL2.cell 5
  have r6 := hL2.cell 6
  have y0 := hL2.free 0
  have y1 := hL2.free 1
  have y2 := hL2.free 2
  have y3 := hL2.free 3
  have y4 := hL2.free 4
  have y5 := hL2.free 5
  have y6 := hL2.free 6
  have ll := hL2.lt
  simp at r0 r1 r2 r3 r4 r5 r6
  clear HH b2 hL2 hL4 T4 HB0 HL0 hW0
  go_wp2
  exact bodyPost_ret (v := .tuple #[.agg #[.int .i64 0, .int .i64 0, .slice none 0 0, .string ⟨#[]⟩, .bool false, .slice none 0 0, .slice none 0 0], .bool false]) (by simp [results, Tryz.results15, go_sem, k0, k1, k2, k3, k4, k5, k6]) rfl ⟨rfl, HE.out⟩
end Go.Proofs.YtcgaeknikfaghaaGreatDoor
