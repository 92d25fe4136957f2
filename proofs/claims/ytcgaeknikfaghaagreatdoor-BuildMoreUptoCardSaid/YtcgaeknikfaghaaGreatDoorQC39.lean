/- What the proofs of this claim use, text by text. -/
import Derived.Test.YtcgaeknikfaghaaGreatDoorQC38
set_option linter.unusedSimpArgs false
set_option linter.unusedVariables false
set_option maxRecDepth 100000
set_option maxHeartbeats 25600000
namespace Go.Proofs.YtcgaeknikfaghaaGreatDoor
open Go.RowKit
theorem Mk.Begin.below {w0 w w' : World} {b : Nat} {F : Nat → Prop} {N : List Nd} {A : Option Addr} {n c : Nat} {L : List (DcP × Dc)} (h : Mk.Begin w0 w b F N A n c L) (hb : Below w.heap.size w w') : Mk.Begin w0 w' b F N A n c L :=
  ⟨h.base.trans (hb.mono h.base.size), h.T, h.K, h.bk.below hb, h.low, h.dc.turn (Turn.of_below (F := fun _ => False) hb) fun k _ hk => ⟨id, hk⟩, h.few, h.ok⟩
theorem Mk.Begin.next {w0 w w' : World} {b : Nat} {F F' : Nat → Prop} {N N' : List Nd} {A : Option Addr} {n c : Nat} {L : List (DcP × Dc)} (h : Mk.Begin w0 w b F N A n c L) (hB : Bk w' b F' N') (hT : Turn F w w') (hF : ∀ k, F' k → F k ∨ w.heap.size ≤ k) : Mk.Begin w0 w' b F' N' A n c L :=
  ⟨h.base.trans (hT.below h.base.size h.low), h.T, h.K, hB, fun k hk => (hF k hk).elim (h.low k) fun e => Nat.le_trans h.base.size e, h.dc.turn hT fun k hlt hk => ⟨hk, fun e => (hF k e).elim hk fun e2 => by omega⟩, h.few, h.ok⟩
theorem Sx.Fine.of : ∀ (k : Nat) (x : Sx), x.size ≤ k → x.size ≤ 1000 → x.wide ≤ 1048576 → Sx.Fine x
  | 0, x, h, _, _ => absurd h (by have := x.size_pos; omega)
  | k + 1, x, h, h2, h3 => by
    have hw := x.wide_eq
    refine .mk x (by omega) (by have := x.size_eq; have := Sx.sizes_length x.L; omega) fun y hy => ?_
    have h4 := Sx.size_lt hy
    have h5 := Sx.wide_mem hy
    exact Sx.Fine.of k y (by omega) (by omega) (by omega)
theorem Mk.room_sum (D : List Dc) : ∀ k, k ≤ D.length → Mk.room D k = Bd.sizes (D.take k) + k
  | 0, _ => by rw [Mk.room]; simp [Bd.sizes]
  | k + 1, h => by
    have hd : D[k]? = some D[k] := List.getElem?_eq_getElem h
    rw [Mk.room, Mk.room_sum D k (by omega), Bd.sizes_take hd, hd]
    simp only [Option.map_some, Option.getD_some]
    omega
theorem Bd.cnt_macs (D : List Dc) : ∀ k, k ≤ D.length → Bd.cnt D (fun _ => true) k = Bd.macs (D.take k)
  | 0, _ => by rw [Bd.cnt]; rfl
  | k + 1, h => by
    have hd : D[k]? = some D[k] := List.getElem?_eq_getElem h
    rw [Bd.cnt, Bd.cnt_macs D k (by omega), Bd.macs_take hd]
    unfold Bd.arity
    rw [hd]
    simp only
    cases D[k].mac <;> simp
theorem Bd.Few.ok {D : List Dc} {x : Sx} (h : Bd.Few D x) (hB : ∀ d ∈ D, DcB 1048576 d) : Mk.DOk D ∧ ∀ k, k ≤ D.length → Mk.room D k ≤ 660 := by
  have hs : ∀ (j : Nat) d, D[j]? = some d → d.body.size ≤ 600 := fun j d hd => by
    have h1 := h.sizes
    have h2 := List.getElem?_eq_some_iff.1 hd
    have h3 := Bd.sizes_take hd
    have h4 : Bd.sizes (D.take (j + 1)) ≤ Bd.sizes D := by
      conv => rhs; rw [← List.take_append_drop (j + 1) D]
      unfold Bd.sizes
      rw [List.map_append, List.sum_append]
      omega
    omega
  refine ⟨⟨fun j d hd => ⟨h.par d (List.mem_of_getElem? hd), (hB d (List.mem_of_getElem? hd)).par⟩, fun j d hd => Sx.Fine.of d.body.size d.body (Nat.le_refl _) (by have := hs j d hd; omega) (hB d (List.mem_of_getElem? hd)).wide, fun d hd => (hB d hd).name, ?_⟩, fun k hk => ?_⟩
  · rw [Bd.cnt_macs D _ (Nat.le_refl _), List.take_length]
    exact h.macs
  · rw [Mk.room_sum D k hk]
    have h1 := h.sizes
    have h2 := h.n
    have h4 : Bd.sizes (D.take k) ≤ Bd.sizes D := by
      conv => rhs; rw [← List.take_append_drop k D]
      unfold Bd.sizes
      rw [List.map_append, List.sum_append]
      omega
    omega
theorem awD_ok : Mk.DOk awD := ⟨fun j d hd => by
    have := List.mem_of_getElem? hd
    rw [List.mem_singleton.1 this]
    exact ⟨by decide, fun _ hp => (List.not_mem_nil hp).elim⟩, fun j d hd => by
    have := List.mem_of_getElem? hd
    rw [List.mem_singleton.1 this]
    exact .mk _ (by decide) (by decide) fun _ hy => (List.not_mem_nil hy).elim, fun d hd => by rw [List.mem_singleton.1 hd]; decide, by decide⟩
theorem awX_fine {x : Sx} (h : x.size ≤ 1000) (h2 : x.wide ≤ 1048576) : Sx.Fine x := Sx.Fine.of _ x (Nat.le_refl _) h h2
theorem awX1_s : awX1.size ≤ 600 ∧ awX1.wide ≤ 1048576 := ⟨by simp [Sx.size, Sx.sizes], by decide +kernel⟩
theorem awX2_s : awX2.size ≤ 600 ∧ awX2.wide ≤ 1048576 := ⟨by simp [Sx.size, Sx.sizes], by decide +kernel⟩
theorem awX3_s : awX3.size ≤ 600 ∧ awX3.wide ≤ 1048576 := ⟨by simp [Sx.size, Sx.sizes], by decide +kernel⟩
theorem awD_room : Mk.room awD 1 ≤ 100 := by decide +kernel
theorem awN_inv : Tm.Inv awN := by
  have h := (Bd.good awD 1 awX1 [] [] Tm.Inv.nil (fun _ h => (List.not_mem_nil h).elim)).1.1
  simp only [awX1_tm] at h
  exact h
abbrev awL : List (DcP × Dc) := [(⟨none, 0, none, 0⟩, ⟨⟨#[120]⟩, 2, false, [], Sx.zero⟩)]
theorem kawake10 (w : World) (hT : Pow9 w) (hK : Ask9 w) (hG : Gl w) :
    Calls Tryz.prog 10 #[] w fun e w' => e = .returned (.bool true) ∧ Below w.heap.size w w' := by
  obtain ⟨W1, hW1⟩ : ∃ W1, w.alloc (.cells Z9 37) = W1 := ⟨_, rfl⟩
  obtain ⟨W2, hW2⟩ : ∃ W2, W1.alloc (.cells #[.string ⟨#[120]⟩, .int .i64 2, .bool false, .slice none 0 0, .bool false, .int .i64 0, .string ⟨#[]⟩, .int .i64 0, .int .i64 0, .slice none 0 0] 56) = W2 := ⟨_, rfl⟩
  have hs1 : W1.heap.size = w.heap.size + 1 := by rw [← hW1]; simp
  have hs2 : W2.heap.size = w.heap.size + 2 := by rw [← hW2]; simp; omega
  have hB1 : Below w.heap.size w W1 := by rw [← hW1]; exact (Below.refl _ w).alloc (Nat.le_refl _) _
  have hB2 : Below W1.heap.size W1 W2 := by rw [← hW2]; exact (Below.refl _ _).alloc (Nat.le_refl _) _
  have hB02 := hB1.trans (hB2.mono hB1.size)
  have hbk : Bk W2 w.heap.size (fun k => k = w.heap.size) [] := by
    have := knew9 w
    rw [hW1] at this
    exact this.below hB2
  have hLd : Lies W2 W1.heap.size 56 #[.string ⟨#[120]⟩, .int .i64 2, .bool false, .slice none 0 0, .bool false, .int .i64 0, .string ⟨#[]⟩, .int .i64 0, .int .i64 0, .slice none 0 0] := by
    have := Lies.new W1 56 #[.string ⟨#[120]⟩, .int .i64 2, .bool false, .slice none 0 0, .bool false, .int .i64 0, .string ⟨#[]⟩, .int .i64 0, .int .i64 0, .slice none 0 0]
    rw [hW2] at this
    exact this
  have hdc : DcS W2 (fun k => ¬ k = w.heap.size) (some ⟨W1.heap.size, 0, none⟩) 1 1 awL := by
    refine ⟨rfl, (fun e => by cases e), fun _ => ⟨W1.heap.size, 0, rfl, by omega, by omega, fun i q hq => ?_⟩⟩
    have hi : i = 0 := by
      have := (List.getElem?_eq_some_iff.1 hq).1
      simpa using this
    subst hi
    obtain rfl : q = (⟨none, 0, none, 0⟩, ⟨⟨#[120]⟩, 2, false, [], Sx.zero⟩) := by simpa using hq.symm
    refine ⟨fun j u hu => ?_, ⟨⟨fun h => absurd h (by decide)⟩, ⟨⟨Nat.le_refl _, Nat.zero_le _⟩, .nil _⟩⟩⟩
    rw [Nat.zero_mul, Nat.add_zero, Nat.zero_add, hLd.cell, ← Array.getElem?_toList]
    exact hu
  have hBeg : Mk.Begin w W2 w.heap.size (fun k => k = w.heap.size) [] (some ⟨W1.heap.size, 0, none⟩) 1 1 awL := ⟨hB02, hT, hK, hbk, fun k hk => by omega, hdc, by decide, awD_ok⟩
  have HBeg := Lib.hid hBeg
  have HGl := Lib.hid hG
  have HR1 := Lib.hid (kRead10 W2 awS1 awX1 (by decide) awS1_read)
  have HR := Lib.hid fun (W : World) (s : ByteArray) (x : Sx) (hs : s.size ≤ 4000000) (h : ReadOf s [⟨x, 0, 0⟩]) => kRead10 W s x hs h
  have HTm : Hid (∀ (W : World) (F : Nat → Prop) (N : List Nd) (x : Sx) (xA : Option Addr) (xc : Nat), Mk.Begin w W w.heap.size F N (some ⟨W1.heap.size, 0, none⟩) 1 1 awL → Tm.Inv N → N.length ≤ 20000 → STree W (fun k _ => ¬ F k) x xA xc → x.size ≤ 600 → x.wide ≤ 1048576 →
      Calls Tryz.prog 12 #[.pointer (some ⟨w.heap.size, 0, none⟩), .slice (some ⟨W1.heap.size, 0, none⟩) 1 1, sval x xA xc] W fun e w' => BAns W w.heap.size F (Bd.tm awD 1 [] N x) e w') := fun W F N x xA xc h1 h2 h3 h4 h5 h6 =>
    kTerm w W w.heap.size F N _ 1 1 awL x xA xc h1 hG h2 h3 h4 (awX_fine (by omega) h6) (by have := awD_room; show x.size + Mk.room awD 1 ≤ _; omega)
  clear hBeg hdc hLd hbk hB02 hB2 hB1 hs1 hs2 hT hK hG
  go_enter Tryz.func10, Tryz.ntmps10
  go_wp2_with fail
  have hbw := HBeg.out.bk.lt
  refine HR1.out.mono ?_
  rintro e w3 ⟨⟨A1, c1, rfl, hx⟩, b3⟩
  have hb3 := HBeg.out.below b3
  have HT1 := Lib.hid (HTm.out w3 _ [] awX1 A1 c1 hb3 Tm.Inv.nil (by decide) ⟨hx.le, hx.tree.mono fun k _ _ hk e => by have := hbw k e; omega⟩ awX1_s.1 awX1_s.2)
  rw [awX1_tm] at HT1
  have HB3 := Lib.hid hb3
  clear hb3 hx b3 HR1 hbw HBeg
  go_wp2_with fail
  refine HT1.out.mono ?_
  rintro e w4 ⟨rfl, F4, k4, t4, f4⟩
  have HB4 := Lib.hid (HB3.out.next k4 t4 f4)
  clear HT1 HB3 k4 t4 f4
  go_wp2_with fail
  refine (HR.out w4 awS2 awX2 (by decide) awS2_read).mono ?_
  rintro e w5 ⟨⟨A2, c2, rfl, hx⟩, b5⟩
  have hb5 := HB4.out.below b5
  have HT2 := Lib.hid (HTm.out w5 _ awN awX2 A2 c2 hb5 awN_inv (by decide) ⟨hx.le, hx.tree.mono fun k _ _ hk e => by have := HB4.out.bk.lt k e; omega⟩ awX2_s.1 awX2_s.2)
  rw [awX2_tm] at HT2
  have HB5 := Lib.hid hb5
  clear hb5 hx b5 HB4
  go_wp2_with fail
  refine HT2.out.mono ?_
  rintro e w6 ⟨rfl, F6, k6, t6, f6⟩
  have HB6 := Lib.hid (HB5.out.next k6 t6 f6)
  clear HT2 HB5 k6 t6 f6
  go_wp2_with fail
  refine (HR.out w6 awS3 awX3 (by decide) awS3_read).mono ?_
  rintro e w7 ⟨⟨A3, c3, rfl, hx⟩, b7⟩
  have hb7 := HB6.out.below b7
  have HT3 := Lib.hid (HTm.out w7 _ awN awX3 A3 c3 hb7 awN_inv (by decide) ⟨hx.le, hx.tree.mono fun k _ _ hk e => by have := HB6.out.bk.lt k e; omega⟩ awX3_s.1 awX3_s.2)
  rw [awX3_tm] at HT3
  have HB7 := Lib.hid hb7
  clear hb7 hx b7 HB6
  go_wp2_with fail
  refine HT3.out.mono ?_
  rintro e w8 ⟨rfl, F8, k8, t8, f8⟩
  have hb8 := HB7.out.next k8 t8 f8
  have HAt := Lib.hid (kat9 w8 w.heap.size F8 awN 4 aw_m hb8.bk rfl)
  have HB8 := Lib.hid hb8.base
  clear HT3 HB7 k8 t8 f8 hb8 HTm
  go_wp2_with fail
  refine HAt.out.mono ?_
  rintro e w9 ⟨⟨P, rfl, _⟩, b9⟩
  have HB9 := Lib.hid (HB8.out.trans (b9.mono HB8.out.size))
  clear HAt b9 HB8
  obtain ⟨W10, hW10⟩ : ∃ W10, w9.alloc (.cells #[.int .i64 17, .int .i64 2, .slice P.A P.n P.c, .string ByteArray.empty, .bool P.g, .slice P.B P.m P.d, .slice P.C P.p P.f] 50) = W10 := ⟨_, rfl⟩
  have hB10 : Below w.heap.size w W10 := by rw [← hW10]; exact HB9.out.alloc HB9.out.size _
  have hl10 : Lies W10 w9.heap.size 50 #[.int .i64 17, .int .i64 2, .slice P.A P.n P.c, .string ByteArray.empty, .bool P.g, .slice P.B P.m P.d, .slice P.C P.p P.f] := by rw [← hW10]; exact Lies.new w9 _ _
  have HB10 := Lib.hid hB10
  have HL10 := Lib.hid hl10
  have HR4 := Lib.hid (HR.out W10 awS4 awX4 (by decide) awS4_read)
  have HSo := Lib.hid fun (W : World) (A : Option Addr) (c : Nat) => ksort10 W awX4 A c
  have HRl : Hid (∀ W, Calls Tryz.prog 21 #[.string ⟨#[108, 101, 116]⟩] W fun e w' => e = .returned (.bool true) ∧ w' = W) := fun W => by
    have := kreserved ⟨#[108, 101, 116]⟩ W
    rwa [show Bd.reserved (⟨#[108, 101, 116]⟩ : ByteArray).data.toList = true by decide] at this
  have HRx : Hid (∀ W, Calls Tryz.prog 21 #[.string ⟨#[120]⟩] W fun e w' => e = .returned (.bool false) ∧ w' = W) := fun W => by
    have := kreserved ⟨#[120]⟩ W
    rwa [show Bd.reserved (⟨#[120]⟩ : ByteArray).data.toList = false by decide] at this
  clear HB9 hB10 hl10 HR HGl
  go_wp2_with fail
  refine HR4.out.mono ?_
  rintro e w11 ⟨⟨A4, c4, rfl, _⟩, b11⟩
  have HS4 := Lib.hid (HSo.out w11 A4 c4)
  rw [show Bd.sort awX4 = (3, 0) by decide] at HS4
  have HB11 := Lib.hid b11
  clear HR4 HSo b11
  go_wp2_with fail
  refine HS4.out.mono ?_
  rintro e w12 ⟨rfl, b12⟩
  have hl12 := ((HB11.out.trans (b12.mono HB11.out.size)).block _ HL10.out.lt).trans HL10.out
  have c12 : w12.cell? ⟨w9.heap.size, 0, none⟩ = some (.int .i64 17) := by rw [Lies.cell (t := 50) (cs := #[.int .i64 17, .int .i64 2, .slice P.A P.n P.c, .string ByteArray.empty, .bool P.g, .slice P.B P.m P.d, .slice P.C P.p P.f]) hl12]; rfl
  have HE := Lib.hid (HB10.out.trans ((HB11.out.trans (b12.mono HB11.out.size)).mono HB10.out.size))
  clear HS4 HB11 HB10 HL10 b12 hl12
  go_wp2_with (go_at_call 21; (first | (with_reducible refine (HRl.out _).mono ?_) | (with_reducible refine (HRx.out _).mono ?_)); rintro e w13 ⟨rfl, rfl⟩)
  go_ret
  exact ⟨rfl, HE.out⟩
structure Came (w : World) (A : Option Addr) (n c : Nat) (L : List (DcP × Dc)) (x : Sx) (xA : Option Addr) (xc : Nat) : Prop where
  dc : DcS w (fun _ => True) A n c L
  n : n ≤ 1048576
  dcs : ∀ q ∈ L, DcB 1048576 q.2
  tree : STree w AnyP x xA xc
  size : x.size ≤ 1048576
  wide : x.wide ≤ 1048576
theorem Came.below {w w' : World} {A : Option Addr} {n c : Nat} {L : List (DcP × Dc)} {x : Sx} {xA : Option Addr} {xc : Nat} (h : Came w A n c L x xA xc) (hb : Below w.heap.size w w') : Came w' A n c L x xA xc :=
  ⟨h.dc.turn (Turn.of_below (F := fun _ => False) hb) fun _ _ _ => ⟨id, trivial⟩, h.n, h.dcs, h.tree.kept hb, h.size, h.wide⟩
theorem Came.few {w : World} {A : Option Addr} {n c : Nat} {L : List (DcP × Dc)} {x : Sx} {xA : Option Addr} {xc : Nat} (h : Came w A n c L x xA xc) :
    Calls Tryz.prog 11 #[.slice A n c, sval x xA xc] w fun e w' => FewSaid (L.map (·.2)) x e ∧ Below w.heap.size w w' :=
  kfew10 w A n c L x xA xc h.dc h.tree (by have := h.n; omega) (by have := h.size; omega) fun q hq => by have := (h.dcs q hq).size; omega
theorem Came.begin {w W : World} {A : Option Addr} {n c : Nat} {L : List (DcP × Dc)} {x : Sx} {xA : Option Addr} {xc : Nat} (h : Came w A n c L x xA xc) (hf : Bd.Few (L.map (·.2)) x) (hT : Pow9 w) (hK : Ask9 w) (hb : Below w.heap.size w W) :
    Mk.Begin w (W.alloc (.cells Z9 37)) W.heap.size (fun k => k = W.heap.size) [] A n c L := by
  have hB : Below w.heap.size w (W.alloc (.cells Z9 37)) := hb.alloc hb.size _
  refine ⟨hB, hT, hK, knew9 W, fun k hk => by rw [hk]; exact hb.size, h.dc.turn (Turn.of_below (F := fun _ => False) hB) fun k hk _ => ⟨id, fun e => by have := hb.size; omega⟩, ?_, (hf.ok fun d hd => ?_).1⟩
  · have := hf.n
    rw [List.length_map, h.dc.len] at this
    omega
  · obtain ⟨q, hq, rfl⟩ := List.mem_map.1 hd
    exact h.dcs q hq
theorem Came.term {w W : World} {b : Nat} {F : Nat → Prop} {N : List Nd} {A : Option Addr} {n c : Nat} {L : List (DcP × Dc)} {x : Sx} {xA : Option Addr} {xc : Nat} (h : Came w A n c L x xA xc) (hf : Bd.Few (L.map (·.2)) x) (hG : Gl w) (hB : Mk.Begin w W b F N A n c L) (hI : Tm.Inv N) (hN : N.length ≤ 20000) :
    Calls Tryz.prog 12 #[.pointer (some ⟨b, 0, none⟩), .slice A n c, sval x xA xc] W fun e w' => BAns W b F (Bd.tm (L.map (·.2)) n [] N x) e w' := by
  refine kTerm w W b F N A n c L x xA xc hB hG hI hN ⟨h.tree.le, h.tree.tree.imp hB.base.size (fun b off hlt _ j _ => hB.base.cell (p := ⟨b, off + j, none⟩) hlt) fun b off hlt _ e => by have := hB.low b e; omega⟩ (Sx.Fine.of _ x (Nat.le_refl _) (by have := hf.size; omega) h.wide) ?_
  have hn : n = (L.map (·.2)).length := by rw [List.length_map, h.dc.len]
  have := (hf.ok fun d hd => by
    obtain ⟨q, hq, rfl⟩ := List.mem_map.1 hd
    exact h.dcs q hq).2 n (by omega)
  have := hf.size
  omega
theorem DcB.mono {B C : Nat} {d : Dc} (h : DcB B d) (hB : B ≤ C) : DcB C d := ⟨Nat.le_trans h.name hB, fun p hp => Nat.le_trans (h.par p hp) hB, Nat.le_trans h.size hB, Nat.le_trans h.wide hB⟩
theorem Came.opened {W : World} {A : Option Addr} {n c : Nat} {L : List (DcP × Dc)} {x : Sx} {xA : Option Addr} {xc : Nat} {B C : Nat} (h : DcS W (fun _ => True) A n c L ∧ n ≤ c ∧ c ≤ maxLen ∧ n ≤ B ∧ ∀ q ∈ L, DcB B q.2) (hx : STree W AnyP x xA xc ∧ x.size ≤ C ∧ x.wide ≤ C) (hk : B + C ≤ 1048576) : Came W A n c L x xA xc :=
  ⟨h.1, by have := h.2.2.2.1; omega, fun q hq => (h.2.2.2.2 q hq).mono (by omega), hx.1, by have := hx.2.1; omega, by have := hx.2.2; omega⟩
abbrev XCells (W : World) (k : Nat) (x : Sx) (xA : Option Addr) (xc : Nat) : Prop := W.cell? ⟨k, 0, none⟩ = some (.bool x.list) ∧ W.cell? ⟨k, 1, none⟩ = some (.int .i64 x.k) ∧ W.cell? ⟨k, 2, none⟩ = some (.string x.T) ∧ W.cell? ⟨k, 3, none⟩ = some (.int .i64 x.ta) ∧ W.cell? ⟨k, 4, none⟩ = some (.int .i64 x.at_) ∧ W.cell? ⟨k, 5, none⟩ = some (.slice xA x.L.length xc)
theorem xbox (w : World) (x : Sx) (xA : Option Addr) (xc : Nat) {W : World} (h : Below (w.alloc (sbox x xA xc)).heap.size (w.alloc (sbox x xA xc)) W) : XCells W w.heap.size x xA xc := by
  obtain ⟨_, b0, b1, b2, b3, b4, b5⟩ := (sbox_at w x xA xc).below h
  exact ⟨b0, b1, b2, b3, b4, b5⟩
theorem buildTwice_walk (w : World) (A : Option Addr) (n c : Nat) (L : List (DcP × Dc)) (x : Sx) (xA : Option Addr) (xc : Nat) (h : Came w A n c L x xA xc) (hT : Pow9 w) (hK : Ask9 w) (hG : Gl w) :
    Calls Tryz.prog 6 #[.slice A n c, sval x xA xc] w fun e w' => e = .returned (.bool true) ∧ Below w.heap.size w w' := by
  obtain ⟨W0, hW0⟩ : ∃ W0, w.alloc (sbox x xA xc) = W0 := ⟨_, rfl⟩
  have hB0 : Below w.heap.size w W0 := by rw [← hW0]; exact (Below.refl _ w).alloc (Nat.le_refl _) _
  have HBox : Hid (∀ W, Below W0.heap.size W0 W → XCells W w.heap.size x xA xc) := fun W hW => xbox w x xA xc (by rw [hW0]; exact hW)
  have h0 := h.below hB0
  have hT0 := hT.on hB0
  have hK0 := hK.below hB0
  have hG0 := hG.below hB0
  have HA := Lib.hid (kawake10 W0 hT0 hK0 hG0)
  have HF := Lib.hid fun (W : World) (hW : Below W0.heap.size W0 W) => (h0.below hW).few
  have HBeg := Lib.hid fun (hf : Bd.Few (L.map (·.2)) x) (W : World) (hW : Below W0.heap.size W0 W) => h0.begin hf hT0 hK0 hW
  have HTm := Lib.hid fun (hf : Bd.Few (L.map (·.2)) x) (W : World) (b : Nat) (F : Nat → Prop) (N : List Nd) (hB : Mk.Begin W0 W b F N A n c L) (hI : Tm.Inv N) (hN : N.length ≤ 20000) => h0.term hf hG0 hB hI hN
  have HB0 := Lib.hid hB0
  have HSt := Lib.hid (Bd.good (L.map (·.2)) n x [] [] Tm.Inv.nil (fun _ h => (List.not_mem_nil h).elim))
  have HAg := Lib.hid (Bd.again (L.map (·.2)) n [] [] x Tm.Inv.nil (fun _ h => (List.not_mem_nil h).elim))
  have HLe := Lib.hid (Bd.tm_len (L.map (·.2)) n x [] [] (Nat.zero_le _))
  obtain ⟨_, b0, b1, b2, b3, b4, b5⟩ := (sbox_at w x xA xc)
  rw [hW0] at b0 b1 b2 b3 b4 b5
  simp only [Nat.zero_add] at b0 b1 b2 b3 b4 b5
  clear h h0 hT hK hG hT0 hK0 hG0 hB0
  obtain ⟨D, hD⟩ : ∃ D, L.map (·.2) = D := ⟨_, rfl⟩
  rw [hD] at HF HBeg HTm HSt HAg HLe
  clear hD
  obtain ⟨xl, xk, xT, xta, xa, xL⟩ := x
  unfold sval
  simp only at b0 b1 b2 b3 b4 b5 ⊢
  obtain ⟨xn, hxn⟩ : ∃ xn, xL.length = xn := ⟨_, rfl⟩
  rw [hxn] at b5 ⊢
  have hW0' : w.alloc (.cells #[.bool xl, .int .i64 xk, .string xT, .int .i64 xta, .int .i64 xa, .slice xA xn xc] 27) = W0 := by rw [← hW0, ← hxn]
  have HXn := Lib.hid hxn
  clear hW0 hxn
  go_enter Tryz.func6, Tryz.ntmps6
  go_wp2_with fail
  refine HA.out.mono ?_
  rintro e w1 ⟨rfl, b1'⟩
  have HB1 := Lib.hid b1'
  clear HA b1' b0 b1 b2 b3 b4 b5 hW0'
  obtain ⟨c0, c1, c2, c3, c4, c5⟩ := HBox.out w1 HB1.out
  simp only [HXn.out] at c0 c1 c2 c3 c4 c5
  have HF1 := Lib.hid (HF.out w1 HB1.out)
  unfold sval at HF1
  simp only [HXn.out] at HF1
  clear HF
  go_wp2_with fail
  refine HF1.out.mono ?_
  rintro e w2 ⟨⟨bb, rfl, hb⟩, b2'⟩
  have HB2 := Lib.hid (HB1.out.trans (b2'.mono HB1.out.size))
  clear HF1 HB1 b2' c0 c1 c2 c3 c4 c5
  cases bb with
  | false =>
    have HE := Lib.hid (HB0.out.trans (HB2.out.mono HB0.out.size))
    clear HBeg HTm HSt HAg HLe HBox HB0 HB2 hb
    go_wp2
    go_ret
    exact ⟨rfl, HE.out⟩
  | true =>
    have hf := hb rfl
    have HB := Lib.hid (HBeg.out hf w2 HB2.out)
    have HT := Lib.hid (HTm.out hf)
    obtain ⟨W3, hW3⟩ : ∃ W3, w2.alloc (.cells Z9 37) = W3 := ⟨_, rfl⟩
    rw [hW3] at HB
    obtain ⟨c0, c1, c2, c3, c4, c5⟩ := HBox.out W3 HB.out.base
    simp only [HXn.out] at c0 c1 c2 c3 c4 c5
    have HT1 := Lib.hid (HT.out W3 w2.heap.size _ [] HB.out Tm.Inv.nil (Nat.zero_le _))
    unfold sval at HT1
    simp only [HXn.out] at HT1
    obtain ⟨T, hTT⟩ : ∃ T, Bd.tm D n [] [] ⟨xl, xk, xT, xta, xa, xL⟩ = T := ⟨_, rfl⟩
    rw [hTT] at HT1 HSt HAg HLe
    obtain ⟨N1, idz, er⟩ := T
    simp only at HAg HLe
    obtain ⟨⟨hI1, _⟩, hok⟩ := HSt.out
    simp only [hTT] at hI1
    have HI1 : Hid (Tm.Inv N1) := hI1
    have HOk : Hid ((er = 0 → 0 ≤ idz ∧ idz < (N1.length : Int)) ∧ (er ≠ 0 → idz = 0)) := hok
    clear HBeg HTm hf hb hTT hI1 hok HSt HB2
    go_wp2_with fail
    refine HT1.out.mono ?_
    rintro e w4 ⟨rfl, F4, k4, t4, f4⟩
    have hb4 := HB.out.next k4 t4 f4
    have HLn := Lib.hid (klen9 w4 w2.heap.size F4 N1 hb4.bk)
    have HB4 := Lib.hid hb4
    clear HT1 HB k4 t4 f4 hb4 c0 c1 c2 c3 c4 c5
    simp only at HLn ⊢
    go_wp2_with fail
    refine HLn.out.mono ?_
    rintro e w5 ⟨rfl, b5'⟩
    have hb5 := HB4.out.below b5'
    have HT2 := Lib.hid (HT.out w5 w2.heap.size F4 N1 hb5 HI1.out HLe.out)
    rw [HAg.out] at HT2
    unfold sval at HT2
    simp only [HXn.out] at HT2
    obtain ⟨c0, c1, c2, c3, c4, c5⟩ := HBox.out w5 hb5.base
    simp only [HXn.out] at c0 c1 c2 c3 c4 c5
    have HB5 := Lib.hid hb5
    clear HLn HB4 b5' hb5 HT HAg HLe HI1
    go_wp2_with fail
    refine HT2.out.mono ?_
    rintro e w6 ⟨rfl, F6, k6, t6, f6⟩
    have hb6 := HB5.out.next k6 t6 f6
    have HLn := Lib.hid (klen9 w6 w2.heap.size F6 N1 hb6.bk)
    have HB6 := Lib.hid (HB0.out.trans (hb6.base.mono HB0.out.size))
    have HZ : Hid (w.heap.size ≤ w6.heap.size) := HB6.out.size
    clear HT2 HB5 k6 t6 f6 hb6 c0 c1 c2 c3 c4 c5 HB0 HBox
    simp only at HLn ⊢
    by_cases he : er = 0
    · subst he
      obtain ⟨h1, h2⟩ := HOk.out.1 rfl
      obtain ⟨m, hm⟩ : ∃ m, N1.length = m := ⟨_, rfl⟩
      rw [hm] at HLn h2 ⊢
      clear HOk hm
      go_wp2_with fail
      refine HLn.out.mono ?_
      rintro e w7 ⟨rfl, b7⟩
      have HE := Lib.hid (HB6.out.trans (b7.mono HZ.out))
      clear HLn b7 HB6 HZ
      go_wp2
      go_ret
      exact ⟨rfl, HE.out⟩
    · obtain rfl := HOk.out.2 he
      have d1 : (er != 0) = true := by simpa using he
      clear HOk HLn he
      go_wp2
      go_ret
      exact ⟨rfl, HB6.out⟩
end Go.Proofs.YtcgaeknikfaghaaGreatDoor
