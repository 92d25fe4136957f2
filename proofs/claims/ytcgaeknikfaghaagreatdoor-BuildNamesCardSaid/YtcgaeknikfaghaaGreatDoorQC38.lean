/- What the proofs of this claim use, text by text. -/
import Derived.Test.YtcgaeknikfaghaaGreatDoorQC36
import Derived.Test.YtcgaeknikfaghaaGreatDoorQC37
import Derived.Deep.LoopGhost
set_option linter.unusedSimpArgs false
set_option linter.unusedVariables false
set_option maxRecDepth 100000
set_option maxHeartbeats 25600000
namespace Go.Proofs.YtcgaeknikfaghaaGreatDoor
open Go.RowKit
theorem NumS.of_own {w : World} {A : Option Addr} {n c : Nat} {l : List Int} (h : w.ownsRow 0 3 1 (.slice A n c) n (i64s l)) (hl : l.length = n) : NumS w A n l :=
  ⟨hl, fun hn => by
    rcases h.2 with ⟨_, e⟩ | ⟨g, cap, cur, e, _, hg, _⟩
    · omega
    · injection e with e1 _ _
      refine ⟨g, 0, e1, (Array.getElem?_eq_some_iff.1 hg).1, fun i x hx => ?_⟩
      have := h.cells (g := g) (by rw [e1]; rfl) i (.int .i64 x) (by rw [List.getElem?_map, hx]; rfl)
      simpa [addr_add] using this⟩
theorem cut_fr {A : Option Addr} {n c k : Nat} (W : World) (hA : A.map (·.add 0) = A) (hk : k ≤ c) : (Instr.slice 122 (.slice A n c) none (some (.int .i64 (k : Nat))) none).run Tryz.prog W = .ok (.slice A k c) W := by
  have hz : (sizeOf (Tryz.prog.elem 122)).run Tryz.prog W = .ok 5 W := by kernel_rfl
  rw [run_slice_h W 122 A n c (by kernel_rfl) .i64 (k : Nat) (by omega) (by omega), hz]
  simp only [Result.andThen, sliced]
  have e : (if c = 0 then A else A.map (·.add (0 * 5))) = A := by
    split
    · rfl
    · rw [Nat.zero_mul]; exact hA
  rw [e]
  simp
theorem kthen (E : Mk.Env) (hE : E.Ok) (hD : Mk.DOk E.D) (w : World) (M : Nat) (Y : Mk.Lay) (s : Ms) (bs : List Fr) (g f : Fr) (v : Value) (A : Option Addr) (n c : Nat) (h : Mk.Rep E w M Y s) (hf : s.fr = bs ++ [g]) (hs : Mk.Small s) (hb : Mk.Base E.D s) (hfo : Fr.Ok E.D s.N.length f) (hfull : f.parts.length ≤ f.ids.length) (hn : f.th ≠ .none)
    (ht : ThAs w (fun k => ¬ Mk.foot M Y k) M v f.th) (hA : NumS w A n f.ids) (hg : Gs (fun k => ¬ Mk.foot M Y k) A n) :
    (∃ b1 b2, v = .func (.func 161) #[] #[.pointer (some ⟨b1, 0, none⟩), .pointer (some ⟨b2, 0, none⟩)] ∧ Calls Tryz.prog 161 #[.slice A n c, .pointer (some ⟨b1, 0, none⟩), .pointer (some ⟨b2, 0, none⟩)] w fun e w' => Mk.Ans E w M Y (Mk.ends E.D s f.th f.ids) e w') ∨
    (∃ b1 b2, v = .func (.func 165) #[] #[.pointer (some ⟨b1, 0, none⟩), .pointer (some ⟨b2, 0, none⟩)] ∧ Calls Tryz.prog 165 #[.slice A n c, .pointer (some ⟨b1, 0, none⟩), .pointer (some ⟨b2, 0, none⟩)] w fun e w' => Mk.Ans E w M Y (Mk.ends E.D s f.th f.ids) e w') ∨
    (∃ b1 b2 b3, v = .func (.func 186) #[] #[.pointer (some ⟨b1, 0, none⟩), .pointer (some ⟨b2, 0, none⟩), .pointer (some ⟨b3, 0, none⟩)] ∧ Calls Tryz.prog 186 #[.slice A n c, .pointer (some ⟨b1, 0, none⟩), .pointer (some ⟨b2, 0, none⟩), .pointer (some ⟨b3, 0, none⟩)] w fun e w' => Mk.Ans E w M Y (Mk.ends E.D s f.th f.ids) e w') ∨
    (v = .func (.func 187) #[.pointer (some ⟨M, 0, none⟩)] #[] ∧ Calls Tryz.prog 187 #[.pointer (some ⟨M, 0, none⟩), .slice A n c] w fun e w' => Mk.Ans E w M Y (Mk.ends E.D s f.th f.ids) e w') ∨
    (∃ b1 b2, v = .func (.func 195) #[] #[.pointer (some ⟨b1, 0, none⟩), .pointer (some ⟨b2, 0, none⟩)] ∧ Calls Tryz.prog 195 #[.slice A n c, .pointer (some ⟨b1, 0, none⟩), .pointer (some ⟨b2, 0, none⟩)] w fun e w' => Mk.Ans E w M Y (Mk.ends E.D s f.th f.ids) e w') := by
  have hN := hb.len
  have hw : ∀ z ∈ f.ids, 0 ≤ z ∧ z ≤ 30000 := fun z hz => by have := hfo.ids z hz; omega
  have hwf : ∀ z ∈ f.ids, (Lit.int .i64 z).wf = true := fun z hz => WalkArith.wf_i64 (by have := hw z hz; omega)
  have hlen := hA.len
  have hle := hfo.le
  have hl := hfo.len
  have hth := hfo.th
  have hEn : E.D.length = E.n := by rw [← hE.dc.len]; exact List.length_map _
  have hpl : ∀ (j : Nat) d, E.D[j]? = some d → d.par.length ≤ 1000 ∧ ∀ p ∈ d.par, p.1.size ≤ maxLen := fun j d hd => ⟨by have := (hD.par j d hd).1; omega, fun p hp => by have := (hD.par j d hd).2 p hp; unfold maxLen; omega⟩
  cases e : f.th with
  | none => exact absurd e hn
  | op o =>
    rw [e] at ht hth
    obtain ⟨b1, b2, rfl, h1, h2, h3, h4⟩ := ht
    exact .inl ⟨b1, b2, rfl, kopEnds E hE w M Y s bs g o b1 b2 A n c f.ids h hf hs hb.inv h1 h2 h3 h4 hA hwf hg (by omega)⟩
  | fn j =>
    rw [e] at ht hth
    obtain ⟨b1, b2, rfl, h1, h2, h3, h4⟩ := ht
    exact .inr (.inl ⟨b1, b2, rfl, kfnEnds E hE w M Y s bs g j b1 b2 A n c f.ids h hf hs (by rw [← hEn]; exact hth.1) h3 h4 hA hw (by omega) (hpl j)⟩)
  | bind names t =>
    rw [e] at ht hth
    obtain ⟨b1, b2, b3, nA, nc, pA, pc, bx, rfl, h1, h2, h3, h4, h5, h6, h7, h8, h9⟩ := ht
    obtain ⟨k1, k2, k3⟩ := hth
    obtain rfl : n = names.length := by omega
    exact .inr (.inr (.inl ⟨b1, b2, b3, rfl, kletEnds E w M Y s bs g names t bx b1 b2 b3 nA nc pA pc A c f.ids h hf hs h1 h2 h3 h4 h5 h6 h7 h8 h9 hA hwf (fun s hs => by have := k2 s hs; unfold maxLen; omega) (by omega)⟩))
  | first =>
    rw [e] at ht hth
    have hth : f.parts.length = 1 := hth
    have ht : v = _ := ht
    have hfb : bs.length ≤ 5000 := by have := hs.fr; rw [hf, List.length_append] at this; omega
    have hgi : g.ids.length ≤ 100000 := by have := (hs.ids g (by rw [hf]; simp)).1; omega
    exact .inr (.inr (.inr (.inl ⟨ht, kgiveFirst E w M Y s bs g A n c f.ids h hf hfb hgi hA (by omega)⟩)))
  | memo j a =>
    rw [e] at ht hth
    obtain ⟨b1, b2, rfl, h1, h2, h3, h4⟩ := ht
    obtain ⟨k1, k2, k3, k4⟩ := hth
    have har : a.length ≤ 3 := by
      obtain ⟨d, hd, _, e⟩ := Bd.arity_get k3
      rw [← e]
      exact (hD.par j d hd).1
    have hks : (Mk.key j a).size ≤ maxLen := by
      have := Mk.size_key (j := j) (A := a) (by have := hE.few; omega) (fun z hz => WalkArith.wf_i64 (by have := k4 z hz; omega)) (by omega)
      unfold maxLen
      omega
    exact .inr (.inr (.inr (.inr ⟨b1, b2, rfl, kmemoEnds E w M Y s bs g j a b1 b2 A n c f.ids h hf hs h1 h3 h4 hA hg hwf (by omega) hks (hb.few hD)⟩)))
theorem kstep_ends (E : Mk.Env) (hE : E.Ok) (hD : Mk.DOk E.D) (w : World) (M : Nat) (Y : Mk.Lay) (s : Ms) (bs : List Fr) (g f : Fr) (h : Mk.Rep E w M Y s) (hf : s.fr = (bs ++ [g]) ++ [f]) (hs : Mk.Small s) (hsc : f.sc ≤ s.sc.length) (hfull : f.parts.length ≤ f.ids.length) (hfo : Fr.Ok E.D s.N.length f) (hn : f.th ≠ .none) (hb : Mk.Base E.D s) :
    Calls Tryz.prog 65 #[.pointer (some ⟨M, 0, none⟩)] w fun e w' => Mk.Ans E w M Y (Mk.step E.D s) e w' := by
  rw [Mk.step_ends hf hfull]
  obtain ⟨FB, P, gf, hFL, hFB, hfA, hgl, hgF, hc, hfz⟩ := h.last hf
  obtain ⟨m, hm⟩ : ∃ m, (bs ++ [g]).length = m := ⟨_, rfl⟩
  have hlen : s.fr.length = m + 1 := by rw [hf, List.length_append, hm]; simp
  have hq : (P, f) ∈ Y.FL := by rw [hFL]; simp
  have hP := h.fas _ hq
  rw [hm] at hc hFB
  have c5 : w.cell? ⟨M, 5, none⟩ = some (.slice (some ⟨gf, 0, none⟩) (m + 1) Y.fc) := by rw [h.own.cell, ← hlen, ← hfA]; rfl
  have hMl := h.own.lt
  obtain ⟨rA, rC⟩ := row_addr h.srow
  obtain ⟨rF, rG⟩ := row_addr h.frow
  rw [hfA] at rF
  rw [hlen] at rG
  obtain ⟨W1, hW1⟩ : ∃ W1, W1 = (w.alloc (.cells #[.slice P.pA f.parts.length P.pc, .slice P.iA f.ids.length P.ic, P.v, .int .i64 (f.sc : Int), .int .i64 (f.dp : Int)] 130)).drew := ⟨_, rfl⟩
  have hb1 : Below w.heap.size w W1 := by
    have := (Below.refl w.heap.size w).alloc (Nat.le_refl _) (.cells #[.slice P.pA f.parts.length P.pc, .slice P.iA f.ids.length P.ic, P.v, .int .i64 (f.sc : Int), .int .i64 (f.dp : Int)] 130)
    rw [hW1]
    exact ⟨this.os, this.tape, this.output, this.size, this.block⟩
  have hl1 : Lies W1 w.heap.size 130 #[.slice P.pA f.parts.length P.pc, .slice P.iA f.ids.length P.ic, P.v, .int .i64 (f.sc : Int), .int .i64 (f.dp : Int)] := by rw [hW1]; exact Lies.new w _ _
  have h1 := h.below hb1
  have hb1d : Below w.heap.size w W1.drew := ⟨hb1.os, hb1.tape, hb1.output, hb1.size, hb1.block⟩
  obtain ⟨Y2, r2, t2, y2, q2L, q2A, q2c⟩ := (h1.drew).cut2 hsc
  obtain ⟨W2, hW2⟩ : ∃ W2, W2 = W1.drew.setCell ⟨M, 4, none⟩ (.slice Y.sA f.sc Y.sc) := ⟨_, rfl⟩
  rw [← hW2] at r2 t2
  have tM2 : Turn (fun k => k = M) w W2 := by rw [hW2]; exact (Turn.of_below (F := fun k => k = M) hb1d).put (p := ⟨M, 4, none⟩) (.inl rfl) _
  have hb2d : Below W2.heap.size W2 W2.drew := ⟨rfl, rfl, rfl, Nat.le_refl _, fun _ _ => rfl⟩
  obtain ⟨Y3, r3, t3, y3, a3⟩ := (r2.drew).pop2 (s := { s with sc := s.sc.take f.sc }) (bs := bs ++ [g]) (f := f) hf (FB := FB) (P := P) (by rw [q2L]; exact hFL)
  rw [q2A, q2c, hfA, hm] at r3 t3
  obtain ⟨W3, hW3⟩ : ∃ W3, W3 = W2.drew.setCell ⟨M, 5, none⟩ (.slice (some ⟨gf, 0, none⟩) m Y.fc) := ⟨_, rfl⟩
  rw [← hW3] at r3 t3
  have tM3 : Turn (fun k => k = M) w W3 := by rw [hW3]; exact (tM2.step hb2d).put (p := ⟨M, 5, none⟩) (.inl rfl) _
  have y3w : ∀ k, Mk.foot M Y3 k → Mk.foot M Y k ∨ w.heap.size ≤ k := fun k hk => (y2 k (y3 k hk)).imp id fun e => Nat.le_trans hb1d.size e
  have hout : ∀ k, w.heap.size ≤ k → k ≠ M := fun k hk e => by omega
  have hl2 : Lies W2 w.heap.size 130 #[.slice P.pA f.parts.length P.pc, .slice P.iA f.ids.length P.ic, P.v, .int .i64 (f.sc : Int), .int .i64 (f.dp : Int)] := by
    have : Turn (fun k => k = M) W1 W2 := by rw [hW2]; exact ((Turn.refl (fun k => k = M) W1).drew).put (p := ⟨M, 4, none⟩) (.inl rfl) _
    exact this.lies hl1 (hout _ (Nat.le_refl _))
  have hl3 : Lies W3 w.heap.size 130 #[.slice P.pA f.parts.length P.pc, .slice P.iA f.ids.length P.ic, P.v, .int .i64 (f.sc : Int), .int .i64 (f.dp : Int)] := by
    have : Turn (fun k => k = M) W2 W3 := by rw [hW3]; exact ((Turn.refl (fun k => k = M) W2).drew).put (p := ⟨M, 5, none⟩) (.inl rfl) _
    exact this.lies hl2 (hout _ (Nat.le_refl _))
  have hids := h.ids _ hq
  have hids3 : W3.ownsRow 0 3 1 (.slice P.iA f.ids.length P.ic) f.ids.length (i64s f.ids) := tM3.own hids (fun k hk e => h.M_i hq (by rw [blk_eq] at hk; exact e ▸ hk))
  have hA3 := NumS.of_own hids3 rfl
  have hG3 : Gs (fun k => ¬ Mk.foot M Y3 k) P.iA f.ids.length := fun a e _ => a3 a.block (by rw [e]; rfl)
  have hth3 : ThAs W3 (fun k => ¬ Mk.foot M Y3 k) M P.v f.th := hP.th.turn tM3 fun k hlt hk => ⟨fun e => hk (.inl e), fun e => (y3w k e).elim hk fun e2 => by omega⟩
  have hs3 : Mk.Small { s with sc := s.sc.take f.sc, fr := bs ++ [g] } := ⟨by have := hs.fr; rw [hlen] at this; show (bs ++ [g]).length ≤ _; omega, by show (s.sc.take f.sc).length ≤ _; rw [List.length_take]; have := hs.sc; omega, fun x hx => hs.ids x (by rw [hf]; exact List.mem_append_left _ hx), hs.N⟩
  have hthen := kthen E hE hD W3 M Y3 { s with sc := s.sc.take f.sc, fr := bs ++ [g] } bs g f P.v P.iA f.ids.length P.ic r3 rfl hs3 (hb.cut f.sc _) hfo hfull hn hth3 hA3 hG3
  have hup : ∀ (R : Ms × Int) e w', Mk.Ans E W3 M Y3 R e w' → Mk.Ans E w M Y R e w' := fun R e w' q => ⟨q.1, (((q.2.after t3 fun k hk => .inl (y3 k hk)).up hb2d).after t2 y2).up hb1d⟩
  generalize Mk.ends E.D { s with sc := s.sc.take f.sc, fr := bs ++ [g] } f.th f.ids = R at hthen ⊢
  have HUp := Lib.hid hup
  have hilt := hfull
  have d0 := hc 0 _ rfl
  have d1 := hc 1 _ rfl
  have d2 := hc 2 _ rfl
  have d3 := hc 3 _ rfl
  have d4 := hc 4 _ rfl
  rw [Nat.add_zero] at d0
  simp only at d0 d1 d2 d3 d4
  have e4 : W1.cell? ⟨M, 4, none⟩ = some (.slice Y.sA s.sc.length Y.sc) := by rw [h1.own.cell]; rfl
  have f4 := h1.own.free 4
  have zM1 := h1.own.lt
  have e3 : W1.cell? ⟨w.heap.size, 3, none⟩ = some (.int .i64 (f.sc : Int)) := by rw [hl1.cell]; rfl
  have g0 : W2.cell? ⟨w.heap.size, 0, none⟩ = some (.slice P.pA f.parts.length P.pc) := by rw [hl2.cell]; rfl
  have g1 : W2.cell? ⟨w.heap.size, 1, none⟩ = some (.slice P.iA f.ids.length P.ic) := by rw [hl2.cell]; rfl
  have e5 : W2.cell? ⟨M, 5, none⟩ = some (.slice (some ⟨gf, 0, none⟩) (m + 1) Y.fc) := by
    have := r2.own.cell 5
    rw [this, q2A, q2c, hfA]
    show some (Value.slice _ s.fr.length _) = _
    rw [hlen]
  have f5 := r2.own.free 5
  have zM2 := r2.own.lt
  have k1 : W3.cell? ⟨w.heap.size, 1, none⟩ = some (.slice P.iA f.ids.length P.ic) := by rw [hl3.cell]; rfl
  have k2 : W3.cell? ⟨w.heap.size, 2, none⟩ = some P.v := by rw [hl3.cell]; rfl
  have ll1 := hl1.lt
  have ll2 := hl2.lt
  have ll3 := hl3.lt
  have hscut : ∀ W : World, (Instr.slice 121 (.slice Y.sA s.sc.length Y.sc) none (some (.int .i64 (f.sc : Int))) none).run Tryz.prog W = .ok (.slice Y.sA f.sc Y.sc) W := fun W => cut_sc W rA (by omega)
  have hfcut : ∀ W : World, (Instr.slice 122 (.slice (some ⟨gf, 0, none⟩) (m + 1) Y.fc) none (some (.int .i64 (m : Int))) none).run Tryz.prog W = .ok (.slice (some ⟨gf, 0, none⟩) m Y.fc) W := fun W => cut_fr W rF (by omega)
  have hm4 : m ≤ 4900 := by have := hs.fr; omega
  obtain ⟨n, hnn⟩ : ∃ n, f.ids.length = n := ⟨_, rfl⟩
  obtain ⟨pn, hpn'⟩ : ∃ pn, f.parts.length = pn := ⟨_, rfl⟩
  obtain ⟨sn, hsn⟩ : ∃ sn, s.sc.length = sn := ⟨_, rfl⟩
  obtain ⟨fs, hfs⟩ : ∃ fs, f.sc = fs := ⟨_, rfl⟩
  obtain ⟨fd, hfd⟩ : ∃ fd, f.dp = fd := ⟨_, rfl⟩
  obtain ⟨v, hv⟩ : ∃ v, P.v = v := ⟨_, rfl⟩
  obtain ⟨pA, hpA⟩ : ∃ pA, P.pA = pA := ⟨_, rfl⟩
  rw [hnn] at d1 g1 k1 hW1 hilt hthen
  rw [hpn'] at d0 g0 hW1 hilt
  rw [hsn] at e4 hscut
  rw [hfs] at d3 e3 hW1 hscut hW2
  rw [hfd] at d4 hW1
  rw [hv] at d2 hW1 k2 hthen
  rw [hpA] at d0 g0 hW1
  have hni : (pn : Int) ≤ (n : Int) := by omega
  have hnd : decide ((n : Int) < (pn : Int)) = false := decide_eq_false (by omega)
  have hm1 : ((m : Int) + 1) - 1 = (m : Int) := by omega
  have hwm : IntKind.i64.wrap (m : Int) = (m : Int) := IntWalk.i64_in _ (by omega)
  have hwm1 : IntKind.i64.wrap ((m : Int) + 1 - 1) = (m : Int) := by rw [hm1]; exact hwm
  have hmi : (0 : Int) ≤ (m : Int) := by omega
  have hml : (m : Int) < (m : Int) + 1 := by omega
  have HS : Hid (w.drew.cell? ⟨M, 5, none⟩ = some (.slice (some ⟨gf, 0, none⟩) (m + 1) Y.fc) ∧ w.drew.cell? ⟨gf, m * 5, none⟩ = some (.slice pA pn P.pc) ∧ w.drew.cell? ⟨gf, m * 5 + 1, none⟩ = some (.slice P.iA n P.ic) ∧ w.drew.cell? ⟨gf, m * 5 + 2, none⟩ = some v ∧ w.drew.cell? ⟨gf, m * 5 + 3, none⟩ = some (.int .i64 (fs : Int)) ∧ w.drew.cell? ⟨gf, m * 5 + 4, none⟩ = some (.int .i64 (fd : Int))) := ⟨c5, d0, d1, d2, d3, d4⟩
  have HSo : Hid (∀ o, (w.drew.alloc o).cell? ⟨M, 5, none⟩ = some (.slice (some ⟨gf, 0, none⟩) (m + 1) Y.fc) ∧ (w.drew.alloc o).cell? ⟨gf, m * 5, none⟩ = some (.slice pA pn P.pc) ∧ (w.drew.alloc o).cell? ⟨gf, m * 5 + 1, none⟩ = some (.slice P.iA n P.ic) ∧ (w.drew.alloc o).cell? ⟨gf, m * 5 + 2, none⟩ = some v ∧ (w.drew.alloc o).cell? ⟨gf, m * 5 + 3, none⟩ = some (.int .i64 (fs : Int)) ∧ (w.drew.alloc o).cell? ⟨gf, m * 5 + 4, none⟩ = some (.int .i64 (fd : Int))) := fun o => by
    have b := fun (k i : Nat) (hk : k < w.heap.size) => ((Below.refl w.heap.size w.drew).alloc (Nat.le_refl _) o).cell (p := ⟨k, i, none⟩) hk
    obtain ⟨q1, q2, q3, q4, q5, q6⟩ := HS.out
    exact ⟨(b _ _ hMl).trans q1, (b _ _ hgl).trans q2, (b _ _ hgl).trans q3, (b _ _ hgl).trans q4, (b _ _ hgl).trans q5, (b _ _ hgl).trans q6⟩
  clear h hf hs hsc hfull hFL hFB hfA hgF hc hfz hlen hq hP hb1 hl1 h1 rA rC rF rG hl2 hl3 hpA r2 t2 y2 r3 t3 y3 a3 q2L q2A q2c tM2 tM3 y3w hout hids hids3 hA3 hG3 hth3 hs3 hup hb1d hb2d hm hnn hpn' hsn hfs hfd hv c5 d0 d1 d2 d3 d4 hfo hn hb hilt
  obtain ⟨fn, fa, fb, rfl⟩ : ∃ fn fa fb, v = .func fn fa fb := by
    rcases hthen with ⟨b1, b2, e, _⟩ | ⟨b1, b2, e, _⟩ | ⟨b1, b2, b3, e, _⟩ | ⟨e, _⟩ | ⟨b1, b2, e, _⟩ <;> exact ⟨_, _, _, e⟩
  have HThen := Lib.hid hthen
  clear hthen
  have hst : ∀ (a : Addr) (W : World), (store a (.func fn fa fb) .plain).run Tryz.prog W = stored Tryz.prog W a (.func fn fa fb) .plain := fun a W => run_store Tryz.prog W a _ _ rfl
  go_enter Tryz.func65, Tryz.ntmps65
  go_wp2_with  fail
  go_region_held3 (fun W => W.cell? ⟨M, 5, none⟩ = some (.slice (some ⟨gf, 0, none⟩) (m + 1) Y.fc) ∧ W.cell? ⟨gf, m * 5, none⟩ = some (.slice pA pn P.pc) ∧ W.cell? ⟨gf, m * 5 + 1, none⟩ = some (.slice P.iA n P.ic) ∧ W.cell? ⟨gf, m * 5 + 2, none⟩ = some (.func fn fa fb) ∧ W.cell? ⟨gf, m * 5 + 3, none⟩ = some (.int .i64 (fs : Int)) ∧ W.cell? ⟨gf, m * 5 + 4, none⟩ = some (.int .i64 (fd : Int)))
    (first | (with_reducible exact HS.out) | exact HSo.out _)
    (fail)
  rw [← hW1]
  have hV1 : W1.drew.setCell ⟨M, 4, none⟩ (.slice Y.sA fs Y.sc) = W2 := hW2.symm
  have hV3 : W2.drew.setCell ⟨M, 5, none⟩ (.slice (some ⟨gf, 0, none⟩) m Y.fc) = W3 := hW3.symm
  clear hW1 hW2 hW3 HS HSo hst
  go_wp2_with fail
  go_still_tail 10, (by kernel_rfl)
  change wpList _ _ _ _ _ W1.drew
  go_wp2_with fail
  go_still_tail 14, (by kernel_rfl)
  change wpList _ _ _ _ _ W2.drew
  rcases HThen.out with ⟨b1, b2, e, ht⟩ | ⟨b1, b2, e, ht⟩ | ⟨b1, b2, b3, e, ht⟩ | ⟨e, ht⟩ | ⟨b1, b2, e, ht⟩
  all_goals
    injection e with e1 e2 e3
    subst e1 e2 e3
    have HT := Lib.hid ht
    clear ht HThen
    go_wp2_with fail
    refine HT.out.mono ?_
    rintro e w4 q
    have V := Lib.hid (HUp.out _ _ _ q)
    obtain ⟨rfl, _⟩ := q
    clear HT HUp
    go_wp2
    go_ret
    exact V.out
theorem Mk.Ok.all {D : List Dc} {s : Ms} (h : Mk.Ok D s) : ∀ f ∈ s.fr, Fr.Ok D s.N.length f := fun f hf => by
  obtain ⟨bs, g, e, h1, h2⟩ := h.fr
  rw [e] at hf
  rcases List.mem_append.1 hf with hf | hf
  · exact (h1 f hf).1
  · rw [List.mem_singleton.1 hf]; exact h2
theorem Mk.Env.Ok.len {E : Mk.Env} (hE : E.Ok) : E.D.length = E.n := by rw [← hE.dc.len]; exact List.length_map _
theorem kstep (E : Mk.Env) (hE : E.Ok) (hG : Gl E.w0) (hD : Mk.DOk E.D) (w : World) (M : Nat) (Y : Mk.Lay) (s : Ms) (h : Mk.Rep E w M Y s) (hok : Mk.Ok E.D s) (hl : Mk.Live s) (hf : Mk.Fits s) :
    Calls Tryz.prog 65 #[.pointer (some ⟨M, 0, none⟩)] w fun e w' => Mk.Ans E w M Y (Mk.step E.D s) e w' := by
  have hs : Mk.Small s := ⟨by have := hf.fr; omega, by have := hf.sc; omega, fun f hm => ⟨by have := hok.all f hm; have := this.le; have := (hok.all f hm).len; omega, by have := hf.dp f hm; omega⟩, hok.len⟩
  have hpl : ∀ (j : Nat) d, E.D[j]? = some d → d.par.length ≤ 1000 ∧ ∀ p ∈ d.par, p.1.size ≤ maxLen := fun j d hd => ⟨by have := (hD.par j d hd).1; omega, fun p hp => by have := (hD.par j d hd).2 p hp; unfold maxLen; omega⟩
  rcases hok.ways hl with ⟨bs, f, x, e, h1, hx, hfi, hw⟩ | ⟨bs, g, f, e, h1, hle, hn, hw⟩
  · exact kstep_part E hE hG w M Y s bs f x h e hs (fun y hy => by have := (hok.sc y hy).1; rw [hE.len] at this; exact this) (hf.le f (by rw [e]; simp)) hx hfi h1.len hpl
  · exact kstep_ends E hE hD w M Y s bs g f h e hs (hf.le f (by rw [e]; simp)) hle h1 hn hok.toBase
theorem Mk.Rep.first {E : Mk.Env} {w : World} {M : Nat} {Y : Mk.Lay} {s : Ms} (h : Mk.Rep E w M Y s) {g : Fr} {r : List Fr} (hf : s.fr = g :: r) :
    ∃ (gf : Nat) (iA : Option Addr) (ic : Nat), w.cell? ⟨M, 5, none⟩ = some (.slice (some ⟨gf, 0, none⟩) s.fr.length Y.fc) ∧ gf < w.heap.size ∧ w.cell? ⟨gf, 1, none⟩ = some (.slice iA g.ids.length ic) ∧ NumS w iA g.ids.length g.ids := by
  obtain ⟨q, FL, hFL⟩ : ∃ q FL, Y.FL = q :: FL := by
    have := h.fl
    rw [hf] at this
    cases hY : Y.FL with
    | nil => rw [hY] at this; cases this
    | cons q FL => exact ⟨q, FL, rfl⟩
  have hq : q.2 = g := by
    have := h.fl
    rw [hf, hFL] at this
    injection this
  have hrow := h.frow
  have hids := h.ids q (by rw [hFL]; simp)
  rw [hq] at hids
  have hc := h.own.cell 5
  rcases hrow.2 with ⟨_, e⟩ | ⟨gf, cap, cur, e, _, hg, _⟩
  · rw [hf] at e; simp at e
  · injection e with e1 _ _
    refine ⟨gf, q.1.iA, q.1.ic, by rw [hc, ← e1]; rfl, (Array.getElem?_eq_some_iff.1 hg).1, ?_, NumS.of_own hids rfl⟩
    have := hrow.cells (g := gf) (by rw [e1]; rfl) 1 (.slice q.1.iA g.ids.length q.1.ic) (by rw [hFL, List.flatMap_cons, ← hq]; rfl)
    simpa [addr_add] using this
theorem Mk.start_ok {D : List Dc} {N : List Nd} {sc : Sc} {x : Sx} (hI : Tm.Inv N) (hN : N.length ≤ 20000) (hsc : Bd.In N (sc.map (·.2))) (hx : Sx.Fine x) : Mk.Ok D (Mk.start D N sc x) :=
  ⟨⟨hI, hN, fun y hy => by rw [List.mem_singleton.1 hy]; exact ⟨Nat.le_refl _, fun q hq => hsc _ (List.mem_map_of_mem hq)⟩, Bd.Apart.nil _ _, fun _ h => (List.not_mem_nil h).elim⟩,
    ⟨[], ⟨[x], [], .none, 1, 0⟩, rfl, fun _ h => (List.not_mem_nil h).elim, ⟨Nat.zero_le _, fun _ h => (List.not_mem_nil h).elim, by simp, fun y hy => by rw [List.mem_singleton.1 hy]; exact hx, rfl⟩⟩, ⟨⟨[x], [], .none, 1, 0⟩, [], rfl, rfl, fun _ h => (List.not_mem_nil h).elim⟩⟩
theorem Mk.Run.ways {D : List Dc} {n : Nat} {s s2 : Ms} (h : Mk.Run D n s s2) : (n = 0 ∧ s = s2) ∨ ∃ m s1, n = m + 1 ∧ Mk.Live s ∧ Mk.Fits s ∧ Mk.step D s = (s1, 0) ∧ Mk.Run D m s1 s2 := by
  cases h with
  | zero => exact .inl ⟨rfl, rfl⟩
  | succ h1 h2 h3 h4 => exact .inr ⟨_, _, rfl, h1, h2, h3, h4⟩
theorem Mk.Live.first {s : Ms} (h : Mk.Live s) : ∃ g r, s.fr = g :: r ∧ g.ids = [] := by
  unfold Mk.Live at h
  cases hf : s.fr with
  | nil => rw [hf] at h; cases h
  | cons g r => rw [hf] at h; exact ⟨g, r, rfl, by simpa using h⟩
theorem kterm (E : Mk.Env) (hE : E.Ok) (hG : Gl E.w0) (hD : Mk.DOk E.D) (w : World) (M : Nat) (Y : Mk.Lay) (N : List Nd) (x : Sx) (A : Option Addr) (c : Nat) (mo : Option Nat) (sc : Sc)
    (h : Mk.Rep E w M Y ⟨N, [], [], []⟩) (hx : STree w (fun b _ => ¬ Mk.foot M Y b) x A c) (hfx : Sx.Fine x) (hv : ScAs w (fun k => ¬ Mk.foot M Y k) (.map mo) ⟨sc, true, E.n⟩) (hI : Tm.Inv N) (hN : N.length ≤ 20000) (hsc : Bd.In N (sc.map (·.2))) (hroom : x.size + Mk.room E.D E.D.length ≤ 4700) :
    Calls Tryz.prog 32 #[.pointer (some ⟨M, 0, none⟩), sval x A c, .map mo] w fun e w' => e = .returned (.tuple #[.int .i64 (Bd.tm E.D E.D.length sc N x).2.1, .int .i64 (Bd.tm E.D E.D.length sc N x).2.2]) ∧ ∃ s', Mk.Left E w M Y s' w' ∧ s'.N = (Bd.tm E.D E.D.length sc N x).1 := by
  have hEnd := Mk.runs E.D N sc x hI hsc hroom
  have hgood := (Bd.good E.D E.D.length x sc N hI hsc).2
  obtain ⟨T, hT⟩ : ∃ T, Bd.tm E.D E.D.length sc N x = T := ⟨_, rfl⟩
  rw [hT] at hEnd hgood ⊢
  obtain ⟨N', idz, err⟩ := T
  simp only at hEnd ⊢
  have hok0 := Mk.start_ok (D := E.D) hI hN hsc hfx
  obtain ⟨sE, n0, hrun, hfin⟩ : ∃ sE n0, Mk.Run E.D n0 (Mk.start E.D N sc x) sE ∧ ((err = 0 ∧ sE.N = N' ∧ sE.fr = [⟨[x], [idz], .none, 1, 0⟩]) ∨ (err ≠ 0 ∧ idz = 0 ∧ Mk.Live sE ∧ Mk.Fits sE ∧ ∃ s'', Mk.step E.D sE = (s'', err) ∧ s''.N = N')) := by
    by_cases he : err = 0
    · obtain ⟨n, s', h1, h2, h3, _⟩ := hEnd.1 he
      exact ⟨s', n, h1, .inl ⟨he, h2, h3⟩⟩
    · obtain ⟨n, s', s'', h1, h2, h3, h4, h5⟩ := hEnd.2 he
      exact ⟨s', n, h1, .inr ⟨he, hgood.2 he, h2, h3, s'', h4, h5⟩⟩
  obtain ⟨W0, hW0⟩ : ∃ W0, w.alloc (sbox x A c) = W0 := ⟨_, rfl⟩
  have hB0 : Below w.heap.size w W0 := by rw [← hW0]; exact (Below.refl _ w).alloc (Nat.le_refl _) _
  have hbx : SAt W0 w.heap.size 0 x A c := by rw [← hW0]; exact sbox_at w x A c
  have h0 := h.below hB0
  have HB : Hid (Calls Tryz.prog 64 #[.pointer (some ⟨M, 0, none⟩), sval x A c, .agg #[.map mo, .bool false, .int .i64 (E.n : Int)], .nilFunc] W0.drew fun e w' => e = .returned (.tuple #[]) ∧ Mk.Left E w M Y (Mk.start E.D N sc x) w') := by
    have hq : Below W0.heap.size W0 W0.drew := ⟨rfl, rfl, rfl, Nat.le_refl _, fun _ _ => rfl⟩
    have hb := hB0.trans (hq.mono hB0.size)
    have ht : Turn (fun _ => False) w W0.drew := Turn.of_below hb
    have := kbody E W0.drew M Y ⟨N, [], [], []⟩ x A c (.map mo) false sc E.n .nilFunc .none (h.below hb) ⟨hx.le, hx.tree.turn9 ht fun k _ hk => ⟨id, hk⟩⟩ (hv.turn ht fun k _ hk => ⟨id, hk⟩) rfl (by simp) (by simp)
    refine this.mono fun e w' q => ⟨q.1, ?_⟩
    have := q.2.up hb
    rw [← hE.len] at this
    exact this
  have HStep := Lib.hid fun (W : World) (Y' : Mk.Lay) (s : Ms) (r : Mk.Rep E W M Y' s) (ho : Mk.Ok E.D s) (hl : Mk.Live s) (hf : Mk.Fits s) => kstep E hE hG hD W M Y' s r ho hl hf
  have HNext := Lib.hid fun (s s1 : Ms) (ho : Mk.Ok E.D s) (hl : Mk.Live s) (hs : Mk.step E.D s = (s1, 0)) => ho.step hD hl hs
  have c1 : W0.cell? ⟨M, 1, none⟩ = some (.slice E.A E.n E.c) := by rw [h0.own.cell]; rfl
  have zM := h0.own.lt
  have HFin := Lib.hid hfin
  have HRun := Lib.hid hrun
  have HOk := Lib.hid hok0
  obtain ⟨xn, hxn⟩ : ∃ xn, x.L.length = xn := ⟨_, rfl⟩
  obtain ⟨xl, hxl⟩ : ∃ xl, x.list = xl := ⟨_, rfl⟩
  obtain ⟨xk, hxk⟩ : ∃ xk, x.k = xk := ⟨_, rfl⟩
  obtain ⟨xT, hxT⟩ : ∃ xT, x.T = xT := ⟨_, rfl⟩
  obtain ⟨xta, hxta⟩ : ∃ xta, x.ta = xta := ⟨_, rfl⟩
  obtain ⟨xa, hxa⟩ : ∃ xa, x.at_ = xa := ⟨_, rfl⟩
  obtain ⟨_, b0, b1, b2, b3, b4, b5⟩ := hbx
  simp only [Nat.zero_add] at b0 b1 b2 b3 b4 b5
  obtain ⟨EA, hEA⟩ : ∃ EA, E.A = EA := ⟨_, rfl⟩
  obtain ⟨En, hEn⟩ : ∃ En, E.n = En := ⟨_, rfl⟩
  obtain ⟨Ec, hEc⟩ : ∃ Ec, E.c = Ec := ⟨_, rfl⟩
  unfold sval at HB ⊢
  rw [hxn, hxl, hxk, hxT, hxta, hxa] at HB ⊢
  rw [hEn] at HB c1
  rw [hEA, hEc] at c1
  rw [hxl] at b0
  rw [hxk] at b1
  rw [hxT] at b2
  rw [hxta] at b3
  rw [hxa] at b4
  rw [hxn] at b5
  have hW0' : w.alloc (.cells #[.bool xl, .int .i64 xk, .string xT, .int .i64 xta, .int .i64 xa, .slice A xn c] 27) = W0 := by rw [← hW0, ← hxl, ← hxk, ← hxT, ← hxta, ← hxa, ← hxn]
  clear hG h hx hfx hv hI hN hsc hroom hEnd hgood hT hok0 hrun hfin hB0 h0 hxn hxl hxk hxT hxta hxa hEA hEn hEc hW0
  go_enter Tryz.func32, Tryz.ntmps32
  go_wp2_with fail
  clear hW0'
  go_still_tail 9, (by kernel_rfl)
  change wpList _ _ _ _ _ W0.drew
  go_wp2_with fail
  refine HB.out.mono ?_
  rintro e w1 ⟨rfl, l1⟩
  have L1 := Lib.hid l1
  clear HB l1 b0 b1 b2 b3 b4 b5 c1 zM
  go_wp2_with fail
  go_loopg [8] n0 (fun gk ev wr => ∃ s, Mk.Run E.D gk s sE ∧ Hid (Mk.Left E w M Y s wr ∧ Mk.Ok E.D s))
  case atStart => exact ⟨_, HRun.out, L1.out, HOk.out⟩
  case round =>
    obtain ⟨s, hrn, HI⟩ := hrel
    obtain ⟨⟨Y', r1, t1, y1⟩, hok⟩ := HI.out
    clear L1 HRun HOk HI
    rcases hrn.ways with ⟨rfl, rfl⟩ | ⟨m, s1, rfl, hl, hft, hst, hr2⟩
    · rcases HFin.out with ⟨rfl, hN, hfr⟩ | ⟨he, rfl, hl, hft, s'', hst, hN⟩
      · obtain ⟨gf, iA, ic, c5, hgl, c1, hnum⟩ := r1.first hfr
        have hfl : s.fr.length = 1 := by rw [hfr]; rfl
        rw [hfl] at c5
        simp only [List.length_singleton] at c1 hnum
        obtain ⟨bi, oi, z, rfl, hz, _, _, hc⟩ := hnum.get (i := 0) (by decide)
        obtain rfl : idz = z := by simpa using hz
        obtain ⟨hbi, cz⟩ := hc wr (Below.refl _ _)
        rw [Nat.add_zero] at cz
        have zM := r1.own.lt
        have HE : Hid (∃ s', Mk.Left E w M Y s' wr ∧ s'.N = N') := ⟨s, ⟨Y', r1, t1, y1⟩, hN⟩
        clear hrn HFin HStep HNext r1 t1 y1 hok hN hfr hfl hnum hz hc hE hD
        go_wp2
        go_ret2
        exact ⟨rfl, HE.out⟩
      · obtain ⟨g, r, hfr, hids⟩ := hl.first
        obtain ⟨gf, iA, ic, c5, hgl, c1, _⟩ := r1.first hfr
        rw [hids] at c1
        simp only [List.length_nil] at c1
        obtain ⟨sn, hsn⟩ : ∃ sn, s.fr.length = sn := ⟨_, rfl⟩
        have hs0 : (0 : Int) < (sn : Int) := by rw [← hsn, hfr]; simp
        rw [hsn] at c5
        have zM := r1.own.lt
        have HS := Lib.hid (HStep.out wr Y' s r1 hok hl hft)
        rw [hst] at HS
        have HE : Hid (∀ w', Mk.Left E wr M Y' s'' w' → ∃ s', Mk.Left E w M Y s' w' ∧ s'.N = N') := fun w' q => ⟨s'', q.after t1 y1, hN⟩
        have hne : (err != 0) = true := by simpa using he
        clear hrn HFin HStep HNext r1 t1 y1 hok hN hfr hids hsn hl hft hst hE hD he
        go_wp2_with fail
        refine HS.out.mono ?_
        rintro e w2 ⟨rfl, v⟩
        have V := Lib.hid (HE.out w2 v)
        clear HS HE v c5 c1
        go_wp2
        go_ret2
        exact ⟨rfl, V.out⟩
    · obtain ⟨g, r, hfr, hids⟩ := hl.first
      obtain ⟨gf, iA, ic, c5, hgl, c1, _⟩ := r1.first hfr
      rw [hids] at c1
      simp only [List.length_nil] at c1
      obtain ⟨sn, hsn⟩ : ∃ sn, s.fr.length = sn := ⟨_, rfl⟩
      have hs0 : (0 : Int) < (sn : Int) := by rw [← hsn, hfr]; simp
      rw [hsn] at c5
      have zM := r1.own.lt
      have HS := Lib.hid (HStep.out wr Y' s r1 hok hl hft)
      rw [hst] at HS
      have HE : Hid (∀ w', Mk.Left E wr M Y' s1 w' → Mk.Left E w M Y s1 w' ∧ Mk.Ok E.D s1) := fun w' q => ⟨q.after t1 y1, HNext.out s s1 hok hl hst⟩
      have HR2 := Lib.hid hr2
      clear hrn HFin HStep HNext r1 t1 y1 hok hfr hids hsn hl hft hst hE hD hr2
      go_wp2_with fail
      refine HS.out.mono ?_
      rintro e w2 ⟨rfl, v⟩
      have V := Lib.hid (HE.out w2 v)
      clear HS HE v c5 c1
      go_wp2
      go_roundg m
      case rel => exact ⟨s1, HR2.out, V.out⟩
      case measure => omega
structure Mk.Begin (w0 w : World) (b : Nat) (F : Nat → Prop) (N : List Nd) (A : Option Addr) (n c : Nat) (L : List (DcP × Dc)) : Prop where
  base : Below w0.heap.size w0 w
  T : Pow9 w0
  K : Ask9 w0
  bk : Bk w b F N
  low : ∀ k, F k → w0.heap.size ≤ k
  dc : DcS w (fun k => ¬ F k) A n c L
  few : n ≤ 200
  ok : Mk.DOk (L.map (·.2))
theorem knewMaker (w0 w : World) (b : Nat) (F : Nat → Prop) (N : List Nd) (A : Option Addr) (n c : Nat) (L : List (DcP × Dc)) (h : Mk.Begin w0 w b F N A n c L) :
    Calls Tryz.prog 31 #[.pointer (some ⟨b, 0, none⟩), .slice A n c] w fun e w' => (∃ (E : Mk.Env) (M : Nat) (Y : Mk.Lay), e = .returned (.pointer (some ⟨M, 0, none⟩)) ∧ E.Ok ∧ E.w0 = w0 ∧ E.D = L.map (·.2) ∧ E.n = n ∧ E.bk = b ∧ Mk.Rep E w' M Y ⟨N, [], [], []⟩ ∧ Y.Fb = F ∧ ∀ k, Mk.foot M Y k → F k ∨ w.heap.size ≤ k) ∧ Below w.heap.size w w' := by
  have HP := Lib.hid (kplaces w A n c L h.dc (by have := h.few; omega) (fun q hq => by have := h.ok.name q.2 (List.mem_map_of_mem hq); unfold maxLen; omega))
  have hmm : ∀ W : World, (Instr.makeMap 98 none).run Tryz.prog W = .ok (.map (some W.heap.size)) (W.alloc (.map #[] 0)) := fun W => run_makeMap _ W
  have HH := Lib.hid h
  clear h
  go_enter Tryz.func31, Tryz.ntmps31
  go_wp2_with fail
  refine HP.out.mono ?_
  rintro e w1 ⟨rfl, ⟨Dm, ho, hT⟩, b1⟩
  obtain ⟨W2, hW2⟩ : ∃ W2, w1.alloc (.map #[] 0) = W2 := ⟨_, rfl⟩
  obtain ⟨W3, hW3⟩ : ∃ W3, W2.alloc (.cells #[.pointer (some ⟨b, 0, none⟩), .slice A n c, .map (some w.heap.size), .map (some w1.heap.size), .slice none 0 0, .slice none 0 0] 124) = W3 := ⟨_, rfl⟩
  have hs2 : W2.heap.size = w1.heap.size + 1 := by rw [← hW2]; simp
  have hB12 : Below w1.heap.size w1 W2 := by rw [← hW2]; exact (Below.refl _ _).alloc (Nat.le_refl _) _
  have hB23 : Below W2.heap.size W2 W3 := by rw [← hW3]; exact (Below.refl _ _).alloc (Nat.le_refl _) _
  have hB13 : Below w1.heap.size w1 W3 := hB12.trans (hB23.mono hB12.size)
  have hB03 : Below w.heap.size w W3 := b1.trans (hB13.mono b1.size)
  have hh := HH.out
  have hlow := hh.bk.lt
  have hE : Mk.Env.Ok ⟨w0, A, n, c, L, w1, fun k => ¬ F k, w.heap.size, b⟩ := ⟨hh.dc.turn (Turn.of_below (F := fun _ => False) b1) fun k _ hk => ⟨id, hk⟩, hh.few, hh.T, hh.K, fun k hk _ e => (by have hk : w.heap.size ≤ k := hk; have := hlow k e; omega), ⟨_, n, Dm, by have := hh.few; unfold maxLen; omega, ho, hT⟩⟩
  have hown : W3.ownsMap Tryz.prog 9 (plainElem (H := Unit) Tryz.prog 3) w1.heap.size 0 (.map []) := by
    have := World.ownsMap_made (P := Tryz.prog) (H := Unit) w1 9 (plainElem Tryz.prog 3)
    rw [hW2] at this
    exact (Turn.of_below (F := fun _ => False) hB23).map this id
  have hrep : Mk.Rep ⟨w0, A, n, c, L, w1, fun k => ¬ F k, w.heap.size, b⟩ W3 W2.heap.size ⟨w1.heap.size, none, 0, none, 0, F, [], []⟩ ⟨N, [], [], []⟩ := by
    refine ⟨hh.base.trans (hB03.mono hh.base.size), fun k hk => ?_, ?_, hh.bk.below hB03, ⟨⟨.map [], hown, TellM.none_, rfl⟩, List.nodup_nil⟩, World.ownsRow_nil _ _ _ _, rfl, fun _ hq => (List.not_mem_nil hq).elim, World.ownsRow_nil _ _ _ _, rfl, fun _ hq => (List.not_mem_nil hq).elim, fun _ hq => (List.not_mem_nil hq).elim, .nil,
      fun e => ?_, fun e => ?_, fun g e => (by cases e), fun g e => (by cases e), fun _ hq => (List.not_mem_nil hq).elim, (Turn.of_below hB13), fun k hP hk e => ?_⟩
    · have h0 := hh.base.size
      have h1 := b1.size
      show w0.heap.size ≤ k
      rcases hk with rfl | hk | rfl | e | e | ⟨q, hq, _⟩
      · omega
      · exact hh.low k hk
      · show w0.heap.size ≤ w1.heap.size; omega
      · cases e
      · cases e
      · exact (List.not_mem_nil hq).elim
    · rw [← hW3]; exact Lies.new W2 _ _
    · have := hlow _ e
      have := b1.size
      omega
    · have : w1.heap.size < w.heap.size := hlow _ e
      have := b1.size
      omega
    · have hk : k < w1.heap.size := hk
      rcases e with rfl | e | rfl | e | e | ⟨q, hq, _⟩
      · omega
      · exact hP e
      · exact absurd hk (Nat.lt_irrefl w1.heap.size)
      · cases e
      · cases e
      · exact (List.not_mem_nil hq).elim
  have HE : Hid (∃ (E : Mk.Env) (M : Nat) (Y : Mk.Lay), Ending.returned (.pointer (some ⟨W2.heap.size, 0, none⟩)) = .returned (.pointer (some ⟨M, 0, none⟩)) ∧ E.Ok ∧ E.w0 = w0 ∧ E.D = L.map (·.2) ∧ E.n = n ∧ E.bk = b ∧ Mk.Rep E W3 M Y ⟨N, [], [], []⟩ ∧ Y.Fb = F ∧ ∀ k, Mk.foot M Y k → F k ∨ w.heap.size ≤ k) :=
    ⟨_, _, _, rfl, hE, rfl, rfl, rfl, rfl, hrep, rfl, fun k hk => by
      have h1 := b1.size
      rcases hk with rfl | hk | rfl | e | e | ⟨q, hq, _⟩
      · exact .inr (by omega)
      · exact .inl hk
      · exact .inr h1
      · cases e
      · cases e
      · exact (List.not_mem_nil hq).elim⟩
  have HB3 := Lib.hid hB03
  rw [hs2] at HE
  clear hE hrep hown hh hlow hB12 hB23 hB13 hB03 HH HP ho hT b1
  go_wp2
  go_ret
  exact ⟨HE.out, HB3.out⟩
theorem kTerm (w0 w : World) (b : Nat) (F : Nat → Prop) (N : List Nd) (A : Option Addr) (n c : Nat) (L : List (DcP × Dc)) (x : Sx) (xA : Option Addr) (xc : Nat) (h : Mk.Begin w0 w b F N A n c L) (hG : Gl w0) (hI : Tm.Inv N) (hN : N.length ≤ 20000)
    (hx : STree w (fun k _ => ¬ F k) x xA xc) (hfx : Sx.Fine x) (hroom : x.size + Mk.room (L.map (·.2)) n ≤ 4700) :
    Calls Tryz.prog 12 #[.pointer (some ⟨b, 0, none⟩), .slice A n c, sval x xA xc] w fun e w' => BAns w b F (Bd.tm (L.map (·.2)) n [] N x) e w' := by
  obtain ⟨W0, hW0⟩ : ∃ W0, w.alloc (sbox x xA xc) = W0 := ⟨_, rfl⟩
  have hB0 : Below w.heap.size w W0 := by rw [← hW0]; exact (Below.refl _ w).alloc (Nat.le_refl _) _
  have hB0d : Below w.heap.size w W0.drew := ⟨hB0.os, hB0.tape, hB0.output, hB0.size, hB0.block⟩
  have hL0 : Lies W0 w.heap.size 27 #[.bool x.list, .int .i64 x.k, .string x.T, .int .i64 x.ta, .int .i64 x.at_, .slice xA x.L.length xc] := by rw [← hW0]; exact Lies.new w _ _
  have hS : ∀ W, Lies W w.heap.size 27 #[.bool x.list, .int .i64 x.k, .string x.T, .int .i64 x.ta, .int .i64 x.at_, .slice xA x.L.length xc] → (W.cell? ⟨w.heap.size, 0, none⟩ = some (.bool x.list) ∧ W.cell? ⟨w.heap.size, 1, none⟩ = some (.int .i64 x.k) ∧ W.cell? ⟨w.heap.size, 2, none⟩ = some (.string x.T) ∧ W.cell? ⟨w.heap.size, 3, none⟩ = some (.int .i64 x.ta) ∧ W.cell? ⟨w.heap.size, 4, none⟩ = some (.int .i64 x.at_) ∧ W.cell? ⟨w.heap.size, 5, none⟩ = some (.slice xA x.L.length xc)) := fun W h =>
    ⟨h.cell 0, h.cell 1, h.cell 2, h.cell 3, h.cell 4, h.cell 5⟩
  have HN : Hid (Calls Tryz.prog 31 #[.pointer (some ⟨b, 0, none⟩), .slice A n c] W0.drew fun e w1 => ∃ M : Nat, e = .returned (.pointer (some ⟨M, 0, none⟩)) ∧ (w1.cell? ⟨w.heap.size, 0, none⟩ = some (.bool x.list) ∧ w1.cell? ⟨w.heap.size, 1, none⟩ = some (.int .i64 x.k) ∧ w1.cell? ⟨w.heap.size, 2, none⟩ = some (.string x.T) ∧ w1.cell? ⟨w.heap.size, 3, none⟩ = some (.int .i64 x.ta) ∧ w1.cell? ⟨w.heap.size, 4, none⟩ = some (.int .i64 x.at_) ∧ w1.cell? ⟨w.heap.size, 5, none⟩ = some (.slice xA x.L.length xc)) ∧
      Calls Tryz.prog 32 #[.pointer (some ⟨M, 0, none⟩), sval x xA xc, .map none] w1 fun e w' => BAns w b F (Bd.tm (L.map (·.2)) n [] N x) e w' ∧ (w'.cell? ⟨w.heap.size, 0, none⟩ = some (.bool x.list) ∧ w'.cell? ⟨w.heap.size, 1, none⟩ = some (.int .i64 x.k) ∧ w'.cell? ⟨w.heap.size, 2, none⟩ = some (.string x.T) ∧ w'.cell? ⟨w.heap.size, 3, none⟩ = some (.int .i64 x.ta) ∧ w'.cell? ⟨w.heap.size, 4, none⟩ = some (.int .i64 x.at_) ∧ w'.cell? ⟨w.heap.size, 5, none⟩ = some (.slice xA x.L.length xc))) := by
    have hb0 : Mk.Begin w0 W0.drew b F N A n c L := ⟨h.base.trans (hB0d.mono h.base.size), h.T, h.K, h.bk.below hB0d, h.low, h.dc.turn (Turn.of_below (F := fun _ => False) hB0d) fun k _ hk => ⟨id, hk⟩, h.few, h.ok⟩
    refine (knewMaker w0 W0.drew b F N A n c L hb0).mono ?_
    rintro e w1 ⟨⟨E, M, Y, rfl, hE, e0, eD, en, ebk, hrep, hFb, hft⟩, b1⟩
    have hl1 : Lies w1 w.heap.size 27 #[.bool x.list, .int .i64 x.k, .string x.T, .int .i64 x.ta, .int .i64 x.at_, .slice xA x.L.length xc] := (b1.block _ hL0.lt).trans hL0
    have hW0s : W0.drew.heap.size = w.heap.size + 1 := by rw [← hW0]; simp [World.drew]
    have hbw : Below w.heap.size w w1 := hB0d.trans (b1.mono hB0d.size)
    have hnf : ∀ k, k < W0.drew.heap.size → ¬ F k → ¬ Mk.foot M Y k := fun k hk hF e => (hft k e).elim hF fun e2 => by omega
    have hnb : ¬ F w.heap.size := fun e => by have := h.bk.lt _ e; omega
    have hx1 : STree w1 (fun k _ => ¬ Mk.foot M Y k) x xA xc := ⟨hx.le, hx.tree.turn9 (Turn.of_below (F := fun _ => False) hbw) fun k hlt hk => ⟨id, hnf k (by omega) hk⟩⟩
    have hlen : E.D.length = n := by rw [hE.len, en]
    have hk := kterm E hE (by rw [e0]; exact hG) (by rw [eD]; exact h.ok) w1 M Y N x xA xc none [] hrep hx1 hfx (.inl ⟨rfl, rfl⟩) hI hN (fun _ hp => (List.not_mem_nil hp).elim) (by rw [hlen, eD]; exact hroom)
    rw [hlen, eD] at hk
    refine ⟨M, rfl, hS w1 hl1, hk.mono ?_⟩
    rintro e w2 ⟨rfl, s', ⟨Y', r2, t2, y2⟩, hN'⟩
    refine ⟨⟨rfl, Y'.Fb, ?_, ?_, fun k hk => ?_⟩, hS w2 (t2.lies hl1 (hnf _ (by omega) hnb))⟩
    · have := r2.bank
      rw [ebk, hN'] at this
      exact this
    · exact (Turn.of_below (F := F) hbw).trans t2 fun k hk => (hft k hk).imp id fun e => by omega
    · rcases y2 k (.inr (.inl hk)) with e | e
      · exact (hft k e).imp id fun e => by omega
      · have := hbw.size
        exact .inr (by omega)
  have HS := Lib.hid (hS W0.drew hL0)
  generalize Bd.tm (L.map (·.2)) n [] N x = R at HN ⊢
  obtain ⟨xn, hxn⟩ : ∃ xn, x.L.length = xn := ⟨_, rfl⟩
  obtain ⟨xl, hxl⟩ : ∃ xl, x.list = xl := ⟨_, rfl⟩
  obtain ⟨xk, hxk⟩ : ∃ xk, x.k = xk := ⟨_, rfl⟩
  obtain ⟨xT, hxT⟩ : ∃ xT, x.T = xT := ⟨_, rfl⟩
  obtain ⟨xta, hxta⟩ : ∃ xta, x.ta = xta := ⟨_, rfl⟩
  obtain ⟨xa, hxa⟩ : ∃ xa, x.at_ = xa := ⟨_, rfl⟩
  have hW0' : w.alloc (.cells #[.bool xl, .int .i64 xk, .string xT, .int .i64 xta, .int .i64 xa, .slice xA xn xc] 27) = W0 := by rw [← hW0, ← hxl, ← hxk, ← hxT, ← hxta, ← hxa, ← hxn]
  unfold sval at HN ⊢
  rw [hxn, hxl, hxk, hxT, hxta, hxa] at HN HS ⊢
  clear h hG hI hN hx hfx hroom hB0 hB0d hL0 hS hxn hxl hxk hxT hxta hxa hW0
  go_enter Tryz.func12, Tryz.ntmps12
  go_wp2_with fail
  go_region_held3 (fun W => W.cell? ⟨w.heap.size, 0, none⟩ = some (.bool xl) ∧ W.cell? ⟨w.heap.size, 1, none⟩ = some (.int .i64 xk) ∧ W.cell? ⟨w.heap.size, 2, none⟩ = some (.string xT) ∧ W.cell? ⟨w.heap.size, 3, none⟩ = some (.int .i64 xta) ∧ W.cell? ⟨w.heap.size, 4, none⟩ = some (.int .i64 xa) ∧ W.cell? ⟨w.heap.size, 5, none⟩ = some (.slice xA xn xc))
    (first | exact HS.out | assumption)
    (first | (go_at_call 31; refine HN.out.mono ?_; rintro e w1 ⟨M, rfl, hk1, hg⟩) | (go_at_call 32; refine Calls.mono (by assumption) ?_; rintro e w2 ⟨⟨rfl, v⟩, hk2⟩))
  all_goals
    have V := Lib.hid v
    clear v
    go_wp2
    go_ret2
    exact ⟨rfl, V.out⟩
end Go.Proofs.YtcgaeknikfaghaaGreatDoor
