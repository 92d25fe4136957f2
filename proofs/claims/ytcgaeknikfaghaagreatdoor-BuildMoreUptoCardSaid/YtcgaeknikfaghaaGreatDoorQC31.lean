/- What the proofs of this claim use, text by text. -/
import Derived.Test.YtcgaeknikfaghaaGreatDoorQC30
set_option linter.unusedSimpArgs false
set_option linter.unusedVariables false
set_option maxRecDepth 100000
set_option maxHeartbeats 25600000
namespace Go.Proofs.YtcgaeknikfaghaaGreatDoor
open Go.RowKit
theorem cut_x {A : Option Addr} {n c : Nat} (W : World) (hn : 1 ≤ n) : (Instr.slice 25 (.slice A n c) (some (.int .i64 1)) none none).run Tryz.prog W = .ok (.slice (if c = 1 then A else A.map (·.add 6)) (n - 1) (c - 1)) W := by
  have hz : (sizeOf (Tryz.prog.elem 25)).run Tryz.prog W = .ok 6 W := by kernel_rfl
  have := run_slice_l (P := Tryz.prog) W 25 A n c (by kernel_rfl) .i64 ((1 : Nat) : Int) (by omega) (by omega)
  rw [hz] at this
  simp only [Result.andThen, sliced, Int.toNat_natCast, Nat.one_mul] at this
  exact this
theorem TreeL.tail_ {w : World} {G : Nat → Nat → Prop} {A : Option Addr} {x : Sx} {l : List Sx} {c : Nat} (h : TreeL w G A (x :: l)) (hc : l.length + 1 ≤ c) : TreeL w G (if c = 1 then A else A.map (·.add 6)) l := by
  cases h with
  | cons b off x l A' c' h1 h2 h3 h4 h5 =>
    split
    · have : l = [] := List.length_eq_zero_iff.1 (by omega)
      subst this
      exact .nil _
    · show TreeL w G (some ((⟨b, off, none⟩ : Addr).add 6)) l
      rw [addr_add]
      exact h5
theorem kfnEnds (E : Mk.Env) (hE : E.Ok) (w : World) (M : Nat) (Y : Mk.Lay) (s : Ms) (bs : List Fr) (f : Fr) (j b1 b2 : Nat) (A : Option Addr) (n c : Nat) (l : List Int) (h : Mk.Rep E w M Y s) (hf : s.fr = bs ++ [f]) (hs : Mk.Small s) (hj : j < E.n)
    (l1 : Lies w b1 74 #[.pointer (some ⟨M, 0, none⟩)]) (l2 : Lies w b2 218 #[.int .i64 2, .int .i64 (j : Int)]) (hA : NumS w A n l) (hw : ∀ z ∈ l, 0 ≤ z ∧ z ≤ 30000) (hn : n ≤ 1000)
    (hpl : ∀ d, E.D[j]? = some d → d.par.length ≤ 1000 ∧ ∀ p ∈ d.par, p.1.size ≤ maxLen) :
    Calls Tryz.prog 165 #[.slice A n c, .pointer (some ⟨b1, 0, none⟩), .pointer (some ⟨b2, 0, none⟩)] w fun x w' => Mk.Ans E w M Y (Mk.ends E.D s (.fn j) l) x w' := by
  have c1 : w.cell? ⟨b1, 0, none⟩ = some (.pointer (some ⟨M, 0, none⟩)) := by rw [l1.cell]; rfl
  have c2 : w.cell? ⟨b2, 1, none⟩ = some (.int .i64 (j : Int)) := by rw [l2.cell]; rfl
  have z1 := l1.lt
  have z2 := l2.lt
  have HC := Lib.hid (kcall E hE w M Y s bs f j A n c l h hf hs hj hA hw hn hpl)
  obtain ⟨r, hr⟩ : ∃ r, Mk.call E.D s j l = r := ⟨_, rfl⟩
  have hr2 : Mk.ends E.D s (.fn j) l = r := hr
  rw [hr] at HC
  rw [hr2]
  clear h hf hs hj l1 l2 hA hw hpl hr hr2
  go_enter Tryz.func165, Tryz.ntmps165
  go_wp2_with fail
  refine HC.out.mono ?_
  rintro e w1 ⟨rfl, v⟩
  have V := Lib.hid v
  clear HC v c1 c2
  go_wp2
  go_ret
  exact ⟨rfl, V.out⟩
theorem kletEnds (E : Mk.Env) (w : World) (M : Nat) (Y : Mk.Lay) (s : Ms) (bs : List Fr) (f : Fr) (names : List ByteArray) (t bx : Sx) (b1 b2 b3 : Nat) (nA : Option Addr) (nc : Nat) (pA : Option Addr) (pc : Nat) (A : Option Addr) (c : Nat) (l : List Int) (h : Mk.Rep E w M Y s) (hf : s.fr = bs ++ [f]) (hs : Mk.Small s)
    (g1 : ¬ Mk.foot M Y b1) (g2 : ¬ Mk.foot M Y b2) (g3 : ¬ Mk.foot M Y b3) (l1 : Lies w b1 74 #[.pointer (some ⟨M, 0, none⟩)]) (l2 : Lies w b2 88 #[.slice nA names.length nc]) (hN : Rd w (fun k => ¬ Mk.foot M Y k) nA names.length nc (names.map .string))
    (l3 : Lies w b3 25 #[.slice pA 2 pc]) (hP : TreeL w (fun b _ => ¬ Mk.foot M Y b) pA [bx, t]) (hpc : 2 ≤ pc ∧ pc ≤ maxLen) (hA : NumS w A names.length l) (hw : ∀ z ∈ l, (Lit.int .i64 z).wf = true) (hns : ∀ s ∈ names, s.size ≤ maxLen) (hn : names.length ≤ 1000) :
    Calls Tryz.prog 186 #[.slice A names.length c, .pointer (some ⟨b1, 0, none⟩), .pointer (some ⟨b2, 0, none⟩), .pointer (some ⟨b3, 0, none⟩)] w fun x w' => Mk.Ans E w M Y (Mk.ends E.D s (.bind names t) l) x w' := by
  obtain ⟨i0, hi, hz0, hz1, hz2⟩ := info_parts infoSc
  obtain ⟨w0, hw0⟩ : ∃ w0, w0 = w.drew := ⟨_, rfl⟩
  have hb0 : Below w.heap.size w w0 := by rw [hw0]; exact ⟨rfl, rfl, rfl, Nat.le_refl _, fun _ _ => rfl⟩
  have h0 : Mk.Rep E w0 M Y s := h.below hb0
  have HB : Hid (Calls Tryz.prog 47 #[.slice nA names.length nc, .slice A names.length c] w0 fun e w' => e = .returned (.map (some w0.heap.size)) ∧ Below w0.heap.size w0 w' ∧ ∃ q D, w'.ownsMap Tryz.prog 9 (plainElem (H := Unit) Tryz.prog 3) w0.heap.size q D ∧ TellS D (Bd.bound (List.zip names l))) :=
    kbound w0 nA names.length nc A c names l (hN.below hb0) (hA.below hb0) hw hns (by omega)
  have hS0 : ∀ W, Below w0.heap.size w0 W → (W.cell? ⟨b1, 0, none⟩ = some (.pointer (some ⟨M, 0, none⟩)) ∧ W.cell? ⟨b2, 0, none⟩ = some (.slice nA names.length nc) ∧ W.cell? ⟨M, 4, none⟩ = some (.slice Y.sA s.sc.length Y.sc) ∧ W.cell? ⟨b3, 0, none⟩ = some (.slice pA 2 pc)) := fun W hW => by
    have hb := hb0.trans (hW.mono hb0.size)
    have m1 := (hb.block _ l1.lt).trans l1
    have m2 := (hb.block _ l2.lt).trans l2
    have m3 := (hb.block _ l3.lt).trans l3
    exact ⟨by rw [Lies.cell (t := 74) (cs := #[.pointer (some ⟨M, 0, none⟩)]) m1]; rfl, by rw [Lies.cell (t := 88) (cs := #[.slice nA names.length nc]) m2]; rfl, by rw [(h.below hb).own.cell]; rfl, by rw [Lies.cell (t := 25) (cs := #[.slice pA 2 pc]) m3]; rfl⟩
  have HI : Hid (∀ w1 o, Below w0.heap.size w0 w1 → (w1.alloc o).ownsRow 0 127 3 (.slice Y.sA s.sc.length Y.sc) s.sc.length (Y.SL.flatMap scells9)) := fun w1 o hb => ((h0.below hb).alloc o).srow
  have HW : Hid (∀ w1 o A2 c2 w2, Below w0.heap.size w0 w1 → (∃ q D, w1.ownsMap Tryz.prog 9 (plainElem (H := Unit) Tryz.prog 3) w0.heap.size q D ∧ TellS D (Bd.bound (List.zip names l))) → (w1.alloc o).grownBy w2 (Value.slice Y.sA s.sc.length Y.sc).ownBlock → w2.ownsRow 0 127 3 (.slice A2 (s.sc.length + 1) c2) (s.sc.length + 1) (Y.SL.flatMap scells9 ++ [.map (some w0.heap.size), .bool false, .int .i64 0]) →
      ((Value.slice A2 (s.sc.length + 1) c2).ownBlock = (Value.slice Y.sA s.sc.length Y.sc).ownBlock ∨ (Value.slice A2 (s.sc.length + 1) c2).ownBlock = some (w1.alloc o).heap.size) →
      (w2.cell? ⟨b1, 0, none⟩ = some (.pointer (some ⟨M, 0, none⟩)) ∧ w2.cell? ⟨b2, 0, none⟩ = some (.slice nA names.length nc) ∧ w2.cell? ⟨M, 4, none⟩ = some (.slice Y.sA s.sc.length Y.sc) ∧ w2.cell? ⟨b3, 0, none⟩ = some (.slice pA 2 pc)) ∧ M < w2.heap.size ∧ w2.frozen? ⟨M, 4, none⟩ = false ∧
      ((w2.setCell ⟨M, 4, none⟩ (.slice A2 (s.sc.length + 1) c2)).cell? ⟨b1, 0, none⟩ = some (.pointer (some ⟨M, 0, none⟩)) ∧ (w2.setCell ⟨M, 4, none⟩ (.slice A2 (s.sc.length + 1) c2)).cell? ⟨b3, 0, none⟩ = some (.slice pA 2 pc)) ∧
      Calls Tryz.prog 160 #[.pointer (some ⟨M, 0, none⟩), .slice (if pc = 1 then pA else pA.map (·.add 6)) 1 (pc - 1), .func (.func 187) #[.pointer (some ⟨M, 0, none⟩)] #[]] (w2.setCell ⟨M, 4, none⟩ (.slice A2 (s.sc.length + 1) c2)).drew fun e w' => Mk.Ans E w M Y (Mk.ends E.D s (.bind names t) l) e w' ∧ (w'.cell? ⟨b1, 0, none⟩ = some (.pointer (some ⟨M, 0, none⟩)) ∧ w'.cell? ⟨b3, 0, none⟩ = some (.slice pA 2 pc))) := fun w1 o A2 c2 w2 hb1 hown q1 q2 q3 => by
    obtain ⟨q, D, ho, ht⟩ := hown
    rw [blk_eq] at q1
    rw [blk_eq, blk_eq] at q3
    have hb : Below w.heap.size w (w1.alloc o) := hb0.trans ((hb1.alloc hb1.size o).mono hb0.size)
    have h2 : Mk.Rep E (w1.alloc o) M Y s := h.below hb
    have hs2 : ScAs (w1.alloc o) (fun k => ¬ Mk.foot M Y k) (.map (some w0.heap.size)) ⟨List.zip names l, false, 0⟩ := .inr ⟨_, q, D, rfl, fun e => by have := h0.lt _ e; omega, ((Turn.refl (fun _ => False) w1).alloc o).map ho id, ht⟩
    have hleft := h2.scope (v := .map (some w0.heap.size)) (x := ⟨List.zip names l, false, 0⟩) q1 q2 q3 hs2
    have tg : Turn (fun k => blkOf Y.sA = some k) (w1.alloc o) w2 := Turn.of_grown q1 fun _ e _ => e
    have hnf : ∀ k, ¬ Mk.foot M Y k → ¬ blkOf Y.sA = some k := fun k hk e => hk (.inr (.inr (.inr (.inl e))))
    have m1 := (hb.block _ l1.lt).trans l1
    have m2 := (hb.block _ l2.lt).trans l2
    have m3 := (hb.block _ l3.lt).trans l3
    have hM2 := tg.lies h2.own h2.M_s
    obtain ⟨Y2, r2, t2, y2, a2⟩ := hleft.apart
    have n1 := t2.lies (show Lies (w1.alloc o) b1 74 #[.pointer (some ⟨M, 0, none⟩)] from m1) g1
    have n3 := t2.lies (show Lies (w1.alloc o) b3 25 #[.slice pA 2 pc] from m3) g3
    have hlen : (s.sc ++ [(⟨List.zip names l, false, 0⟩ : Scp)]).length = s.sc.length + 1 := by simp
    have hdr : Below (w2.setCell ⟨M, 4, none⟩ (.slice A2 (s.sc.length + 1) c2)).heap.size (w2.setCell ⟨M, 4, none⟩ (.slice A2 (s.sc.length + 1) c2)) (w2.setCell ⟨M, 4, none⟩ (.slice A2 (s.sc.length + 1) c2)).drew := ⟨rfl, rfl, rfl, Nat.le_refl _, fun _ _ => rfl⟩
    have hx := ((hP.turn9 (F := fun _ => False) (G' := fun k => ¬ Mk.foot M Y k) (Turn.of_below hb) fun k _ hk => ⟨id, hk⟩).turn9 t2 a2).tail_ (c := pc) (by have := hpc.1; simp; omega)
    have hc := knest E _ M Y2 _ bs f _ (pc - 1) _ [t] .first (r2.below hdr) hf (by have := hs.fr; rw [hf, List.length_append] at this; omega) (by show (s.sc ++ [_]).length ≤ _; rw [hlen]; have := hs.sc; omega) (by have := (hs.ids f (by rw [hf]; simp)).2; omega) ⟨by have := hpc.1; simp; omega, by have := hpc.2; omega⟩ (hx.kept hdr) rfl
    refine ⟨⟨by rw [(tg.lies (show Lies (w1.alloc o) b1 74 #[.pointer (some ⟨M, 0, none⟩)] from m1) (hnf _ g1)).cell]; rfl, by rw [(tg.lies (show Lies (w1.alloc o) b2 88 #[.slice nA names.length nc] from m2) (hnf _ g2)).cell]; rfl, by rw [hM2.cell]; rfl, by rw [(tg.lies (show Lies (w1.alloc o) b3 25 #[.slice pA 2 pc] from m3) (hnf _ g3)).cell]; rfl⟩, hM2.lt, hM2.free 4, ⟨by rw [n1.cell]; rfl, by rw [n3.cell]; rfl⟩, hc.mono fun e w' ⟨e1, e2⟩ => ?_⟩
    have e3 := ((e2.up hdr).after t2 y2).up hb
    exact ⟨⟨e1, e3⟩, by rw [(Mk.lies_left e3 l1 g1).cell]; rfl, by rw [(Mk.lies_left e3 l3 g3).cell]; rfl⟩
  have HK : Hid (∀ W, Below w0.heap.size w0 W → (W.cell? ⟨b1, 0, none⟩ = some (.pointer (some ⟨M, 0, none⟩)) ∧ W.cell? ⟨b2, 0, none⟩ = some (.slice nA names.length nc) ∧ W.cell? ⟨M, 4, none⟩ = some (.slice Y.sA s.sc.length Y.sc) ∧ W.cell? ⟨b3, 0, none⟩ = some (.slice pA 2 pc))) := hS0
  have HK2 : Hid (∀ W o, Below w0.heap.size w0 W → ((W.alloc o).cell? ⟨b1, 0, none⟩ = some (.pointer (some ⟨M, 0, none⟩)) ∧ (W.alloc o).cell? ⟨b2, 0, none⟩ = some (.slice nA names.length nc) ∧ (W.alloc o).cell? ⟨M, 4, none⟩ = some (.slice Y.sA s.sc.length Y.sc) ∧ (W.alloc o).cell? ⟨b3, 0, none⟩ = some (.slice pA 2 pc))) := fun W o hW => hS0 _ (hW.alloc hW.size o)
  have HM : Hid (∀ W, Below w0.heap.size w0 W → M < W.heap.size ∧ ∀ o, M < (W.alloc o).heap.size) := fun W hW => ⟨(h0.below hW).own.lt, fun o => ((h0.below hW).alloc o).own.lt⟩
  have hM0 := h0.own.lt
  obtain ⟨m, hmm⟩ : ∃ m, s.sc.length = m := ⟨_, rfl⟩
  obtain ⟨L, hL⟩ : ∃ L : List Value, Y.SL.flatMap scells9 = L := ⟨_, rfl⟩
  obtain ⟨sA, hsA⟩ : ∃ sA, Y.sA = sA := ⟨_, rfl⟩
  obtain ⟨sc, hsc2⟩ : ∃ sc, Y.sc = sc := ⟨_, rfl⟩
  obtain ⟨r, hr⟩ : ∃ r, Mk.ends E.D s (.bind names t) l = r := ⟨_, rfl⟩
  obtain ⟨n, hnn⟩ : ∃ n, names.length = n := ⟨_, rfl⟩
  obtain ⟨p1, hp1⟩ : ∃ p1, (if pc = 1 then pA else pA.map (·.add 6)) = p1 := ⟨_, rfl⟩
  have hone2 : ∀ u ∈ ([.map (some w0.heap.size), .bool false, .int .i64 0] : List Value), u.oneCell' = true := by
    intro u hu
    simp at hu
    rcases hu with rfl | rfl | rfl <;> rfl
  have hn1 : m + 1 ≤ maxLen := by have := hs.sc; unfold maxLen; omega
  have hn8 : (m + 1) * 24 ≤ 140737488355328 := by have := hs.sc; omega
  have hcut : ∀ W : World, (Instr.slice 25 (.slice pA 2 pc) (some (.int .i64 1)) none none).run Tryz.prog W = .ok (.slice p1 1 (pc - 1)) W := fun W => by
    rw [← hp1]
    exact cut_x W (by omega)
  have hmf : ∀ (fn : Fn) (first cap : Array Value) (w : World), (Instr.makeFunc fn first cap).run Tryz.prog w = .ok (.func fn first cap) w := fun _ _ _ _ => rfl
  rw [hL] at HW HI
  rw [hr, hp1] at HW
  rw [hr]
  rw [hmm, hsA, hsc2] at HW HI HK HK2
  rw [hnn] at HW HK HB HK2 ⊢
  clear h hf hs hb0 h0 hS0 g1 g2 g3 l1 l2 l3 hN hP hpc hA hw hns hn hmm hL hsA hsc2 hr hnn hp1
  subst hw0
  go_enter Tryz.func186, Tryz.ntmps186
  go_wp2_with fail
  have hm1 := HK.out w.drew (Below.refl _ _)
  obtain ⟨m1, m2, m4, m3⟩ := hm1
  go_cut [16] (fun _ W => (W.cell? ⟨b1, 0, none⟩ = some (.pointer (some ⟨M, 0, none⟩)) ∧ W.cell? ⟨b3, 0, none⟩ = some (.slice pA 2 pc)) ∧ Calls Tryz.prog 160 #[.pointer (some ⟨M, 0, none⟩), .slice p1 1 (pc - 1), .func (.func 187) #[.pointer (some ⟨M, 0, none⟩)] #[]] W.drew fun e w' => Mk.Ans E w M Y r e w' ∧ (w'.cell? ⟨b1, 0, none⟩ = some (.pointer (some ⟨M, 0, none⟩)) ∧ w'.cell? ⟨b3, 0, none⟩ = some (.slice pA 2 pc)))
  case first =>
    go_region_law (first
      | (refine step_append_wide rfl (.tmp 10) (.tmp 15) 121 rfl 0 127 i0 (.agg #[.map none, .bool false, .int .i64 0]) 3 24 Tryz.underlying121 hi hz0 hz1 hz2 rfl (by decide) (.slice sA m sc) m L (by simp [Act.eval, Act.put]) (HI.out _ _ (by assumption)) _ 1 1 [.map (some w.heap.size), .bool false, .int .i64 0] (by simp [Act.eval, Act.put]) rfl (new_at rfl) hone2 hn1 hn8 (Nat.zero_le _) ?_; intro A2 c2 w2 o2 q2 a2; obtain ⟨⟨s1, s2, s4, s3⟩, z2, f2, x2, n2⟩ := HW.out _ _ A2 c2 w2 (by assumption) (by assumption) q2 o2 a2; have X2 := Lib.hid x2; have N2 := Lib.hid n2; clear o2 q2 a2 x2 n2)
      | (go_simp; go_at_call 47; (with_reducible refine HB.out.mono ?_); rintro e w1 ⟨rfl, hbw, how⟩; obtain ⟨k1, k2, k4, k3⟩ := HK.out w1 hbw; obtain ⟨hMw, hMa⟩ := HM.out w1 hbw; have ka := HK2.out w1 (.cells #[.map (some w.heap.size), .bool false, .int .i64 0] 127) hbw; obtain ⟨j1, j2, j4, j3⟩ := ka))
    all_goals
      go_wp2_with fail
      go_meet
      exact ⟨X2.out, N2.out⟩
  case rest =>
    obtain ⟨⟨r1, r3⟩, hc⟩ := hcut
    have HC := Lib.hid hc
    have HS : Hid (wc.drew.cell? ⟨b1, 0, none⟩ = some (.pointer (some ⟨M, 0, none⟩)) ∧ wc.drew.cell? ⟨b3, 0, none⟩ = some (.slice pA 2 pc)) := ⟨r1, r3⟩
    clear hc HK HK2 HI HB HM HW m1 m2 m4 m3
    go_wp2_with fail
    go_region_held3 (fun W => W.cell? ⟨b1, 0, none⟩ = some (.pointer (some ⟨M, 0, none⟩)) ∧ W.cell? ⟨b3, 0, none⟩ = some (.slice pA 2 pc))
      (first | exact HS.out | assumption)
      (first | (go_at_call 160; refine HC.out.mono ?_; rintro e w3 ⟨⟨rfl, v⟩, hk3⟩) | fail)
    all_goals
      have V := Lib.hid v
      clear v
      go_wp2
      go_ret
      exact ⟨rfl, V.out⟩
end Go.Proofs.YtcgaeknikfaghaaGreatDoor
