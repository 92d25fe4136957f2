/- What the proofs of this claim use, text by text. -/
import Derived.Test.YtfjpcjebecgglaaGreatDoorQE11
import Derived.Test.YtfjpcjebecgglaaGreatDoorQE12
set_option linter.unusedSimpArgs false
set_option linter.unusedVariables false
set_option maxRecDepth 100000
set_option maxHeartbeats 25600000
namespace Go.Proofs.YtfjpcjebecgglaaGreatDoor
open Go.RowKit Go.Shelf
structure PcL (w wr : World) (R : List (Int × Int)) (A' : Option Addr) (c' : Nat) (l : List PcR) (f i m : Nat) (s : Int) : Prop where
  below : Below w.heap.size w wr
  own : OwnP wr w w.heap.size A' c' l
  len : l.length = m
  sum : l.map (·.2) ++ Sh.cut ((R.take i).drop f) (R.drop i) = Sh.cut [] R
  tot : Lt.total ((R.take i).drop f) = s
  le : m ≤ i
  ne : f < i ↔ (R.take i).drop f ≠ []
theorem kpieces12 (w : World) (A : Option Addr) (n c : Nat) (R : List (Int × Int)) (h : RunS w A n R) (hn : n ≤ 100000) (hc : n ≤ c) (hR : ∀ x ∈ R, ¬ x.2 < 1) (hT : Lt.total R ≤ 1099511627776) :
    Calls Tryz.prog 85 #[.slice A n c] w fun e w' => (∃ A' c' l, e = .returned (.slice A' l.length c') ∧ OwnP w' w w.heap.size A' c' l ∧ l.map (·.2) = Sh.cut [] R) ∧ Below w.heap.size w w' := by
  have HH := Lib.hid h
  have HR : Hid (∀ x ∈ R, 1 ≤ x.2) := fun x hx => Int.not_lt.1 (hR x hx)
  have HT := Lib.hid hT
  clear h hR hT
  obtain ⟨Post, hPost⟩ : ∃ Post : Ending → World → Prop, Post = fun e w' => (∃ A' c' l, e = .returned (.slice A' l.length c') ∧ OwnP w' w w.heap.size A' c' l ∧ l.map (·.2) = Sh.cut [] R) ∧ Below w.heap.size w w' := ⟨_, rfl⟩
  rw [← hPost]
  have HPo := Lib.hid hPost
  clear hPost
  go_enter Tryz.func85, Tryz.ntmps85
  go_wp2
  go_loopw [3, 4, 5, 10] (fun av fv sv iv wr => ∃ (f i m : Nat) (s : Int) (A' : Option Addr) (c' : Nat) (l : List PcR), f ≤ i ∧ i ≤ n ∧ iv = .int .i64 (i : Nat) ∧ fv = .int .i64 (f : Nat) ∧ sv = .int .i64 s ∧ av = .slice A' m c' ∧ Hid (PcL w wr R A' c' l f i m s)) (fun _ _ _ iv _ => n - (intOf iv).toNat)
  case atStart => exact ⟨0, 0, 0, 0, none, 0, [], Nat.le_refl _, Nat.zero_le _, rfl, rfl, rfl, rfl, Below.refl _ _, OwnP.nil _ _ _, rfl, rfl, rfl, Nat.le_refl _, by simp⟩
  case round =>
    obtain ⟨f, i, m, s, A', c', l, hfi, hin, rfl, rfl, rfl, rfl, HI⟩ := hrel
    by_cases hlt : i < n
    · obtain ⟨b, off, ⟨C, y⟩, rfl, hx, hmem, hdr, hcl⟩ := HH.out.get hlt
      obtain ⟨ht1, ht2, ht3⟩ := Sh.tot_part (fun z hz => Int.not_lt.2 (HR.out z hz)) hfi hx
      have hy1 : 1 ≤ y := HR.out _ hmem
      have hI := HI.out
      obtain ⟨q1, q2, q3⟩ := hcl wr hI.below
      have hs0 : 0 ≤ s := by rw [← hI.tot]; exact ht2
      have hsy : s + y ≤ 1099511627776 := by rw [← hI.tot]; exact Int.le_trans ht1 HT.out
      have hy40 : y ≤ 1099511627776 := by omega
      have hlt' : (i : Int) < (n : Int) := by omega
      have hi0 : (0 : Int) ≤ (i : Int) := by omega
      have hsum := hI.sum
      rw [hdr] at hsum
      have HB := Lib.hid (hI.below.alloc hI.below.size (.cells #[.int .i64 C, .int .i64 y] 70))
      have HO := Lib.hid (hI.own.kept ((Below.refl _ wr).alloc (Nat.le_refl _) (.cells #[.int .i64 C, .int .i64 y] 70)))
      have HM := Lib.hid hI.len
      have hmi := hI.le
      by_cases hcut : f < i ∧ 1000 < s + y
      · -- a new piece begins
        obtain ⟨hc1, hc2⟩ := hcut
        rw [Sh.cut_full (hI.ne.1 hc1) (by rw [hI.tot]; exact hc2)] at hsum
        obtain ⟨A2, hA2⟩ : ∃ A2, (if c = f then some (⟨b, off, none⟩ : Addr) else (some (⟨b, off, none⟩ : Addr)).map (·.add (f * 2))) = A2 := ⟨_, rfl⟩
        have hrun := fun W => rcut12_lh (A := some ⟨b, off, none⟩) (n := n) (c := c) (k := f) (m := i) W hfi (by omega)
        have hd := HH.out.part12 hfi (Nat.le_of_lt hlt) hc
        rw [hA2] at hd
        simp only [hA2] at hrun
        obtain ⟨n2, hn2⟩ : ∃ n2, i - f = n2 := ⟨_, rfl⟩
        obtain ⟨c2, hc2'⟩ : ∃ c2, c - f = c2 := ⟨_, rfl⟩
        simp only [hn2, hc2'] at hrun
        rw [hn2] at hd
        have HD := Lib.hid (show RunS w A2 n2 ((R.take i).drop f) ∧ n2 ≤ c2 from ⟨hd, by omega⟩)
        have hc1' : (f : Int) < (i : Int) := by omega
        have hbx := Lies.new wr 70 #[.int .i64 C, .int .i64 y]
        have HNx : Hid (∀ A3 c3 w3, OwnP w3 w w.heap.size A3 c3 (l ++ [((A2, n2, c2), (R.take i).drop f)]) → (wr.alloc (.cells #[.int .i64 C, .int .i64 y] 70)).grownBy w3 (Value.slice A' m c').ownBlock →
            (w3.cell? ⟨wr.heap.size, 0, none⟩ = some (.int .i64 C) ∧ w3.cell? ⟨wr.heap.size, 1, none⟩ = some (.int .i64 y)) ∧ PcL w w3 R A3 c3 (l ++ [((A2, n2, c2), (R.take i).drop f)]) i (i + 1) (m + 1) y) := fun A3 c3 w3 o3 g3 => by
          have hap : ¬ (Value.slice A' m c').ownBlock = some wr.heap.size := by
            intro e
            have := HO.out.row
            rw [HM.out] at this
            exact own_not_lies this hbx (by decide) e
          have l3 := (Turn.of_grown (F := fun q => (Value.slice A' m c').ownBlock = some q) g3 fun g hg _ => hg).lies hbx hap
          refine ⟨⟨l3.cell 0, l3.cell 1⟩, HB.out.grown g3 HB.out.size fun q hq => (HO.out.lt HM.out hq).1, o3, by rw [List.length_append, HM.out]; rfl, ?_, ?_, by omega, ?_⟩
          · rw [List.map_append, List.append_assoc]
            have e : (R.take (i + 1)).drop i = [(C, y)] := by
              have hi2 := (List.getElem?_eq_some_iff.1 hx).1
              rw [take_one hx, List.drop_append_of_le_length (by rw [List.length_take]; omega), List.drop_of_length_le (by rw [List.length_take]; omega)]
              rfl
            rw [e]
            exact hsum
          · have e : (R.take (i + 1)).drop i = [(C, y)] := by
              have hi2 := (List.getElem?_eq_some_iff.1 hx).1
              rw [take_one hx, List.drop_append_of_le_length (by rw [List.length_take]; omega), List.drop_of_length_le (by rw [List.length_take]; omega)]
              rfl
            rw [e, Lt.total_one]
          · refine ⟨fun _ e => ?_, fun _ => by omega⟩
            have hi2 := (List.getElem?_eq_some_iff.1 hx).1
            have := congrArg List.length e
            rw [List.length_drop, List.length_take] at this
            simp at this
            omega
        clear HI hI hx hmem hdr hcl ht1 ht2 ht3 hsum hA2 hd hn2 hc2' hbx hlt hfi
        go_wp2_with (at_builtin; refine appendP (wr.alloc (.cells #[.int .i64 C, .int .i64 y] 70)) rfl (.tmp 25) (.tmp 30) rfl w w.heap.size A' c' l m HM.out ((A2, n2, c2), (R.take i).drop f) (wr.heap.size + 1) (by simp) rfl HO.out HD.out rfl (by omega) HB.out.size ?_; intro A3 c3 w3 o3 g3; have hNx3 := HNx.out A3 c3 w3 o3 g3; obtain ⟨⟨e0, e1⟩, hp3⟩ := hNx3; have HP3 := Lib.hid hp3; clear o3 g3 hp3)
        go_roundw
        case rel => exact ⟨i, i + 1, m + 1, y, A3, c3, _, by omega, by omega, by go_num, rfl, by first | rfl | (congr 1; omega), rfl, HP3.out⟩
        case measure => simp [intOf]; omega
      · have hsum2 : l.map (·.2) ++ Sh.cut ((R.take (i + 1)).drop f) (R.drop (i + 1)) = Sh.cut [] R := by
          rw [ht3]
          rw [Sh.cut, if_neg (fun e => hcut ⟨hI.ne.2 e.1, by rw [← hI.tot]; exact e.2⟩)] at hsum
          exact hsum
        have HP3 : Hid (PcL w (wr.alloc (.cells #[.int .i64 C, .int .i64 y] 70)) R A' c' l f (i + 1) m (s + y)) := ⟨HB.out, HO.out, HM.out, hsum2, by rw [ht3, Lt.total_app, Lt.total_one, hI.tot], by omega, fun _ => by rw [ht3]; simp, fun _ => by omega⟩
        by_cases hc1 : f < i
        · have hc2 : ¬ 1000 < s + y := fun e => hcut ⟨hc1, e⟩
          have hc1' : (f : Int) < (i : Int) := by omega
          clear HI hI hx hmem hdr hcl ht1 ht2 ht3 hsum hsum2 hcut hlt
          go_wp2_with fail
          go_roundw
          case rel => exact ⟨f, i + 1, m, s + y, A', c', l, by omega, by omega, by go_num, rfl, rfl, rfl, HP3.out⟩
          case measure => simp [intOf]; omega
        · have hc1' : ¬ (f : Int) < (i : Int) := by omega
          clear HI hI hx hmem hdr hcl ht1 ht2 ht3 hsum hsum2 hcut hlt
          go_wp2_with fail
          go_roundw
          case rel => exact ⟨f, i + 1, m, s + y, A', c', l, by omega, by omega, by go_num, rfl, rfl, rfl, HP3.out⟩
          case measure => simp [intOf]; omega
    · obtain rfl : i = n := by omega
      have hI := HI.out
      have hsum := hI.sum
      have hdn : R.drop i = [] := List.drop_of_length_le (by rw [HH.out.len]; exact Nat.le_refl _)
      rw [hdn, Sh.cut] at hsum
      obtain ⟨A2, hA2⟩ : ∃ A2, (if c = f then A else A.map (·.add (f * 2))) = A2 := ⟨_, rfl⟩
      have hrun := fun W => rcut12_l (A := A) (n := i) (c := c) (k := f) W hfi
      have hd := HH.out.part12 hfi (Nat.le_refl _) hc
      rw [hA2] at hd
      simp only [hA2] at hrun
      obtain ⟨n2, hn2⟩ : ∃ n2, i - f = n2 := ⟨_, rfl⟩
      obtain ⟨c2, hc2'⟩ : ∃ c2, c - f = c2 := ⟨_, rfl⟩
      simp only [hn2, hc2'] at hrun
      rw [hn2] at hd
      have HD := Lib.hid (show RunS w A2 n2 ((R.take i).drop f) ∧ n2 ≤ c2 from ⟨hd, by omega⟩)
      have HM := Lib.hid hI.len
      have HO := Lib.hid hI.own
      have HB := Lib.hid hI.below
      have hmi := hI.le
      have hlt' : ¬ (i : Int) < (i : Int) := by omega
      have HE : Hid (∀ A3 c3 w3, OwnP w3 w w.heap.size A3 c3 (l ++ [((A2, n2, c2), (R.take i).drop f)]) → wr.grownBy w3 (Value.slice A' m c').ownBlock → Post (.returned (.slice A3 (m + 1) c3)) w3) := fun A3 c3 w3 o3 g3 => by
        rw [HPo.out]
        refine ⟨⟨A3, c3, _, ?_, o3, ?_⟩, HB.out.grown g3 HB.out.size fun q hq => (HO.out.lt HM.out hq).1⟩
        · rw [List.length_append, HM.out]; rfl
        · rw [List.map_append]
          exact hsum
      clear HI hI hsum hA2 hd hn2 hc2' hlt
      go_wp2_with (at_builtin; refine appendP wr rfl (.tmp 38) (.tmp 42) rfl w w.heap.size A' c' l m HM.out ((A2, n2, c2), (R.take i).drop f) _ rfl rfl HO.out HD.out rfl (by omega) HB.out.size ?_; intro A3 c3 w3 o3 g3; have HF := Lib.hid (HE.out A3 c3 w3 o3 g3); clear o3 g3)
      first
        | exact HF.out
        | (go_ret; exact HF.out)
        | exact bodyPost_ret (by simp [results, Tryz.results85, go_sem]) rfl HF.out
end Go.Proofs.YtfjpcjebecgglaaGreatDoor
namespace Go.Proofs.YtfjpcjebecgglaaGreatDoor
open Go.RowKit Go.Shelf
theorem Tx.Own.infix {R a P b : List (Int × Int)} (h : Tx.Own R) (e : R = a ++ P ++ b) : Tx.Own P := by
  subst e
  refine ⟨fun x hx => h.pos x (List.mem_append_left _ (List.mem_append_right _ hx)), fun i x y hx hy => ?_⟩
  have h1 := (List.getElem?_eq_some_iff.1 hx).1
  have h2 := (List.getElem?_eq_some_iff.1 hy).1
  refine h.adj (a.length + i) x y ?_ ?_
  · rw [List.append_assoc, List.getElem?_append_right (by omega), Nat.add_sub_cancel_left, List.getElem?_append_left h1]
    exact hx
  · rw [List.append_assoc, List.getElem?_append_right (by omega), show a.length + i + 1 - a.length = i + 1 by omega, List.getElem?_append_left h2]
    exact hy
theorem Tx.May.infix {R a P b : List (Int × Int)} (h : Tx.May R) (e : R = a ++ P ++ b) : Tx.May P := by
  have ho := h.own.infix e
  have hp := h.own.pos
  subst e
  have hf := h.few
  have hm := h.most
  rw [List.length_append, List.length_append] at hf
  rw [Lt.total_app, Lt.total_app] at hm
  have h1 := Lt.total_pos (R := a) fun x hx => Int.not_lt.2 (hp x (List.mem_append_left _ (List.mem_append_left _ hx))).2
  have h2 := Lt.total_pos (R := b) fun x hx => Int.not_lt.2 (hp x (List.mem_append_right _ hx)).2
  exact ⟨ho, by omega, by omega⟩
theorem Sh.cut_may {R P : List (Int × Int)} (h : Tx.May R) (hP : P ∈ Sh.cut [] R) : Tx.May P ∧ (1000 < Lt.total P → ∃ r, P = [r]) := by
  have hR : ∀ x ∈ R, ¬ x.2 < 1 := fun x hx => Int.not_lt.2 (h.own.pos x hx).2
  obtain ⟨a, b, e⟩ := List.append_of_mem hP
  have hf := Sh.cut_parts R []
  rw [e, List.flatten_append, List.flatten_cons, List.nil_append] at hf
  exact ⟨h.infix (a := a.flatten) (b := b.flatten) (by rw [← hf, List.append_assoc]), Sh.cut_small R [] (fun h => by rw [Lt.total] at h; omega) hR (fun x hx => absurd hx List.not_mem_nil) P hP⟩
theorem kLen12 (w : World) (A : Option Addr) (n c : Nat) (R : List (Int × Int)) (h : RunS w A n R) (hn : n ≤ 100000) :
    Calls Tryz.prog 21 #[.slice A n c] w fun e w' => e = .returned (.int .i64 (if Tx.mayB R then Lt.total R else 0)) ∧ Below w.heap.size w w' := by
  have HM := Lib.hid (kmayr w A n c R h (by omega))
  by_cases hm : Tx.May R
  · rw [Tx.mayB_true hm] at HM ⊢
    have HL := Lib.hid fun W (hb : Below w.heap.size w W) => klength_may W A n c R (h.below hb) hm
    simp only [if_true]
    obtain ⟨t, ht⟩ : ∃ t, Lt.total R = t := ⟨_, rfl⟩
    rw [ht] at HL ⊢
    clear h hm ht
    go_enter Tryz.func21, Tryz.ntmps21
    go_wp2_with fail
    refine HM.out.mono ?_
    rintro e w1 ⟨rfl, b1⟩
    have B1 := Lib.hid b1
    have HL1 := Lib.hid (HL.out w1 b1)
    clear b1 HL
    go_wp2_with fail
    refine HL1.out.mono ?_
    rintro e w2 ⟨rfl, b2⟩
    have B2 := Lib.hid (B1.out.trans (b2.mono B1.out.size))
    clear b2
    go_wp2
    go_ret
    exact ⟨rfl, B2.out⟩
  · rw [Tx.mayB_false hm] at HM ⊢
    clear h hm
    go_enter Tryz.func21, Tryz.ntmps21
    go_wp2_with fail
    refine HM.out.mono ?_
    rintro e w1 ⟨rfl, b1⟩
    have B1 := Lib.hid b1
    clear b1
    go_wp2
    go_ret
    exact ⟨rfl, B1.out⟩
theorem gen_room {w W W7 : World} {G : Nat → Prop} {x : Sx} {e : Ending} (hb : Below (w.alloc roomO).heap.size (w.alloc roomO) W) (h : SxSaid (fun _ => False) W x e W7) :
    ∃ A' c', e = .returned (sval x A' c') ∧ LiesX W7 w.heap.size zX ∧ SxSaid G w x (.returned (sval x A' c')) (fillX W7 w.heap.size (.bool x.list) (.int .i64 x.k) (.string x.T) (.int .i64 x.ta) (.int .i64 x.at_) (.slice A' x.L.length c')) := by
  obtain ⟨⟨A', c', rfl, ht⟩, hb7⟩ := h
  have hs := hb.size
  simp at hs
  obtain ⟨hr, hbw⟩ := room_lies (hb.trans (hb7.mono hb.size))
  exact ⟨A', c', rfl, hr, fill_said (Nat.le_refl _) hbw (ht.to fun b _ _ h => by rcases h with h | h; exact h.elim; exact ⟨.inr (by omega), by omega⟩)⟩
theorem Lt.may_bad {R : List (Int × Int)} (h : Tx.May R) : Lt.bad R = false := Lt.bad_false.2 fun x hx => ⟨(h.own.pos x hx).1, Int.not_lt.2 (h.own.pos x hx).2⟩
theorem kpiece12 (w : World) (A : Option Addr) (n c : Nat) (R : List (Int × Int)) (h : RunS w A n R) (hm : Tx.May R) (h1 : 1000 < Lt.total R → ∃ r, R = [r]) (hT : NmT w) (hG : Gl w) :
    Calls Tryz.prog 86 #[.slice A n c] w (SxSaid (fun _ => False) w (Sh.piece R)) := by
  have hn : n ≤ 65536 := by rw [← h.len]; exact hm.few
  have hb0 : Below w.heap.size w (w.alloc roomO) := (Below.refl _ w).alloc (Nat.le_refl _) _
  have HL := Lib.hid (kLen12 (w.alloc roomO) A n c R (h.below hb0) (by omega))
  rw [Tx.mayB_true hm] at HL
  simp only [if_true] at HL
  have HR := Lib.hid fun x w1 w2 e (b1 : Below (w.alloc roomO).heap.size (w.alloc roomO) w1) hs => gen_room (w := w) (W := w1) (W7 := w2) (G := fun _ => False) (x := x) (e := e) b1 hs
  by_cases hl : 1000 < Lt.total R
  · obtain ⟨⟨C, y⟩, rfl⟩ := h1 hl
    have hp := hm.own.pos (C, y) (List.mem_singleton.2 rfl)
    have ht := Lt.total_one C y
    have hmost := hm.most
    rw [ht] at HL hl hmost
    obtain ⟨N, rfl⟩ : ∃ N : Nat, y = (N : Int) := ⟨y.toNat, by omega⟩
    have hpc : Sh.piece [(C, (N : Int))] = Sh.long C N := by unfold Sh.piece; rw [ht, if_pos hl]; simp
    rw [hpc]
    obtain ⟨b, off, x, rfl, hx, _, _, hc⟩ := h.get (i := 0) (by rw [← h.len]; simp)
    obtain rfl : (C, (N : Int)) = x := by simpa using hx
    have hn1 : n = 1 := by rw [← h.len]; rfl
    have HC := Lib.hid fun W (hb : Below w.heap.size w W) => hc W hb
    have HLo := Lib.hid fun W (hb : Below w.heap.size w W) => klong12 C hp.1 N (by omega) (show N < 2199023255552 by omega) W (hT.below hb) (hG.below hb)
    have HB0 := Lib.hid hb0
    obtain ⟨z, hz⟩ : ∃ z, Sh.long C N = z := ⟨_, rfl⟩
    rw [hz] at HLo ⊢
    have hl1 : (1000 : Int) < (N : Int) := hl
    have hl2 : 1000 < N := by omega
    clear h hm h1 hT hG hb0 hp ht hmost hpc hx hc hz hl hl1
    subst hn1
    go_enter Tryz.func86, Tryz.ntmps86
    go_wp2_with fail
    refine HL.out.mono ?_
    rintro e w1 ⟨rfl, b1⟩
    have hb1 := HB0.out.trans (b1.mono HB0.out.size)
    obtain ⟨q1, q2, q3⟩ := HC.out w1 hb1
    simp only [Nat.zero_mul, Nat.add_zero] at q2 q3
    have HL1 := Lib.hid (HLo.out w1 hb1)
    have B1 := Lib.hid b1
    clear b1 hb1 HLo HC HL
    go_wp2_with fail
    refine HL1.out.mono ?_
    intro e w2 hs
    obtain ⟨A2, c2, rfl, hr, hsd⟩ := HR.out z w1 w2 e B1.out hs
    obtain ⟨k0, k1, k2, k3, k4, k5, y0, y1, y2, y3, y4, y5⟩ := ready hr
    obtain ⟨r0, r1, r2, r3, r4, r5⟩ := fill_cells hr (.bool z.list) (.int .i64 z.k) (.string z.T) (.int .i64 z.ta) (.int .i64 z.at_) (.slice A2 z.L.length c2)
    have hlt := hr.lt
    have HSd := Lib.hid hsd
    clear HL1 HR hs hr hsd q1 q2 q3 B1 HB0
    go_wp2_with fail
    exact bodyPost_ret (v := sval z A2 c2) (by simp [results, Tryz.results86, go_sem, r0, r1, r2, r3, r4, r5]) rfl HSd.out
  · have hpc : Sh.piece R = Sh.lit R := by unfold Sh.piece; rw [if_neg hl]
    rw [hpc]
    have HLi := Lib.hid fun W (hb : Below (w.alloc roomO).heap.size (w.alloc roomO) W) => kliteral12 W A n c R ((h.below hb0).below hb) (by omega) (Lt.may_bad hm) hl ((hG.below hb0).below hb)
    obtain ⟨t, ht⟩ : ∃ t, (Sh.lit R).T = t := ⟨_, rfl⟩
    have hlit : Sh.lit R = Sh.atom 6 t := by rw [← ht]; rfl
    rw [ht] at HLi
    rw [hlit]
    obtain ⟨s, hs⟩ : ∃ s, Lt.total R = s := ⟨_, rfl⟩
    rw [hs] at HL hl
    have hl' : decide (1000 < s) = false := decide_eq_false hl
    clear h hm h1 hT hG hb0 hpc ht hlit hs hl
    go_enter Tryz.func86, Tryz.ntmps86
    go_wp2_with fail
    refine HL.out.mono ?_
    rintro e w1 ⟨rfl, b1⟩
    have HL1 := Lib.hid (HLi.out w1 b1)
    have B1 := Lib.hid b1
    clear b1 HLi HL
    go_wp2_with fail
    refine HL1.out.mono ?_
    rintro e w2 ⟨rfl, b2⟩
    obtain ⟨hr, hb⟩ := room_lies (B1.out.trans (b2.mono B1.out.size))
    obtain ⟨k0, k1, k2, k3, k4, k5, y0, y1, y2, y3, y4, y5⟩ := ready hr
    obtain ⟨r0, r1, r2, r3, r4, r5⟩ := fill_cells hr (.bool false) (.int .i64 6) (.string t) (.int .i64 0) (.int .i64 0) (.slice none 0 0)
    have hlt := hr.lt
    have HSd : Hid (SxSaid (fun _ => False) w (Sh.atom 6 t) (.returned (.agg #[.bool false, .int .i64 6, .string t, .int .i64 0, .int .i64 0, .slice none 0 0])) (fillX w2 w.heap.size (.bool false) (.int .i64 6) (.string t) (.int .i64 0) (.int .i64 0) (.slice none 0 0))) :=
      ⟨⟨none, 0, rfl, ⟨Nat.le_refl _, Nat.zero_le _⟩, .nil _⟩, fill_below (Nat.le_refl _) hb _ _ _ _ _ _⟩
    clear HL1 HR b2 hr hb B1
    go_wp2_with fail
    exact bodyPost_ret (v := .agg #[.bool false, .int .i64 6, .string t, .int .i64 0, .int .i64 0, .slice none 0 0]) (by simp [results, Tryz.results86, go_sem, r0, r1, r2, r3, r4, r5]) rfl HSd.out
theorem ksize12 : ∀ (k : Nat) (x : Sx) (A : Option Addr) (c : Nat) (w : World), x.size ≤ k → k ≤ 1000000000 → STree w AnyP x A c →
    Calls Tryz.prog 87 #[sval x A c] w fun e w' => e = .returned (.int .i64 (x.size : Nat)) ∧ Below w.heap.size w w' := by
  intro k
  induction k with
  | zero =>
    intro x A c w hk
    exact absurd x.size_pos (by omega)
  | succ k ih =>
    intro x A c w hk hk9 h
    obtain ⟨X, HX⟩ : ∃ X : Nat, Hid (x.size = X) := ⟨_, rfl⟩
    rw [HX.out]
    obtain ⟨n, hn⟩ : ∃ n, x.L.length = n := ⟨_, rfl⟩
    have HN := Lib.hid hn
    have hXs : X = Sx.sizes x.L + 1 := by rw [← HX.out, x.size_eq]
    have HXs := Lib.hid hXs
    have hXk : X ≤ k + 1 := by rw [← HX.out]; exact hk
    obtain ⟨lb, hlb⟩ : ∃ b, x.list = b := ⟨_, rfl⟩
    have HLb := Lib.hid hlb
    unfold sval
    have hl : n ≤ maxLen := hn ▸ Nat.le_trans h.le.1 h.le.2
    rw [hn, hlb]
    unfold maxLen at hl
    clear hn hXs hk hlb HX
    go_enter Tryz.func87, Tryz.ntmps87
    go_wp2
    generalize hW0 : w.alloc (Obj.cells #[Value.bool lb, Value.int IntKind.i64 x.k, Value.string x.T, Value.int IntKind.i64 x.ta, Value.int IntKind.i64 x.at_, Value.slice A n c] 49) = W0
    have HB0 := Lib.hid (sbox_in HN.out HLb.out h hW0)
    clear h hW0
    go_loopw [3, 9] (fun av iv wr => ∃ i a : Nat, i ≤ n ∧ iv = .int .i64 (i : Nat) ∧ av = .int .i64 (a : Nat) ∧ Below W0.heap.size W0 wr ∧ a ≤ X ∧ Hid (a + Sx.sizes (x.L.drop i) = X)) (fun _ iv _ => n - (intOf iv).toNat)
    case atStart => exact ⟨0, 1, Nat.zero_le _, rfl, rfl, Below.refl _ _, by have := HXs.out; omega, by show _ = _; rw [List.drop_zero]; have := HXs.out; omega⟩
    case round =>
      obtain ⟨i, a, hi, rfl, rfl, hb, haX, HI⟩ := hrel
      obtain ⟨hb1, ht1, hbx1⟩ := HB0.out
      have HB := Lib.hid (hb1.trans (hb.mono hb1.size))
      by_cases hlt : i < n
      · obtain ⟨b, off, y, A', c', rfl, hy, hdr, hym, hs, hty⟩ := (ht1.kept hb).get (i := i) (by rw [HN.out]; exact hlt)
        obtain ⟨y_, y0, y1, y2, y3, y4, y5⟩ := hs
        have hd := HI.out
        rw [hdr, Sx.sizes] at hd
        have hys := Sx.size_pos y
        have hyk : y.size ≤ k := by have := Sx.sizes_le hym; have := HXs.out; omega
        have hIH := Lib.hid fun W (hW : Below wr.heap.size wr W) => ih y A' c' W hyk (by omega) (hty.kept hW)
        obtain ⟨d, hd'⟩ : ∃ d, y.size = d := ⟨_, rfl⟩
        rw [hd'] at hd hIH
        have haX2 : a + d ≤ X := by omega
        have HD2 : Hid (a + d + Sx.sizes (x.L.drop (i + 1)) = X) := by show _ = _; omega
        have HBr := Lib.hid hb
        have hlt' : (i : Int) < (n : Int) := by omega
        have hi0 : (0 : Int) ≤ (i : Int) := by omega
        have HAl : Hid (∀ o, Below wr.heap.size wr (wr.alloc o)) := fun o => (Below.refl _ wr).alloc (Nat.le_refl _) o
        have hX9 : X ≤ 1000000000 := by omega
        clear hd hd' HI ht1 hbx1 hb1 hty hdr hy hb hym hys hyk
        go_wp2_with (go_at_call 87; refine (hIH.out _ (HAl.out _)).mono ?_; rintro e w2 ⟨rfl, b2⟩; have B2 := Lib.hid ((HAl.out _).trans (b2.mono (HAl.out _).size)); clear b2)
        go_roundw
        case rel => exact ⟨i + 1, a + d, by omega, by go_num, by go_num, HBr.out.trans (B2.out.mono HBr.out.size), haX2, HD2⟩
        case measure => simp [intOf]; omega
      · obtain rfl : i = n := by omega
        have hX : a = X := by
          have := HI.out
          rw [List.drop_of_length_le (by rw [HN.out]; exact Nat.le_refl _), Sx.sizes] at this
          omega
        subst hX
        clear HI ht1 hbx1 hb1 hb
        go_wp2
        go_ret
        exact ⟨rfl, HB.out⟩
end Go.Proofs.YtfjpcjebecgglaaGreatDoor
namespace Go.Proofs.YtfjpcjebecgglaaGreatDoor
open Go.RowKit Go.Shelf
def TxSaid (w : World) (x : Sx × Int) (e : Ending) (w' : World) : Prop := (∃ A c, e = .returned (.tuple #[sval x.1 A c, .int .i64 x.2]) ∧ STree w' (fun b _ => w.heap.size ≤ b) x.1 A c) ∧ Below w.heap.size w w'
theorem TxSaid.of {w w' : World} {x : Sx} {A : Option Addr} {c : Nat} (h : SxSaid (fun _ => False) w x (.returned (sval x A c)) w') : TxSaid w (x, 0) (.returned (.tuple #[sval x A c, .int .i64 0])) w' := by
  obtain ⟨⟨A', c', e, ht⟩, hb⟩ := h
  injection e with e
  simp at e
  obtain ⟨rfl, rfl⟩ := e
  exact ⟨⟨A, c, rfl, ht.to fun b _ _ h => h.elim False.elim id⟩, hb⟩
theorem TxSaid.err {w w' : World} {k : Int} (hb : Below w.heap.size w w') : TxSaid w (Sx.zero, k) (.returned (.tuple #[.agg #[.bool false, .int .i64 0, .string ⟨#[]⟩, .int .i64 0, .int .i64 0, .slice none 0 0], .int .i64 k])) w' :=
  ⟨⟨none, 0, rfl, ⟨Nat.le_refl _, Nat.zero_le _⟩, .nil _⟩, hb⟩
theorem Sh.piece_size {P : List (Int × Int)} (h : Tx.May P) (h1 : 1000 < Lt.total P → ∃ r, P = [r]) : (Sh.piece P).size ≤ 412 := by
  unfold Sh.piece
  split
  · rename_i hl
    obtain ⟨⟨C, y⟩, rfl⟩ := h1 hl
    have hm := h.most
    rw [Lt.total_one] at hm
    exact Sh.long_size (by show y.toNat < 2199023255552; omega)
  · rw [Sh.lit, Sh.atom_size]; decide
theorem Sh.pieces_get {R : List (Int × Int)} {i : Nat} {P : List (Int × Int)} (h : (Sh.cut [] R)[i]? = some P) : (Sh.pieces R)[i]? = some (Sh.piece P) := by
  unfold Sh.pieces
  rw [List.getElem?_map, h]
  rfl
theorem Sx.sizes_take {l : List Sx} {i : Nat} {x : Sx} (h : l[i]? = some x) : Sx.sizes (l.take (i + 1)) = Sx.sizes (l.take i) + x.size := by
  rw [take_one h, Sx.sizes_app, Sx.sizes, Sx.sizes]
  omega
theorem Sx.sizes_part (l : List Sx) (i : Nat) : Sx.sizes (l.take i) ≤ Sx.sizes l := by
  have := congrArg Sx.sizes (List.take_append_drop i l)
  rw [Sx.sizes_app] at this
  omega
theorem OwnP.at_ {w w0 : World} {B : Nat} {A : Option Addr} {c i : Nat} {l : List PcR} {q : PcR} (h : OwnP w w0 B A c l) (hq : l[i]? = some q) : ∃ g, A = some ⟨g, 0, none⟩ ∧ B ≤ g ∧ g < w.heap.size ∧ w.cell? ⟨g, i, none⟩ = some (.slice q.1.1 q.1.2.1 q.1.2.2) := by
  rcases h.row.2 with ⟨e, hn⟩ | ⟨g, cap, cur, e, hb, hg, hc, hm, _⟩
  · have := (List.getElem?_eq_some_iff.1 hq).1
    omega
  · injection e with e1 e2 e3
    subst e1
    refine ⟨g, rfl, hb, (Array.getElem?_eq_some_iff.1 hg).1, ?_⟩
    have := h.row.cells (g := g) rfl i (.slice q.1.1 q.1.2.1 q.1.2.2) (by rw [List.getElem?_map, hq]; rfl)
    rwa [addr_add, Nat.zero_add] at this
theorem OwnP.turn {F : Nat → Prop} {w w' w0 : World} {B : Nat} {A : Option Addr} {c : Nat} {l : List PcR} (h : OwnP w w0 B A c l) (ht : Turn F w w') (hF : ∀ g, (Value.slice A l.length c).ownBlock = some g → ¬ F g) : OwnP w' w0 B A c l := ⟨ht.own h.row hF, h.txt⟩
structure TxL (W0 wr : World) (R : List (Int × Int)) (PA : Option Addr) (Pc : Nat) (l : List PcR) (A' : Option Addr) (c' : Nat) (lx : List MSx) (i tot : Nat) : Prop where
  below : Below W0.heap.size W0 wr
  own : OwnP wr W0 W0.heap.size PA Pc l
  row : OwnX wr W0.heap.size A' c' lx
  len : lx.length = i
  sx : lx.map (·.1) = (Sh.pieces R).take i
  tot_ : tot = 2 + Sx.sizes ((Sh.pieces R).take i)
theorem TxL.more {W0 wr w3 w4 : World} {R : List (Int × Int)} {PA : Option Addr} {Pc : Nat} {l : List PcR} {A' : Option Addr} {c' : Nat} {lx : List MSx} {i tot : Nat} {A4 : Option Addr} {c4 : Nat} {x : Sx} {A2 : Option Addr} {c2 : Nat} (h : TxL W0 wr R PA Pc l A' c' lx i tot) (hx : (Sh.pieces R)[i]? = some x) (hb : Below wr.heap.size wr w3)
    (ho : OwnX w4 W0.heap.size A4 c4 (lx ++ [(x, A2, c2)])) (hg : w3.grownBy w4 (Value.slice A' i c').ownBlock) : TxL W0 w4 R PA Pc l A4 c4 (lx ++ [(x, A2, c2)]) (i + 1) (tot + x.size) := by
  have hb3 : Below W0.heap.size W0 w3 := h.below.trans (hb.mono h.below.size)
  have hr3 := h.row.kept hb
  refine ⟨hb3.grown hg hb3.size fun q hq => (hr3.lt h.len hq).1, (h.own.kept hb).turn (Turn.of_grown (F := fun q => (Value.slice A' i c').ownBlock = some q) hg fun g e _ => e) fun g e1 e2 => ?_, ho, by rw [List.length_append, h.len]; rfl, by rw [List.map_append, h.sx, take_one hx]; rfl, by rw [Sx.sizes_take hx, h.tot_]; omega⟩
  have := own_apart hr3.row (h.own.kept hb).row (by decide) g (by rw [h.len]; exact e2)
  exact this e1
theorem ktext12 (w : World) (A : Option Addr) (n c : Nat) (R : List (Int × Int)) (h : RunS w A n R) (hc : n ≤ c) (hm : Tx.May R) (hT : NmT w) (hG : Gl w) :
    Calls Tryz.prog 46 #[.slice A n c] w (TxSaid w (Sh.text R)) := by
  have hn : n ≤ 65536 := by rw [← h.len]; exact hm.few
  have hb0 : Below w.heap.size w (w.alloc roomO) := (Below.refl _ w).alloc (Nat.le_refl _) _
  obtain ⟨W0, hW0⟩ : ∃ W0, w.alloc roomO = W0 := ⟨_, rfl⟩
  have HW0e : Hid (w.alloc roomO = W0) := hW0
  have hs0 : W0.heap.size = w.heap.size + 1 := by rw [← hW0]; simp
  rw [hW0] at hb0
  have HP := Lib.hid (kpieces12 W0 A n c R (h.below hb0) (by omega) hc (fun x hx => Int.not_lt.2 (hm.own.pos x hx).2) hm.most)
  have HPc := Lib.hid fun P (hP : P ∈ Sh.cut [] R) W A n c (hr : RunS W A n P) (hb : Below W0.heap.size W0 W) => kpiece12 W A n c P hr (Sh.cut_may hm hP).1 (Sh.cut_may hm hP).2 ((hT.below hb0).below hb) ((hG.below hb0).below hb)
  have HPs : Hid (∀ P ∈ Sh.cut [] R, (Sh.piece P).size ≤ 412) := fun P hP => Sh.piece_size (Sh.cut_may hm hP).1 (Sh.cut_may hm hP).2
  have HTb := Lib.hid fun W (hb : Below w.heap.size w W) => hT.below hb
  have hpl : (Sh.pieces R).length = (Sh.cut [] R).length := by unfold Sh.pieces; rw [List.length_map]
  have HPl := Lib.hid hpl
  have htext : Sh.text R = if 200 < (Sh.pieces R).length then (Sx.zero, 2) else if (Sh.pieces R).length = 1 then ((Sh.pieces R).headD Sx.zero, 0) else if 2000 < Sx.sizes (Sh.pieces R) + 2 then (Sx.zero, 2) else (Sh.app Sh.cat (Sh.pieces R), 0) := rfl
  have HTx := Lib.hid htext
  have HB0 := Lib.hid hb0
  have hne := Sh.cut_ne R []
  have HNe := Lib.hid hne
  have HRm : Hid (LiesX W0 w.heap.size zX) := by show LiesX _ _ _; rw [← hW0]; exact Lies.new w _ _
  obtain ⟨Post, hPost⟩ : ∃ Post : Ending → World → Prop, Post = TxSaid w (Sh.text R) := ⟨_, rfl⟩
  rw [← hPost]
  have HPo := Lib.hid hPost
  have HS0 := Lib.hid hs0
  clear h hm hT hG hpl htext hb0 hPost hn hc hne hs0
  go_enter Tryz.func46, Tryz.ntmps46
  go_wp2_with fail
  refine HP.out.mono ?_
  rintro e w1 ⟨⟨PA, Pc, l, rfl, ho, hl⟩, b1⟩
  have hll : l.length = (Sh.pieces R).length := by rw [HPl.out, ← hl, List.length_map]
  have HO := Lib.hid ho
  have HL := Lib.hid hl
  have B1 := Lib.hid b1
  obtain ⟨p, hp⟩ : ∃ p, l.length = p := ⟨_, rfl⟩
  rw [hp] at hll
  have HLl := Lib.hid hll
  have HPn := Lib.hid hp
  rw [hp]
  have hroom : LiesX w1 w.heap.size zX := (b1.block _ HRm.out.lt).trans HRm.out
  have hbw1 : Below w.heap.size w w1 := HB0.out.trans (b1.mono HB0.out.size)
  have HBw1 := Lib.hid hbw1
  by_cases h200 : 200 < p
  · have hpi : (200 : Int) < (p : Int) := by omega
    have HF : Hid (Post (.returned (.tuple #[.agg #[.bool false, .int .i64 0, .string ⟨#[]⟩, .int .i64 0, .int .i64 0, .slice none 0 0], .int .i64 2])) (fillX w1 w.heap.size (.bool false) (.int .i64 0) (.string ⟨#[]⟩) (.int .i64 0) (.int .i64 0) (.slice none 0 0))) := by
      show Post _ _
      rw [HPo.out, HTx.out, if_pos (by rw [← hll]; exact h200)]
      exact TxSaid.err (fill_below (Nat.le_refl _) hbw1 _ _ _ _ _ _)
    obtain ⟨k0, k1, k2, k3, k4, k5, y0, y1, y2, y3, y4, y5⟩ := ready hroom
    obtain ⟨r0, r1, r2, r3, r4, r5⟩ := fill_cells hroom (.bool false) (.int .i64 0) (.string ⟨#[]⟩) (.int .i64 0) (.int .i64 0) (.slice none 0 0)
    have hlt := hroom.lt
    clear ho hl b1 hp hll hroom hbw1 HPc HPs HTb HTx hW0
    go_wp2_with fail
    exact bodyPost_ret (v := .tuple #[.agg #[.bool false, .int .i64 0, .string ⟨#[]⟩, .int .i64 0, .int .i64 0, .slice none 0 0], .int .i64 2]) (by simp [results, Tryz.results46, go_sem, r0, r1, r2, r3, r4, r5]) rfl HF.out
  have hp200 : p ≤ 200 := by omega
  have h200d : decide ((200 : Int) < (p : Int)) = false := decide_eq_false (by omega)
  have h200n : decide (200 < p) = false := decide_eq_false h200
  have hp0 : 0 < p := by have := HNe.out; have := HPl.out; omega
  by_cases h1 : p = 1
  · obtain ⟨q, hq⟩ : ∃ q, l[0]? = some q := ⟨_, List.getElem?_eq_getElem (by omega)⟩
    obtain ⟨⟨qA, qn, qc⟩, P⟩ := q
    have hP : (Sh.cut [] R)[0]? = some P := by rw [← hl, List.getElem?_map, hq]; rfl
    obtain ⟨g, rfl, hg1, hg2, hgc⟩ := ho.at_ hq
    have htx := ho.txt _ (List.mem_of_getElem? hq)
    have HPk := Lib.hid (HPc.out P (List.mem_of_getElem? hP) w1 qA qn qc (htx.1.below b1) b1)
    have hpk := Sh.pieces_get hP
    obtain ⟨x, hx⟩ : ∃ x, Sh.piece P = x := ⟨_, rfl⟩
    rw [hx] at HPk hpk
    have HF : Hid (∀ A c W, SxSaid (fun _ => False) w x (.returned (sval x A c)) W → Post (.returned (.tuple #[sval x A c, .int .i64 0])) W) := fun A c W hs => by
      rw [HPo.out, HTx.out, if_neg (by rw [← hll]; exact h200), if_pos (by rw [← hll]; exact h1)]
      have e : (Sh.pieces R).headD Sx.zero = x := by
        cases hh : Sh.pieces R with
        | nil => rw [hh] at hpk; cases hpk
        | cons a m => rw [hh] at hpk; exact Option.some.inj hpk
      rw [e]
      exact TxSaid.of hs
    have HGr := Lib.hid fun w2 e (hs : SxSaid (fun _ => False) w1 x e w2) => gen_room (w := w) (W := w1) (W7 := w2) (G := fun _ => False) (x := x) (e := e) (by rw [HW0e.out]; exact b1) hs
    have hpe : ((p : Int) == 1) = true := by rw [h1]; rfl
    have hpi0 : (0 : Int) < (p : Int) := by omega
    have hltg := hg2
    clear ho hl b1 hp hll hroom hbw1 HPc HPs HTb HTx hW0 hq hP hg1 hg2 htx hpk hx h1 h200 HO HL B1 HP HPl HRm HB0 HNe HPn HLl HBw1
    go_wp2_with fail
    refine HPk.out.mono ?_
    intro e w2 hs
    obtain ⟨A2, c2, rfl, hr, hsd⟩ := HGr.out w2 e hs
    obtain ⟨k0, k1, k2, k3, k4, k5, y0, y1, y2, y3, y4, y5⟩ := ready hr
    obtain ⟨r0, r1, r2, r3, r4, r5⟩ := fill_cells hr (.bool x.list) (.int .i64 x.k) (.string x.T) (.int .i64 x.ta) (.int .i64 x.at_) (.slice A2 x.L.length c2)
    have hlt := hr.lt
    have HF2 := Lib.hid (HF.out A2 c2 _ hsd)
    clear HPk HGr HF hs hr hsd hgc hltg
    go_wp2_with fail
    exact bodyPost_ret (v := .tuple #[sval x A2 c2, .int .i64 0]) (by simp [results, Tryz.results46, go_sem, r0, r1, r2, r3, r4, r5]) rfl HF2.out
  have hpe : ((p : Int) == 1) = false := beq_eq_false_iff_ne.2 (by omega)
  clear ho hl b1 hp hroom hbw1 hW0 hll
  go_wp2_with fail
  go_loopw [5, 6, 25] (fun pv tv iv wr => ∃ (i tot : Nat) (A' : Option Addr) (c' : Nat) (lx : List MSx), i ≤ p ∧ tot ≤ 2000 ∧ iv = .int .i64 (i : Nat) ∧ tv = .int .i64 (tot : Nat) ∧ pv = .slice A' i c' ∧ Hid (TxL W0 wr R PA Pc l A' c' lx i tot)) (fun _ _ iv _ => p - (intOf iv).toNat)
  case atStart => exact ⟨0, 2, none, 0, [], Nat.zero_le _, by decide, rfl, rfl, rfl, B1.out, HO.out, OwnX.nil _ _, rfl, rfl, rfl⟩
  case round =>
    obtain ⟨i, tot, A', c', lx, hi, htot, rfl, rfl, rfl, HI⟩ := hrel
    have hI := HI.out
    have hs0 := HS0.out
    by_cases hlt : i < p
    · obtain ⟨q, hq⟩ : ∃ q, l[i]? = some q := ⟨_, List.getElem?_eq_getElem (by rw [HPn.out]; exact hlt)⟩
      obtain ⟨⟨qA, qn, qc⟩, P⟩ := q
      have hP : (Sh.cut [] R)[i]? = some P := by rw [← HL.out, List.getElem?_map, hq]; rfl
      obtain ⟨g, rfl, hg1, hg2, hgc⟩ := hI.own.at_ hq
      have htx := hI.own.txt _ (List.mem_of_getElem? hq)
      have HPk := Lib.hid (HPc.out P (List.mem_of_getElem? hP) wr qA qn qc (htx.1.below hI.below) hI.below)
      have hpk := Sh.pieces_get hP
      have hxs := HPs.out P (List.mem_of_getElem? hP)
      obtain ⟨x, hx⟩ : ∃ x, Sh.piece P = x := ⟨_, rfl⟩
      rw [hx] at HPk hpk hxs
      have HXk := Lib.hid hpk
      obtain ⟨d, hd⟩ : ∃ d, x.size = d := ⟨_, rfl⟩
      rw [hd] at hxs
      have HD := Lib.hid hd
      have hi0 : (0 : Int) ≤ (i : Int) := by omega
      have hlt' : (i : Int) < (p : Int) := by omega
      have HSz : Hid (∀ W A c, STree W (fun b _ => False ∨ wr.heap.size ≤ b) x A c → Calls Tryz.prog 87 #[sval x A c] W fun e w' => e = .returned (.int .i64 (d : Nat)) ∧ Below W.heap.size W w') := fun W A c ht => by
        have := ksize12 x.size x A c W (Nat.le_refl _) (by omega) (ht.to fun _ _ _ _ => trivial)
        rw [hd] at this
        exact this
      have HTl := Lib.hid (HTx.out)
      have HBnd : Hid (tot + d ≤ 2 + Sx.sizes (Sh.pieces R)) := by
        show _ ≤ _
        have h1 := Sx.sizes_part (Sh.pieces R) (i + 1)
        rw [Sx.sizes_take hpk, hd] at h1
        rw [hI.tot_]
        omega
      clear hq hP htx hpk hx hd hi hg1 hI
      go_wp2_with fail
      refine HPk.out.mono ?_
      rintro e w2 ⟨⟨A2, c2, rfl, t2⟩, b2⟩
      have T2 := Lib.hid t2
      have B2 := Lib.hid b2
      have b3 := b2.alloc b2.size (.cells #[.bool x.list, .int .i64 x.k, .string x.T, .int .i64 x.ta, .int .i64 x.at_, .slice A2 x.L.length c2] 49)
      have HSz3 := Lib.hid (HSz.out (w2.alloc (.cells #[.bool x.list, .int .i64 x.k, .string x.T, .int .i64 x.ta, .int .i64 x.at_, .slice A2 x.L.length c2] 49)) A2 c2 (t2.kept ((Below.refl _ w2).alloc (Nat.le_refl _) _)))
      have hbx := Lies.new w2 49 #[.bool x.list, .int .i64 x.k, .string x.T, .int .i64 x.ta, .int .i64 x.at_, .slice A2 x.L.length c2]
      have HBx := Lib.hid hbx
      have B3 := Lib.hid b3
      clear t2 b2 b3 hbx HPk HSz hgc hg2
      go_wp2_with fail
      refine HSz3.out.mono ?_
      rintro e w4 ⟨rfl, b4⟩
      have hbx4 := (b4.block _ HBx.out.lt).trans HBx.out
      have hbx4 : LiesX w4 w2.heap.size #[.bool x.list, .int .i64 x.k, .string x.T, .int .i64 x.ta, .int .i64 x.at_, .slice A2 x.L.length c2] := hbx4
      have hb4 : Below wr.heap.size wr w4 := B3.out.trans (b4.mono B3.out.size)
      have HB4 := Lib.hid hb4
      have hbW : Below W0.heap.size W0 w4 := HI.out.below.trans (hb4.mono HI.out.below.size)
      by_cases hbig : 2000 < tot + d
      · have hbig' : (2000 : Int) < (tot : Int) + (d : Int) := by omega
        have hroom : LiesX w4 w.heap.size zX := (hbW.block _ HRm.out.lt).trans HRm.out
        have HF : Hid (Post (.returned (.tuple #[.agg #[.bool false, .int .i64 0, .string ⟨#[]⟩, .int .i64 0, .int .i64 0, .slice none 0 0], .int .i64 2])) (fillX w4 w.heap.size (.bool false) (.int .i64 0) (.string ⟨#[]⟩) (.int .i64 0) (.int .i64 0) (.slice none 0 0))) := by
          show Post _ _
          rw [HPo.out, HTx.out, if_neg (by rw [← HLl.out]; exact h200), if_neg (by rw [← HLl.out]; exact h1), if_pos (by have := HBnd.out; omega)]
          exact TxSaid.err (fill_below (Nat.le_refl _) (HB0.out.trans (hbW.mono HB0.out.size)) _ _ _ _ _ _)
        obtain ⟨k0, k1, k2, k3, k4, k5, y0, y1, y2, y3, y4, y5⟩ := ready hroom
        obtain ⟨r0, r1, r2, r3, r4, r5⟩ := fill_cells hroom (.bool false) (.int .i64 0) (.string ⟨#[]⟩) (.int .i64 0) (.int .i64 0) (.slice none 0 0)
        have hltr := hroom.lt
        clear hbx4 hb4 hbW hbig hroom b4 HSz3 HBnd
        go_wp2_with fail
        exact bodyPost_ret (v := .tuple #[.agg #[.bool false, .int .i64 0, .string ⟨#[]⟩, .int .i64 0, .int .i64 0, .slice none 0 0], .int .i64 2]) (by simp [results, Tryz.results46, go_sem, r0, r1, r2, r3, r4, r5]) rfl HF.out
      · have hbig' : decide ((2000 : Int) < (tot : Int) + (d : Int)) = false := decide_eq_false (by omega)
        have hbign : decide (2000 < tot + d) = false := decide_eq_false hbig
        have d0 := hbx4.cell 0
        have d1 := hbx4.cell 1
        have d2 := hbx4.cell 2
        have d3 := hbx4.cell 3
        have d4 := hbx4.cell 4
        have d5 := hbx4.cell 5
        simp at d0 d1 d2 d3 d4 d5
        have HRow : Hid (OwnX w4 W0.heap.size A' c' lx) := HI.out.row.kept hb4
        have HLen : Hid (lx.length = i) := HI.out.len
        have HTr : Hid (STree w4 (OffRow W0.heap.size A' i c') x A2 c2) := ((T2.out.kept ((Below.refl _ w2).alloc (Nat.le_refl _) _)).kept b4).to fun b off _ h => by
          rcases h with h | h
          · exact h.elim
          · exact ⟨Nat.le_trans HI.out.below.size h, fun e => by have := (HI.out.row.lt HI.out.len e).2; omega⟩
        have HNx : Hid (∀ A5 c5 w5, OwnX w5 W0.heap.size A5 c5 (lx ++ [(x, A2, c2)]) → w4.grownBy w5 (Value.slice A' i c').ownBlock → TxL W0 w5 R (some ⟨g, 0, none⟩) Pc l A5 c5 (lx ++ [(x, A2, c2)]) (i + 1) (tot + d)) := fun A5 c5 w5 o5 g5 => by
          rw [← HD.out]
          exact HI.out.more HXk.out hb4 o5 g5
        have HBs : Hid (W0.heap.size ≤ w4.heap.size) := hbW.size
        have hi6 : i ≤ 1000000 := by omega
        have htd : tot + d ≤ 2000 := by omega
        clear hbx4 hb4 hbW hbig b4 HSz3 HBnd T2 B2 B3 HBx HB4
        go_wp2_with (at_builtin; refine appendX w4 rfl (.tmp 38) (.tmp 40) rfl W0.heap.size A' c' lx i HLen.out (x, A2, c2) w4.heap.size rfl rfl HRow.out HTr.out rfl hi6 HBs.out ?_; intro A5 c5 w5 o5 g5; have HN5 := Lib.hid (HNx.out A5 c5 w5 o5 g5); clear o5 g5)
        go_roundw
        case rel => exact ⟨i + 1, tot + d, A5, c5, _, by omega, htd, by go_num, by go_num, rfl, HN5.out⟩
        case measure => simp [intOf]; omega
    · obtain rfl : i = p := by omega
      have hI := HI.out
      have hsx := hI.sx
      rw [List.take_of_length_le (by rw [← HLl.out]; exact Nat.le_refl _)] at hsx
      have htt := hI.tot_
      rw [List.take_of_length_le (by rw [← HLl.out]; exact Nat.le_refl _)] at htt
      have ht := hI.row.tree
      rw [hsx, hs0] at ht
      have hbw : Below w.heap.size w wr := HB0.out.trans (hI.below.mono HB0.out.size)
      have HAp := Lib.hid (kapply12 22 A' i c' (Sh.pieces R) wr (fun b => w.heap.size + 1 ≤ b) HLl.out.symm hp0 (by omega) ht (HTb.out wr hbw))
      have HBW : Hid (Below (w.alloc roomO).heap.size (w.alloc roomO) wr) := by show Below _ _ _; rw [HW0e.out]; exact hI.below
      have HF : Hid (∀ A c W, SxSaid (fun _ => False) w (Sh.app Sh.cat (Sh.pieces R)) (.returned (.agg #[.bool true, .int .i64 0, .string ⟨#[]⟩, .int .i64 0, .int .i64 0, .slice A (i + 1) c])) W → Post (.returned (.tuple #[.agg #[.bool true, .int .i64 0, .string ⟨#[]⟩, .int .i64 0, .int .i64 0, .slice A (i + 1) c], .int .i64 0])) W) := fun A c W hs => by
        rw [HPo.out, HTx.out, if_neg (by rw [← HLl.out]; exact h200), if_neg (by rw [← HLl.out]; exact h1), if_neg (by omega)]
        have e : sval (Sh.app Sh.cat (Sh.pieces R)) A c = .agg #[.bool true, .int .i64 0, .string ⟨#[]⟩, .int .i64 0, .int .i64 0, .slice A (i + 1) c] := by rw [HLl.out]; rfl
        rw [← e] at hs ⊢
        exact TxSaid.of hs
      have HAr := Lib.hid fun w7 e hs => app_room (w := w) (W := wr) (W7 := w7) (op := Sh.cat) (L := Sh.pieces R) (m := i) (e := e) HLl.out.symm HBW.out hs
      have hlt' : ¬ (i : Int) < (i : Int) := by omega
      clear HI hI hsx htt ht hbw hlt hi htot hs0 h200 h1 hp200 h200d h200n hp0 hpe HTx HPo HPc HPs HLl HPn HL HO B1 HBw1 HB0 HRm HNe HPl HTb HBW HW0e HS0 HP
      go_wp2_with fail
      refine HAp.out.mono ?_
      intro e w7 hs
      obtain ⟨A7, c7, rfl, hr, hsd⟩ := HAr.out w7 e hs
      obtain ⟨k0, k1, k2, k3, k4, k5, y0, y1, y2, y3, y4, y5⟩ := ready hr
      obtain ⟨r0, r1, r2, r3, r4, r5⟩ := fill_cells hr (.bool true) (.int .i64 0) (.string ⟨#[]⟩) (.int .i64 0) (.int .i64 0) (.slice A7 (i + 1) c7)
      have hltr := hr.lt
      have HF2 := Lib.hid (HF.out A7 c7 _ hsd)
      clear HAp HAr HF hs hr hsd
      go_wp2_with fail
      exact bodyPost_ret (v := .tuple #[.agg #[.bool true, .int .i64 0, .string ⟨#[]⟩, .int .i64 0, .int .i64 0, .slice A7 (i + 1) c7], .int .i64 0]) (by simp [results, Tryz.results46, go_sem, r0, r1, r2, r3, r4, r5]) rfl HF2.out
end Go.Proofs.YtfjpcjebecgglaaGreatDoor
