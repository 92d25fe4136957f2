/- The law RunsFirst. -/
import Derived.Test.YtdpbglofijpfnaaF15
namespace Go.Proofs.Ytdpbglofijpfnaa
open Go.RowKit Go.ChangeShapes Go.WideShapes Go.ChangeAt

set_option maxRecDepth 100000 in
set_option maxHeartbeats 3200000 in
theorem runsFirst_walk (w : World) (A : Option Addr) (n c : Nat) (s : List (Int × Int)) (B : Option Addr) (m d : Nat) (t : List (Int × Int)) (i : Int) (h : ArgR w A n s) (h' : ArgR w B m t) (hi : (Lit.int .i64 i).wf = true) (hd : m ≤ d) :
    Calls Try.prog 7 #[.slice A n c, .slice B m d, .int .i64 i] w fun e w' => e = .returned (.bool true) ∧ Below w.heap.size w w' := by
  have HA := Lib.hid (kawake8 w)
  have Hd := Lib.hid hd
  clear hd
  by_cases hl : 300 < n ∨ 300 < m
  · have hl' : (300 : Int) < (n : Int) ∨ ¬ (300 : Int) < (n : Int) ∧ (300 : Int) < (m : Int) := by omega
    clear hl h h' hi
    rcases hl' with g1 | ⟨g1, g2⟩
    all_goals
      go_enter Try.func7, Try.ntmps7
      go_wp2_with (go_at_call 10; refine HA.out.mono ?_; rintro e w1 ⟨rfl, b1⟩)
      go_ret
      exact ⟨rfl, b1⟩
  have hl1 : ¬ (300 : Int) < (n : Int) := by omega
  have hl2 : ¬ (300 : Int) < (m : Int) := by omega
  have HT := Lib.hid fun W (hW : Below w.heap.size w W) => And.intro ((h.txt (by omega)).below hW) ((h'.txt (by omega)).below hW)
  have KM1 := Lib.hid fun W (hW : Below w.heap.size w W) => kmay8 W A n c s (HT.out W hW).1
  have KM2 := Lib.hid fun W (hW : Below w.heap.size w W) => kmay8 W B m d t (HT.out W hW).2
  by_cases hok : Tx.May s ∧ Tx.May t
  case neg =>
    have hw : Tx.mayB s = false ∨ Tx.mayB s = true ∧ Tx.mayB t = false := by
      by_cases h1 : Tx.May s
      · exact .inr ⟨Tx.mayB_true h1, Tx.mayB_false fun h2 => hok ⟨h1, h2⟩⟩
      · exact .inl (Tx.mayB_false h1)
    generalize Tx.mayB s = x at KM1 hw
    generalize Tx.mayB t = y at KM2 hw
    clear hl h h' hi HT hok
    rcases hw with rfl | ⟨rfl, rfl⟩
    · go_enter Try.func7, Try.ntmps7
      go_wp2_with fail
      refine HA.out.mono ?_
      rintro e w1 ⟨rfl, b1⟩
      have B1 := Lib.hid b1
      clear b1
      go_wp2_with (go_at_call 16; refine (KM1.out _ B1.out).mono ?_; rintro e w2 ⟨rfl, b2⟩)
      go_ret
      exact ⟨rfl, B1.out.trans (b2.mono B1.out.size)⟩
    · go_enter Try.func7, Try.ntmps7
      go_wp2_with fail
      refine HA.out.mono ?_
      rintro e w1 ⟨rfl, b1⟩
      have B1 := Lib.hid b1
      clear b1
      go_wp2_with fail
      refine (KM1.out _ B1.out).mono ?_
      rintro e w2 ⟨rfl, b2⟩
      have B2 := Lib.hid (B1.out.trans (b2.mono B1.out.size))
      clear b2
      go_wp2_with (go_at_call 16; refine (KM2.out _ B2.out).mono ?_; rintro e w3 ⟨rfl, b3⟩)
      go_ret
      exact ⟨rfl, B2.out.trans (b3.mono B2.out.size)⟩
  obtain ⟨hs, ht⟩ := hok
  rw [Tx.mayB_true hs] at KM1
  rw [Tx.mayB_true ht] at KM2
  have KL1 := Lib.hid fun W (hW : Below w.heap.size w W) => klen8 W A n c s (HT.out W hW).1
  have KL2 := Lib.hid fun W (hW : Below w.heap.size w W) => klen8 W B m d t (HT.out W hW).2
  rw [Tx.lenI_may hs] at KL1
  rw [Tx.lenI_may ht] at KL2
  have KI := Lib.hid fun W (hW : Below w.heap.size w W) (z : Int) (hz : (Lit.int .i64 z).wf = true) => kindex8 W A n c s B m d t z (HT.out W hW).1 (HT.out W hW).2 Hd.out hz
  have hts := hs.len.2
  have htm := hs.most
  have htt := ht.len.2
  have HM := Lib.hid (And.intro hs ht)
  have hib := bounds_i64 hi
  have HWf := Lib.hid hi
  have HAh : Hid (ArgR w A n s ∧ ArgR w B m t) := ⟨h, h'⟩
  clear hl h h' hi
  go_enter Try.func7, Try.ntmps7
  go_wp2_with fail
  refine HA.out.mono ?_
  rintro e w1 ⟨rfl, b1⟩
  have B1 := Lib.hid b1
  clear b1 HA
  go_wp2_with fail
  refine (KM1.out _ B1.out).mono ?_
  rintro e w2 ⟨rfl, b2⟩
  have B2 := Lib.hid (B1.out.trans (b2.mono B1.out.size))
  clear b2 KM1
  go_wp2_with fail
  refine (KM2.out _ B2.out).mono ?_
  rintro e w3 ⟨rfl, b3⟩
  have B3 := Lib.hid (B2.out.trans (b3.mono B2.out.size))
  clear b3 KM2
  go_wp2_with fail
  refine (KL2.out _ B3.out).mono ?_
  rintro e w4 ⟨rfl, b4⟩
  have B4 := Lib.hid (B3.out.trans (b4.mono B3.out.size))
  clear b4 KL2
  go_wp2_with fail
  refine (KI.out _ B4.out i HWf.out).mono ?_
  rintro e w5 ⟨⟨r, rfl, hr⟩, b5⟩
  have B5 := Lib.hid (B4.out.trans (b5.mono B4.out.size))
  clear b5
  have hways : (r = -1 ∧ (i < 0 ∨ 0 ≤ i ∧ Lt.total s ≤ i ∨ 0 ≤ i ∧ i < Lt.total s ∧ ∀ q, IdxSaid s t (i + 1) q → q = -1)) ∨ ∃ (k a : Nat), r = (k : Int) ∧ i = (a : Int) ∧ Tx.First (Lt.expand s) (Lt.expand t) a k := by
    rcases hr with ⟨h1, _⟩ | ⟨_, _, ⟨h1, h2⟩ | ⟨h0, ⟨k, rfl, hk⟩ | ⟨rfl, hno⟩⟩⟩
    · exact absurd ⟨hs, ht⟩ h1
    · exact .inl ⟨h2, .inl h1⟩
    · exact .inr ⟨k, i.toNat, rfl, by omega, hk⟩
    · refine .inl ⟨rfl, ?_⟩
      by_cases h1 : i < Lt.total s
      · refine .inr (.inr ⟨h0, h1, fun q hq => hq.uniq (.inr ⟨hs, ht, .inr ⟨by omega, .inr ⟨rfl, fun j hj => hno j (by omega)⟩⟩⟩)⟩)
      · exact .inr (.inl ⟨h0, by omega⟩)
  rcases hways with ⟨rfl, hcase⟩ | ⟨k, a, rfl, rfl, hk⟩
  · have hwrap : (Lit.int .i64 (wrap64 (i + 1))).wf = true := WalkArith.wf_i64 (by unfold wrap64; omega)
    have KI2 := Lib.hid (KI.out _ B5.out (wrap64 (i + 1)) hwrap)
    have hwr : i < Lt.total s → IntKind.i64.wrap (i + 1) = i + 1 := fun h => IntWalk.i64_in _ (by omega)
    have hw2 : i < Lt.total s → wrap64 (i + 1) = i + 1 := fun h => by unfold wrap64; omega
    generalize Lt.total s = tot at *
    generalize hW1 : wrap64 (i + 1) = i1 at *
    clear hr hts htm htt HM HAh HWf HT KI hwrap
    go_wp2_with fail
    refine KI2.out.mono ?_
    rintro e w6 ⟨⟨q, rfl, hq⟩, b6⟩
    have B6 := Lib.hid (B5.out.trans (b6.mono B5.out.size))
    clear b6 KI2
    rcases hcase with hneg | ⟨h0, hge⟩ | ⟨h0, hlt, hq1⟩
    · clear hq hwr hw2 KL1
      go_wp2
      go_ret
      exact ⟨rfl, B6.out⟩
    · have h0n : ¬ i < 0 := by omega
      clear hq hwr hw2
      go_wp2_with (go_at_call 18; refine (KL1.out _ B6.out).mono ?_; rintro e w7 ⟨rfl, b7⟩)
      go_ret
      exact ⟨rfl, B6.out.trans (b7.mono B6.out.size)⟩
    · have h0n : ¬ i < 0 := by omega
      have hltn : ¬ tot ≤ i := by omega
      rw [hw2 hlt] at hq
      obtain rfl := hq1 q hq
      clear hq hwr hw2 hq1
      go_wp2_with (go_at_call 18; refine (KL1.out _ B6.out).mono ?_; rintro e w7 ⟨rfl, b7⟩)
      go_ret
      exact ⟨rfl, B6.out.trans (b7.mono B6.out.size)⟩
  · have hle := hk.le
    have here := Tx.first_here hs ht hk
    have hkw : (Lit.int .i64 (k : Int)).wf = true := WalkArith.wf_i64 (by omega)
    have htw : (Lit.int .i64 (Lt.total t)).wf = true := WalkArith.wf_i64 (by omega)
    have haw : (Lit.int .i64 ((k : Int) + Lt.total t - 1)).wf = true := WalkArith.wf_i64 (by omega)
    have K1 := Lib.hid fun W (hW : Below w.heap.size w W) => ksub8 W A n c s (k : Int) (Lt.total t) (HT.out W hW).1 hkw htw
    rw [here] at K1
    have K2 := Lib.hid fun W A1 n1 c1 (h1 : Txt W A1 n1 t) (hW : Below w.heap.size w W) => ksame8 W A1 n1 c1 t B m d t h1 (HT.out W hW).2
    rw [Tx.sameT_self ht] at K2
    have K3 := Lib.hid fun W (hW : Below w.heap.size w W) => ksub8 W A n c s 0 ((k : Int) + Lt.total t - 1) (HT.out W hW).1 (by decide) haw
    have K4 : Hid (∀ W A1 n1 c1, Txt W A1 n1 (Tx.subR s 0 ((k : Int) + Lt.total t - 1)) → Below w.heap.size w W → Lt.total t ≠ 0 → Calls Try.prog 24 #[.slice A1 n1 c1, .slice B m d, .int .i64 (a : Int)] W fun e w' => e = .returned (.int .i64 (-1)) ∧ Below W.heap.size W w') := fun W A1 n1 c1 h1 hW h0 => by
      refine (kindex8 W A1 n1 c1 _ B m d t (a : Int) h1 (HT.out W hW).2 Hd.out HWf.out).mono ?_
      rintro e w' ⟨⟨q, rfl, hq⟩, b⟩
      rw [Tx.first_ahead hs ht hk h0 hq]
      exact ⟨rfl, b⟩
    have K5 := Lib.hid fun W (hW : Below w.heap.size w W) => kcontains8 W A n c s B m d t (HT.out W hW).1 (HT.out W hW).2 Hd.out
    rw [Tx.contB_true hs ht hk.2.1] at K5
    have hak : a ≤ k := hk.1
    have hempty : Lt.total t = 0 → k = a := fun h0 => Tx.first_empty (by rw [ht.empty h0]; rfl) hk
    have e1 : IntKind.i64.wrap ((k : Int) + Lt.total t) = (k : Int) + Lt.total t := IntWalk.i64_in _ (by omega)
    have e2 : IntKind.i64.wrap ((k : Int) + Lt.total t - 1) = (k : Int) + Lt.total t - 1 := IntWalk.i64_in _ (by omega)
    have htp : 0 ≤ Lt.total t := by omega
    have htb : (k : Int) + Lt.total t ≤ 1099511627776 := by omega
    have hkn : ¬ (k : Int) < 0 := by omega
    generalize hX : Tx.subR s 0 ((k : Int) + Lt.total t - 1) = X at K3 K4
    generalize Lt.total t = tt at *
    generalize Lt.total s = tot at *
    clear hr hts htm htt HM HAh HWf KI KL1 here hk hkw htw haw hle hX hs ht
    go_wp2_with fail
    refine (K1.out _ B5.out).mono ?_
    rintro e w6 ⟨⟨A6, c6, n6, rfl, t6, _⟩, b6⟩
    have B6 := Lib.hid (B5.out.trans (b6.mono B5.out.size))
    have K2' := Lib.hid (K2.out w6 A6 n6 c6 t6 B6.out)
    clear b6 t6 K1 K2
    go_wp2_with fail
    refine K2'.out.mono ?_
    rintro e w7 ⟨rfl, b7⟩
    have B7 := Lib.hid (B6.out.trans (b7.mono B6.out.size))
    clear b7 K2'
    go_wp2_with fail
    refine (K3.out _ B7.out).mono ?_
    rintro e w8 ⟨⟨A8, c8, n8, rfl, t8, _⟩, b8⟩
    have B8 := Lib.hid (B7.out.trans (b8.mono B7.out.size))
    have T8 := Lib.hid t8
    clear b8 t8 K3
    by_cases h0 : tt = 0
    · obtain rfl := hempty h0
      subst h0
      have hkk : ((k : Int) == (k : Int)) = true := by simp
      clear hempty K4 K5 T8 HT
      go_wp2
      go_ret
      exact ⟨rfl, B8.out⟩
    · have h0b : (tt == 0) = false := beq_eq_false_iff_ne.2 h0
      have K4' := Lib.hid (K4.out w8 A8 n8 c8 T8.out B8.out h0)
      have haki : (a : Int) ≤ (k : Int) := by omega
      clear hempty K4 T8 HT
      go_wp2_with fail
      refine K4'.out.mono ?_
      rintro e w9 ⟨rfl, b9⟩
      have B9 := Lib.hid (B8.out.trans (b9.mono B8.out.size))
      clear b9 K4'
      go_wp2_with (go_at_call 26; refine (K5.out _ B9.out).mono ?_; rintro e w10 ⟨rfl, b10⟩)
      go_ret
      exact ⟨rfl, B9.out.trans (b10.mono B9.out.size)⟩
end Go.Proofs.Ytdpbglofijpfnaa
