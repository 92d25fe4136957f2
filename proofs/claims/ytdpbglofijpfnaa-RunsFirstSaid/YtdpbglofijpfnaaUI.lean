/- The code's Replace. -/
import Derived.Test.YtdpbglofijpfnaaUH
namespace Go.Proofs.Ytdpbglofijpfnaa
open Go.RowKit

theorem Tx.runs_le (p q : List Int) : (Lt.runs p).length ≤ (Lt.runs (p ++ q)).length := Tx.runs_pre p _ q rfl
/-- what Replace answers where t stands at k, by the code's two joins -/
def Tx.repJ (s t u : List (Int × Int)) (k : Nat) : Int × List (Int × Int) :=
  if (Tx.joinI (Lt.runs ((Lt.expand s).take k)) u).1 = 0 then Tx.joinI (Tx.joinI (Lt.runs ((Lt.expand s).take k)) u).2 (Lt.runs ((Lt.expand s).drop (k + (Lt.expand t).length))) else (2, [])
theorem Tx.joinI_one (a b : List (Int × Int)) : ((Tx.joinI a b).1 = 0 ∧ (Tx.joinI a b).2 = Lt.runs (Lt.expand a ++ Lt.expand b) ∧ Lt.total a + Lt.total b ≤ 1099511627776 ∧ (Lt.runs (Lt.expand a ++ Lt.expand b)).length ≤ 65536) ∨ ((Tx.joinI a b) = (2, []) ∧ ¬ (Lt.total a + Lt.total b ≤ 1099511627776 ∧ (Lt.runs (Lt.expand a ++ Lt.expand b)).length ≤ 65536)) := by
  unfold Tx.joinI
  split
  · rename_i h
    exact .inl ⟨rfl, rfl, h.1, h.2⟩
  · rename_i h
    exact .inr ⟨rfl, h⟩
theorem Tx.rep_is {s t u : List (Int × Int)} {k : Nat} (hs : Tx.May s) (ht : Tx.May t) (hu : Tx.May u) (hk : Tx.First (Lt.expand s) (Lt.expand t) 0 k) : Tx.RepIs s t u (Tx.repJ s t u k) := by
  refine .inr ⟨⟨hs, ht, hu⟩, .inl ⟨k, hk, ?_⟩⟩
  have hle := hk.le
  have e1 : Lt.expand (Lt.runs ((Lt.expand s).take k)) = (Lt.expand s).take k := Tx.expand_runs _
  have e2 : Lt.expand (Lt.runs ((Lt.expand s).drop (k + (Lt.expand t).length))) = (Lt.expand s).drop (k + (Lt.expand t).length) := Tx.expand_runs _
  have t1 : Lt.total (Lt.runs ((Lt.expand s).take k)) = (k : Int) := by rw [Tx.total_runs, List.length_take]; omega
  have t2 : Lt.total (Lt.runs ((Lt.expand s).drop (k + (Lt.expand t).length))) = ((Lt.expand s).length : Int) - k - (Lt.expand t).length := by rw [Tx.total_runs, List.length_drop]; omega
  have t3 := hu.len.2
  unfold Tx.repJ
  rcases Tx.joinI_one (Lt.runs ((Lt.expand s).take k)) u with ⟨h1, h2, h3, h4⟩ | ⟨h1, h2⟩
  · rw [if_pos h1, h2]
    unfold Tx.joinI
    rw [Tx.total_runs, e1, e2, Tx.expand_runs, t2, List.length_append, List.length_take]
    have : ((min k (Lt.expand s).length + (Lt.expand u).length : Nat) : Int) + (((Lt.expand s).length : Int) - k - (Lt.expand t).length) = ((Lt.expand s).length : Int) - (Lt.expand t).length + (Lt.expand u).length := by omega
    rw [this]
  · rw [h1, if_neg (by decide), if_neg]
    rintro ⟨h3, h4⟩
    rw [e1] at h2
    refine h2 ⟨by omega, ?_⟩
    have := Tx.runs_le ((Lt.expand s).take k ++ Lt.expand u) ((Lt.expand s).drop (k + (Lt.expand t).length))
    omega
theorem Tx.take_may {s : List (Int × Int)} (hs : Tx.May s) (k : Nat) : Tx.May (Lt.runs ((Lt.expand s).take k)) := by
  have := hs.sub 0 k
  rwa [show (0 : Int) = ((0 : Nat) : Int) from rfl, Tx.sub_nat, List.drop_zero] at this
theorem Tx.joinI_may {a b : List (Int × Int)} (ha : Tx.May a) (hb : Tx.May b) (h : (Tx.joinI a b).1 = 0) : Tx.May (Tx.joinI a b).2 := by
  rcases Tx.joinI_one a b with ⟨_, h2, h3, h4⟩ | ⟨h1, _⟩
  · rw [h2]
    refine Tx.may_runs (fun z hz => (List.mem_append.1 hz).elim (ha.own.pts z) (hb.own.pts z)) ?_ h4
    have := ha.len.2
    have := hb.len.2
    rw [List.length_append]
    omega
  · rw [h1] at h
    cases h

set_option maxRecDepth 100000 in
set_option maxHeartbeats 8000000 in
theorem kreplace8 (w : World) (A : Option Addr) (n c : Nat) (R : List (Int × Int)) (B : Option Addr) (m d : Nat) (S : List (Int × Int)) (C : Option Addr) (p f : Nat) (T : List (Int × Int)) (h : Txt w A n R) (h' : Txt w B m S) (h'' : Txt w C p T) (hd : m ≤ d) :
    Calls Try.prog 30 #[.slice A n c, .slice B m d, .slice C p f] w fun e w' => RepOwn w R S T e w' := by
  have hn := h.few
  have hm := h'.few
  have hp := h''.few
  have H1 := Lib.hid (kmayr w A n c R h.runs (by omega))
  have H2 := Lib.hid fun W (hW : Below w.heap.size w W) => kmayr W B m d S (h'.below hW).runs (by omega)
  have H3 := Lib.hid fun W (hW : Below w.heap.size w W) => kmayr W C p f T (h''.below hW).runs (by omega)
  obtain ⟨Post, hPost⟩ : ∃ Post : Ending → World → Prop, Post = fun e w' => RepOwn w R S T e w' := ⟨_, rfl⟩
  rw [← hPost]
  have HPo := Lib.hid hPost
  clear hPost
  by_cases hok : Tx.May R ∧ Tx.May S ∧ Tx.May T
  case neg =>
    have HE : Hid (∀ w', Below w.heap.size w w' → Post (.returned (.tuple #[.slice none 0 0, .int .i64 1])) w') := fun w' hb => by
      rw [HPo.out]
      exact ⟨⟨none, 0, (1, []), rfl, OwnR.nil _ _, .inl ⟨hok, rfl⟩⟩, hb⟩
    have hways : Tx.mayB R = false ∨ Tx.mayB R = true ∧ Tx.mayB S = false ∨ Tx.mayB R = true ∧ Tx.mayB S = true ∧ Tx.mayB T = false := by
      by_cases h1 : Tx.May R
      · by_cases h2 : Tx.May S
        · exact .inr (.inr ⟨Tx.mayB_true h1, Tx.mayB_true h2, Tx.mayB_false fun h => hok ⟨h1, h2, h⟩⟩)
        · exact .inr (.inl ⟨Tx.mayB_true h1, Tx.mayB_false h2⟩)
      · exact .inl (Tx.mayB_false h1)
    generalize Tx.mayB R = x at H1 hways
    generalize Tx.mayB S = y at H2 hways
    generalize Tx.mayB T = z at H3 hways
    clear h h' h'' hok HPo
    rcases hways with rfl | ⟨rfl, rfl⟩ | ⟨rfl, rfl, rfl⟩
    all_goals
      go_enter Try.func30, Try.ntmps30
      go_wp2_with fail
      refine H1.out.mono ?_
      rintro e w1 ⟨rfl, b1⟩
      have B1 := Lib.hid b1
      clear b1
    · go_wp2
      first | exact (HE.out _ B1.out) | exact bodyPost_ret (by simp [results, Try.results30, go_sem]) rfl (HE.out _ B1.out)
    all_goals
      go_wp2_with fail
      refine (H2.out _ B1.out).mono ?_
      rintro e w2 ⟨rfl, b2⟩
      have B2 := Lib.hid (B1.out.trans (b2.mono B1.out.size))
      clear b2
    · go_wp2
      first | exact (HE.out _ B2.out) | exact bodyPost_ret (by simp [results, Try.results30, go_sem]) rfl (HE.out _ B2.out)
    · go_wp2_with fail
      refine (H3.out _ B2.out).mono ?_
      rintro e w3 ⟨rfl, b3⟩
      have B3 := Lib.hid (B2.out.trans (b3.mono B2.out.size))
      clear b3
      go_wp2
      first | exact (HE.out _ B3.out) | exact bodyPost_ret (by simp [results, Try.results30, go_sem]) rfl (HE.out _ B3.out)
  case pos =>
    obtain ⟨hs, ht, hu⟩ := hok
    rw [Tx.mayB_true hs] at H1
    rw [Tx.mayB_true ht] at H2
    rw [Tx.mayB_true hu] at H3
    have HF := Lib.hid fun W (hW : Below w.heap.size w W) => kfirst8 W A n c R B m d S (h.below hW).runs (h'.below hW).runs hd hs ht
    have HC := Lib.hid fun W (hW : Below w.heap.size w W) => kclone8 W A n c R (h.below hW).runs (by omega)
    have HLs := Lib.hid fun W (hW : Below w.heap.size w W) => klength_may W A n c R (h.below hW).runs hs
    have HLt := Lib.hid fun W (hW : Below w.heap.size w W) => klength_may W B m d S (h'.below hW).runs ht
    obtain ⟨l1, l2⟩ := hs.len
    obtain ⟨l3, l4⟩ := ht.len
    rw [← l2] at HLs
    rw [← l4] at HLt
    have HP1 := Lib.hid fun W (hW : Below w.heap.size w W) (k : Nat) => kpiece8 W A n c R 0 k (h.below hW).runs hs (Int.le_refl _) (Int.natCast_nonneg _) (by omega)
    have HP2 := Lib.hid fun W (hW : Below w.heap.size w W) (k : Nat) => kpiece8 W A n c R k ((Lt.expand R).length : Nat) (h.below hW).runs hs (Int.natCast_nonneg _) (Int.natCast_nonneg _) (by omega)
    simp only [Int.toNat_natCast, Int.toNat_zero, List.drop_zero, List.take_length] at HP1 HP2
    have HJ1 := Lib.hid fun W (hW : Below w.heap.size w W) (k : Nat) A2 c2 (o : RunS W A2 (Lt.runs ((Lt.expand R).take k)).length (Lt.runs ((Lt.expand R).take k))) => kjoin8 W A2 _ c2 (Lt.runs ((Lt.expand R).take k)) C p f T o (h''.below hW).runs (Tx.take_may hs k) hu (Tx.take_may hs k).few (by omega)
    have HJ2 := Lib.hid fun W (k : Nat) (h0 : (Tx.joinI (Lt.runs ((Lt.expand R).take k)) T).1 = 0) A2 c2 A3 c3 (o : RunS W A2 (Tx.joinI (Lt.runs ((Lt.expand R).take k)) T).2.length (Tx.joinI (Lt.runs ((Lt.expand R).take k)) T).2) (o' : RunS W A3 (Lt.runs ((Lt.expand R).drop (k + (Lt.expand S).length))).length (Lt.runs ((Lt.expand R).drop (k + (Lt.expand S).length)))) =>
      kjoin8 W A2 _ c2 _ A3 _ c3 _ o o' (Tx.joinI_may (Tx.take_may hs k) hu h0) (Tx.drop_may hs _).1 (Tx.joinI_may (Tx.take_may hs k) hu h0).few (Tx.drop_may hs _).1.few
    have HJ0 := Lib.hid fun (k : Nat) => Tx.joinI_one (Lt.runs ((Lt.expand R).take k)) T
    have HNo : Hid ((∀ j, ¬ Tx.Stands (Lt.expand R) (Lt.expand S) j) → ∀ A' c' w', OwnR w' w.heap.size A' c' R → Below w.heap.size w w' → Post (.returned (.tuple #[.slice A' R.length c', .int .i64 0])) w') := fun hno A' c' w' ho hb => by
      rw [HPo.out]
      exact ⟨⟨A', c', (0, R), rfl, ho, .inr ⟨⟨hs, ht, hu⟩, .inr ⟨hno, rfl⟩⟩⟩, hb⟩
    have HYes : Hid (∀ (k : Nat) A' c' w', Tx.First (Lt.expand R) (Lt.expand S) 0 k → OwnR w' w.heap.size A' c' (Tx.repJ R S T k).2 → Below w.heap.size w w' → Post (.returned (.tuple #[.slice A' (Tx.repJ R S T k).2.length c', .int .i64 (Tx.repJ R S T k).1])) w') := fun k A' c' w' hk ho hb => by
      rw [HPo.out]
      exact ⟨⟨A', c', Tx.repJ R S T k, rfl, ho, Tx.rep_is hs ht hu hk⟩, hb⟩
    clear h h' h'' hs ht hu HPo l2 l4
    go_enter Try.func30, Try.ntmps30
    go_wp2_with fail
    refine H1.out.mono ?_
    rintro e w1 ⟨rfl, b1⟩
    have B1 := Lib.hid b1
    clear b1 H1
    go_wp2_with fail
    refine (H2.out _ B1.out).mono ?_
    rintro e w2 ⟨rfl, b2⟩
    have B2 := Lib.hid (B1.out.trans (b2.mono B1.out.size))
    clear b2 H2
    go_wp2_with fail
    refine (H3.out _ B2.out).mono ?_
    rintro e w3 ⟨rfl, b3⟩
    have B3 := Lib.hid (B2.out.trans (b3.mono B2.out.size))
    clear b3 H3
    go_wp2_with fail
    refine (HF.out _ B3.out).mono ?_
    rintro e w4 ⟨⟨z, rfl, hz⟩, b4⟩
    have B4 := Lib.hid (B3.out.trans (b4.mono B3.out.size))
    clear b4 HF
    rcases hz with ⟨rfl, hno⟩ | ⟨k, rfl, hk⟩
    · have HN := Lib.hid (HNo.out hno)
      have HC4 := Lib.hid (HC.out _ B4.out)
      clear HC HLs HLt HP1 HP2 HJ1 HJ2 HJ0 HNo HYes hno
      go_wp2_with fail
      refine HC4.out.mono ?_
      rintro e w5 ⟨⟨A5, c5, rfl, o5⟩, b5⟩
      have HE := Lib.hid (HN.out A5 c5 w5 (o5.base B4.out.size) (B4.out.trans (b5.mono B4.out.size)))
      clear o5 b5 HN HC4
      go_wp2
      first | exact HE.out | exact bodyPost_ret (by simp [results, Try.results30, go_sem]) rfl HE.out
    · have hle := hk.le
      have dk : decide ((k : Int) < 0) = false := decide_eq_false (by omega)
      have HY := Lib.hid (fun A' c' w' => HYes.out k A' c' w' hk)
      have HP4 := Lib.hid (HP1.out _ B4.out k)
      clear HC HNo HYes hk HP1
      go_wp2_with fail
      refine HP4.out.mono ?_
      rintro e w5 ⟨⟨A5, c5, rfl, o5⟩, b5⟩
      have B5 := Lib.hid (B4.out.trans (b5.mono B4.out.size))
      have HJ5 := Lib.hid (HJ1.out _ B5.out k A5 c5 (OwnR.runs o5 rfl))
      clear b5 o5 HP4 HJ1
      go_wp2_with fail
      refine HJ5.out.mono ?_
      rintro e w6 ⟨⟨A6, c6, rfl, o6⟩, b6⟩
      have B6 := Lib.hid (B5.out.trans (b6.mono B5.out.size))
      rcases HJ0.out k with ⟨j1, _⟩ | ⟨j1, _⟩
      · have hrep : Tx.repJ R S T k = Tx.joinI (Tx.joinI (Lt.runs ((Lt.expand R).take k)) T).2 (Lt.runs ((Lt.expand R).drop (k + (Lt.expand S).length))) := by
          unfold Tx.repJ
          rw [if_pos j1]
        rw [hrep] at HY
        have HJ6 := Lib.hid fun W A3 c3 => HJ2.out W k j1 A6 c6 A3 c3
        have HO6 := Lib.hid fun W (hW : Below w6.heap.size w6 W) => OwnR.runs (o6.kept hW) rfl
        have hw1 : IntKind.i64.wrap ((k : Int) + ((Lt.expand S).length : Int)) = ((k + (Lt.expand S).length : Nat) : Int) := by rw [IntWalk.i64_in _ (by omega)]; omega
        generalize (Lt.expand R).length = LR at HLs HP2 hle l1
        generalize hLS : (Lt.expand S).length = LS at HLt HJ6 HY hle l3 hw1
        generalize Tx.joinI (Lt.runs ((Lt.expand R).take k)) T = J at HJ6 HY HO6 j1
        obtain ⟨J1, J2⟩ := J
        simp only at j1
        subst j1
        simp only at HJ6 HY HO6
        have HP6 := Lib.hid fun W hW => HP2.out W hW (k + LS)
        clear HJ2 HJ0 HP2 o6 b6 HJ5 hrep
        go_wp2_with fail
        refine (HLt.out _ B6.out).mono ?_
        rintro e w7 ⟨rfl, b7⟩
        have B7 := Lib.hid (B6.out.trans (b7.mono B6.out.size))
        have C7 := Lib.hid b7
        clear b7 HLt
        go_wp2_with fail
        refine (HLs.out _ B7.out).mono ?_
        rintro e w8 ⟨rfl, b8⟩
        have B8 := Lib.hid (B7.out.trans (b8.mono B7.out.size))
        have C8 := Lib.hid (C7.out.trans (b8.mono C7.out.size))
        have HP8 := Lib.hid (HP6.out _ B8.out)
        clear b8 HLs C7 HP6
        go_wp2_with fail
        refine HP8.out.mono ?_
        rintro e w9 ⟨⟨A9, c9, rfl, o9⟩, b9⟩
        have B9 := Lib.hid (B8.out.trans (b9.mono B8.out.size))
        have HJ9 := Lib.hid (HJ6.out w9 A9 c9 (HO6.out _ (C8.out.trans (b9.mono C8.out.size))) (OwnR.runs o9 rfl))
        clear o9 b9 HP8 HJ6 HO6 C8
        go_wp2_with fail
        refine HJ9.out.mono ?_
        rintro e w10 ⟨⟨A10, c10, rfl, o10⟩, b10⟩
        have HE := Lib.hid (HY.out A10 c10 w10 (o10.base B9.out.size) (B9.out.trans (b10.mono B9.out.size)))
        clear o10 b10 HJ9 HY
        go_wp2
        first | exact HE.out | exact bodyPost_ret (by simp [results, Try.results30, go_sem]) rfl HE.out
      · have hrep : Tx.repJ R S T k = (2, []) := by
          unfold Tx.repJ
          rw [j1, if_neg (by decide)]
        rw [hrep] at HY
        rw [j1] at o6 ⊢
        have HE := Lib.hid (HY.out none 0 w6 (OwnR.nil _ _) B6.out)
        clear HJ2 HJ0 HP2 o6 b6 HJ5 hrep HLs HLt HY
        go_wp2
        first | exact HE.out | exact bodyPost_ret (by simp [results, Try.results30, go_sem]) rfl HE.out
end Go.Proofs.Ytdpbglofijpfnaa
