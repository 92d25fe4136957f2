/- The code's Index, Contains. -/
import Derived.Test.YtdpbglofijpfnaaUG
namespace Go.Proofs.Ytdpbglofijpfnaa
open Go.RowKit

theorem Tx.stands_drop {l m : List Int} {i k : Nat} (hi : i ≤ l.length) : Tx.Stands (l.drop i) m k ↔ Tx.Stands l m (i + k) := by
  unfold Tx.Stands
  rw [List.drop_drop, List.length_drop]
  constructor
  · rintro ⟨h1, h2⟩
    exact ⟨by omega, h2⟩
  · rintro ⟨h1, h2⟩
    exact ⟨by omega, h2⟩
/-- what is found in the rest of a text is found in the text -/
theorem Tx.idx_of_fst {s t P : List (Int × Int)} {i : Nat} {z : Int} (hs : Tx.May s) (ht : Tx.May t) (hi : i ≤ (Lt.expand s).length) (hP : Lt.expand P = (Lt.expand s).drop i) (h : Tx.Fst P t z) :
    (z = -1 ∧ IdxSaid s t i (-1)) ∨ ∃ k : Nat, z = k ∧ i + k ≤ (Lt.expand s).length ∧ IdxSaid s t i ((i + k : Nat) : Int) := by
  rcases h with ⟨rfl, hn⟩ | ⟨k, rfl, hk⟩
  · refine .inl ⟨rfl, .inr ⟨hs, ht, .inr ⟨Int.natCast_nonneg _, .inr ⟨rfl, fun j hj hst => ?_⟩⟩⟩⟩
    rw [Int.toNat_natCast] at hj
    refine hn (j - i) ?_
    rw [hP, Tx.stands_drop hi, show i + (j - i) = j by omega]
    exact hst
  · rw [hP] at hk
    have h2 := (Tx.stands_drop hi).1 hk.2.1
    refine .inr ⟨k, rfl, h2.1, .inr ⟨hs, ht, .inr ⟨Int.natCast_nonneg _, .inl ⟨i + k, rfl, ?_⟩⟩⟩⟩
    rw [Int.toNat_natCast]
    refine ⟨by omega, h2, fun j h3 h4 hst => ?_⟩
    refine hk.2.2 (j - i) (Nat.zero_le _) (by omega) ?_
    rw [Tx.stands_drop hi, show i + (j - i) = j by omega]
    exact hst
theorem Tx.drop_may {s : List (Int × Int)} (hs : Tx.May s) (i : Nat) : Tx.May (Lt.runs ((Lt.expand s).drop i)) ∧ Lt.expand (Lt.runs ((Lt.expand s).drop i)) = (Lt.expand s).drop i ∧ (Lt.runs ((Lt.expand s).drop i)).length ≤ s.length := by
  have e : Tx.subR s i ((Lt.expand s).length : Nat) = Lt.runs ((Lt.expand s).drop i) := by
    rw [Tx.subR_may hs, Tx.sub_nat, List.take_of_length_le (by rw [List.length_drop]; omega)]
  have := Tx.subR_is hs i ((Lt.expand s).length : Nat)
  rw [e] at this
  exact ⟨this.1, Tx.expand_runs _, this.2.2⟩
theorem OwnR.cap8 {w : World} {B : Nat} {A : Option Addr} {c : Nat} {l : List (Int × Int)} (h : OwnR w B A c l) : l.length ≤ c := by
  rcases h.2 with ⟨q, e⟩ | ⟨g, cap, cur, q1, _, _, q4, _⟩
  · omega
  · cases q1
    exact q4

set_option maxRecDepth 100000 in
set_option maxHeartbeats 4000000 in
theorem kindex8 (w : World) (A : Option Addr) (n c : Nat) (R : List (Int × Int)) (B : Option Addr) (m d : Nat) (S : List (Int × Int)) (i : Int) (h : Txt w A n R) (h' : Txt w B m S) (hd : m ≤ d) (_ : (Lit.int .i64 i).wf = true) :
    Calls Try.prog 24 #[.slice A n c, .slice B m d, .int .i64 i] w fun e w' => (∃ r : Int, e = .returned (.int .i64 r) ∧ IdxSaid R S i r) ∧ Below w.heap.size w w' := by
  have hn := h.few
  have hm := h'.few
  have H1 := Lib.hid (kmayr w A n c R h.runs (by omega))
  have H2 := Lib.hid fun W (hW : Below w.heap.size w W) => kmayr W B m d S (h'.below hW).runs (by omega)
  by_cases hok : Tx.May R ∧ Tx.May S ∧ 0 ≤ i
  case neg =>
    have HE : Hid (IdxSaid R S i (-1)) := by
      show IdxSaid R S i (-1)
      by_cases h1 : Tx.May R ∧ Tx.May S
      · exact .inr ⟨h1.1, h1.2, .inl ⟨Int.not_le.1 fun h => hok ⟨h1.1, h1.2, h⟩, rfl⟩⟩
      · exact .inl ⟨h1, rfl⟩
    have hways : Tx.mayB R = false ∨ Tx.mayB R = true ∧ Tx.mayB S = false ∨ Tx.mayB R = true ∧ Tx.mayB S = true ∧ i < 0 := by
      by_cases h1 : Tx.May R
      · by_cases h2 : Tx.May S
        · exact .inr (.inr ⟨Tx.mayB_true h1, Tx.mayB_true h2, Int.not_le.1 fun h => hok ⟨h1, h2, h⟩⟩)
        · exact .inr (.inl ⟨Tx.mayB_true h1, Tx.mayB_false h2⟩)
      · exact .inl (Tx.mayB_false h1)
    generalize Tx.mayB R = x at H1 hways
    generalize Tx.mayB S = y at H2 hways
    clear h h' hok
    rcases hways with rfl | ⟨rfl, rfl⟩ | ⟨rfl, rfl, hi⟩
    all_goals
      go_enter Try.func24, Try.ntmps24
      go_wp2_with fail
      refine H1.out.mono ?_
      rintro e w1 ⟨rfl, b1⟩
      have B1 := Lib.hid b1
      clear b1
      go_wp2_with (go_at_call 16; refine (H2.out _ B1.out).mono ?_; rintro e w2 ⟨rfl, b2⟩)
      go_ret
      first
        | exact ⟨⟨_, rfl, HE.out⟩, B1.out.trans (b2.mono B1.out.size)⟩
        | exact ⟨⟨_, rfl, HE.out⟩, B1.out⟩
  case pos =>
    obtain ⟨ha, hs, hi⟩ := hok
    obtain ⟨i, rfl⟩ : ∃ k : Nat, i = (k : Int) := ⟨i.toNat, by omega⟩
    rw [Tx.mayB_true ha] at H1
    rw [Tx.mayB_true hs] at H2
    obtain ⟨len1, len2⟩ := ha.len
    have HL := Lib.hid fun W (hW : Below w.heap.size w W) => klength_may W A n c R (h.below hW).runs ha
    obtain ⟨p1, p2, p3⟩ := Tx.drop_may ha i
    have HP := Lib.hid fun W (hW : Below w.heap.size w W) => kpiece8 W A n c R i (Lt.total R) (h.below hW).runs ha hi (by omega) (by omega)
    rw [← len2, Int.toNat_natCast, Int.toNat_natCast, List.take_length] at HP
    rw [← len2] at HL
    by_cases hgt : (Lt.expand R).length < i
    case pos =>
      have dg : decide (((Lt.expand R).length : Int) < (i : Int)) = true := decide_eq_true (by omega)
      have dg2 : decide ((Lt.expand R).length < i) = true := decide_eq_true (by omega)
      have di : decide ((i : Int) < 0) = false := decide_eq_false (by omega)
      have HE : Hid (IdxSaid R S i (-1)) := .inr ⟨ha, hs, .inr ⟨hi, .inr ⟨rfl, fun j hj hst => by
        have := hst.1
        rw [Int.toNat_natCast] at hj
        omega⟩⟩⟩
      generalize (Lt.expand R).length = L at HL dg dg2
      clear h h' ha hs HP p1 p2 p3 len1 len2 hgt
      go_enter Try.func24, Try.ntmps24
      go_wp2_with fail
      refine H1.out.mono ?_
      rintro e w1 ⟨rfl, b1⟩
      have B1 := Lib.hid b1
      clear b1 H1
      go_wp2_with fail
      refine (H2.out _ B1.out).mono ?_
      rintro e w2 ⟨rfl, b2⟩
      have B2 := Lib.hid (B1.out.trans (b2.mono B1.out.size))
      clear b2 H2
      go_wp2_with fail
      refine (HL.out _ B2.out).mono ?_
      rintro e w3 ⟨rfl, b3⟩
      have B3 := Lib.hid (B2.out.trans (b3.mono B2.out.size))
      clear b3 HL
      go_wp2
      go_ret
      exact ⟨⟨_, rfl, HE.out⟩, B3.out⟩
    case neg =>
      have dg : decide (((Lt.expand R).length : Int) < (i : Int)) = false := decide_eq_false (by omega)
      have dg2 : decide ((Lt.expand R).length < i) = false := decide_eq_false (by omega)
      have di : decide ((i : Int) < 0) = false := decide_eq_false (by omega)
      have HX := Lib.hid fun z (hz : Tx.Fst (Lt.runs ((Lt.expand R).drop i)) S z) => Tx.idx_of_fst ha hs (i := i) (by omega) p2 hz
      have HF := Lib.hid fun W (hW : Below w.heap.size w W) A2 c2 (o : RunS W A2 (Lt.runs ((Lt.expand R).drop i)).length (Lt.runs ((Lt.expand R).drop i))) => kfirst8 W A2 (Lt.runs ((Lt.expand R).drop i)).length c2 (Lt.runs ((Lt.expand R).drop i)) B m d S o (h'.below hW).runs hd p1 hs
      generalize Lt.runs ((Lt.expand R).drop i) = P at HP HX HF
      generalize (Lt.expand R).length = L at HL dg dg2 len1 HP HX
      clear h h' ha hs p1 p2 p3 len2 hgt
      go_enter Try.func24, Try.ntmps24
      go_wp2_with fail
      refine H1.out.mono ?_
      rintro e w1 ⟨rfl, b1⟩
      have B1 := Lib.hid b1
      clear b1 H1
      go_wp2_with fail
      refine (H2.out _ B1.out).mono ?_
      rintro e w2 ⟨rfl, b2⟩
      have B2 := Lib.hid (B1.out.trans (b2.mono B1.out.size))
      clear b2 H2
      go_wp2_with fail
      refine (HL.out _ B2.out).mono ?_
      rintro e w3 ⟨rfl, b3⟩
      have B3 := Lib.hid (B2.out.trans (b3.mono B2.out.size))
      have HP3 := Lib.hid (HP.out _ B3.out)
      clear b3 HL HP
      go_wp2_with fail
      refine HP3.out.mono ?_
      rintro e w4 ⟨⟨A2, c2, rfl, o4⟩, b4⟩
      have B4 := Lib.hid (B3.out.trans (b4.mono B3.out.size))
      have HF4 := Lib.hid (HF.out _ B4.out A2 c2 (OwnR.runs o4 rfl))
      clear b4 o4 HF HP3
      go_wp2_with fail
      refine HF4.out.mono ?_
      rintro e w5 ⟨⟨z, rfl, hz⟩, b5⟩
      have B5 := Lib.hid (B4.out.trans (b5.mono B4.out.size))
      rcases HX.out z hz with ⟨rfl, HE⟩ | ⟨k, rfl, hk, HE⟩
      · replace HE := Lib.hid HE
        clear b5 hz HF4 HX
        go_wp2
        go_ret
        exact ⟨⟨_, rfl, HE.out⟩, B5.out⟩
      · replace HE := Lib.hid HE
        have d1 : decide ((k : Int) < 0) = false := decide_eq_false (by omega)
        have hw : IntKind.i64.wrap ((i : Int) + (k : Int)) = ((i + k : Nat) : Int) := by rw [IntWalk.i64_in _ (by omega)]; omega
        clear b5 hz HF4 HX
        go_wp2
        go_ret
        refine ⟨⟨_, rfl, ?_⟩, B5.out⟩
        have := HE.out
        simpa using this
set_option maxRecDepth 100000 in
theorem kcontains8 (w : World) (A : Option Addr) (n c : Nat) (R : List (Int × Int)) (B : Option Addr) (m d : Nat) (S : List (Int × Int)) (h : Txt w A n R) (h' : Txt w B m S) (hd : m ≤ d) :
    Calls Try.prog 26 #[.slice A n c, .slice B m d] w fun e w' => e = .returned (.bool (Tx.contB R S)) ∧ Below w.heap.size w w' := by
  have H1 := Lib.hid (kindex8 w A n c R B m d S 0 h h' hd (by decide))
  have HC : Hid (∀ r, IdxSaid R S 0 r → decide (0 ≤ r) = Tx.contB R S) := fun r hr => (Tx.contB_idx hr).symm
  generalize Tx.contB R S = b at HC
  clear h h'
  go_enter Try.func26, Try.ntmps26
  go_wp2_with fail
  refine H1.out.mono ?_
  rintro e w1 ⟨⟨r, rfl, hr⟩, b1⟩
  have hb := HC.out r hr
  clear hr H1 HC
  go_wp2
  go_ret
  exact ⟨rfl, b1⟩
end Go.Proofs.Ytdpbglofijpfnaa
