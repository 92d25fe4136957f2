/- The reference of runs: Prefix, Suffix, Index. -/
import Derived.Test.YtdpbglofijpfnaaF4
namespace Go.Proofs.Ytdpbglofijpfnaa
open Go.RowKit

/-- a text that came in, small if it may be -/
structure Sml (w : World) (A : Option Addr) (n : Nat) (R : List (Int × Int)) : Prop where
  runs : RunS w A n R
  few : n ≤ 1000
  small : Tx.May R → Lt.total R ≤ 1000
theorem Sml.below {w w' : World} {A : Option Addr} {n : Nat} {R : List (Int × Int)} (h : Sml w A n R) (hb : Below w.heap.size w w') : Sml w' A n R := ⟨h.runs.below hb, h.few, h.small⟩
theorem Sml.len {w : World} {A : Option Addr} {n : Nat} {R : List (Int × Int)} (h : Sml w A n R) (hm : Tx.May R) : (Lt.expand R).length ≤ 1000 := by
  have := hm.own.len
  have := h.small hm
  omega
theorem Sml.pts {w : World} {A : Option Addr} {n : Nat} {R : List (Int × Int)} (h : Sml w A n R) (hm : Tx.May R) (c : Nat) (W : World) (hW : Below w.heap.size w W) :
    Calls Try.prog 34 #[.slice A n c] W fun e w' => NSaid W (Lt.expand R) e w' :=
  rpts8 W A n c R (h.runs.below hW) hm.own (by have := h.few; omega) (by have := h.small hm; omega)
/-- does the text a begin s? -/
noncomputable def Tx.prefB (a s : List (Int × Int)) : Bool := Tx.mayB a && Tx.mayB s && Tx.standsB (Lt.expand s) (Lt.expand a) 0
noncomputable def Tx.suffB (a s : List (Int × Int)) : Bool := Tx.mayB a && Tx.mayB s && Tx.standsB (Lt.expand s) (Lt.expand a) (((Lt.expand s).length : Int) - (Lt.expand a).length)

set_option maxRecDepth 100000 in
set_option maxHeartbeats 1600000 in
theorem rprefix8 (w : World) (A : Option Addr) (n c : Nat) (a : List (Int × Int)) (B : Option Addr) (m d : Nat) (s : List (Int × Int)) (h : Sml w A n a) (h' : Sml w B m s) :
    Calls Try.prog 21 #[.slice A n c, .slice B m d] w fun e w' => e = .returned (.bool (Tx.prefB a s)) ∧ Below w.heap.size w w' := by
  have H1 := Lib.hid (rmay8 w A n c a h.runs)
  have H2 := Lib.hid fun W (hW : Below w.heap.size w W) => rmay8 W B m d s (h'.runs.below hW)
  by_cases hok : Tx.May a ∧ Tx.May s
  case neg =>
    have hX : Tx.prefB a s = false := by
      unfold Tx.prefB
      by_cases ha : Tx.May a
      · rw [Tx.mayB_false fun hs => hok ⟨ha, hs⟩, Bool.and_false, Bool.false_and]
      · rw [Tx.mayB_false ha]; rfl
    have hand : (Tx.mayB a && Tx.mayB s) = false := by
      by_cases ha : Tx.May a
      · rw [Tx.mayB_false fun hs => hok ⟨ha, hs⟩, Bool.and_false]
      · rw [Tx.mayB_false ha]; rfl
    rw [hX]
    generalize Tx.mayB a = x at H1 hand
    generalize Tx.mayB s = y at H2 hand
    have hxy : x = false ∨ x = true ∧ y = false := by cases x <;> cases y <;> simp at hand ⊢
    clear h h' hok hX hand
    rcases hxy with rfl | ⟨rfl, rfl⟩
    all_goals
      go_enter Try.func21, Try.ntmps21
      go_wp2_with fail
      refine H1.out.mono ?_
      rintro e w1 ⟨rfl, b1⟩
      have B1 := Lib.hid b1
      clear b1
      go_wp2_with (go_at_call 17; refine (H2.out _ B1.out).mono ?_; rintro e w2 ⟨rfl, b2⟩)
      go_ret
      exact ⟨rfl, B1.out.trans (b2.mono B1.out.size)⟩
  case pos =>
    obtain ⟨ha, hs⟩ := hok
    have hX : Tx.prefB a s = Tx.standsB (Lt.expand s) (Lt.expand a) 0 := by unfold Tx.prefB; rw [Tx.mayB_true ha, Tx.mayB_true hs]; rfl
    rw [hX]
    rw [Tx.mayB_true ha] at H1
    rw [Tx.mayB_true hs] at H2
    have H3 := Lib.hid (h'.pts hs d)
    have H4 := Lib.hid (h.pts ha c)
    have hla := h.len ha
    have hls := h'.len hs
    generalize Lt.expand a = L at H4 hla hX ⊢
    generalize Lt.expand s = K at H3 hls hX ⊢
    obtain ⟨ll, hL⟩ : ∃ n, L.length = n := ⟨_, rfl⟩
    obtain ⟨kl, hK⟩ : ∃ n, K.length = n := ⟨_, rfl⟩
    have HLs := Lib.hid (And.intro hL hK)
    unfold NSaid at H3 H4
    rw [hL] at H4 hla
    rw [hK] at H3 hls
    have H5 := Lib.hid fun W A' c' B' d' (h1 : NumS W A' kl K) (h2 : NumS W B' ll L) => rstands8 W A' kl c' K B' ll d' L 0 h1 h2 (by omega) (by omega) (by decide)
    obtain ⟨X, HX⟩ : ∃ X, Hid (Tx.standsB K L 0 = X) := ⟨_, rfl⟩
    rw [HX.out] at H5 ⊢
    clear h h' ha hs hX hL hK HX hla hls
    go_enter Try.func21, Try.ntmps21
    go_wp2_with fail
    refine H1.out.mono ?_
    rintro e w1 ⟨rfl, b1⟩
    have B1 := Lib.hid b1
    clear b1 H1
    go_wp2_with fail
    refine (H2.out _ B1.out).mono ?_
    rintro e w2 ⟨rfl, b2⟩
    have B2 := Lib.hid (B1.out.trans (b2.mono B1.out.size))
    clear b2 H2
    go_wp2_with fail
    refine (H3.out _ B2.out).mono ?_
    rintro e w3 ⟨⟨A3, c3, rfl, o3⟩, b3⟩
    have B3 := Lib.hid (B2.out.trans (b3.mono B2.out.size))
    have O3 := Lib.hid (o3.nums HLs.out.2)
    clear b3 o3 H3
    go_wp2_with fail
    refine (H4.out _ B3.out).mono ?_
    rintro e w4 ⟨⟨A4, c4, rfl, o4⟩, b4⟩
    have B4 := Lib.hid (B3.out.trans (b4.mono B3.out.size))
    have HS := Lib.hid (H5.out _ A3 c3 A4 c4 (O3.out.below b4) (o4.nums HLs.out.1))
    clear b4 o4 H4 H5 O3
    go_wp2_with (go_at_call 41; refine HS.out.mono ?_; rintro e w5 ⟨rfl, b5⟩)
    go_ret
    exact ⟨rfl, B4.out.trans (b5.mono B4.out.size)⟩

set_option maxRecDepth 100000 in
set_option maxHeartbeats 1600000 in
theorem rsuffix8 (w : World) (A : Option Addr) (n c : Nat) (a : List (Int × Int)) (B : Option Addr) (m d : Nat) (s : List (Int × Int)) (h : Sml w A n a) (h' : Sml w B m s) :
    Calls Try.prog 23 #[.slice A n c, .slice B m d] w fun e w' => e = .returned (.bool (Tx.suffB a s)) ∧ Below w.heap.size w w' := by
  have H1 := Lib.hid (rmay8 w A n c a h.runs)
  have H2 := Lib.hid fun W (hW : Below w.heap.size w W) => rmay8 W B m d s (h'.runs.below hW)
  by_cases hok : Tx.May a ∧ Tx.May s
  case neg =>
    have hX : Tx.suffB a s = false := by
      unfold Tx.suffB
      by_cases ha : Tx.May a
      · rw [Tx.mayB_false fun hs => hok ⟨ha, hs⟩, Bool.and_false, Bool.false_and]
      · rw [Tx.mayB_false ha]; rfl
    have hand : (Tx.mayB a && Tx.mayB s) = false := by
      by_cases ha : Tx.May a
      · rw [Tx.mayB_false fun hs => hok ⟨ha, hs⟩, Bool.and_false]
      · rw [Tx.mayB_false ha]; rfl
    rw [hX]
    generalize Tx.mayB a = x at H1 hand
    generalize Tx.mayB s = y at H2 hand
    have hxy : x = false ∨ x = true ∧ y = false := by cases x <;> cases y <;> simp at hand ⊢
    clear h h' hok hX hand
    rcases hxy with rfl | ⟨rfl, rfl⟩
    all_goals
      go_enter Try.func23, Try.ntmps23
      go_wp2_with fail
      refine H1.out.mono ?_
      rintro e w1 ⟨rfl, b1⟩
      have B1 := Lib.hid b1
      clear b1
      go_wp2_with (go_at_call 17; refine (H2.out _ B1.out).mono ?_; rintro e w2 ⟨rfl, b2⟩)
      go_ret
      exact ⟨rfl, B1.out.trans (b2.mono B1.out.size)⟩
  case pos =>
    obtain ⟨ha, hs⟩ := hok
    have hX : Tx.suffB a s = Tx.standsB (Lt.expand s) (Lt.expand a) (((Lt.expand s).length : Int) - (Lt.expand a).length) := by unfold Tx.suffB; rw [Tx.mayB_true ha, Tx.mayB_true hs]; rfl
    rw [hX]
    rw [Tx.mayB_true ha] at H1
    rw [Tx.mayB_true hs] at H2
    have H3 := Lib.hid (h'.pts hs d)
    have H4 := Lib.hid (h.pts ha c)
    have hla := h.len ha
    have hls := h'.len hs
    generalize Lt.expand a = L at H4 hla hX ⊢
    generalize Lt.expand s = K at H3 hls hX ⊢
    obtain ⟨ll, hL⟩ : ∃ n, L.length = n := ⟨_, rfl⟩
    obtain ⟨kl, hK⟩ : ∃ n, K.length = n := ⟨_, rfl⟩
    have HLs := Lib.hid (And.intro hL hK)
    unfold NSaid at H3 H4
    rw [hL] at H4 hla ⊢
    rw [hK] at H3 hls ⊢
    have H5 := Lib.hid fun W A' c' B' d' (h1 : NumS W A' kl K) (h2 : NumS W B' ll L) => rstands8 W A' kl c' K B' ll d' L ((kl : Int) - (ll : Int)) h1 h2 (by omega) (by omega) ⟨by omega, by omega⟩
    obtain ⟨X, HX⟩ : ∃ X, Hid (Tx.standsB K L ((kl : Int) - (ll : Int)) = X) := ⟨_, rfl⟩
    rw [HX.out] at H5 ⊢
    have hsub : IntKind.i64.wrap ((kl : Int) - (ll : Int)) = (kl : Int) - (ll : Int) := IntWalk.i64_in _ (by omega)
    clear h h' ha hs hX hL hK HX hla hls
    go_enter Try.func23, Try.ntmps23
    go_wp2_with fail
    refine H1.out.mono ?_
    rintro e w1 ⟨rfl, b1⟩
    have B1 := Lib.hid b1
    clear b1 H1
    go_wp2_with fail
    refine (H2.out _ B1.out).mono ?_
    rintro e w2 ⟨rfl, b2⟩
    have B2 := Lib.hid (B1.out.trans (b2.mono B1.out.size))
    clear b2 H2
    go_wp2_with fail
    refine (H3.out _ B2.out).mono ?_
    rintro e w3 ⟨⟨A3, c3, rfl, o3⟩, b3⟩
    have B3 := Lib.hid (B2.out.trans (b3.mono B2.out.size))
    have O3 := Lib.hid (o3.nums HLs.out.2)
    clear b3 o3 H3
    go_wp2_with fail
    refine (H4.out _ B3.out).mono ?_
    rintro e w4 ⟨⟨A4, c4, rfl, o4⟩, b4⟩
    have B4 := Lib.hid (B3.out.trans (b4.mono B3.out.size))
    have HS := Lib.hid (H5.out _ A3 c3 A4 c4 (O3.out.below b4) (o4.nums HLs.out.1))
    clear b4 o4 H4 H5 O3
    go_wp2_with (go_at_call 41; refine HS.out.mono ?_; rintro e w5 ⟨rfl, b5⟩)
    go_ret
    exact ⟨rfl, B4.out.trans (b5.mono B4.out.size)⟩

/-- what Index answers -/
def IdxSaid (s t : List (Int × Int)) (i : Int) (r : Int) : Prop := (¬ (Tx.May s ∧ Tx.May t) ∧ r = -1) ∨ (Tx.May s ∧ Tx.May t ∧ Tx.IndexIs (Lt.expand s) (Lt.expand t) i r)
theorem IdxSaid.uniq {s t : List (Int × Int)} {i r r' : Int} (h : IdxSaid s t i r) (h' : IdxSaid s t i r') : r = r' := by
  rcases h with ⟨h1, rfl⟩ | ⟨h1, h2, h3⟩
  · rcases h' with ⟨_, rfl⟩ | ⟨k1, k2, _⟩
    · rfl
    · exact absurd ⟨k1, k2⟩ h1
  · rcases h' with ⟨k1, _⟩ | ⟨_, _, k3⟩
    · exact absurd ⟨h1, h2⟩ k1
    · exact h3.uniq k3
set_option maxRecDepth 100000 in
set_option maxHeartbeats 1600000 in
theorem rindex8 (w : World) (A : Option Addr) (n c : Nat) (s : List (Int × Int)) (B : Option Addr) (m d : Nat) (t : List (Int × Int)) (i : Int) (h : Sml w A n s) (h' : Sml w B m t) :
    Calls Try.prog 25 #[.slice A n c, .slice B m d, .int .i64 i] w fun e w' => (∃ r : Int, e = .returned (.int .i64 r) ∧ IdxSaid s t i r) ∧ Below w.heap.size w w' := by
  have H1 := Lib.hid (rmay8 w A n c s h.runs)
  have H2 := Lib.hid fun W (hW : Below w.heap.size w W) => rmay8 W B m d t (h'.runs.below hW)
  by_cases hok : Tx.May s ∧ Tx.May t ∧ 0 ≤ i
  case neg =>
    have HE : Hid (IdxSaid s t i (-1)) := by
      show IdxSaid s t i (-1)
      by_cases h1 : Tx.May s ∧ Tx.May t
      · exact .inr ⟨h1.1, h1.2, .inl ⟨Int.not_le.1 fun h => hok ⟨h1.1, h1.2, h⟩, rfl⟩⟩
      · exact .inl ⟨h1, rfl⟩
    have hways : Tx.mayB s = false ∨ Tx.mayB s = true ∧ Tx.mayB t = false ∨ Tx.mayB s = true ∧ Tx.mayB t = true ∧ i < 0 := by
      by_cases h1 : Tx.May s
      · by_cases h2 : Tx.May t
        · exact .inr (.inr ⟨Tx.mayB_true h1, Tx.mayB_true h2, Int.not_le.1 fun h => hok ⟨h1, h2, h⟩⟩)
        · exact .inr (.inl ⟨Tx.mayB_true h1, Tx.mayB_false h2⟩)
      · exact .inl (Tx.mayB_false h1)
    generalize Tx.mayB s = x at H1 hways
    generalize Tx.mayB t = y at H2 hways
    clear h h' hok
    rcases hways with rfl | ⟨rfl, rfl⟩ | ⟨rfl, rfl, hi⟩
    all_goals
      go_enter Try.func25, Try.ntmps25
      go_wp2_with fail
      refine H1.out.mono ?_
      rintro e w1 ⟨rfl, b1⟩
      have B1 := Lib.hid b1
      clear b1
      go_wp2_with (go_at_call 17; refine (H2.out _ B1.out).mono ?_; rintro e w2 ⟨rfl, b2⟩)
      go_ret
      exact ⟨⟨-1, rfl, HE.out⟩, B1.out.trans (b2.mono B1.out.size)⟩
  case pos =>
    obtain ⟨hs, ht, hi0⟩ := hok
    obtain ⟨i, rfl⟩ : ∃ j : Nat, i = (j : Int) := ⟨i.toNat, by omega⟩
    rw [Tx.mayB_true hs] at H1
    rw [Tx.mayB_true ht] at H2
    have H3 := Lib.hid (h.pts hs c)
    have H4 := Lib.hid (h'.pts ht d)
    have hls := h.len hs
    have hlt := h'.len ht
    have HE : Hid (∀ r, Tx.IndexIs (Lt.expand s) (Lt.expand t) (i : Int) r → IdxSaid s t (i : Int) r) := fun r hr => .inr ⟨hs, ht, hr⟩
    generalize Lt.expand s = K at H3 hls HE
    generalize Lt.expand t = L at H4 hlt HE
    obtain ⟨ll, hL⟩ : ∃ n, L.length = n := ⟨_, rfl⟩
    obtain ⟨kl, hK⟩ : ∃ n, K.length = n := ⟨_, rfl⟩
    have HLs := Lib.hid (And.intro hL hK)
    unfold NSaid at H3 H4
    rw [hL] at H4 hlt
    rw [hK] at H3 hls
    have H5 := Lib.hid fun W A' c' B' d' (z : Int) (hz : -1000000 ≤ z ∧ z ≤ 1000000) (h1 : NumS W A' kl K) (h2 : NumS W B' ll L) => rstands8 W A' kl c' K B' ll d' L z h1 h2 (by omega) (by omega) hz
    have HFound : Hid (∀ k : Nat, i ≤ k → Tx.standsB K L (k : Int) = true → (∀ j, i ≤ j → j < k → ¬ Tx.Stands K L j) → IdxSaid s t (i : Int) (k : Int)) := fun k hk hst hno =>
      HE.out _ (.inr ⟨by omega, .inl ⟨k, rfl, by rw [Int.toNat_natCast]; exact ⟨hk, by have := (Tx.standsB_iff.1 hst).2; rwa [Int.toNat_natCast] at this, hno⟩⟩⟩)
    have HNone : Hid (∀ k : Nat, kl < k → (∀ j, i ≤ j → j < k → ¬ Tx.Stands K L j) → IdxSaid s t (i : Int) (-1)) := fun k hk hno =>
      HE.out _ (.inr ⟨by omega, .inr ⟨rfl, fun j hj hst => by
        rw [Int.toNat_natCast] at hj
        have := hst.1
        rw [hK] at this
        exact hno j hj (by omega) hst⟩⟩)
    obtain ⟨Post, hPost⟩ : ∃ Post : Ending → World → Prop, Post = fun e w' => (∃ r : Int, e = .returned (.int .i64 r) ∧ IdxSaid s t (i : Int) r) ∧ Below w.heap.size w w' := ⟨_, rfl⟩
    rw [← hPost]
    have HPo := Lib.hid hPost
    clear h h' hs ht hL hK HE hi0 hPost
    go_enter Try.func25, Try.ntmps25
    go_wp2_with fail
    refine H1.out.mono ?_
    rintro e w1 ⟨rfl, b1⟩
    have B1 := Lib.hid b1
    clear b1 H1
    go_wp2_with fail
    refine (H2.out _ B1.out).mono ?_
    rintro e w2 ⟨rfl, b2⟩
    have B2 := Lib.hid (B1.out.trans (b2.mono B1.out.size))
    clear b2 H2
    go_wp2_with fail
    refine (H3.out _ B2.out).mono ?_
    rintro e w3 ⟨⟨A3, c3, rfl, o3⟩, b3⟩
    have B3 := Lib.hid (B2.out.trans (b3.mono B2.out.size))
    have O3 := Lib.hid (o3.nums HLs.out.2)
    clear b3 o3 H3
    go_wp2_with fail
    refine (H4.out _ B3.out).mono ?_
    rintro e w4 ⟨⟨A4, c4, rfl, o4⟩, b4⟩
    have B4 := Lib.hid (B3.out.trans (b4.mono B3.out.size))
    have O4 := Lib.hid (And.intro (O3.out.below b4) (o4.nums HLs.out.1))
    clear b4 o4 H4 O3
    go_wp2
    go_loopw [11] (fun kv wr => ∃ k : Nat, i ≤ k ∧ kv = .int .i64 (k : Nat) ∧ Hid (Below w4.heap.size w4 wr ∧ ∀ j, i ≤ j → j < k → ¬ Tx.Stands K L j)) (fun kv _ => 1000000 + i - (intOf kv).toNat)
    case atStart => exact ⟨i, Nat.le_refl _, rfl, Below.refl _ _, fun j h1 h2 => absurd h2 (Nat.not_lt.2 h1)⟩
    case round =>
      obtain ⟨k, hik, rfl, HI⟩ := hrel
      obtain ⟨hI0, hI1⟩ := HI.out
      have HB := Lib.hid (B4.out.trans (hI0.mono B4.out.size))
      by_cases hle : k ≤ kl
      · have hle' : (k : Int) ≤ (kl : Int) := by omega
        have hz : -1000000 ≤ (k : Int) ∧ (k : Int) ≤ 1000000 := ⟨by omega, by omega⟩
        have HS := Lib.hid (H5.out _ A3 c3 A4 c4 (k : Int) hz (O4.out.1.below hI0) (O4.out.2.below hI0))
        have HBI := Lib.hid hI0
        cases hst : Tx.standsB K L (k : Int) with
        | true =>
          rw [hst] at HS
          have HE := Lib.hid (HFound.out k hik hst hI1)
          clear hI0 hI1 HI hst HFound HNone H5
          go_wp2_with (go_at_call 41; refine HS.out.mono ?_; rintro e w5 ⟨rfl, b5⟩; have B5 := Lib.hid (HB.out.trans (b5.mono HB.out.size)); clear b5)
          first
            | (rw [HPo.out]; exact ⟨⟨(k : Int), rfl, HE.out⟩, B5.out⟩)
            | (go_ret; rw [HPo.out]; exact ⟨⟨(k : Int), rfl, HE.out⟩, B5.out⟩)
        | false =>
          rw [hst] at HS
          have HN : Hid (∀ j, i ≤ j → j < k + 1 → ¬ Tx.Stands K L j) := fun j h1 h2 => by
            by_cases hjk : j < k
            · exact hI1 j h1 hjk
            · obtain rfl : j = k := by omega
              intro h
              have := Tx.standsB_true (l := K) (m := L) (z := (j : Int)) ⟨by omega, by rw [Int.toNat_natCast]; exact h⟩
              rw [hst] at this
              cases this
          have hkw : IntKind.i64.wrap ((k : Int) + 1) = (k : Int) + 1 := IntWalk.i64_in _ (by omega)
          clear hI0 hI1 HI hst HFound HNone H5
          go_wp2_with (go_at_call 41; refine HS.out.mono ?_; rintro e w5 ⟨rfl, b5⟩; have B5 := Lib.hid (HBI.out.trans (b5.mono HBI.out.size)); clear b5)
          go_roundw
          case rel => exact ⟨k + 1, by omega, by go_num, B5.out, HN.out⟩
          case measure => simp [intOf]; omega
      · have hle' : ¬ (k : Int) ≤ (kl : Int) := by omega
        have HE := Lib.hid (HNone.out k (by omega) hI1)
        clear hI0 hI1 HI HFound HNone H5 hle
        go_wp2
        first
          | (rw [HPo.out]; exact ⟨⟨-1, rfl, HE.out⟩, HB.out⟩)
          | (go_ret; rw [HPo.out]; exact ⟨⟨-1, rfl, HE.out⟩, HB.out⟩)
end Go.Proofs.Ytdpbglofijpfnaa
