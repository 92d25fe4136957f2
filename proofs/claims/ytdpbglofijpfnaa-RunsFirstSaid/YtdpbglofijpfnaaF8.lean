/- The reference of runs: Replace. -/
import Derived.Test.YtdpbglofijpfnaaF7
namespace Go.Proofs.Ytdpbglofijpfnaa
open Go.RowKit

theorem OwnN.addr {w : World} {B : Nat} {A : Option Addr} {c : Nat} {l : List Int} (h : OwnN w B A c l) : A.map (·.add 0) = A ∧ l.length ≤ c ∧ c ≤ maxLen ∧ (A = none → l.length = 0 ∧ c = 0) := by
  rcases h.2 with ⟨e, h0⟩ | ⟨g, cap, cur, e, _, _, q3, q4, _⟩
  · injection e with e1 _ e3
    subst e1
    subst e3
    exact ⟨rfl, by omega, Nat.zero_le _, fun _ => ⟨h0, rfl⟩⟩
  · injection e with e1 _ e3
    subst e1
    subst e3
    exact ⟨by simp [addr_add], q3, q4, fun h => by cases h⟩
theorem cut_h7 {A : Option Addr} {n c k : Nat} (W : World) (hA : A.map (·.add 0) = A) (hk : k ≤ c) : (Instr.slice 41 (.slice A n c) none (some (.int .i64 (k : Nat))) none).run Try.prog W = .ok (.slice A k c) W := by
  have hz : (sizeOf (Try.prog.elem 41)).run Try.prog W = .ok 1 W := by kernel_rfl
  rw [run_slice_h W 41 A n c (by kernel_rfl) .i64 (k : Nat) (by omega) (by omega), hz]
  simp only [Result.andThen, sliced]
  have e : (if c = 0 then A else A.map (·.add (0 * 1))) = A := by
    split
    · rfl
    · rw [Nat.zero_mul]; exact hA
  rw [e]
  simp
theorem cut_l7 {A : Option Addr} {n c k : Nat} (W : World) (hk : k ≤ n) : (Instr.slice 41 (.slice A n c) (some (.int .i64 (k : Nat))) none none).run Try.prog W = .ok (.slice (if c = k then A else A.map (·.add (k * 1))) (n - k) (c - k)) W := by
  have hz : (sizeOf (Try.prog.elem 41)).run Try.prog W = .ok 1 W := by kernel_rfl
  rw [run_slice_l W 41 A n c (by kernel_rfl) .i64 (k : Nat) (by omega) (by omega), hz]
  simp only [Result.andThen, sliced, Int.toNat_natCast]
theorem Rd.drop {w : World} {G : Nat → Prop} {A : Option Addr} {n c k : Nat} {xs : List Value} (h : Rd w G A n c xs) (hk : k ≤ n) : Rd w G (if c = k then A else A.map (·.add (k * 1))) (n - k) (c - k) (xs.drop k) := by
  refine ⟨by rw [List.length_drop, h.len], fun e => ?_, by have := h.le; omega, by have := h.cm; omega, fun hn => ?_⟩
  · split at e
    · have := h.nil e
      omega
    · cases A with
      | none => have := h.nil rfl; omega
      | some a => cases e
  · obtain ⟨b, off, e, hG, hb, hc⟩ := h.at_ (by omega)
    have hle := h.le
    rw [if_neg (by omega), e]
    refine ⟨b, off + k, by simp [addr_add], hG, hb, fun j u hu => ?_⟩
    rw [List.getElem?_drop] at hu
    have := hc (k + j) u hu
    rwa [← Nat.add_assoc] at this

/-- what Replace answers -/
def Tx.RepIs (s t u : List (Int × Int)) (x : Int × List (Int × Int)) : Prop :=
  (¬ (Tx.May s ∧ Tx.May t ∧ Tx.May u) ∧ x = (1, [])) ∨ ((Tx.May s ∧ Tx.May t ∧ Tx.May u) ∧
    ((∃ k : Nat, Tx.First (Lt.expand s) (Lt.expand t) 0 k ∧
      x = (if ((Lt.expand s).length : Int) - (Lt.expand t).length + (Lt.expand u).length ≤ 1099511627776 ∧ (Lt.runs ((Lt.expand s).take k ++ Lt.expand u ++ (Lt.expand s).drop (k + (Lt.expand t).length))).length ≤ 65536 then (0, Lt.runs ((Lt.expand s).take k ++ Lt.expand u ++ (Lt.expand s).drop (k + (Lt.expand t).length))) else (2, []))) ∨
     ((∀ j, ¬ Tx.Stands (Lt.expand s) (Lt.expand t) j) ∧ x = (0, s))))
theorem Tx.RepIs.uniq {s t u : List (Int × Int)} {x y : Int × List (Int × Int)} (h : Tx.RepIs s t u x) (h' : Tx.RepIs s t u y) : x = y := by
  rcases h with ⟨h1, rfl⟩ | ⟨h1, ⟨k, hk, rfl⟩ | ⟨hn, rfl⟩⟩
  · rcases h' with ⟨_, rfl⟩ | ⟨k1, _⟩
    · rfl
    · exact absurd k1 h1
  · rcases h' with ⟨k1, _⟩ | ⟨_, ⟨j, hj, rfl⟩ | ⟨hn, _⟩⟩
    · exact absurd h1 k1
    · rw [hk.uniq hj]
    · exact absurd hk.2.1 (hn k)
  · rcases h' with ⟨k1, _⟩ | ⟨_, ⟨j, hj, rfl⟩ | ⟨_, rfl⟩⟩
    · exact absurd h1 k1
    · exact absurd hj.2.1 (hn j)
    · rfl
/-- an answer that reads as x, wherever it lies -/
def RepSaid (w : World) (s t u : List (Int × Int)) (e : Ending) (w' : World) : Prop := (∃ (A : Option Addr) (c m : Nat) (x : Int × List (Int × Int)), e = .returned (.tuple #[.slice A m c, .int .i64 x.1]) ∧ RunS w' A m x.2 ∧ Tx.RepIs s t u x) ∧ Below w.heap.size w w'
set_option maxRecDepth 100000 in
set_option maxHeartbeats 3200000 in
theorem rreplace8 (w : World) (A : Option Addr) (n c : Nat) (s : List (Int × Int)) (B : Option Addr) (m d : Nat) (t : List (Int × Int)) (C : Option Addr) (p f : Nat) (u : List (Int × Int)) (h : Sml w A n s) (h' : Sml w B m t) (h'' : Sml w C p u) :
    Calls Try.prog 31 #[.slice A n c, .slice B m d, .slice C p f] w fun e w' => RepSaid w s t u e w' := by
  have H1 := Lib.hid (rmay8 w A n c s h.runs)
  have H2 := Lib.hid fun W (hW : Below w.heap.size w W) => rmay8 W B m d t (h'.runs.below hW)
  have H3 := Lib.hid fun W (hW : Below w.heap.size w W) => rmay8 W C p f u (h''.runs.below hW)
  obtain ⟨Post, hPost⟩ : ∃ Post : Ending → World → Prop, Post = fun e w' => RepSaid w s t u e w' := ⟨_, rfl⟩
  rw [← hPost]
  have HPo := Lib.hid hPost
  clear hPost
  by_cases hok : Tx.May s ∧ Tx.May t ∧ Tx.May u
  case neg =>
    have HE : Hid (∀ w', Below w.heap.size w w' → Post (.returned (.tuple #[.slice none 0 0, .int .i64 1])) w') := fun w' hb => by
      rw [HPo.out]
      exact ⟨⟨none, 0, 0, (1, []), rfl, RunS.nil _ _, .inl ⟨hok, rfl⟩⟩, hb⟩
    have hways : Tx.mayB s = false ∨ Tx.mayB s = true ∧ Tx.mayB t = false ∨ Tx.mayB s = true ∧ Tx.mayB t = true ∧ Tx.mayB u = false := by
      by_cases h1 : Tx.May s
      · by_cases h2 : Tx.May t
        · exact .inr (.inr ⟨Tx.mayB_true h1, Tx.mayB_true h2, Tx.mayB_false fun h => hok ⟨h1, h2, h⟩⟩)
        · exact .inr (.inl ⟨Tx.mayB_true h1, Tx.mayB_false h2⟩)
      · exact .inl (Tx.mayB_false h1)
    generalize Tx.mayB s = x at H1 hways
    generalize Tx.mayB t = y at H2 hways
    generalize Tx.mayB u = z at H3 hways
    clear h h' h'' hok HPo
    rcases hways with rfl | ⟨rfl, rfl⟩ | ⟨rfl, rfl, rfl⟩
    all_goals
      go_enter Try.func31, Try.ntmps31
      go_wp2_with fail
      refine H1.out.mono ?_
      rintro e w1 ⟨rfl, b1⟩
      have B1 := Lib.hid b1
      clear b1
      go_wp2_with fail
      refine (H2.out _ B1.out).mono ?_
      rintro e w2 ⟨rfl, b2⟩
      have B2 := Lib.hid (B1.out.trans (b2.mono B1.out.size))
      clear b2
      go_wp2_with (go_at_call 17; refine (H3.out _ B2.out).mono ?_; rintro e w3 ⟨rfl, b3⟩; have HF := Lib.hid (HE.out _ (B2.out.trans (b3.mono B2.out.size))); clear b3)
      first | exact HF.out | exact bodyPost_ret (by simp [results, Try.results31, go_sem]) rfl HF.out
  case pos =>
    obtain ⟨hs, ht, hu⟩ := hok
    rw [Tx.mayB_true hs] at H1
    rw [Tx.mayB_true ht] at H2
    rw [Tx.mayB_true hu] at H3
    have H4 := Lib.hid (h.pts hs c)
    have H5 := Lib.hid fun W (hW : Below w.heap.size w W) => rindex8 W A n c s B m d t 0 (h.below hW) (h'.below hW)
    have H6 := Lib.hid (h''.pts hu f)
    have H7 := Lib.hid (h'.pts ht d)
    have HIdx : Hid (∀ r : Int, IdxSaid s t 0 r → (r < 0 ∧ ∀ j, ¬ Tx.Stands (Lt.expand s) (Lt.expand t) j) ∨ ∃ k : Nat, r = (k : Int) ∧ Tx.First (Lt.expand s) (Lt.expand t) 0 k) := fun r hr => by
      rcases hr with ⟨h1, _⟩ | ⟨_, _, ⟨h1, _⟩ | ⟨_, ⟨k, rfl, hk⟩ | ⟨rfl, hno⟩⟩⟩
      · exact absurd ⟨hs, ht⟩ h1
      · omega
      · exact .inr ⟨k, rfl, hk⟩
      · exact .inl ⟨by decide, fun j => hno j (Nat.zero_le _)⟩
    have HNo : Hid ((∀ j, ¬ Tx.Stands (Lt.expand s) (Lt.expand t) j) → ∀ w', Below w.heap.size w w' → Post (.returned (.tuple #[.slice A n c, .int .i64 0])) w') := fun hno w' hb => by
      rw [HPo.out]
      exact ⟨⟨A, c, n, (0, s), rfl, h.runs.below hb, .inr ⟨⟨hs, ht, hu⟩, .inr ⟨hno, rfl⟩⟩⟩, hb⟩
    have HYes : Hid (∀ (k : Nat) (A' : Option Addr) (c' m' : Nat) (R : List (Int × Int)) w', Tx.First (Lt.expand s) (Lt.expand t) 0 k → R = Lt.runs ((Lt.expand s).take k ++ Lt.expand u ++ (Lt.expand s).drop (k + (Lt.expand t).length)) → RunS w' A' m' R → Below w.heap.size w w' → Post (.returned (.tuple #[.slice A' m' c', .int .i64 0])) w') := fun k A' c' m' R w' hk hR hr hb => by
      rw [HPo.out]
      refine ⟨⟨A', c', m', (0, R), rfl, hr, .inr ⟨⟨hs, ht, hu⟩, .inl ⟨k, hk, ?_⟩⟩⟩, hb⟩
      have l1 := h.len hs
      have l2 := h''.len hu
      have l3 := (Lt.runs_of ((Lt.expand s).take k ++ Lt.expand u ++ (Lt.expand s).drop (k + (Lt.expand t).length))).len
      rw [List.length_append, List.length_append, List.length_take, List.length_drop] at l3
      rw [if_pos ⟨by omega, by omega⟩, hR]
    have hls := h.len hs
    have hlt := h'.len ht
    have hlu := h''.len hu
    have hps := hs.own.pts
    have hpu := hu.own.pts
    generalize Lt.expand s = S at H4 HIdx HNo HYes hls hps
    generalize Lt.expand t = T at H7 HIdx HNo HYes hlt
    generalize Lt.expand u = U at H6 HYes hlu hpu
    obtain ⟨sl, hS⟩ : ∃ n, S.length = n := ⟨_, rfl⟩
    obtain ⟨tl, hT⟩ : ∃ n, T.length = n := ⟨_, rfl⟩
    obtain ⟨ul, hU⟩ : ∃ n, U.length = n := ⟨_, rfl⟩
    have HLs := Lib.hid (And.intro hS (And.intro hT hU))
    unfold NSaid at H4 H6 H7
    rw [hS] at H4 hls
    rw [hT] at H7 hlt
    rw [hU] at H6 hlu
    have HPt := Lib.hid (And.intro hps hpu)
    clear h h' h'' hs ht hu hS hT hU hps hpu HPo
    go_enter Try.func31, Try.ntmps31
    go_wp2_with fail
    refine H1.out.mono ?_
    rintro e w1 ⟨rfl, b1⟩
    have B1 := Lib.hid b1
    clear b1 H1
    go_wp2_with fail
    refine (H2.out _ B1.out).mono ?_
    rintro e w2 ⟨rfl, b2⟩
    have B2 := Lib.hid (B1.out.trans (b2.mono B1.out.size))
    clear b2 H2
    go_wp2_with fail
    refine (H3.out _ B2.out).mono ?_
    rintro e w3 ⟨rfl, b3⟩
    have B3 := Lib.hid (B2.out.trans (b3.mono B2.out.size))
    clear b3 H3
    go_wp2_with fail
    refine (H4.out _ B3.out).mono ?_
    rintro e w4 ⟨⟨A4, c4, rfl, o4⟩, b4⟩
    have B4 := Lib.hid (B3.out.trans (b4.mono B3.out.size))
    have O4 := Lib.hid o4
    clear b4 o4 H4
    go_wp2_with fail
    refine (H5.out _ B4.out).mono ?_
    rintro e w5 ⟨⟨r, rfl, hr⟩, b5⟩
    have B5 := Lib.hid (B4.out.trans (b5.mono B4.out.size))
    have O5 := Lib.hid (O4.out.kept b5)
    clear b5 H5 O4
    rcases HIdx.out r hr with ⟨hneg, hno⟩ | ⟨k, rfl, hk⟩
    · have HF := Lib.hid (HNo.out hno w5 B5.out)
      clear hno hr HIdx HNo HYes
      go_wp2
      first | exact HF.out | exact bodyPost_ret (by simp [results, Try.results31, go_sem]) rfl HF.out
    · have hkl := hk.le
      rw [HLs.out.1, HLs.out.2.1] at hkl
      have HKF := Lib.hid hk
      obtain ⟨a1, a2, a3, a4⟩ := O5.out.addr
      rw [HLs.out.1] at a2 a4
      have hkc : k ≤ c4 := by omega
      have hcut1 := fun W => cut_h7 (n := sl) (A := A4) (c := c4) (k := k) W a1 hkc
      have hRd : Rd w5 (fun g => g < w5.heap.size) A4 sl c4 (i64s S) := by
        have := O5.out
        unfold OwnN at this
        rw [HLs.out.1] at this
        have hlt := fun g hg => (World.ownsRow.lt this g hg).2
        refine ⟨(Rd.of_own this).len, (Rd.of_own this).nil, (Rd.of_own this).le, (Rd.of_own this).cm, fun hn => ?_⟩
        obtain ⟨b, off, e, _, hb, hc⟩ := (Rd.of_own this).at_ hn
        exact ⟨b, off, e, hb, hb, hc⟩
      have HRd := Lib.hid hRd
      have hkn : ¬ (k : Int) < 0 := by omega
      obtain ⟨i0, hi, hz0, hz1, hz2⟩ := info_parts infoJ
      have HMs : Hid (0 + k ≤ maxLen ∧ (0 + k) * 8 ≤ 140737488355328 ∧ k + ul ≤ maxLen ∧ (k + ul) * 8 ≤ 140737488355328 ∧ k + ul + (sl - (k + tl)) ≤ maxLen ∧ (k + ul + (sl - (k + tl))) * 8 ≤ 140737488355328) := ⟨by unfold maxLen; omega, by omega, by unfold maxLen; omega, by omega, by unfold maxLen; omega, by omega⟩
      have HOl : Hid (∀ l : List Int, ∀ u ∈ i64s l, u.oneCell' = true) := fun l => i64s_one
      have HTk : Hid ((i64s S).take k = i64s (S.take k) ∧ (i64s S).drop (k + tl) = i64s (S.drop (k + tl))) := ⟨by simp [i64s, List.map_take], by simp [i64s, List.map_drop]⟩
      have BW : Hid (Below w5.heap.size w5 w5) := Below.refl _ _
      clear hr HIdx HNo hk a1 a2 a3 a4 hRd
      go_wp2_with (first
        | (at_builtin; refine append_any _ rfl (.const (.slice none 0 0)) (.tmp 40) 41 rfl w5.heap.size 3 i0 (.int .i64 0) 8 Try.underlying41 hi hz0 hz1 hz2 rfl (.slice none 0 0) 0 [] rfl (World.ownsRow_nil _ _ _ _) _ A4 k c4 _ rfl (HRd.out.take (by omega)) (by rw [HTk.out.1]; exact HOl.out _) HMs.out.1 HMs.out.2.1 (Nat.le_refl _) ?_; intro A6 c6 w6 o6 g6 _; rw [HTk.out.1] at o6; simp only [Nat.zero_add, List.nil_append] at o6 ⊢; have O6 := Lib.hid o6; have B6 := Lib.hid (BW.out.grown g6 (Nat.le_refl _) (fun q hq => by cases hq)); clear o6 g6)
        | fail)
      have B06 := Lib.hid (B5.out.trans (B6.out.mono B5.out.size))
      refine (H6.out _ B06.out).mono ?_
      rintro e w7 ⟨⟨A7, c7, rfl, o7⟩, b7⟩
      have B7 := Lib.hid (B6.out.trans (b7.mono B6.out.size))
      have O7 : Hid (w7.ownsRow w5.heap.size 3 1 (.slice A6 k c6) k (i64s (S.take k)) ∧ Rd w7 (fun g => w6.heap.size ≤ g) A7 ul c7 (i64s U)) := by
        refine ⟨(Turn.of_below (F := fun _ => False) b7).own O6.out (fun _ _ => id), ?_⟩
        have := o7
        unfold OwnN at this
        rw [HLs.out.2.2] at this
        exact Rd.of_own this
      have hb7 := B7.out.size
      clear b7 o7 H6 O6 B06
      go_wp2_with (first
        | (at_builtin; refine append_any _ rfl (.tmp 42) (.tmp 44) 41 rfl w5.heap.size 3 i0 (.int .i64 0) 8 Try.underlying41 hi hz0 hz1 hz2 rfl (.slice A6 k c6) k (i64s (S.take k)) rfl O7.out.1 _ A7 ul c7 _ rfl O7.out.2 (HOl.out _) HMs.out.2.2.1 HMs.out.2.2.2.1 hb7 ?_; intro A8 c8 w8 o8 g8 _; have O8 := Lib.hid o8; have B8 := Lib.hid (B7.out.grown g8 hb7 (fun q hq => (World.ownsRow.lt O7.out.1 q hq).1)); clear o8 g8)
        | fail)
      have B08 := Lib.hid (B5.out.trans (B8.out.mono B5.out.size))
      refine (H7.out _ B08.out).mono ?_
      rintro e w9 ⟨⟨A9, c9, rfl, o9⟩, b9⟩
      have B9 := Lib.hid (B8.out.trans (b9.mono B8.out.size))
      have O9 : Hid (w9.ownsRow w5.heap.size 3 1 (.slice A8 (k + ul) c8) (k + ul) (i64s (S.take k) ++ i64s U)) := (Turn.of_below (F := fun _ => False) b9).own O8.out (fun _ _ => id)
      have hb9 := B9.out.size
      have hq : ∃ q : Nat, (k : Int) + (tl : Int) = (q : Int) ∧ q = k + tl := ⟨k + tl, by omega, rfl⟩
      obtain ⟨q, hq1, hq2⟩ := hq
      have hqs : q ≤ sl := by omega
      have hq3 : IntKind.i64.wrap (q : Int) = (q : Int) := IntWalk.i64_in _ (by omega)
      have hcut2 := fun W => cut_l7 (A := A4) (n := sl) (c := c4) (k := q) W hqs
      have HR2 : Hid (Rd w9 (fun g => g < w5.heap.size) (if c4 = q then A4 else A4.map (·.add (q * 1))) (sl - q) (c4 - q) (i64s (S.drop q))) := by
        have := (HRd.out.below B9.out).drop hqs
        have e : (i64s S).drop q = i64s (S.drop q) := by simp [i64s, List.map_drop]
        rwa [e] at this
      have HMq : Hid (k + ul + (sl - q) ≤ maxLen ∧ (k + ul + (sl - q)) * 8 ≤ 140737488355328 ∧ k + ul + (sl - q) ≤ 65536) := by
        subst hq2
        exact ⟨HMs.out.2.2.2.2.1, HMs.out.2.2.2.2.2, by omega⟩
      have HQ := Lib.hid hq2
      generalize (if c4 = q then A4 else A4.map (·.add (q * 1))) = A4' at hcut2 HR2
      clear b9 o9 H7 O8 B08 hq2
      go_wp2_with (first
        | (at_builtin; refine append_any _ rfl (.tmp 46) (.tmp 53) 41 rfl w5.heap.size 3 i0 (.int .i64 0) 8 Try.underlying41 hi hz0 hz1 hz2 rfl (.slice A8 (k + ul) c8) (k + ul) (i64s (S.take k) ++ i64s U) rfl O9.out _ A4' (sl - q) (c4 - q) _ rfl HR2.out (HOl.out _) HMq.out.1 HMq.out.2.1 hb9 ?_; intro A10 c10 w10 o10 g10 _; have O10 := Lib.hid o10; have B10 := Lib.hid (B9.out.grown g10 hb9 (fun q hq => (World.ownsRow.lt O9.out q hq).1)); clear o10 g10)
        | fail)
      have HNm : Hid (NumS w10 A10 (k + ul + (sl - q)) (S.take k ++ U ++ S.drop q)) := by
        have hl : (S.take k ++ U ++ S.drop q).length = k + ul + (sl - q) := by
          rw [List.length_append, List.length_append, List.length_take, List.length_drop, HLs.out.1, HLs.out.2.2]
          omega
        have k2 : OwnN w10 w5.heap.size A10 c10 (S.take k ++ U ++ S.drop q) := by
          unfold OwnN
          rw [hl, i64s, List.map_append, List.map_append]
          exact O10.out
        exact k2.nums hl
      have HTx := rtext8 w10 A10 (k + ul + (sl - q)) c10 (S.take k ++ U ++ S.drop q) HNm.out (fun z hz => by
        rcases List.mem_append.1 hz with hz | hz
        · rcases List.mem_append.1 hz with hz | hz
          · exact HPt.out.1 z (List.mem_of_mem_take hz)
          · exact HPt.out.2 z hz
        · exact HPt.out.1 z (List.mem_of_mem_drop hz)) HMq.out.2.2
      refine HTx.mono ?_
      rintro e w11 ⟨⟨A11, c11, rfl, o11⟩, b11⟩
      obtain ⟨rn, hrn⟩ : ∃ rn, (Lt.runs (S.take k ++ U ++ S.drop q)).length = rn := ⟨_, rfl⟩
      have HF : Hid (Post (.returned (.tuple #[.slice A11 rn c11, .int .i64 0])) w11) := by
        refine HYes.out k A11 c11 rn _ w11 HKF.out ?_ (OwnR.runs o11 hrn) (B5.out.trans ((B10.out.trans (b11.mono B10.out.size)).mono B5.out.size))
        rw [HLs.out.2.1, ← HQ.out]
      rw [hrn]
      clear o11 b11 hrn HNm HTx HYes
      go_wp2
      first | exact HF.out | exact bodyPost_ret (by simp [results, Try.results31, go_sem]) rfl HF.out
end Go.Proofs.Ytdpbglofijpfnaa
