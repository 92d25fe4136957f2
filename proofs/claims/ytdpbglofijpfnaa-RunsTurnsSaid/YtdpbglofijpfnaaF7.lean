/- The reference of runs: Concat. -/
import Derived.Test.YtdpbglofijpfnaaF6
namespace Go.Proofs.Ytdpbglofijpfnaa
open Go.RowKit

/-- two texts, one behind the other -/
noncomputable def Tx.conI (a b : List (Int × Int)) : Int × List (Int × Int) :=
  if (Tx.mayB a && Tx.mayB b) = true then (if Lt.total a + Lt.total b ≤ 1099511627776 ∧ (Lt.runs (Lt.expand a ++ Lt.expand b)).length ≤ 65536 then (0, Lt.runs (Lt.expand a ++ Lt.expand b)) else (2, [])) else (1, [])
theorem Tx.conI_bad {a b : List (Int × Int)} (h : (Tx.mayB a && Tx.mayB b) = false) : Tx.conI a b = (1, []) := by rw [Tx.conI, if_neg (by rw [h]; decide)]
theorem Tx.conI_ok {a b : List (Int × Int)} (ha : Tx.May a) (hb : Tx.May b) (hs : Lt.total a + Lt.total b ≤ 60000) : Tx.conI a b = (0, Lt.runs (Lt.expand a ++ Lt.expand b)) := by
  have hlen : (Lt.runs (Lt.expand a ++ Lt.expand b)).length ≤ 65536 := by
    have h1 := (Lt.runs_of (Lt.expand a ++ Lt.expand b)).len
    have h2 := ha.own.len
    have h3 := hb.own.len
    rw [List.length_append] at h1
    omega
  have hand : (Tx.mayB a && Tx.mayB b) = true := by rw [Tx.mayB_true ha, Tx.mayB_true hb]; rfl
  rw [Tx.conI, if_pos hand, if_pos ⟨by omega, hlen⟩]
theorem RSaid.pair {w w' : World} {R : List (Int × Int)} {A : Option Addr} {c n : Nat} {x : Int × List (Int × Int)} (hx : x = (0, R)) (hn : R.length = n) (ho : OwnR w' w.heap.size A c R) (hb : Below w.heap.size w w') : RunsSaid w x (.returned (.tuple #[.slice A n c, .int .i64 0])) w' := by
  subst hx
  subst hn
  exact ⟨⟨A, c, rfl, ho⟩, hb⟩
theorem OwnR.base {w : World} {B B' : Nat} {A : Option Addr} {c : Nat} {l : List (Int × Int)} (h : OwnR w B A c l) (hb : B' ≤ B) : OwnR w B' A c l := by
  refine ⟨h.1, ?_⟩
  rcases h.2 with q | ⟨g, cap, cur, q1, q2, q3⟩
  · exact .inl q
  · exact .inr ⟨g, cap, cur, q1, Nat.le_trans hb q2, q3⟩

set_option maxRecDepth 100000 in
set_option maxHeartbeats 1600000 in
theorem rconcat8 (w : World) (A : Option Addr) (n c : Nat) (a : List (Int × Int)) (B : Option Addr) (m d : Nat) (b : List (Int × Int)) (h : Sml w A n a) (h' : Sml w B m b) :
    Calls Try.prog 29 #[.slice A n c, .slice B m d] w fun e w' => RunsSaid w (Tx.conI a b) e w' := by
  have H1 := Lib.hid (rmay8 w A n c a h.runs)
  have H2 := Lib.hid fun W (hW : Below w.heap.size w W) => rmay8 W B m d b (h'.runs.below hW)
  obtain ⟨Post, hPost⟩ : ∃ Post : Ending → World → Prop, Post = fun e w' => RunsSaid w (Tx.conI a b) e w' := ⟨_, rfl⟩
  rw [← hPost]
  have HPo := Lib.hid hPost
  clear hPost
  by_cases hok : Tx.May a ∧ Tx.May b
  case neg =>
    have hand : (Tx.mayB a && Tx.mayB b) = false := by
      by_cases ha : Tx.May a
      · rw [Tx.mayB_false fun hs => hok ⟨ha, hs⟩, Bool.and_false]
      · rw [Tx.mayB_false ha]; rfl
    have HE : Hid (∀ w', Below w.heap.size w w' → Post (.returned (.tuple #[.slice none 0 0, .int .i64 1])) w') := fun w' hb => by
      rw [HPo.out, Tx.conI_bad hand]
      exact ⟨⟨none, 0, rfl, OwnR.nil _ _⟩, hb⟩
    generalize Tx.mayB a = x at H1 hand
    generalize Tx.mayB b = y at H2 hand
    have hxy : x = false ∨ x = true ∧ y = false := by cases x <;> cases y <;> simp at hand ⊢
    clear h h' hok hand HPo
    rcases hxy with rfl | ⟨rfl, rfl⟩
    all_goals
      go_enter Try.func29, Try.ntmps29
      go_wp2_with fail
      refine H1.out.mono ?_
      rintro e w1 ⟨rfl, b1⟩
      have B1 := Lib.hid b1
      clear b1
      go_wp2_with (go_at_call 17; refine (H2.out _ B1.out).mono ?_; rintro e w2 ⟨rfl, b2⟩; have HF := Lib.hid (HE.out _ (B1.out.trans (b2.mono B1.out.size))); clear b2)
      first | exact HF.out | exact bodyPost_ret (by simp [results, Try.results29, go_sem]) rfl HF.out
  case pos =>
    obtain ⟨ha, hb⟩ := hok
    have HX := Lib.hid (Tx.conI_ok ha hb (by have := h.small ha; have := h'.small hb; omega))
    rw [Tx.mayB_true ha] at H1
    rw [Tx.mayB_true hb] at H2
    have H3 := Lib.hid (h.pts ha c)
    have H4 := Lib.hid (h'.pts hb d)
    have hla := h.len ha
    have hlb := h'.len hb
    have hpa := ha.own.pts
    have hpb := hb.own.pts
    generalize Lt.expand a = L at H3 hla hpa HX
    generalize Lt.expand b = K at H4 hlb hpb HX
    obtain ⟨ll, hL⟩ : ∃ n, L.length = n := ⟨_, rfl⟩
    obtain ⟨kl, hK⟩ : ∃ n, K.length = n := ⟨_, rfl⟩
    have hLK : (L ++ K).length = ll + kl := by rw [List.length_append, hL, hK]
    have HLs := Lib.hid (And.intro hL (And.intro hK hLK))
    unfold NSaid at H3 H4
    rw [hL] at H3 hla
    rw [hK] at H4 hlb
    have H5 := Lib.hid fun W A' c' (h1 : NumS W A' (ll + kl) (L ++ K)) => rtext8 W A' (ll + kl) c' (L ++ K) h1 (fun z hz => by
      rcases List.mem_append.1 hz with hz | hz
      · exact hpa z hz
      · exact hpb z hz) (by omega)
    unfold RSaid at H5
    generalize hR : Lt.runs (L ++ K) = R at H5 HX
    obtain ⟨i0, hi, hz0, hz1, hz2⟩ := info_parts infoJ
    have HMs : Hid (ll + kl ≤ maxLen ∧ (ll + kl) * 8 ≤ 140737488355328) := ⟨by unfold maxLen; omega, by omega⟩
    have HOl : Hid (∀ u ∈ i64s K, u.oneCell' = true) := i64s_one
    clear h h' ha hb hL hK hLK hla hlb hpa hpb hR
    go_enter Try.func29, Try.ntmps29
    go_wp2_with fail
    refine H1.out.mono ?_
    rintro e w1 ⟨rfl, b1⟩
    have B1 := Lib.hid b1
    clear b1 H1
    go_wp2_with fail
    refine (H2.out _ B1.out).mono ?_
    rintro e w2 ⟨rfl, b2⟩
    have B2 := Lib.hid (B1.out.trans (b2.mono B1.out.size))
    clear b2 H2
    go_wp2_with fail
    refine (H3.out _ B2.out).mono ?_
    rintro e w3 ⟨⟨A3, c3, rfl, o3⟩, b3⟩
    have B3 := Lib.hid (B2.out.trans (b3.mono B2.out.size))
    have O3 := Lib.hid o3
    clear b3 o3 H3
    go_wp2_with fail
    refine (H4.out _ B3.out).mono ?_
    rintro e w4 ⟨⟨A4, c4, rfl, o4⟩, b4⟩
    have B4 := Lib.hid (B3.out.trans (b4.mono B3.out.size))
    have O4 : Hid (w4.ownsRow w.heap.size 3 1 (.slice A3 ll c3) ll (i64s L) ∧ Rd w4 (fun g => w3.heap.size ≤ g) A4 kl c4 (i64s K)) := by
      refine ⟨?_, ?_⟩
      · have := (O3.out.kept b4).base B2.out.size
        unfold OwnN at this
        rwa [HLs.out.1] at this
      · have := o4
        unfold OwnN at this
        rw [HLs.out.2.1] at this
        exact Rd.of_own this
    have hbs := B4.out.size
    clear b4 o4 H4 O3
    go_wp2_with (first
      | (at_builtin; refine append_any _ rfl (.tmp 19) (.tmp 21) 41 rfl w.heap.size 3 i0 (.int .i64 0) 8 Try.underlying41 hi hz0 hz1 hz2 rfl (.slice A3 ll c3) ll (i64s L) rfl O4.out.1 _ A4 kl c4 _ rfl O4.out.2 HOl.out HMs.out.1 HMs.out.2 hbs ?_; intro A5 c5 w5 o5 g5 _; have O5 := Lib.hid o5; have B5 := Lib.hid (B4.out.grown g5 hbs (fun q hq => (World.ownsRow.lt O4.out.1 q hq).1)); clear o5 g5)
      | fail)
    have HN : Hid (NumS w5 A5 (ll + kl) (L ++ K)) := by
      have k2 : OwnN w5 w.heap.size A5 c5 (L ++ K) := by
        unfold OwnN
        rw [HLs.out.2.2, i64s, List.map_append]
        exact O5.out
      exact k2.nums HLs.out.2.2
    refine (H5.out _ A5 c5 HN.out).mono ?_
    rintro e w6 ⟨⟨A6, c6, rfl, o6⟩, b6⟩
    obtain ⟨rn, hrn⟩ : ∃ rn, R.length = rn := ⟨_, rfl⟩
    have HF : Hid (Post (.returned (.tuple #[.slice A6 rn c6, .int .i64 0])) w6) := by
      show Post _ _
      rw [HPo.out]
      exact RSaid.pair HX.out hrn (o6.base B5.out.size) (B5.out.trans (b6.mono B5.out.size))
    rw [hrn]
    clear o6 b6 hrn HN H5
    go_wp2
    first | exact HF.out | exact bodyPost_ret (by simp [results, Try.results29, go_sem]) rfl HF.out
end Go.Proofs.Ytdpbglofijpfnaa
