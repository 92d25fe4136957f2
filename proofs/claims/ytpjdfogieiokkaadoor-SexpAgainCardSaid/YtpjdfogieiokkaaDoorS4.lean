/- The reference of s-expressions: Items. -/
import Derived.Test.YtpjdfogieiokkaaDoorS3
namespace Go.Proofs.YtpjdfogieiokkaaDoor
open Go.RowKit

/-- what stands by itself: an s-expression, an error, a place -/
structure SItem where
  X : Sx
  E : Int
  at_ : Int
def SItem.key (p : Bool) (x : SItem) : SItem := ⟨x.X.key p, x.E, if p then x.at_ else 0⟩
noncomputable def sameI (p : Bool) (l m : List SItem) : Bool := @decide (l.map (SItem.key p) = m.map (SItem.key p)) (Classical.propDecidable _)
theorem sameI_iff {p : Bool} {l m : List SItem} : sameI p l m = true ↔ l.map (SItem.key p) = m.map (SItem.key p) := by unfold sameI; exact @decide_eq_true_iff _ (Classical.propDecidable _)
theorem sameI_nil (p : Bool) : sameI p [] [] = true := sameI_iff.2 rfl
theorem sameI_cons {p : Bool} {x y : SItem} {l m : List SItem} : sameI p (x :: l) (y :: m) = (Sx.same p x.X y.X && decide (x.E = y.E) && (!p || decide (x.at_ = y.at_)) && sameI p l m) := by
  rw [Bool.eq_iff_iff, Bool.and_eq_true, Bool.and_eq_true, Bool.and_eq_true, sameI_iff, sameI_iff, Sx.same_iff, List.map_cons, List.map_cons, List.cons.injEq]
  simp only [SItem.key, SItem.mk.injEq, decide_eq_true_eq, Bool.or_eq_true, Bool.not_eq_true']
  cases p <;> simp [and_assoc]
/-- the slice of n items at A reads as l -/
structure ItS (w : World) (A : Option Addr) (n : Nat) (l : List SItem) : Prop where
  len : l.length = n
  at_ : 0 < n → ∃ b off, A = some ⟨b, off, none⟩ ∧ ∀ (i : Nat) (x : SItem), l[i]? = some x → ∃ A' c', SAt w b (off + i * 8) x.X A' c' ∧ STree w AnyP x.X A' c' ∧ w.cell? ⟨b, off + i * 8 + 6, none⟩ = some (.int .i64 x.E) ∧ w.cell? ⟨b, off + i * 8 + 7, none⟩ = some (.int .i64 x.at_)
theorem ItS.kept {w w' : World} {A : Option Addr} {n : Nat} {l : List SItem} (h : ItS w A n l) (hb : Below w.heap.size w w') : ItS w' A n l :=
  ⟨h.len, fun hn => by
    obtain ⟨b, off, e, hc⟩ := h.at_ hn
    refine ⟨b, off, e, fun i x hx => ?_⟩
    obtain ⟨A', c', h1, h2, h3, h4⟩ := hc i x hx
    exact ⟨A', c', h1.below hb, h2.kept hb, (hb.cell (p := ⟨b, off + i * 8 + 6, none⟩) h1.lt).trans h3, (hb.cell (p := ⟨b, off + i * 8 + 7, none⟩) h1.lt).trans h4⟩⟩
theorem ItS.get {w : World} {A : Option Addr} {n i : Nat} {l : List SItem} (h : ItS w A n l) (hi : i < n) :
    ∃ b off x A' c', A = some ⟨b, off, none⟩ ∧ l[i]? = some x ∧ l.drop i = x :: l.drop (i + 1) ∧ SAt w b (off + i * 8) x.X A' c' ∧ STree w AnyP x.X A' c' ∧ w.cell? ⟨b, off + i * 8 + 6, none⟩ = some (.int .i64 x.E) ∧ w.cell? ⟨b, off + i * 8 + 7, none⟩ = some (.int .i64 x.at_) := by
  obtain ⟨b, off, e, hc⟩ := h.at_ (by omega)
  have hi' : i < l.length := by rw [h.len]; exact hi
  obtain ⟨A', c', h1, h2, h3, h4⟩ := hc i _ (List.getElem?_eq_getElem hi')
  exact ⟨b, off, l[i], A', c', e, List.getElem?_eq_getElem hi', List.drop_eq_getElem_cons hi', h1, h2, h3, h4⟩
theorem ItS.take {w : World} {A : Option Addr} {n k : Nat} {l : List SItem} (h : ItS w A n l) (hk : k ≤ n) : ItS w A k (l.take k) :=
  ⟨by rw [List.length_take, h.len]; omega, fun h0 => by
    obtain ⟨b, off, e, hc⟩ := h.at_ (by omega)
    refine ⟨b, off, e, fun i x hx => hc i x ?_⟩
    rw [List.getElem?_take] at hx
    split at hx
    · exact hx
    · cases hx⟩

theorem item_ways {p r t X : Bool} {E E' a a' : Int} (h : (r && decide (E = E') && (!p || decide (a = a')) && t) = X) : (r = false ∧ X = false) ∨ (r = true ∧ (E != E') = true ∧ X = false) ∨ (r = true ∧ (E != E') = false ∧ p = true ∧ (a != a') = true ∧ X = false) ∨
    (r = true ∧ (E != E') = false ∧ p = true ∧ (a != a') = false ∧ t = X) ∨ (r = true ∧ (E != E') = false ∧ p = false ∧ t = X) := by
  subst h
  cases r
  · exact .inl ⟨rfl, rfl⟩
  · by_cases e1 : E = E'
    · cases p
      · exact .inr (.inr (.inr (.inr ⟨rfl, by simp [e1], rfl, by simp [e1]⟩)))
      · by_cases e2 : a = a'
        · exact .inr (.inr (.inr (.inl ⟨rfl, by simp [e1], rfl, by simp [e2], by simp [e1, e2]⟩)))
        · exact .inr (.inr (.inl ⟨rfl, by simp [e1], rfl, by simp [e2], by simp [e2]⟩))
    · exact .inr (.inl ⟨rfl, by simp [e1], by simp [e1]⟩)

set_option maxRecDepth 100000 in
set_option maxHeartbeats 6400000 in
theorem ritems (w : World) (A : Option Addr) (n c : Nat) (l : List SItem) (B : Option Addr) (m d : Nat) (l' : List SItem) (p : Bool) (h : ItS w A n l) (h' : ItS w B m l') (hn : n ≤ 1000000) :
    Calls Tryd.prog 10 #[.slice A n c, .slice B m d, .bool p] w fun e w' => e = .returned (.bool (sameI p l l')) ∧ Below w.heap.size w w' := by
  by_cases hnm : n = m
  · subst hnm
    obtain ⟨X, HX⟩ : ∃ X, Hid (sameI p l l' = X) := ⟨_, rfl⟩
    rw [HX.out]
    obtain ⟨S, hS⟩ : ∃ S, sameI p = S := ⟨_, rfl⟩
    have HSc : Hid (∀ x y l m, S (x :: l) (y :: m) = (Sx.same p x.X y.X && decide (x.E = y.E) && (!p || decide (x.at_ = y.at_)) && S l m)) := fun x y l m => by rw [← hS]; exact sameI_cons
    have HSn : Hid (S [] [] = true) := by show _ = _; rw [← hS]; exact sameI_nil p
    rw [hS] at HX
    have H1 := Lib.hid h
    have H2 := Lib.hid h'
    clear h h' hS
    cases p
    all_goals
      go_enter Tryd.func10, Tryd.ntmps10
      go_wp2
      go_loopw [7] (fun iv wr => ∃ i : Nat, i ≤ n ∧ iv = .int .i64 (i : Nat) ∧ Below w.heap.size w wr ∧ Hid (S (l.drop i) (l'.drop i) = X)) (fun iv _ => n - (intOf iv).toNat)
      case atStart => exact ⟨0, Nat.zero_le _, rfl, Below.refl _ _, HX⟩
      case round =>
        clear HX
        obtain ⟨i, hi, rfl, hb, HI⟩ := hrel
        have HB := Lib.hid hb
        by_cases hlt : i < n
        · obtain ⟨b, o, x, A', c', rfl, _, hx, hs, ht, z6, z7⟩ := (H1.out.kept hb).get hlt
          obtain ⟨b', o', y, A'', c'', rfl, _, hy, hs', ht', y6, y7⟩ := (H2.out.kept hb).get hlt
          have HZ := Lib.hid (And.intro hs (And.intro z6 z7))
          have HY := Lib.hid (And.intro hs' (And.intro y6 y7))
          obtain ⟨q, q0, q1, q2, q3, q4, q5⟩ := hs
          obtain ⟨s, s0, s1, s2, s3, s4, s5⟩ := hs'
          have hK := HI.out
          rw [hx, hy, HSc.out] at hK
          have HS := Lib.hid fun W (hW : Below wr.heap.size wr W) p => rsamex _ x.X y.X A' A'' c' c'' p W (Nat.le_refl _) (ht.kept hW) (ht'.kept hW)
          have hlt' : (i : Int) < (n : Int) := by omega
          have hi0 : (0 : Int) ≤ (i : Int) := by omega
          have HK := Lib.hid hK
          clear hK HI hx hy hb ht ht'
          go_wp2
          go_still_tail 11, (by kernel_rfl)
          change wpList _ _ _ _ _ wr.drew
          have hdw : Below wr.heap.size wr wr.drew := ⟨rfl, rfl, rfl, Nat.le_refl _, fun _ _ => rfl⟩
          generalize wr.drew = w2 at hdw ⊢
          have HD2 := Lib.hid hdw
          clear hdw q0 q1 q2 q3 q4 q5 s0 s1 s2 s3 s4 s5 z6 z7 y6 y7 q s
          go_wp2_with (go_at_call 20; refine (HS.out _ HD2.out _).mono ?_; rintro e w3 ⟨rfl, b3⟩; have B3 := Lib.hid (HD2.out.trans (b3.mono HD2.out.size)); clear b3)
          have hs3 := HZ.out.1.below B3.out
          have z0 := hs3.lt
          have z6 := (B3.out.cell (p := ⟨b, o + i * 8 + 6, none⟩) HZ.out.1.lt).trans HZ.out.2.1
          have z7 := (B3.out.cell (p := ⟨b, o + i * 8 + 7, none⟩) HZ.out.1.lt).trans HZ.out.2.2
          have hs4 := HY.out.1.below B3.out
          have y0 := hs4.lt
          have y6 := (B3.out.cell (p := ⟨b', o' + i * 8 + 6, none⟩) HY.out.1.lt).trans HY.out.2.1
          have y7 := (B3.out.cell (p := ⟨b', o' + i * 8 + 7, none⟩) HY.out.1.lt).trans HY.out.2.2
          have hK := HK.out
          clear hs3 hs4
          generalize Sx.same _ x.X y.X = r at hK ⊢
          have hways := item_ways hK
          clear hK HK
          rcases hways with ⟨rfl, rfl⟩ | ⟨rfl, e1, rfl⟩ | ⟨rfl, e1, hp, e2, rfl⟩ | ⟨rfl, e1, hp, e2, hK⟩ | ⟨rfl, e1, hp, hK⟩
          · go_quiet (fail)
            go_wp2
            go_ret
            exact ⟨rfl, (HB.out.trans (B3.out.mono HB.out.size)).trans ((Turn.none_ ((Turn.refl (fun _ => False) _).drewN _) (fun _ => id)).mono (HB.out.trans (B3.out.mono HB.out.size)).size)⟩
          · go_quiet (fail)
            go_wp2
            go_ret
            exact ⟨rfl, (HB.out.trans (B3.out.mono HB.out.size)).trans ((Turn.none_ ((Turn.refl (fun _ => False) _).drewN _) (fun _ => id)).mono (HB.out.trans (B3.out.mono HB.out.size)).size)⟩
          · first
            | exact absurd hp (by decide)
            | skip
              go_quiet (fail)
              go_wp2
              go_ret
              exact ⟨rfl, (HB.out.trans (B3.out.mono HB.out.size)).trans ((Turn.none_ ((Turn.refl (fun _ => False) _).drewN _) (fun _ => id)).mono (HB.out.trans (B3.out.mono HB.out.size)).size)⟩
          · first
            | exact absurd hp (by decide)
            | skip
              go_quiet (fail)
              go_wp2
              go_roundw
              case rel => exact ⟨i + 1, by omega, by go_num, (HB.out.trans (B3.out.mono HB.out.size)).trans ((Turn.none_ ((Turn.refl (fun _ => False) _).drewN _) (fun _ => id)).mono (HB.out.trans (B3.out.mono HB.out.size)).size), hK⟩
              case measure => simp [intOf]; omega
          · first
            | exact absurd hp (by decide)
            | skip
              go_quiet (fail)
              go_wp2
              go_roundw
              case rel => exact ⟨i + 1, by omega, by go_num, (HB.out.trans (B3.out.mono HB.out.size)).trans ((Turn.none_ ((Turn.refl (fun _ => False) _).drewN _) (fun _ => id)).mono (HB.out.trans (B3.out.mono HB.out.size)).size), hK⟩
              case measure => simp [intOf]; omega
        · obtain rfl : i = n := by omega
          have hX : X = true := by
            have := HI.out
            rw [List.drop_of_length_le (by rw [H1.out.len]; exact Nat.le_refl _), List.drop_of_length_le (by rw [H2.out.len]; exact Nat.le_refl _), HSn.out] at this
            exact this.symm
          subst hX
          clear HI
          go_wp2
          go_ret
          exact ⟨rfl, HB.out⟩
  · have hX : sameI p l l' = false := by
      rw [← Bool.not_eq_true, sameI_iff]
      intro e
      have := congrArg List.length e
      rw [List.length_map, List.length_map, h.len, h'.len] at this
      exact hnm this
    rw [hX]
    have hb : ((n : Int) != (m : Int)) = true := by rw [bne_iff_ne]; omega
    have hb2 : ((n : Int) == (m : Int)) = false := beq_eq_false_iff_ne.2 (by omega)
    clear hX hnm h h'
    go_enter Tryd.func10, Tryd.ntmps10
    go_wp2
    go_ret
    exact ⟨rfl, Below.refl _ _⟩
end Go.Proofs.YtpjdfogieiokkaaDoor
