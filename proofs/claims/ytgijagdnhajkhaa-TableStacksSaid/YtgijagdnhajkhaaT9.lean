/- A stack's calls: Pop, Back. -/
import Derived.Test.YtgijagdnhajkhaaT8
import Derived.Deep.RegionHeld3
import Derived.Deep.DeepCutAuto
import Derived.IntWalk
namespace Go.Proofs.Ytgijagdnhajkhaa
open Go.RowKit

/-- a struct of two rows lies in block sb -/
structure Pair (w : World) (F : Nat → Prop) (sb : Nat) (xs ys : List Value) (A : Option Addr) (n c : Nat) (B : Option Addr) (m e : Nat) : Prop where
  lies : Lies w sb 46 #[.slice A n c, .slice B m e]
  own0 : w.ownsRow 0 3 1 (.slice A n c) n xs
  own1 : w.ownsRow 0 3 1 (.slice B m e) m ys
  in0 : ∀ g, (Value.slice A n c).ownBlock = some g → F g
  in1 : ∀ g, (Value.slice B m e).ownBlock = some g → F g
  ne : ∀ g, (Value.slice A n c).ownBlock = some g → (Value.slice B m e).ownBlock ≠ some g
  inn : F sb
  lt : ∀ i, F i → i < w.heap.size

theorem Stk.pair {w : World} {F : Nat → Prop} {sb : Nat} {d : List (List Int)} {top : List Int} (h : Stk w F sb d top) :
    ∃ A n c B m e, Pair w F sb (i64s (d.flatten ++ top)) (nats (marksOf d)) A n c B m e ∧ n = (d.flatten ++ top).length ∧ m = d.length := by
  obtain ⟨⟨A, n, c, B, m, e, h1, hn, hm, h2, h3, h4, h5, h6⟩, inn, lt, few, few'⟩ := h
  exact ⟨A, n, c, B, m, e, ⟨h1, h2, h3, h4, h5, h6, inn, lt⟩, hn, hm⟩
theorem Pair.drewN {w : World} {F : Nat → Prop} {sb : Nat} {xs ys : List Value} {A B : Option Addr} {n c m e : Nat} (h : Pair w F sb xs ys A n c B m e) (q : Nat) : Pair (w.drewN q) F sb xs ys A n c B m e :=
  ⟨h.lies, h.own0, h.own1, h.in0, h.in1, h.ne, h.inn, h.lt⟩
theorem Stk.drewN {w : World} {F : Nat → Prop} {sb : Nat} {d : List (List Int)} {top : List Int} (h : Stk w F sb d top) (q : Nat) : Stk (w.drewN q) F sb d top := h.below (Turn.none_ ((Turn.refl (fun _ => False) w).drewN q) (fun _ => id))
theorem Pair.stk {w : World} {F : Nat → Prop} {sb : Nat} {d : List (List Int)} {top : List Int} {xs ys : List Value} {A B : Option Addr} {n c m e : Nat} (h : Pair w F sb xs ys A n c B m e) (hx : xs = i64s (d.flatten ++ top)) (hy : ys = nats (marksOf d))
    (hl : n ≤ 1000000) (hl' : m ≤ 1000000) : Stk w F sb d top := by
  subst hx
  subst hy
  have hn : n = (d.flatten ++ top).length := by have := h.own0.1; simp only [List.length_map, Nat.mul_one] at this; exact this.symm
  have hm : m = d.length := by have := h.own1.1; simp only [List.length_map, Nat.mul_one, marksOf_length] at this; exact this.symm
  exact ⟨⟨A, n, c, B, m, e, h.lies, hn, hm, h.own0, h.own1, h.in0, h.in1, h.ne⟩, h.inn, h.lt, by omega, by omega⟩

/-- the first row is cut: its cell holds the shorter slice -/
theorem Pair.low0 {w w2 : World} {F : Nat → Prop} {sb : Nat} {xs ys xs' : List Value} {A B A2 : Option Addr} {n c m e n2 c2 : Nat} (h : Pair w F sb xs ys A n c B m e)
    (g2 : w.grownBy w2 (Value.slice A n c).ownBlock) (o2 : w2.ownsRow 0 3 1 (.slice A2 n2 c2) n2 xs') (k2 : (Value.slice A2 n2 c2).ownBlock = (Value.slice A n c).ownBlock) :
    (sb < w2.heap.size ∧ w2.cell? ⟨sb, 0, none⟩ = some (.slice A n c) ∧ w2.frozen? ⟨sb, 0, none⟩ = false) ∧
    Pair (w2.setCell ⟨sb, 0, none⟩ (.slice A2 n2 c2)) F sb xs' ys A2 n2 c2 B m e ∧ Turn F w (w2.setCell ⟨sb, 0, none⟩ (.slice A2 n2 c2)) := by
  have hne : ∀ g, (Value.slice A n c).ownBlock = some g → g ≠ sb := fun g hg e => own_not_lies h.own0 h.lies (by decide) (e ▸ hg)
  have hne' : ∀ g, (Value.slice B m e).ownBlock = some g → g ≠ sb := fun g hg e => own_not_lies h.own1 h.lies (by decide) (e ▸ hg)
  have t2 : Turn F w w2 := Turn.of_grown g2 (fun g e _ => h.in0 g e)
  have t3 : Turn F w (w2.setCell ⟨sb, 0, none⟩ (.slice A2 n2 c2)) := t2.put (p := ⟨sb, 0, none⟩) (.inl h.inn) _
  have l2 := (Turn.of_grown (F := fun i => i ≠ sb) g2 (fun g e _ => hne g e)).lies h.lies (fun e => e rfl)
  have l3 : Lies (w2.setCell ⟨sb, 0, none⟩ (.slice A2 n2 c2)) sb 46 #[.slice A2 n2 c2, .slice B m e] := l2.put 0 _
  have tp : Turn (fun i => i = sb) w2 (w2.setCell ⟨sb, 0, none⟩ (.slice A2 n2 c2)) := (Turn.refl (fun i => i = sb) w2).put (p := ⟨sb, 0, none⟩) (.inl rfl) _
  have u2 := (Turn.of_grown (F := fun i => ∀ g, (Value.slice B m e).ownBlock = some g → i ≠ g) g2 (fun g q _ g' q' e => by subst e; exact h.ne g q q')).own h.own1 (fun g hg e => e g hg rfl)
  exact ⟨⟨l2.lt, by rw [l2.cell 0]; rfl, l2.free 0⟩, ⟨l3, tp.own o2 (fun g hg => hne g (k2 ▸ hg)), tp.own u2 (fun g hg => hne' g hg), fun g hg => h.in0 g (k2 ▸ hg), h.in1, fun g hg => h.ne g (k2 ▸ hg), h.inn, fun i hi => Nat.lt_of_lt_of_le (h.lt i hi) t3.size⟩, t3⟩
theorem Pair.low1 {w w2 : World} {F : Nat → Prop} {sb : Nat} {xs ys ys' : List Value} {A B B2 : Option Addr} {n c m e m2 e2 : Nat} (h : Pair w F sb xs ys A n c B m e)
    (g2 : w.grownBy w2 (Value.slice B m e).ownBlock) (o2 : w2.ownsRow 0 3 1 (.slice B2 m2 e2) m2 ys') (k2 : (Value.slice B2 m2 e2).ownBlock = (Value.slice B m e).ownBlock) :
    (sb < w2.heap.size ∧ w2.cell? ⟨sb, 1, none⟩ = some (.slice B m e) ∧ w2.frozen? ⟨sb, 1, none⟩ = false) ∧
    Pair (w2.setCell ⟨sb, 1, none⟩ (.slice B2 m2 e2)) F sb xs ys' A n c B2 m2 e2 ∧ Turn F w (w2.setCell ⟨sb, 1, none⟩ (.slice B2 m2 e2)) := by
  have hne : ∀ g, (Value.slice A n c).ownBlock = some g → g ≠ sb := fun g hg e => own_not_lies h.own0 h.lies (by decide) (e ▸ hg)
  have hne' : ∀ g, (Value.slice B m e).ownBlock = some g → g ≠ sb := fun g hg e => own_not_lies h.own1 h.lies (by decide) (e ▸ hg)
  have t2 : Turn F w w2 := Turn.of_grown g2 (fun g e _ => h.in1 g e)
  have t3 : Turn F w (w2.setCell ⟨sb, 1, none⟩ (.slice B2 m2 e2)) := t2.put (p := ⟨sb, 1, none⟩) (.inl h.inn) _
  have l2 := (Turn.of_grown (F := fun i => i ≠ sb) g2 (fun g e _ => hne' g e)).lies h.lies (fun e => e rfl)
  have l3 : Lies (w2.setCell ⟨sb, 1, none⟩ (.slice B2 m2 e2)) sb 46 #[.slice A n c, .slice B2 m2 e2] := l2.put 1 _
  have tp : Turn (fun i => i = sb) w2 (w2.setCell ⟨sb, 1, none⟩ (.slice B2 m2 e2)) := (Turn.refl (fun i => i = sb) w2).put (p := ⟨sb, 1, none⟩) (.inl rfl) _
  have u2 := (Turn.of_grown (F := fun i => ∀ g, (Value.slice A n c).ownBlock = some g → i ≠ g) g2 (fun g q _ g' q' e => by subst e; exact h.ne g q' q)).own h.own0 (fun g hg e => e g hg rfl)
  exact ⟨⟨l2.lt, by rw [l2.cell 1]; rfl, l2.free 1⟩, ⟨l3, tp.own u2 (fun g hg => hne g hg), tp.own o2 (fun g hg => hne' g (k2 ▸ hg)), h.in0, fun g hg => h.in1 g (k2 ▸ hg), fun g hg q => h.ne g hg (k2 ▸ q), h.inn, fun i hi => Nat.lt_of_lt_of_le (h.lt i hi) t3.size⟩, t3⟩

theorem pop_none (w : World) (F : Nat → Prop) (sb : Nat) (d : List (List Int)) (h : Stk w F sb d []) :
    Calls Try.prog 21 #[.pointer (some ⟨sb, 0, none⟩)] w fun e w' => e = .returned (.tuple #[.int .i64 0, .bool false]) ∧ ∃ q, w' = w.drewN q := by
  obtain ⟨A, n, c, B, m, e, hp, hn, hm⟩ := h.pair
  have hlt := hp.lies.lt
  have c0 := hp.lies.cell 0
  simp at c0
  have hn' : d.flatten.length = n := by rw [hn]; simp
  have HFl := Lib.hid fun (W : World) (hW : Stk W F sb d []) => floor_any W F sb d [] hW
  rw [hn'] at HFl
  have HS := Lib.hid fun q => h.drewN q
  have hnn : decide (n ≤ n) = true := decide_eq_true (Nat.le_refl n)
  clear hp h hn hn' hm
  go_enter Try.func21, Try.ntmps21
  go_wp2
  go_quiet ((go_at_call 39; exact Calls.quiet_of (HFl.out _ (HS.out _))))
  go_wp2
  go_ret2
  exact ⟨rfl, _, rfl⟩

theorem pop_some (w : World) (F : Nat → Prop) (sb : Nat) (d : List (List Int)) (top : List Int) (x : Int) (h : Stk w F sb d (top ++ [x])) :
    Calls Try.prog 21 #[.pointer (some ⟨sb, 0, none⟩)] w fun e w' => e = .returned (.tuple #[.int .i64 x, .bool true]) ∧ LeftK w F sb d top w' := by
  obtain ⟨A, n, c, B, m, e, hp, hn, hm⟩ := h.pair
  have few := h.few
  have few' := h.few'
  have hlt := hp.lies.lt
  have c0 := hp.lies.cell 0
  simp at c0
  obtain ⟨r, HR⟩ : ∃ r, Hid (r = d.flatten.length) := ⟨_, rfl⟩
  have HFl := Lib.hid fun (W : World) (hW : Stk W F sb d (top ++ [x])) => floor_any W F sb d (top ++ [x]) hW
  rw [← HR.out] at HFl
  have HS := Lib.hid fun q => h.drewN q
  obtain ⟨p, hp1, hp2⟩ : ∃ p, n = p + 1 ∧ p = (d.flatten ++ top).length := ⟨n - 1, by simp at hn; omega, by simp at hn ⊢; omega⟩
  have hrp : r ≤ p := by rw [HR.out, hp2]; simp
  obtain ⟨g, rfl⟩ : ∃ g, A = some ⟨g, 0, none⟩ := by
    rcases hp.own0.2 with ⟨_, e⟩ | ⟨g, cap, cur, e, _⟩
    · omega
    · injection e with e1
      exact ⟨g, e1⟩
  have hcell : w.cell? ⟨g, p, none⟩ = some (.int .i64 x) := by
    have h8 := hp.own0.cells (g := g) rfl p (.int .i64 x) (by
      rw [List.getElem?_map, ← List.append_assoc, List.getElem?_append_right (by omega), hp2]
      simp)
    rw [show (⟨g, 0, none⟩ : Addr).add p = ⟨g, p, none⟩ by unfold Addr.add; split <;> simp_all] at h8
    exact h8
  subst hp1
  have hglt : g < w.heap.size := (hp.own0.lt g rfl).2
  have HP := Lib.hid hp
  have hdec : decide (p + 1 ≤ r) = false := decide_eq_false (by omega)
  have hpm : p ≤ 1000000 := by omega
  obtain ⟨L, HL⟩ : ∃ L : List Value, Hid (L = i64s (d.flatten ++ (top ++ [x]))) := ⟨_, rfl⟩
  have HE : Hid (∀ (W : World) (q : Nat) A2 n2 c2 w2, W = w.drewN q → W.grownBy w2 (Value.slice (some ⟨g, 0, none⟩) (p + 1) c).ownBlock → w2.ownsRow 0 3 1 (.slice A2 n2 c2) n2 (L.take p) → n2 = p → (Value.slice A2 n2 c2).ownBlock = (Value.slice (some ⟨g, 0, none⟩) (p + 1) c).ownBlock →
      (sb < w2.heap.size ∧ w2.cell? ⟨sb, 0, none⟩ = some (.slice (some ⟨g, 0, none⟩) (p + 1) c) ∧ w2.frozen? ⟨sb, 0, none⟩ = false) ∧ LeftK w F sb d top (w2.setCell ⟨sb, 0, none⟩ (.slice A2 n2 c2))) := fun W q A2 n2 c2 w2 hW g2 o2 hn2 k2 => by
    subst hW
    obtain ⟨q1, q2, q3⟩ := (hp.drewN q).low0 g2 o2 k2
    refine ⟨q1, F, q2.stk ?_ rfl (by omega) (by omega), ((Turn.refl F w).drewN q).trans q3 (fun _ e => .inl e), fun _ e => e, fun _ e => .inl e⟩
    rw [HL.out, hp2, ← List.map_take, ← List.append_assoc, List.take_left]
  have HO : Hid (∀ q, (w.drewN q).ownsRow 0 3 1 (.slice (some ⟨g, 0, none⟩) (p + 1) c) (p + 1) L) := fun q => by rw [HL.out]; exact (hp.drewN q).own0
  clear hp h hn hm hp2 few few'
  go_enter Try.func21, Try.ntmps21
  go_wp2
  go_quiet ((go_at_call 39; exact Calls.quiet_of (HFl.out _ (HS.out _))))
  go_wp2_with (go_at_call 40; refine (loweri _ _ (p + 1) p L (by omega) (HO.out _)).mono ?_; rintro e w2 ⟨v2, rfl, o2, g2, k2⟩; obtain ⟨A2, c2, rfl⟩ := own_form o2; obtain ⟨⟨z2, y2, f2⟩, l2⟩ := HE.out _ _ _ _ _ w2 rfl g2 o2 rfl k2; have L2 := Lib.hid l2; clear o2 g2 k2 l2)
  go_ret2
  exact ⟨rfl, L2.out⟩

theorem back_none (w : World) (F : Nat → Prop) (sb : Nat) (top : List Int) (h : Stk w F sb [] top) :
    Calls Try.prog 25 #[.pointer (some ⟨sb, 0, none⟩)] w fun e w' => e = .returned (.bool false) ∧ w' = w := by
  have HM := Lib.hid (marks_any w F sb [] top h)
  clear h
  go_enter Try.func25, Try.ntmps25
  go_wp2_with (go_at_call 30; refine HM.out.mono ?_; rintro e w1 ⟨rfl, rfl⟩)
  go_ret
  exact ⟨rfl, rfl⟩

/-- between Back's two stores -/
def Mid (w : World) (F : Nat → Prop) (sb : Nat) (xs ys : List Value) (n : Nat) (B : Option Addr) (m e : Nat) (W : World) : Prop := ∃ A c, Pair W F sb xs ys A n c B m e ∧ Turn F w W

set_option maxHeartbeats 1600000 in
theorem back_some (w : World) (F : Nat → Prop) (sb : Nat) (d : List (List Int)) (l top : List Int) (h : Stk w F sb (d ++ [l]) top) :
    Calls Try.prog 25 #[.pointer (some ⟨sb, 0, none⟩)] w fun e w' => e = .returned (.bool true) ∧ LeftK w F sb d l w' := by
  obtain ⟨A, n, c, B, m, e, hp, hn, hm⟩ := h.pair
  have few := h.few
  have few' := h.few'
  have hlt := hp.lies.lt
  have c0 := hp.lies.cell 0
  have c1 := hp.lies.cell 1
  simp at c0 c1
  obtain ⟨r, HR⟩ : ∃ r, Hid (r = (d ++ [l]).flatten.length) := ⟨_, rfl⟩
  obtain ⟨p, hp1, hp2⟩ : ∃ p, m = p + 1 ∧ p = d.length := ⟨m - 1, by simp at hm; omega, by simp at hm; omega⟩
  subst hp1
  have HM := Lib.hid (marks_any w F sb (d ++ [l]) top h)
  rw [← hm] at HM
  have HFl := Lib.hid (floor_any w.drew F sb (d ++ [l]) top (h.drewN 1))
  rw [← HR.out] at HFl
  have hrn : r ≤ n := by rw [HR.out, hn]; simp
  have hpm : p ≤ 1000000 := by simp at few'; omega
  have hrm : r ≤ 1000000 := by rw [hn] at hrn; omega
  have hp0 : ((p : Int) + 1 = 0) = False := by simp; omega
  have hp1 : ((p : Int) + 1 == 0) = false := by simp; omega
  obtain ⟨L, HL⟩ : ∃ L : List Value, Hid (L = i64s ((d ++ [l]).flatten ++ top)) := ⟨_, rfl⟩
  obtain ⟨M, HMk⟩ : ∃ M : List Value, Hid (M = nats (marksOf (d ++ [l]))) := ⟨_, rfl⟩
  rw [← HL.out, ← HMk.out] at hp
  have HO : Hid (∀ q, (w.drewN q).ownsRow 0 3 1 (.slice A n c) n L) := fun q => (hp.drewN q).own0
  have HE : Hid (∀ (W : World) (q : Nat) A2 n2 c2 w2, W = w.drewN q → W.grownBy w2 (Value.slice A n c).ownBlock → w2.ownsRow 0 3 1 (.slice A2 n2 c2) n2 (L.take r) → n2 = r → (Value.slice A2 n2 c2).ownBlock = (Value.slice A n c).ownBlock →
      (sb < w2.heap.size ∧ w2.cell? ⟨sb, 0, none⟩ = some (.slice A n c) ∧ w2.frozen? ⟨sb, 0, none⟩ = false) ∧ Pair (w2.setCell ⟨sb, 0, none⟩ (.slice A2 n2 c2)) F sb (L.take r) M A2 n2 c2 B (p + 1) e ∧ Turn F w (w2.setCell ⟨sb, 0, none⟩ (.slice A2 n2 c2))) := fun W q A2 n2 c2 w2 hW g2 o2 hn2 k2 => by
    subst hW
    obtain ⟨q1, q2, q3⟩ := (hp.drewN q).low0 g2 o2 k2
    exact ⟨q1, q2, ((Turn.refl F w).drewN q).trans q3 (fun _ e => .inl e)⟩
  have HF : Hid (∀ (W : World) A2 c2 (q : Nat) B2 m2 e2 w2, Pair W F sb (L.take r) M A2 r c2 B (p + 1) e → Turn F w W → (W.drewN q).grownBy w2 (Value.slice B (p + 1) e).ownBlock → w2.ownsRow 0 3 1 (.slice B2 m2 e2) m2 (M.take p) → m2 = p → (Value.slice B2 m2 e2).ownBlock = (Value.slice B (p + 1) e).ownBlock →
      (sb < w2.heap.size ∧ w2.cell? ⟨sb, 1, none⟩ = some (.slice B (p + 1) e) ∧ w2.frozen? ⟨sb, 1, none⟩ = false) ∧ LeftK w F sb d l (w2.setCell ⟨sb, 1, none⟩ (.slice B2 m2 e2))) := fun W A2 c2 q B2 m2 e2 w2 hP hT g2 o2 hm2 k2 => by
    obtain ⟨q1, q2, q3⟩ := (hP.drewN q).low1 g2 o2 k2
    refine ⟨q1, F, q2.stk ?_ ?_ hrm (by omega), (hT.drewN q).trans q3 (fun _ e => .inl e), fun _ e => e, fun _ e => .inl e⟩
    · rw [HL.out, HR.out, ← List.map_take, List.take_left]
      simp
    · rw [HMk.out, ← List.map_take, marksOf_snoc, hp2, ← marksOf_length d, List.take_left]
  clear hp h hn hm hp2 few few'
  go_enter Try.func25, Try.ntmps25
  go_upto_region 3 with (go_at_call 30; refine HM.out.mono ?_; rintro e w1 ⟨rfl, rfl⟩)
  go_cut [6] (fun _ W => Mid w1 F sb (L.take r) M r B (p + 1) e W)
  case first =>
    go_region_with (first
      | (go_at_call 39; refine HFl.out.mono ?_; rintro e w1 ⟨rfl, q, rfl⟩)
      | (go_at_call 40; refine (loweri _ _ n r L hrn (HO.out _)).mono ?_; rintro e w2 ⟨v2, rfl, o2, g2, k2⟩; obtain ⟨A2, c2, rfl⟩ := own_form o2; obtain ⟨⟨z2, y2, f2⟩, l2, t2⟩ := HE.out _ _ _ _ _ w2 rfl g2 o2 rfl k2; have L2 := Lib.hid l2; have T2 := Lib.hid t2; clear o2 g2 k2 l2 t2))
    all_goals
      go_wp2_with fail
      go_meet
      exact ⟨_, _, L2.out, T2.out⟩
  case rest =>
    obtain ⟨A2, c2, hP, hT⟩ := hcut
    have x1 := hP.lies.cell 1
    simp at x1
    have x2 := hP.lies.lt
    have HP := Lib.hid hP
    have HT := Lib.hid hT
    have HO2 : Hid (∀ q, (wc.drewN q).ownsRow 0 3 1 (.slice B (p + 1) e) (p + 1) M) := fun q => (hP.drewN q).own1
    clear hP hT
    have hm3 : p ≤ p + 1 := by omega
    have hwp : IntKind.i64.wrap (p : Int) = p := IntWalk.i64_in _ (by omega)
    have HO3 : Hid (wc.drew.ownsRow 0 3 1 (.slice B (p + 1) e) (p + 1) M) := HO2.out 1
    go_wp2_with fail
    go_region_with (go_at_call 40; (with_reducible refine (loweri _ _ (p + 1) p M hm3 HO3.out).mono ?_); rintro e w2 ⟨v2, rfl, o2, g2, k2⟩; obtain ⟨B2, e2, rfl⟩ := own_form o2; obtain ⟨⟨z2, y2, f2⟩, l2⟩ := HF.out wc A2 c2 1 B2 p e2 w2 HP.out HT.out g2 o2 rfl k2; have L2 := Lib.hid l2; clear o2 g2 k2 l2)
    all_goals
      go_wp2_with fail
      go_ret
      exact ⟨rfl, L2.out⟩
end Go.Proofs.Ytgijagdnhajkhaa
