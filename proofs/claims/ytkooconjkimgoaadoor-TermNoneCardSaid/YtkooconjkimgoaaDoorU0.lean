/- Regions that draw their order, whose operations read and whose calls lay new blocks alone: one walk in the text's order, also within a round. Nothing of the program's text. -/
import Derived.Test.YtkooconjkimgoaaDoorT0
import Derived.BigQuiet
import Derived.OrdersIn
import Derived.RangeFuncCalls
import Derived.StillTail
import Derived.TacticsIn
namespace Go.Proofs.YtkooconjkimgoaaDoor
open Go.RowKit

section
variable {P : Program} {C : World → Prop}
/-- .. outside of a round -/
theorem calm_region {id : Nat} {Q : Exit → Act → World → Prop} {a : Act} {w : World} {l : List Oper} (hm : P.follows .mixedOrders = true) (hB : Region.lexB .any l.toArray = true) (hC : C w.drew)
    (h : wpQuiet P l.toArray C (fun a' => ∀ w', C w' → Q .normal a' w') l a) : (Code.region id l.toArray true).wp P Q a w :=
  wp_region_quiet hm hB hC (by simpa using h)
theorem calm_op {lp n : Nat} {o : Oper} {a : Act} {K : Act → Prop} {K' : Act → World → Prop} {Q' : Exit → Act → World → Prop} {w : World} (hd : ∀ c, o.op ≠ .defer c) (hw : C w) (h : ∀ a w', C w' → K a → K' a w') (hh : o.quiet P a C K) : o.wpIn (Fence.wide.inRound lp) n P a w K' Q' := by
  refine ⟨fun _ _ => trivial, ?_⟩
  rw [Oper.semAt_eq _ _ _ hd]
  obtain ⟨v, h1, h2⟩ := hh
  have h3 := h1 w hw
  unfold Oper.quietAt at h3
  generalize (execOp a.eval o).run P w = r at *
  cases r with
  | ok n w' =>
    cases n <;> simp only [Oper.quietUpon] at h3 <;> simp only [Oper.uponIn]
    case value u =>
      obtain ⟨e1, e2⟩ := h3
      rw [e1, e2]
      exact h _ _ hw h2
    case skip =>
      obtain ⟨e1, e2⟩ := h3
      rw [e1, ← e2]
      exact h _ _ hw h2
    case enter f args =>
      obtain ⟨e1, hc⟩ := h3
      rw [e1]
      refine ⟨fun h => by simp [Fence.wide, Fence.inRound] at h, CallsIn.inRound lp (callsIn_wide.2 (hc.mono fun e w'' ⟨he, hw''⟩ => ?_))⟩
      subst he
      exact h _ _ hw'' h2
  | halt x w' => simp only [Oper.quietUpon] at h3
theorem calm_at {lp n : Nat} {ops : Array Oper} {i : Nat} {a : Act} {K : Act → Prop} {K' : Act → World → Prop} {Q' : Exit → Act → World → Prop} {w : World} (hd : ∀ (j : Nat) o, ops[j]? = some o → ∀ c, o.op ≠ .defer c) (hC : C w) (h : ∀ a w', C w' → K a → K' a w') (hh : qOp P ops C i K a) : wpOpIn (Fence.wide.inRound lp) n P ops Q' i K' a w := by
  unfold qOp at hh
  unfold wpOpIn
  split
  · rename_i ho; simp only [ho] at hh; exact h _ _ hC hh
  · rename_i o ho
    simp only [ho] at hh
    split
    · rename_i hw; simp only [hw, if_true] at hh; exact calm_op (hd i o ho) hC h hh
    · rename_i hw; simp only [hw] at hh; exact ⟨fun _ _ => trivial, h _ _ hC hh⟩
theorem calm_any {lp n : Nat} {ops : Array Oper} {md : Region.Mode} {Q : Act → Prop} {Q' : Exit → Act → World → Prop} (hd : ∀ (j : Nat) o, ops[j]? = some o → ∀ c, o.op ≠ .defer c) (hQ : ∀ a w, C w → Q a → Q' .normal a w) : ∀ (fuel : Nat) (listed : Array Bool) (a : Act) (w : World), C w →
    wpAnyQ P md ops C Q fuel listed a → wpAnyIn (Fence.wide.inRound lp) n P md ops Q' fuel listed a w
  | 0, _, _, _, hw, h => ⟨h.1, hQ _ _ hw h.2⟩
  | fuel + 1, _, _, _, hw, h => ⟨fun h0 => hQ _ _ hw (h.1 h0), fun i hi => calm_at hd hw (fun a' w' hw' => calm_any hd hQ fuel _ a' w' hw') (h.2 i hi)⟩
def noDefer (l : List Oper) : Bool := l.all fun o => match o.op with
  | .defer _ => false
  | _ => true
theorem noDefer_spec {l : List Oper} (h : noDefer l = true) : ∀ (j : Nat) o, l.toArray[j]? = some o → ∀ c, o.op ≠ .defer c := fun j o ho c e => by
  have hm : o ∈ l := by
    rw [List.getElem?_toArray] at ho
    exact List.mem_of_getElem? ho
  have := List.all_eq_true.1 h o hm
  rw [e] at this
  cases this
/-- .. within a round -/
theorem calm_round {lp n : Nat} {id : Nat} {Q : Exit → Act → World → Prop} {a : Act} {w : World} {l : List Oper} (hm : P.follows .mixedOrders = true) (hB : Region.lexB .any l.toArray = true) (hD : noDefer l = true) (hC : C w.drew)
    (h : wpQuiet P l.toArray C (fun a' => ∀ w', C w' → Q .normal a' w') l a) : (Code.region id l.toArray true).wpIn (Fence.wide.inRound lp) n P Q a w := by
  simp only [Region.lexB, Bool.and_eq_true] at hB
  refine wpIn_region_any hm (calm_any (noDefer_spec hD) (Q := fun a' => ∀ w', C w' → Q .normal a' w') (fun _ w' hw' h => h w' hw') _ _ _ _ hC ?_)
  have := wpAnyQ_lex (C := C) (md := .any) hB.1 l 0 (Array.replicate l.toArray.size false) a (by simp) (by simpa using hB.2) h
  simpa using this
variable {ops : Array Oper} {md : Region.Mode}
/-- the first n operations, in whatever order, calm; then L -/
def calmHead (P : Program) (md : Region.Mode) (ops : Array Oper) (C : World → Prop) (n : Nat) (L : Array Bool → Act → Prop) : Nat → Array Bool → Act → Prop
  | 0, listed, a => L listed a
  | f + 1, listed, a => Region.ready md ops listed ≠ [] ∧ ∀ i ∈ Region.ready md ops listed, i < n ∧ qOp P ops C i (calmHead P md ops C n L f (listed.setIfInBounds i true)) a
/-- operation n, the last one, waits for each other -/
def lastB (md : Region.Mode) (ops : Array Oper) (n : Nat) : Bool := decide (ops.size = n + 1) && (List.range n).all fun i => Region.waitsFor md ops n i
theorem lastB_lt {n i j : Nat} {listed : Array Bool} (h : lastB md ops n = true) (hi : i < n) (hun : listed.getD i true = false) (hj : j ∈ Region.ready md ops listed) : j < n := by
  simp only [lastB, Bool.and_eq_true, decide_eq_true_eq] at h
  obtain ⟨_, oj, hoj, hall⟩ := mem_ready.1 hj
  have hlt := (Array.getElem?_eq_some_iff.1 hoj).1
  rcases Nat.lt_or_ge j n with e | e
  · exact e
  · obtain rfl : j = n := by omega
    obtain ⟨o2, ho2, d, hd, hb, hon⟩ := Region.waitsFor_spec (List.all_eq_true.1 h.2 i (List.mem_range.2 hi))
    obtain rfl : o2 = oj := Option.some.inj (ho2.symm.trans hoj)
    have := hall d hd hb
    rw [hon, getD_both hun] at this
    cases this
theorem calmHead_first {n i : Nat} {oi : Oper} {v : Value} {L : Array Bool → Act → Prop} (hi : ops[i]? = some oi) (hsel : ∀ (j : Nat) (o : Oper) cs b, ops[j]? = some o → o.op ≠ .select cs b) (hlast : lastB md ops n = true) (hin : i < n)
    (hdone : ∀ listed a, L listed a → ∀ j ∈ Region.ready md ops listed, n ≤ j) : ∀ (f : Nat) (listed : Array Bool) (a : Act),
      (∀ j oj, ops[j]? = some oj → j ≠ i → listed.getD j true = false → (∀ e ∈ oj.after, Region.binds md e = true → e.on ≠ i) → oi.apart ops oj = true) →
      i ∈ Region.ready md ops listed → YieldsIn P ops C oi v a → calmHead P md ops C n L f (listed.setIfInBounds i true) (a.put oi.dst v) → calmHead P md ops C n L (f + 1) listed a := by
  intro f
  induction f with
  | zero =>
    intro listed a _ hr hy H
    refine ⟨fun h => (by rw [h] at hr; cases hr), fun j hj => ?_⟩
    have hjn := lastB_lt hlast hin (mem_ready.1 hr).1 hj
    by_cases hji : j = i
    · subst hji
      exact ⟨hjn, hy.qOp hi H⟩
    · have := hdone _ _ H j (ready_mono hj hji)
      omega
  | succ f ih =>
    intro listed a hfree hr hy H
    refine ⟨fun h => (by rw [h] at hr; cases hr), fun j hj => ?_⟩
    have hjn := lastB_lt hlast hin (mem_ready.1 hr).1 hj
    by_cases hji : j = i
    · subst hji
      exact ⟨hjn, hy.qOp hi H⟩
    obtain ⟨hjun, oj, hoj, hall⟩ := mem_ready.1 hj
    have hno : ∀ e ∈ oj.after, Region.binds md e = true → e.on ≠ i := fun e he hb heq => by
      have h1 := hall e he hb
      rw [heq, getD_both (mem_ready.1 hr).1] at h1
      cases h1
    refine ⟨hjn, qOp_mono (fun a' h3 => ih (listed.setIfInBounds j true) a' (fun k ok hk hki hun hn2 => hfree k ok hk hki ?_ hn2) (ready_mono hr (Ne.symm hji)) h3.1 ?_) (qOp_put hoj (hfree j oj hoj hji hjun hno) (fun cs b => hsel i oi cs b hi) (fun cs b => hsel j oj cs b hoj) hy (H.2 j (ready_mono hj hji)).2)⟩
    · by_cases hjk : j = k
      · subst hjk
        exact hjun
      · rwa [getD_set_ne true hjk] at hun
    · rw [Array.setIfInBounds_comm _ _ hji]
      exact h3.2
/-- the text's order, then the last one alone -/
def lexLast (md : Region.Mode) (ops : Array Oper) : Nat → Nat → Array Bool → Bool
  | 0, k, listed => decide (Region.ready md ops listed = [k]) && (Region.ready md ops (listed.setIfInBounds k true)).isEmpty
  | f + 1, k, listed => (Region.ready md ops listed).contains k && Region.free md ops listed k && lexLast md ops f (k + 1) (listed.setIfInBounds k true)
theorem calmHead_lex {n : Nat} {Q : Act → Prop} (hsel : Region.noSelect ops = true) (hlast : lastB md ops n = true) : ∀ (l : List Oper) (k : Nat) (listed : Array Bool) (a : Act), (∀ j, j < l.length → l[j]? = ops[k + j]?) → k + l.length = n →
    lexLast md ops l.length k listed = true → wpQuiet P ops C Q l a → calmHead P md ops C n (fun listed' a' => lexLast md ops 0 n listed' = true ∧ Q a') l.length listed a
  | [], k, listed, a, _, hk, hB, h => by
    obtain rfl : k = n := by simpa using hk
    exact ⟨hB, h⟩
  | o :: l, k, listed, a, hl, hk, hB, h => by
    have h0 : ops[k]? = some o := by simpa using (hl 0 (by simp)).symm
    simp only [List.length_cons, lexLast, Bool.and_eq_true] at hB
    obtain ⟨⟨hr, hf⟩, hB'⟩ := hB
    have hst : qOp P ops C k (wpQuiet P ops C Q l) a := by
      unfold qOp
      simp only [h0]
      exact h
    obtain ⟨v, hy, hK⟩ := yieldsIn_of_qOp h0 hst
    refine calmHead_first h0 (Region.noSelect_spec hsel) hlast (by simp only [List.length_cons] at hk; omega) (fun listed' a' hL j hj => ?_) l.length listed a (Region.free_spec h0 hf) (by simpa using hr) hy
      (calmHead_lex hsel hlast l (k + 1) _ _ (fun j hj => by have := hl (j + 1) (by simp; omega); simpa [Nat.add_assoc, Nat.add_comm 1 j] using this) (by simp only [List.length_cons] at hk; omega) hB' hK)
    have h1 := hL.1
    simp only [lexLast, Bool.and_eq_true, decide_eq_true_eq] at h1
    rw [h1.1] at hj
    have : j = n := by simpa using hj
    omega
theorem calmHead_any {lp m n g : Nat} {L : Array Bool → Act → Prop} {Q' : Exit → Act → World → Prop} (hd : ∀ (j : Nat) o, ops[j]? = some o → ∀ c, o.op ≠ .defer c) (hL : ∀ listed a w, C w → L listed a → wpAnyIn (Fence.wide.inRound lp) m P md ops Q' g listed a w) : ∀ (f : Nat) (listed : Array Bool) (a : Act) (w : World), C w →
    calmHead P md ops C n L f listed a → wpAnyIn (Fence.wide.inRound lp) m P md ops Q' (f + g) listed a w
  | 0, _, _, _, hw, h => by rw [Nat.zero_add]; exact hL _ _ _ hw h
  | f + 1, _, _, _, hw, h => by
    rw [show f + 1 + g = f + g + 1 by omega]
    exact ⟨fun h0 => absurd h0 h.1, fun i hi => calm_at hd hw (fun a' w' hw' => calmHead_any hd hL f _ a' w' hw') (h.2 i hi).2⟩
/-- a region within a round whose last operation, which turns the world, waits for all others: these are calm -/
theorem calm_round_last (n : Nat) {lp m : Nat} {id : Nat} {Q : Exit → Act → World → Prop} {a : Act} {w : World} {l : List Oper} (hm : P.follows .mixedOrders = true)
    (hB : (Region.noSelect l.toArray && lastB .any l.toArray n && lexLast .any l.toArray n 0 (Array.replicate (n + 1) false)) = true) (hD : noDefer l = true) (hC : C w.drew)
    (h : wpQuiet P l.toArray C (fun a' => ∀ w', C w' → wpListIn (Fence.wide.inRound lp) m P l.toArray Q (l.drop n) a' w') (l.take n) a) : (Code.region id l.toArray true).wpIn (Fence.wide.inRound lp) m P Q a w := by
  simp only [Bool.and_eq_true] at hB
  obtain ⟨⟨hsel, hlast⟩, hlex⟩ := hB
  have hd := noDefer_spec hD
  have hsz : l.length = n + 1 := by
    simp only [lastB, Bool.and_eq_true, decide_eq_true_eq] at hlast
    simpa using hlast.1
  obtain ⟨o, ho⟩ : ∃ o, l[n]? = some o := ⟨l[n]'(by omega), by simp⟩
  have hdrop : l.drop n = [o] := by
    rw [List.drop_eq_getElem_cons (by omega), List.drop_eq_nil_of_le (by omega)]
    rw [List.getElem?_eq_getElem (by omega)] at ho
    rw [Option.some.inj ho]
  have htl : (l.take n).length = n := by simp; omega
  refine wpIn_region_any hm ?_
  have H := calmHead_lex (P := P) (C := C) (md := .any) (n := n) hsel hlast (l.take n) 0 (Array.replicate (n + 1) false) a (fun j hj => by
    rw [htl] at hj
    simp [hj]) (by simp; omega) (by rw [htl]; exact hlex) h
  have := calmHead_any (lp := lp) (m := m) (g := 1) (Q' := Q) hd (fun listed a' w' hw' hL => ?_) _ _ _ _ hC H
  · rw [htl] at this
    simpa [hsz] using this
  obtain ⟨h1, h2⟩ := hL
  simp only [lexLast, Bool.and_eq_true, decide_eq_true_eq] at h1
  refine ⟨fun h0 => (by rw [h0] at h1; cases h1.1), fun i hi => ?_⟩
  rw [h1.1] at hi
  obtain rfl : i = n := by simpa using hi
  have h3 := h2 w' hw'
  rw [hdrop] at h3
  unfold wpOpIn
  rw [List.getElem?_toArray, ho]
  simp only [wpListIn] at h3 ⊢
  split
  · rename_i hg
    rw [if_pos hg] at h3
    exact Oper.wpIn_mono (fun a2 w2 hk => ⟨by simpa using h1.2, hk⟩) h3
  · rename_i hg
    rw [if_neg hg] at h3
    exact ⟨h3.1, by simpa using h1.2, h3.2⟩
end
/-- the worlds in which nothing that lay in w has turned -/
structure Lat (w : World) : Type where
  at_ : World
  ok : Below w.heap.size w at_
instance latIn (w : World) : Nonempty (Lat w) := ⟨⟨w, Below.refl _ _⟩⟩
abbrev Latr (w : World) : World → Prop := fun w' => ∃ s : Lat w, w' = s.at_
theorem latr_drew {w w2 : World} (h : Below w.heap.size w w2) : Latr w w2.drew := ⟨⟨w2.drew, h.trans (show Below w.heap.size w2 w2.drew from ⟨rfl, rfl, rfl, Nat.le_refl _, fun _ _ => rfl⟩)⟩, rfl⟩
/-- a callee that turns nothing, within a calm region -/
theorem calm_call {P : Program} {f : FuncId} {args : Array Value} {w : World} {s : Lat w} {v : Value} (h : Calls P f args s.at_ fun e w' => e = .returned v ∧ Below s.at_.heap.size s.at_ w') : Calls P f args s.at_ fun e w'' => e = .returned v ∧ ∃ s' : Lat w, w'' = s'.at_ :=
  h.mono fun _ w'' ⟨he, hb⟩ => ⟨he, ⟨w'', s.ok.trans (hb.mono s.ok.size)⟩, rfl⟩
end Go.Proofs.YtkooconjkimgoaaDoor
