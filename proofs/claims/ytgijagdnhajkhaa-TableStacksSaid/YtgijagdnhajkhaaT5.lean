/- A table's calls: Cut. -/
import Derived.Test.YtgijagdnhajkhaaT4
namespace Go.Proofs.Ytgijagdnhajkhaa
open Go.RowKit

/-- the map tells all keys but those of the places from n to n + j -/
structure TellsCuts (D : DataW Unit) (ks : List ByteArray) (n j : Nat) : Prop where
  has : ∀ x : ByteArray, x.size ≤ maxLen → Maps.has D (Lit.string x.data.toList) = decide (x ∈ ks ∧ ¬ (n ≤ ks.idxOf x ∧ ks.idxOf x < n + j))
  at_ : ∀ x : ByteArray, x ∈ ks → ¬ (n ≤ ks.idxOf x ∧ ks.idxOf x < n + j) → D.atKey (Lit.string x.data.toList) (.lit (.int .i64 0)) = .lit (.int .i64 (ks.idxOf x : Nat))
  size : Maps.size D + j = ks.length

theorem TellsCuts.start {D : DataW Unit} {ks : List ByteArray} (h : Tellss D ks) (n : Nat) : TellsCuts D ks n 0 :=
  ⟨fun x hx => by rw [h.has x hx]; congr 1; apply propext; exact ⟨fun q => ⟨q, by omega⟩, fun q => q.1⟩, fun x hx _ => h.at_ x hx, h.size⟩
theorem TellsCuts.done {D : DataW Unit} {ks : List ByteArray} {n : Nat} (h : TellsCuts D ks n (ks.length - n)) (hn : n ≤ ks.length) : Tellss D (ks.take n) := by
  refine ⟨fun x hx => ?_, fun x hx => ?_, ?_⟩
  · rw [h.has x hx]
    congr 1
    apply propext
    constructor
    · rintro ⟨q1, q2⟩
      have := idx_lt q1
      exact (mem_take_iff q1).2 (by omega)
    · intro q
      have q1 := List.mem_of_mem_take q
      have := (mem_take_iff q1).1 q
      exact ⟨q1, by omega⟩
  · have q1 := List.mem_of_mem_take hx
    have := (mem_take_iff q1).1 hx
    rw [h.at_ x q1 (by omega), idx_take hx]
  · have := h.size
    rw [List.length_take]
    omega
theorem TellsCuts.step {D : DataW Unit} {ks : List ByteArray} {n j : Nat} {y : ByteArray} (h : TellsCuts D ks n j) (ht : Maps.Tidy D) (nd : ks.Nodup) (hy : ks[n + j]? = some y) (hok : y.size ≤ maxLen) : TellsCuts (D.del (Lit.string y.data.toList)) ks n (j + 1) := by
  have hne : ∀ x : ByteArray, x ≠ y → (Lit.string x.data.toList) ≠ (Lit.string y.data.toList) := fun x hx e => hx (by
    first
    | (simpa using e)
    | (injection e with e1; exact ByteArray.ext (Array.toList_inj.1 e1)))
  have hi := idx_at nd hy
  have hm := List.mem_of_getElem? hy
  refine ⟨fun x hx => ?_, fun x hx hn => ?_, ?_⟩
  · by_cases e : x = y
    · subst e
      rw [Maps.has_del_same]
      exact (decide_eq_false (by rw [hi]; omega)).symm
    · rw [Maps.has_del_other (hne x e), h.has x hx]
      congr 1
      apply propext
      constructor
      · rintro ⟨q1, q2⟩
        refine ⟨q1, fun q3 => ?_⟩
        have q4 : ks.idxOf x = n + j := by omega
        have := idx_get q1
        rw [q4, hy] at this
        exact e (Option.some.inj this).symm
      · rintro ⟨q1, q2⟩
        exact ⟨q1, by omega⟩
  · have e : x ≠ y := fun e => by subst e; rw [hi] at hn; omega
    rw [Maps.atKey_del_other (hne x e)]
    exact h.at_ x hx (by omega)
  · have := Maps.size_del (k := (Lit.string y.data.toList)) ht
    rw [h.has y hok, decide_eq_true ⟨hm, by rw [hi]; omega⟩, if_pos rfl] at this
    have := h.size
    omega

/-- Cut under way: j keys are gone from the map -/
structure Cuttings (w : World) (F : Nat → Prop) (tb : Nat) (ks : List ByteArray) (n g c mb j : Nat) (wr : World) : Prop where
  lies : Lies wr tb 28 #[.map (some mb), .slice (some ⟨g, 0, none⟩) ks.length c]
  own : wr.ownsRow 0 9 1 (.slice (some ⟨g, 0, none⟩) ks.length c) ks.length (ks.map fun x => (.string x))
  map : ∃ D : DataW Unit, wr.ownsMap Try.prog 9 (plainElem Try.prog 3) mb ks.length D ∧ TellsCuts D ks n j
  turn : Turn F w wr

theorem Cuttings.step {w wr w1 w2 : World} {F : Nat → Prop} {tb n g c mb j : Nat} {ks : List ByteArray} {D : DataW Unit} {y : ByteArray} (h : Cuttings w F tb ks n g c mb j wr) (hF : F mb) (b1 : Below wr.heap.size wr w1)
    (ho : w2.ownsMap Try.prog 9 (plainElem (H := Unit) Try.prog 3) mb ks.length (D.del (Lit.string y.data.toList))) (hm : w1.mapTurned w2 mb) (ht : TellsCuts D ks n j) (hd : Maps.Tidy D) (nd : ks.Nodup) (hy : ks[n + j]? = some y) (hok : y.size ≤ maxLen) :
    Cuttings w F tb ks n g c mb (j + 1) w2 := by
  obtain ⟨h1, h2, ⟨D0, h3, _⟩, h4⟩ := h
  have l1 := (Turn.of_below (F := fun _ => False) b1).lies h1 id
  have o1 := (Turn.of_below (F := fun _ => False) b1).own h2 (fun _ _ => id)
  have t2 : Turn (fun i => i = mb) w1 w2 := Turn.of_grown hm.grown (fun g e _ => (Option.some.inj e).symm)
  refine ⟨t2.lies l1 (fun e => lies_not_map h1 h3 e), t2.own o1 (fun g hg e => own_not_map h2 h3 (e ▸ hg)), ⟨_, ho, ht.step hd nd hy hok⟩, (h4.step b1).trans t2 (fun i e => .inl (e ▸ hF))⟩

theorem cuts (w : World) (F : Nat → Prop) (tb : Nat) (ks : List ByteArray) (i : Int) (n : Nat) (hi : i.toNat = n) (h : Tabs w F tb ks) :
    Calls Try.prog 10 #[.pointer (some ⟨tb, 0, none⟩), .int .i64 i] w fun e w' => e = .returned (.tuple #[]) ∧ Lefts w F tb (ks.take n) w' := by
  have HL := Lib.hid fun W (hW : Tabs W F tb ks) => lens W F tb ks hW
  have H := Lib.hid h
  have few := h.few
  obtain ⟨q, HQ⟩ : ∃ q, Hid (q = ks.length) := ⟨_, rfl⟩
  rw [← HQ.out] at HL
  rw [← HQ.out] at few
  by_cases hge : q ≤ n
  · have HO : Hid (Lefts w F tb (ks.take n) w) := by
      show Lefts w F tb (ks.take n) w
      rw [List.take_of_length_le (by rw [← HQ.out]; exact hge)]
      exact ⟨F, h, Turn.refl _ _, fun _ e => e, fun _ e => .inl e⟩
    have HI := Lib.hid hi
    clear h hi
    by_cases hneg : i < 0
    · have hq0 : q = 0 := by have := HI.out; omega
      subst hq0
      go_enter Try.func10, Try.ntmps10
      go_wp2_with (go_at_call 16; refine (HL.out _ H.out).mono ?_; rintro e w1 ⟨rfl, rfl⟩)
      refine bodyPost_ret (results_none rfl _ _ _) rfl ?_
      exact ⟨rfl, HO.out⟩
    · obtain rfl : i = (n : Int) := by have := HI.out; omega
      clear HI
      go_enter Try.func10, Try.ntmps10
      go_wp2_with (go_at_call 16; refine (HL.out _ H.out).mono ?_; rintro e w1 ⟨rfl, rfl⟩)
      refine bodyPost_ret (results_none rfl _ _ _) rfl ?_
      exact ⟨rfl, HO.out⟩
  · have hn : n < q := by omega
    obtain ⟨m, A, c, h1, h2, h3, h4⟩ := h.keys
    obtain ⟨_, nd, ok, inn, lt, _⟩ := h
    rcases h4 with ⟨_, rfl⟩ | ⟨mb, D, rfl, hF, ho, ht⟩
    · have := HQ.out
      simp at this
      omega
    obtain ⟨g, rfl, hgF, hcap, hcm⟩ : ∃ g, A = some ⟨g, 0, none⟩ ∧ F g ∧ q ≤ c ∧ c ≤ maxLen := by
      rcases h2.2 with ⟨e, h0⟩ | ⟨g, cap, cur, e, _, _, q1, q2, _⟩
      · have := HQ.out
        omega
      · injection e with e1 e2 e3
        subst e1
        subst e3
        exact ⟨g, rfl, h3 g rfl, by rw [HQ.out]; exact q1, q2⟩
    have hcut : Cuttings w F tb ks n g c mb 0 w := ⟨h1, h2, ⟨D, ho, TellsCuts.start ht n⟩, Turn.refl _ _⟩
    have hlt := h1.lt
    have HC := Lib.hid hcut
    have HND := Lib.hid nd
    have HOK := Lib.hid ok
    have HLT := Lib.hid lt
    have c1 := h1.cell 1
    simp at c1
    rw [← HQ.out] at c1
    unfold maxLen at hcm
    -- what each round finds
    have HR : Hid (∀ j p wr, p = n + j → j < q - n → Cuttings w F tb ks n g c mb j wr → ∃ (y : ByteArray) (D : DataW Unit), ks[n + j]? = some y ∧ y.size ≤ maxLen ∧ wr.cell? ⟨g, p, none⟩ = some (.string y) ∧ tb < wr.heap.size ∧ g < wr.heap.size ∧
        wr.cell? ⟨tb, 0, none⟩ = some (.map (some mb)) ∧ wr.ownsMap Try.prog 9 (plainElem Try.prog 3) mb q D ∧ TellsCuts D ks n j ∧ Maps.Tidy D) := fun j p wr hp hj hc => by
      subst hp
      obtain ⟨l, o, ⟨D, hm, hD⟩, _⟩ := hc
      have hlen : n + j < ks.length := by rw [← HQ.out]; omega
      refine ⟨ks[n + j], D, List.getElem?_eq_getElem hlen, HOK.out _ (List.getElem_mem hlen), ?_, l.lt, (o.lt g rfl).2, (l.cell 0).trans (by simp), by rw [HQ.out]; exact hm, hD, hm.tidy laws⟩
      have := o.cells (g := g) rfl (n + j) (.string ks[n + j]) (by rw [List.getElem?_map, List.getElem?_eq_getElem hlen]; rfl)
      rw [show (⟨g, 0, none⟩ : Addr).add (n + j) = ⟨g, n + j, none⟩ by unfold Addr.add; split <;> simp_all] at this
      exact this
    -- what is found behind the loop
    have HE : Hid (∀ wr, Cuttings w F tb ks n g c mb (q - n) wr → tb < wr.heap.size ∧ wr.cell? ⟨tb, 1, none⟩ = some (.slice (some ⟨g, 0, none⟩) q c) ∧ wr.ownsRow 0 9 1 (.slice (some ⟨g, 0, none⟩) q c) q (ks.map fun x => (.string x))) := fun wr hc => by
      obtain ⟨l, o, _, _⟩ := hc
      rw [← HQ.out] at l o
      exact ⟨l.lt, (l.cell 1).trans (by simp), o⟩
    have HS : Hid (∀ wr w2, Cuttings w F tb ks n g c mb (q - n) wr → wr.grownBy w2 (some g) → tb < w2.heap.size ∧ w2.cell? ⟨tb, 1, none⟩ = some (.slice (some ⟨g, 0, none⟩) q c) ∧ w2.frozen? ⟨tb, 1, none⟩ = false) := fun wr w2 hc g2 => by
      obtain ⟨l, o, _, _⟩ := hc
      have l2 := (Turn.of_grown (F := fun i => i = g) g2 (fun g e _ => (Option.some.inj e).symm)).lies l (fun e => own_not_lies o l (by decide) (congrArg some e.symm))
      rw [← HQ.out] at l2
      exact ⟨l2.lt, (l2.cell 1).trans (by simp), l2.free 1⟩
    have HF : Hid (∀ wr A' c' w2, Cuttings w F tb ks n g c mb (q - n) wr → wr.grownBy w2 (some g) → w2.ownsRow 0 9 1 (.slice A' n c') n ((ks.map fun x => (.string x)).take n) → (Value.slice A' n c').ownBlock = some g →
        Lefts w F tb (ks.take n) (w2.setCell ⟨tb, 1, none⟩ (.slice A' n c'))) := fun wr A' c' w2 hc g2 o2 hg2 => by
      obtain ⟨l, o, ⟨D, hm, hD⟩, ht⟩ := hc
      have t2 : Turn (fun i => i = g) wr w2 := Turn.of_grown g2 (fun g e _ => (Option.some.inj e).symm)
      have l2 := t2.lies l (fun e => own_not_lies o l (by decide) (congrArg some e.symm))
      have m2 := t2.map hm (fun e => own_not_map o hm (congrArg some e.symm))
      have l3 := l2.put 1 (.slice A' n c')
      have t3 : Turn (fun i => i = tb) w2 (w2.setCell ⟨tb, 1, none⟩ (.slice A' n c')) := (Turn.refl (fun i => i = tb) w2).put (p := ⟨tb, 1, none⟩) (.inl rfl) _
      have m3 := t3.map m2 (fun e => lies_not_map l hm e.symm)
      have o3 := t3.own o2 (fun g' hg' e => own_not_lies o l (by decide) (by rw [hg2] at hg'; exact hg'.trans (congrArg some e)))
      have hlen : (ks.take n).length = n := by rw [List.length_take, ← HQ.out]; omega
      have hD' : Tellss D (ks.take n) := TellsCuts.done (by rw [← HQ.out]; exact hD) (by rw [← HQ.out]; omega)
      have tt : Turn F w (w2.setCell ⟨tb, 1, none⟩ (.slice A' n c')) := (ht.trans t2 (fun i e => .inl (e ▸ hgF))).put (p := ⟨tb, 1, none⟩) (.inl inn) _
      refine ⟨F, ⟨⟨_, _, l3, by rw [hlen, List.map_take]; exact o3, fun g' hg' => ?_, .inr ⟨mb, D, rfl, hF, ?_, hD'⟩⟩, HND.out.sublist (List.take_sublist _ _), fun x hx => HOK.out x (List.mem_of_mem_take hx), inn, fun i hi => Nat.lt_of_lt_of_le (HLT.out i hi) tt.size, by rw [hlen]; omega⟩, tt, fun _ e => e, fun _ e => .inl e⟩
      · rw [hg2] at hg'
        exact Option.some.inj hg' ▸ hgF
      · exact ownsMap_tight m3 (by rw [hD'.size]; exact Nat.le_refl _)
    obtain ⟨L, HL2⟩ : ∃ L : List Value, Hid (L = ks.map fun x => (.string x)) := ⟨_, rfl⟩
    rw [← HL2.out] at HE HF
    have HI := Lib.hid hi
    clear h1 h2 h3 ho ht hcut nd ok lt hgF inn HLT hi hge
    by_cases hneg : i < 0
    · obtain rfl : n = 0 := by have := HI.out; omega
      have hq0 : ¬ (q : Int) ≤ 0 := by omega
      have hdq : decide (q = 0) = false := decide_eq_false (by omega)
      clear HI
      go_enter Try.func10, Try.ntmps10
      go_wp2_with (go_at_call 16; refine (HL.out _ H.out).mono ?_; rintro e w1 ⟨rfl, rfl⟩)
      go_loopw [19] (fun iv wr => ∃ j : Nat, j ≤ q - 0 ∧ iv = .int .i64 (j : Nat) ∧ Cuttings w1 F tb ks 0 g c mb j wr) (fun iv _ => q - 0 - (intOf iv).toNat)
      case atStart => exact ⟨0, Nat.zero_le _, rfl, HC.out⟩
      case round =>
        obtain ⟨j, hj, rfl, hc⟩ := hrel
        have HCu := Lib.hid hc
        by_cases hlt2 : j < q - 0
        · obtain ⟨y, D, hy, hok, cy, z0, zg, y0, hD, hT, hTi⟩ := HR.out j j wr (by omega) hlt2 hc
          have hkey := WideMaps.keyOf_string_mk (P := Try.prog) Try.underlying9 hok
          have Hy := Lib.hid hy
          have HT := Lib.hid hT
          have HTi := Lib.hid hTi
          clear hc hy hT hTi
          go_wp2_with (first
            | (go_at_call 36; refine (sames _ _).mono ?_; rintro e w2 ⟨rfl, b2⟩; have y1 := (b2.cell (p := ⟨tb, 0, none⟩) z0).trans y0)
            | (at_delete; refine wpList_delete_own _ rfl _ _ 25 9 rfl 3 laws Try.underlying25 (plainElem (H := Unit) Try.prog 3) mb q D rfl ((Turn.of_below (F := fun _ => False) b2).map hD id) _ _ rfl hkey ?_; intro w3 hown3 hturn3; go_frame))
          go_roundw
          case rel => exact ⟨j + 1, by omega, by go_num, HCu.out.step hF b2 (by rw [← HQ.out]; exact hown3) hturn3 HT.out HTi.out HND.out Hy.out hok⟩
          case measure => simp [intOf]; omega
        · obtain rfl : q = j := by omega
          obtain ⟨z0, y1, o1⟩ := HE.out wr hc
          have HLo := Lib.hid (lowers wr _ q 0 L (by omega) o1)
          clear hc o1
          go_wp2_with (go_at_call 37; refine HLo.out.mono ?_; rintro e w2 ⟨v2, rfl, o2, g2, k2⟩; obtain ⟨A2, c2, rfl⟩ := own_form o2; obtain ⟨z3, y3, f3⟩ := HS.out wr w2 HCu.out g2; have HFi := Lib.hid (HF.out wr A2 c2 w2 HCu.out g2 o2 k2); clear o2 g2 k2)
          go_end0
          exact ⟨rfl, HFi.out⟩
    · obtain rfl : i = (n : Int) := by have := HI.out; omega
      have hq0 : ¬ (q : Int) ≤ (n : Int) := by omega
      have hdq : decide (q ≤ n) = false := decide_eq_false (by omega)
      have hcn : ¬ c = n := by omega
      clear HI
      go_enter Try.func10, Try.ntmps10
      go_wp2_with (go_at_call 16; refine (HL.out _ H.out).mono ?_; rintro e w1 ⟨rfl, rfl⟩)
      go_loopw [19] (fun iv wr => ∃ j : Nat, j ≤ q - n ∧ iv = .int .i64 (j : Nat) ∧ Cuttings w1 F tb ks n g c mb j wr) (fun iv _ => q - n - (intOf iv).toNat)
      case atStart => exact ⟨0, Nat.zero_le _, rfl, HC.out⟩
      case round =>
        obtain ⟨j, hj, rfl, hc⟩ := hrel
        have HCu := Lib.hid hc
        by_cases hlt2 : j < q - n
        · obtain ⟨y, D, hy, hok, cy, z0, zg, y0, hD, hT, hTi⟩ := HR.out j (n + j) wr (by omega) hlt2 hc
          have hkey := WideMaps.keyOf_string_mk (P := Try.prog) Try.underlying9 hok
          have Hy := Lib.hid hy
          have HT := Lib.hid hT
          have HTi := Lib.hid hTi
          clear hc hy hT hTi
          go_wp2_with (first
            | (go_at_call 36; refine (sames _ _).mono ?_; rintro e w2 ⟨rfl, b2⟩; have y1 := (b2.cell (p := ⟨tb, 0, none⟩) z0).trans y0)
            | (at_delete; refine wpList_delete_own _ rfl _ _ 25 9 rfl 3 laws Try.underlying25 (plainElem (H := Unit) Try.prog 3) mb q D rfl ((Turn.of_below (F := fun _ => False) b2).map hD id) _ _ rfl hkey ?_; intro w3 hown3 hturn3; go_frame))
          go_roundw
          case rel => exact ⟨j + 1, by omega, by go_num, HCu.out.step hF b2 (by rw [← HQ.out]; exact hown3) hturn3 HT.out HTi.out HND.out Hy.out hok⟩
          case measure => simp [intOf]; omega
        · obtain rfl : j = q - n := by omega
          obtain ⟨z0, y1, o1⟩ := HE.out wr hc
          have HLo := Lib.hid (lowers wr _ q n L (by omega) o1)
          clear hc o1
          go_wp2_with (go_at_call 37; refine HLo.out.mono ?_; rintro e w2 ⟨v2, rfl, o2, g2, k2⟩; obtain ⟨A2, c2, rfl⟩ := own_form o2; obtain ⟨z3, y3, f3⟩ := HS.out wr w2 HCu.out g2; have HFi := Lib.hid (HF.out wr A2 c2 w2 HCu.out g2 o2 k2); clear o2 g2 k2)
          go_end0
          exact ⟨rfl, HFi.out⟩

/-- the map tells all keys but those of the places from n to n + j -/
structure TellsCuti (D : DataW Unit) (ks : List Int) (n j : Nat) : Prop where
  has : ∀ x : Int, (Lit.int .i64 x).wf = true → Maps.has D (Lit.int .i64 x) = decide (x ∈ ks ∧ ¬ (n ≤ ks.idxOf x ∧ ks.idxOf x < n + j))
  at_ : ∀ x : Int, x ∈ ks → ¬ (n ≤ ks.idxOf x ∧ ks.idxOf x < n + j) → D.atKey (Lit.int .i64 x) (.lit (.int .i64 0)) = .lit (.int .i64 (ks.idxOf x : Nat))
  size : Maps.size D + j = ks.length

theorem TellsCuti.start {D : DataW Unit} {ks : List Int} (h : Tellsi D ks) (n : Nat) : TellsCuti D ks n 0 :=
  ⟨fun x hx => by rw [h.has x hx]; congr 1; apply propext; exact ⟨fun q => ⟨q, by omega⟩, fun q => q.1⟩, fun x hx _ => h.at_ x hx, h.size⟩
theorem TellsCuti.done {D : DataW Unit} {ks : List Int} {n : Nat} (h : TellsCuti D ks n (ks.length - n)) (hn : n ≤ ks.length) : Tellsi D (ks.take n) := by
  refine ⟨fun x hx => ?_, fun x hx => ?_, ?_⟩
  · rw [h.has x hx]
    congr 1
    apply propext
    constructor
    · rintro ⟨q1, q2⟩
      have := idx_lt q1
      exact (mem_take_iff q1).2 (by omega)
    · intro q
      have q1 := List.mem_of_mem_take q
      have := (mem_take_iff q1).1 q
      exact ⟨q1, by omega⟩
  · have q1 := List.mem_of_mem_take hx
    have := (mem_take_iff q1).1 hx
    rw [h.at_ x q1 (by omega), idx_take hx]
  · have := h.size
    rw [List.length_take]
    omega
theorem TellsCuti.step {D : DataW Unit} {ks : List Int} {n j : Nat} {y : Int} (h : TellsCuti D ks n j) (ht : Maps.Tidy D) (nd : ks.Nodup) (hy : ks[n + j]? = some y) (hok : (Lit.int .i64 y).wf = true) : TellsCuti (D.del (Lit.int .i64 y)) ks n (j + 1) := by
  have hne : ∀ x : Int, x ≠ y → (Lit.int .i64 x) ≠ (Lit.int .i64 y) := fun x hx e => hx (by
    first
    | (simpa using e)
    | (injection e with e1; exact ByteArray.ext (Array.toList_inj.1 e1)))
  have hi := idx_at nd hy
  have hm := List.mem_of_getElem? hy
  refine ⟨fun x hx => ?_, fun x hx hn => ?_, ?_⟩
  · by_cases e : x = y
    · subst e
      rw [Maps.has_del_same]
      exact (decide_eq_false (by rw [hi]; omega)).symm
    · rw [Maps.has_del_other (hne x e), h.has x hx]
      congr 1
      apply propext
      constructor
      · rintro ⟨q1, q2⟩
        refine ⟨q1, fun q3 => ?_⟩
        have q4 : ks.idxOf x = n + j := by omega
        have := idx_get q1
        rw [q4, hy] at this
        exact e (Option.some.inj this).symm
      · rintro ⟨q1, q2⟩
        exact ⟨q1, by omega⟩
  · have e : x ≠ y := fun e => by subst e; rw [hi] at hn; omega
    rw [Maps.atKey_del_other (hne x e)]
    exact h.at_ x hx (by omega)
  · have := Maps.size_del (k := (Lit.int .i64 y)) ht
    rw [h.has y hok, decide_eq_true ⟨hm, by rw [hi]; omega⟩, if_pos rfl] at this
    have := h.size
    omega

/-- Cut under way: j keys are gone from the map -/
structure Cuttingi (w : World) (F : Nat → Prop) (tb : Nat) (ks : List Int) (n g c mb j : Nat) (wr : World) : Prop where
  lies : Lies wr tb 67 #[.map (some mb), .slice (some ⟨g, 0, none⟩) ks.length c]
  own : wr.ownsRow 0 3 1 (.slice (some ⟨g, 0, none⟩) ks.length c) ks.length (ks.map fun x => (.int .i64 x))
  map : ∃ D : DataW Unit, wr.ownsMap Try.prog 3 (plainElem Try.prog 3) mb ks.length D ∧ TellsCuti D ks n j
  turn : Turn F w wr

theorem Cuttingi.step {w wr w1 w2 : World} {F : Nat → Prop} {tb n g c mb j : Nat} {ks : List Int} {D : DataW Unit} {y : Int} (h : Cuttingi w F tb ks n g c mb j wr) (hF : F mb) (b1 : Below wr.heap.size wr w1)
    (ho : w2.ownsMap Try.prog 3 (plainElem (H := Unit) Try.prog 3) mb ks.length (D.del (Lit.int .i64 y))) (hm : w1.mapTurned w2 mb) (ht : TellsCuti D ks n j) (hd : Maps.Tidy D) (nd : ks.Nodup) (hy : ks[n + j]? = some y) (hok : (Lit.int .i64 y).wf = true) :
    Cuttingi w F tb ks n g c mb (j + 1) w2 := by
  obtain ⟨h1, h2, ⟨D0, h3, _⟩, h4⟩ := h
  have l1 := (Turn.of_below (F := fun _ => False) b1).lies h1 id
  have o1 := (Turn.of_below (F := fun _ => False) b1).own h2 (fun _ _ => id)
  have t2 : Turn (fun i => i = mb) w1 w2 := Turn.of_grown hm.grown (fun g e _ => (Option.some.inj e).symm)
  refine ⟨t2.lies l1 (fun e => lies_not_map h1 h3 e), t2.own o1 (fun g hg e => own_not_map h2 h3 (e ▸ hg)), ⟨_, ho, ht.step hd nd hy hok⟩, (h4.step b1).trans t2 (fun i e => .inl (e ▸ hF))⟩

theorem cuti (w : World) (F : Nat → Prop) (tb : Nat) (ks : List Int) (i : Int) (n : Nat) (hi : i.toNat = n) (h : Tabi w F tb ks) :
    Calls Try.prog 35 #[.pointer (some ⟨tb, 0, none⟩), .int .i64 i] w fun e w' => e = .returned (.tuple #[]) ∧ Lefti w F tb (ks.take n) w' := by
  have HL := Lib.hid fun W (hW : Tabi W F tb ks) => leni W F tb ks hW
  have H := Lib.hid h
  have few := h.few
  obtain ⟨q, HQ⟩ : ∃ q, Hid (q = ks.length) := ⟨_, rfl⟩
  rw [← HQ.out] at HL
  rw [← HQ.out] at few
  by_cases hge : q ≤ n
  · have HO : Hid (Lefti w F tb (ks.take n) w) := by
      show Lefti w F tb (ks.take n) w
      rw [List.take_of_length_le (by rw [← HQ.out]; exact hge)]
      exact ⟨F, h, Turn.refl _ _, fun _ e => e, fun _ e => .inl e⟩
    have HI := Lib.hid hi
    clear h hi
    by_cases hneg : i < 0
    · have hq0 : q = 0 := by have := HI.out; omega
      subst hq0
      go_enter Try.func35, Try.ntmps35
      go_wp2_with (go_at_call 34; refine (HL.out _ H.out).mono ?_; rintro e w1 ⟨rfl, rfl⟩)
      refine bodyPost_ret (results_none rfl _ _ _) rfl ?_
      exact ⟨rfl, HO.out⟩
    · obtain rfl : i = (n : Int) := by have := HI.out; omega
      clear HI
      go_enter Try.func35, Try.ntmps35
      go_wp2_with (go_at_call 34; refine (HL.out _ H.out).mono ?_; rintro e w1 ⟨rfl, rfl⟩)
      refine bodyPost_ret (results_none rfl _ _ _) rfl ?_
      exact ⟨rfl, HO.out⟩
  · have hn : n < q := by omega
    obtain ⟨m, A, c, h1, h2, h3, h4⟩ := h.keys
    obtain ⟨_, nd, ok, inn, lt, _⟩ := h
    rcases h4 with ⟨_, rfl⟩ | ⟨mb, D, rfl, hF, ho, ht⟩
    · have := HQ.out
      simp at this
      omega
    obtain ⟨g, rfl, hgF, hcap, hcm⟩ : ∃ g, A = some ⟨g, 0, none⟩ ∧ F g ∧ q ≤ c ∧ c ≤ maxLen := by
      rcases h2.2 with ⟨e, h0⟩ | ⟨g, cap, cur, e, _, _, q1, q2, _⟩
      · have := HQ.out
        omega
      · injection e with e1 e2 e3
        subst e1
        subst e3
        exact ⟨g, rfl, h3 g rfl, by rw [HQ.out]; exact q1, q2⟩
    have hcut : Cuttingi w F tb ks n g c mb 0 w := ⟨h1, h2, ⟨D, ho, TellsCuti.start ht n⟩, Turn.refl _ _⟩
    have hlt := h1.lt
    have HC := Lib.hid hcut
    have HND := Lib.hid nd
    have HOK := Lib.hid ok
    have HLT := Lib.hid lt
    have c1 := h1.cell 1
    simp at c1
    rw [← HQ.out] at c1
    unfold maxLen at hcm
    -- what each round finds
    have HR : Hid (∀ j p wr, p = n + j → j < q - n → Cuttingi w F tb ks n g c mb j wr → ∃ (y : Int) (D : DataW Unit), ks[n + j]? = some y ∧ (Lit.int .i64 y).wf = true ∧ wr.cell? ⟨g, p, none⟩ = some (.int .i64 y) ∧ tb < wr.heap.size ∧ g < wr.heap.size ∧
        wr.cell? ⟨tb, 0, none⟩ = some (.map (some mb)) ∧ wr.ownsMap Try.prog 3 (plainElem Try.prog 3) mb q D ∧ TellsCuti D ks n j ∧ Maps.Tidy D) := fun j p wr hp hj hc => by
      subst hp
      obtain ⟨l, o, ⟨D, hm, hD⟩, _⟩ := hc
      have hlen : n + j < ks.length := by rw [← HQ.out]; omega
      refine ⟨ks[n + j], D, List.getElem?_eq_getElem hlen, HOK.out _ (List.getElem_mem hlen), ?_, l.lt, (o.lt g rfl).2, (l.cell 0).trans (by simp), by rw [HQ.out]; exact hm, hD, hm.tidy lawi⟩
      have := o.cells (g := g) rfl (n + j) (.int .i64 ks[n + j]) (by rw [List.getElem?_map, List.getElem?_eq_getElem hlen]; rfl)
      rw [show (⟨g, 0, none⟩ : Addr).add (n + j) = ⟨g, n + j, none⟩ by unfold Addr.add; split <;> simp_all] at this
      exact this
    -- what is found behind the loop
    have HE : Hid (∀ wr, Cuttingi w F tb ks n g c mb (q - n) wr → tb < wr.heap.size ∧ wr.cell? ⟨tb, 1, none⟩ = some (.slice (some ⟨g, 0, none⟩) q c) ∧ wr.ownsRow 0 3 1 (.slice (some ⟨g, 0, none⟩) q c) q (ks.map fun x => (.int .i64 x))) := fun wr hc => by
      obtain ⟨l, o, _, _⟩ := hc
      rw [← HQ.out] at l o
      exact ⟨l.lt, (l.cell 1).trans (by simp), o⟩
    have HS : Hid (∀ wr w2, Cuttingi w F tb ks n g c mb (q - n) wr → wr.grownBy w2 (some g) → tb < w2.heap.size ∧ w2.cell? ⟨tb, 1, none⟩ = some (.slice (some ⟨g, 0, none⟩) q c) ∧ w2.frozen? ⟨tb, 1, none⟩ = false) := fun wr w2 hc g2 => by
      obtain ⟨l, o, _, _⟩ := hc
      have l2 := (Turn.of_grown (F := fun i => i = g) g2 (fun g e _ => (Option.some.inj e).symm)).lies l (fun e => own_not_lies o l (by decide) (congrArg some e.symm))
      rw [← HQ.out] at l2
      exact ⟨l2.lt, (l2.cell 1).trans (by simp), l2.free 1⟩
    have HF : Hid (∀ wr A' c' w2, Cuttingi w F tb ks n g c mb (q - n) wr → wr.grownBy w2 (some g) → w2.ownsRow 0 3 1 (.slice A' n c') n ((ks.map fun x => (.int .i64 x)).take n) → (Value.slice A' n c').ownBlock = some g →
        Lefti w F tb (ks.take n) (w2.setCell ⟨tb, 1, none⟩ (.slice A' n c'))) := fun wr A' c' w2 hc g2 o2 hg2 => by
      obtain ⟨l, o, ⟨D, hm, hD⟩, ht⟩ := hc
      have t2 : Turn (fun i => i = g) wr w2 := Turn.of_grown g2 (fun g e _ => (Option.some.inj e).symm)
      have l2 := t2.lies l (fun e => own_not_lies o l (by decide) (congrArg some e.symm))
      have m2 := t2.map hm (fun e => own_not_map o hm (congrArg some e.symm))
      have l3 := l2.put 1 (.slice A' n c')
      have t3 : Turn (fun i => i = tb) w2 (w2.setCell ⟨tb, 1, none⟩ (.slice A' n c')) := (Turn.refl (fun i => i = tb) w2).put (p := ⟨tb, 1, none⟩) (.inl rfl) _
      have m3 := t3.map m2 (fun e => lies_not_map l hm e.symm)
      have o3 := t3.own o2 (fun g' hg' e => own_not_lies o l (by decide) (by rw [hg2] at hg'; exact hg'.trans (congrArg some e)))
      have hlen : (ks.take n).length = n := by rw [List.length_take, ← HQ.out]; omega
      have hD' : Tellsi D (ks.take n) := TellsCuti.done (by rw [← HQ.out]; exact hD) (by rw [← HQ.out]; omega)
      have tt : Turn F w (w2.setCell ⟨tb, 1, none⟩ (.slice A' n c')) := (ht.trans t2 (fun i e => .inl (e ▸ hgF))).put (p := ⟨tb, 1, none⟩) (.inl inn) _
      refine ⟨F, ⟨⟨_, _, l3, by rw [hlen, List.map_take]; exact o3, fun g' hg' => ?_, .inr ⟨mb, D, rfl, hF, ?_, hD'⟩⟩, HND.out.sublist (List.take_sublist _ _), fun x hx => HOK.out x (List.mem_of_mem_take hx), inn, fun i hi => Nat.lt_of_lt_of_le (HLT.out i hi) tt.size, by rw [hlen]; omega⟩, tt, fun _ e => e, fun _ e => .inl e⟩
      · rw [hg2] at hg'
        exact Option.some.inj hg' ▸ hgF
      · exact ownsMap_tight m3 (by rw [hD'.size]; exact Nat.le_refl _)
    obtain ⟨L, HL2⟩ : ∃ L : List Value, Hid (L = ks.map fun x => (.int .i64 x)) := ⟨_, rfl⟩
    rw [← HL2.out] at HE HF
    have HI := Lib.hid hi
    clear h1 h2 h3 ho ht hcut nd ok lt hgF inn HLT hi hge
    by_cases hneg : i < 0
    · obtain rfl : n = 0 := by have := HI.out; omega
      have hq0 : ¬ (q : Int) ≤ 0 := by omega
      have hdq : decide (q = 0) = false := decide_eq_false (by omega)
      clear HI
      go_enter Try.func35, Try.ntmps35
      go_wp2_with (go_at_call 34; refine (HL.out _ H.out).mono ?_; rintro e w1 ⟨rfl, rfl⟩)
      go_loopw [19] (fun iv wr => ∃ j : Nat, j ≤ q - 0 ∧ iv = .int .i64 (j : Nat) ∧ Cuttingi w1 F tb ks 0 g c mb j wr) (fun iv _ => q - 0 - (intOf iv).toNat)
      case atStart => exact ⟨0, Nat.zero_le _, rfl, HC.out⟩
      case round =>
        obtain ⟨j, hj, rfl, hc⟩ := hrel
        have HCu := Lib.hid hc
        by_cases hlt2 : j < q - 0
        · obtain ⟨y, D, hy, hok, cy, z0, zg, y0, hD, hT, hTi⟩ := HR.out j j wr (by omega) hlt2 hc
          have hkey := Maps.keyOf_int_mk (P := Try.prog) Try.underlying3 hok
          have Hy := Lib.hid hy
          have HT := Lib.hid hT
          have HTi := Lib.hid hTi
          clear hc hy hT hTi
          go_wp2_with (first
            | (go_at_call 42; refine (samei _ _).mono ?_; rintro e w2 ⟨rfl, b2⟩; have y1 := (b2.cell (p := ⟨tb, 0, none⟩) z0).trans y0)
            | (at_delete; refine wpList_delete_own _ rfl _ _ 65 3 rfl 3 lawi Try.underlying65 (plainElem (H := Unit) Try.prog 3) mb q D rfl ((Turn.of_below (F := fun _ => False) b2).map hD id) _ _ rfl hkey ?_; intro w3 hown3 hturn3; go_frame))
          go_roundw
          case rel => exact ⟨j + 1, by omega, by go_num, HCu.out.step hF b2 (by rw [← HQ.out]; exact hown3) hturn3 HT.out HTi.out HND.out Hy.out hok⟩
          case measure => simp [intOf]; omega
        · obtain rfl : q = j := by omega
          obtain ⟨z0, y1, o1⟩ := HE.out wr hc
          have HLo := Lib.hid (loweri wr _ q 0 L (by omega) o1)
          clear hc o1
          go_wp2_with (go_at_call 40; refine HLo.out.mono ?_; rintro e w2 ⟨v2, rfl, o2, g2, k2⟩; obtain ⟨A2, c2, rfl⟩ := own_form o2; obtain ⟨z3, y3, f3⟩ := HS.out wr w2 HCu.out g2; have HFi := Lib.hid (HF.out wr A2 c2 w2 HCu.out g2 o2 k2); clear o2 g2 k2)
          go_end0
          exact ⟨rfl, HFi.out⟩
    · obtain rfl : i = (n : Int) := by have := HI.out; omega
      have hq0 : ¬ (q : Int) ≤ (n : Int) := by omega
      have hdq : decide (q ≤ n) = false := decide_eq_false (by omega)
      have hcn : ¬ c = n := by omega
      clear HI
      go_enter Try.func35, Try.ntmps35
      go_wp2_with (go_at_call 34; refine (HL.out _ H.out).mono ?_; rintro e w1 ⟨rfl, rfl⟩)
      go_loopw [19] (fun iv wr => ∃ j : Nat, j ≤ q - n ∧ iv = .int .i64 (j : Nat) ∧ Cuttingi w1 F tb ks n g c mb j wr) (fun iv _ => q - n - (intOf iv).toNat)
      case atStart => exact ⟨0, Nat.zero_le _, rfl, HC.out⟩
      case round =>
        obtain ⟨j, hj, rfl, hc⟩ := hrel
        have HCu := Lib.hid hc
        by_cases hlt2 : j < q - n
        · obtain ⟨y, D, hy, hok, cy, z0, zg, y0, hD, hT, hTi⟩ := HR.out j (n + j) wr (by omega) hlt2 hc
          have hkey := Maps.keyOf_int_mk (P := Try.prog) Try.underlying3 hok
          have Hy := Lib.hid hy
          have HT := Lib.hid hT
          have HTi := Lib.hid hTi
          clear hc hy hT hTi
          go_wp2_with (first
            | (go_at_call 42; refine (samei _ _).mono ?_; rintro e w2 ⟨rfl, b2⟩; have y1 := (b2.cell (p := ⟨tb, 0, none⟩) z0).trans y0)
            | (at_delete; refine wpList_delete_own _ rfl _ _ 65 3 rfl 3 lawi Try.underlying65 (plainElem (H := Unit) Try.prog 3) mb q D rfl ((Turn.of_below (F := fun _ => False) b2).map hD id) _ _ rfl hkey ?_; intro w3 hown3 hturn3; go_frame))
          go_roundw
          case rel => exact ⟨j + 1, by omega, by go_num, HCu.out.step hF b2 (by rw [← HQ.out]; exact hown3) hturn3 HT.out HTi.out HND.out Hy.out hok⟩
          case measure => simp [intOf]; omega
        · obtain rfl : j = q - n := by omega
          obtain ⟨z0, y1, o1⟩ := HE.out wr hc
          have HLo := Lib.hid (loweri wr _ q n L (by omega) o1)
          clear hc o1
          go_wp2_with (go_at_call 40; refine HLo.out.mono ?_; rintro e w2 ⟨v2, rfl, o2, g2, k2⟩; obtain ⟨A2, c2, rfl⟩ := own_form o2; obtain ⟨z3, y3, f3⟩ := HS.out wr w2 HCu.out g2; have HFi := Lib.hid (HF.out wr A2 c2 w2 HCu.out g2 o2 k2); clear o2 g2 k2)
          go_end0
          exact ⟨rfl, HFi.out⟩
end Go.Proofs.Ytgijagdnhajkhaa
