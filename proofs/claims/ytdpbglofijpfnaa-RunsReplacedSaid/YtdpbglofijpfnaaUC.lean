/- The code's join, Concat, Substr, At. -/
import Derived.Test.YtdpbglofijpfnaaUB
import Derived.StillTailTactics
namespace Go.Proofs.Ytdpbglofijpfnaa
open Go.RowKit

theorem rs_set8 : ∀ (l : List (Int × Int)) (i : Nat) (x : Int × Int) (k : Int), l[i]? = some x → (rcells l).set (i * 2 + 1) (.int .i64 k) = rcells (l.set i (x.1, k))
  | [], i, x, k, h => by simp at h
  | y :: l, 0, x, k, h => by
    obtain rfl : y = x := by simpa using h
    simp [rcells]
  | y :: l, i + 1, x, k, h => by
    have ih := rs_set8 l i x k (by simpa using h)
    have e : rcells (y :: l) = .int .i64 y.1 :: .int .i64 y.2 :: rcells l := rfl
    rw [e, show (i + 1) * 2 + 1 = (i * 2 + 1) + 1 + 1 by omega, List.set_cons_succ, List.set_cons_succ, ih, List.set_cons_succ]
    rfl
/-- the number of a run in a row of one's own, set -/
theorem OwnR.setN {w : World} {B g c i : Nat} {L : List (Int × Int)} {x : Int × Int} (h : OwnR w B (some ⟨g, 0, none⟩) c L) (hx : L[i]? = some x) (k : Int) :
    OwnR (w.setCell ⟨g, i * 2 + 1, none⟩ (.int .i64 k)) B (some ⟨g, 0, none⟩) c (L.set i (x.1, k)) ∧ w.grownBy (w.setCell ⟨g, i * 2 + 1, none⟩ (.int .i64 k)) (some g) ∧ w.frozen? ⟨g, i * 2 + 1, none⟩ = false := by
  have h' : w.ownsRow B 38 2 (.slice (some ⟨g, 0, none⟩) L.length c) L.length (rcells L) := h
  obtain ⟨s1, s2⟩ := World.ownsRow.stored h' (i * 2 + 1) (.int .i64 k)
  rw [rs_set8 L i x k hx] at s1
  refine ⟨?_, s2, World.ownsRow.frozenAt h' _⟩
  unfold OwnR
  rw [List.length_set]
  exact s1
/-- what Concat answers of texts that may be -/
def Tx.joinI (a b : List (Int × Int)) : Int × List (Int × Int) := if Lt.total a + Lt.total b ≤ 1099511627776 ∧ (Lt.runs (Lt.expand a ++ Lt.expand b)).length ≤ 65536 then (0, Lt.runs (Lt.expand a ++ Lt.expand b)) else (2, [])
theorem Tx.glue_nil_l {b : List (Int × Int)} (hb : Tx.Own b) : Lt.runs (Lt.expand [] ++ Lt.expand b) = b := hb.back
theorem Tx.glue_nil_r {a : List (Int × Int)} (ha : Tx.Own a) : Lt.runs (Lt.expand a ++ Lt.expand []) = a := by
  have e : Lt.expand ([] : List (Int × Int)) = [] := rfl
  rw [e, List.append_nil]
  exact ha.back
theorem Tx.Own.app {a b : List (Int × Int)} (ha : Tx.Own a) (hb : Tx.Own b) (h : ∀ i x y, a[i]? = some x → i + 1 = a.length → b[0]? = some y → x.1 ≠ y.1) : Tx.Own (a ++ b) := by
  refine ⟨fun x hx => (List.mem_append.1 hx).elim (ha.pos x) (hb.pos x), fun i x y h1 h2 => ?_⟩
  rcases Nat.lt_trichotomy (i + 1) a.length with e | e | e
  · rw [List.getElem?_append_left (by omega)] at h1
    rw [List.getElem?_append_left e] at h2
    exact ha.adj i x y h1 h2
  · rw [List.getElem?_append_left (by omega)] at h1
    rw [List.getElem?_append_right (by omega), show i + 1 - a.length = 0 by omega] at h2
    exact h i x y h1 e h2
  · rw [List.getElem?_append_right (by omega)] at h1
    rw [List.getElem?_append_right (by omega), show i + 1 - a.length = (i - a.length) + 1 by omega] at h2
    exact hb.adj _ x y h1 h2
theorem Tx.glue_ne {a b : List (Int × Int)} {i : Nat} {x y : Int × Int} (ha : Tx.Own a) (hb : Tx.Own b) (hx : a[i]? = some x) (hi : i + 1 = a.length) (hy : b[0]? = some y) (hne : x.1 ≠ y.1) : Lt.runs (Lt.expand a ++ Lt.expand b) = a ++ b := by
  rw [← Lt.expand_app]
  refine (Tx.Own.app ha hb fun j u v h1 h2 h3 => ?_).back
  obtain rfl : j = i := by omega
  rw [hx] at h1
  rw [hy] at h3
  cases h1
  cases h3
  exact hne
theorem Tx.glue_eq {a b : List (Int × Int)} {i : Nat} {x y : Int × Int} (ha : Tx.Own a) (hb : Tx.Own b) (hx : a[i]? = some x) (hi : i + 1 = a.length) (hy : b[0]? = some y) (he : x.1 = y.1) : Lt.runs (Lt.expand a ++ Lt.expand b) = a.take i ++ (x.1, x.2 + y.2) :: b.drop 1 := by
  have ea : a = a.take i ++ [x] := by rw [← take_one hx, List.take_of_length_le (by omega)]
  have eb : b = y :: b.drop 1 := by
    cases b with
    | nil => simp at hy
    | cons z b => simp at hy; rw [hy]; rfl
  have hpx := ha.pos x (List.mem_of_getElem? hx)
  have hpy := hb.pos y (List.mem_of_getElem? hy)
  have hown : Tx.Own (a.take i ++ (x.1, x.2 + y.2) :: b.drop 1) := by
    have hb' : Tx.Own ((x.1, x.2 + y.2) :: b.drop 1) := by
      rw [he]
      exact Tx.Own.cut (x := y) (by rw [← eb]; exact hb) (by omega)
    refine Tx.Own.app (ha.take i) hb' fun j u v h1 h2 h3 => ?_
    simp at h3
    subst h3
    simp only
    rw [List.getElem?_take] at h1
    rw [List.length_take] at h2
    split at h1
    · refine ha.adj j u x h1 ?_
      rw [← hx]
      congr 1
      omega
    · cases h1
  have hex : Lt.expand a ++ Lt.expand b = Lt.expand (a.take i ++ (x.1, x.2 + y.2) :: b.drop 1) := by
    have e1 : Lt.expand a = Lt.expand (a.take i) ++ List.replicate x.2.toNat x.1 := by
      conv => lhs; rw [ea]
      rw [Lt.expand_app, Lt.expand_one]
    have e2 : Lt.expand b = List.replicate y.2.toNat x.1 ++ Lt.expand (b.drop 1) := by
      conv => lhs; rw [eb]
      rw [Lt.expand_cons, he]
    rw [e1, e2, Lt.expand_app, Lt.expand_cons]
    simp only
    rw [show (x.2 + y.2).toNat = x.2.toNat + y.2.toNat by omega, ← List.replicate_append_replicate]
    simp only [List.append_assoc]
  rw [hex]
  exact hown.back

set_option maxRecDepth 100000 in
set_option maxHeartbeats 4000000 in
theorem kjoin8 (w : World) (A : Option Addr) (n c : Nat) (a : List (Int × Int)) (B : Option Addr) (m d : Nat) (b : List (Int × Int)) (h : RunS w A n a) (h' : RunS w B m b) (ha : Tx.May a) (hb : Tx.May b) (hn : n ≤ 65536) (hm : m ≤ 65536) :
    Calls Try.prog 43 #[.slice A n c, .slice B m d] w fun e w' => RunsSaid w (Tx.joinI a b) e w' := by
  have HL1 := Lib.hid (klength_may w A n c a h ha)
  have HL2 := Lib.hid fun W (hW : Below w.heap.size w W) => klength_may W B m d b (h'.below hW) hb
  have p1 : 0 ≤ Lt.total a := Lt.total_pos fun x hx => Int.not_lt.2 (ha.own.pos x hx).2
  have p2 : 0 ≤ Lt.total b := Lt.total_pos fun x hx => Int.not_lt.2 (hb.own.pos x hx).2
  have p3 := ha.most
  have p4 := hb.most
  by_cases htot : Lt.total a + Lt.total b ≤ 1099511627776
  case neg =>
    have hJ : Tx.joinI a b = (2, []) := by unfold Tx.joinI; rw [if_neg (fun e => htot e.1)]
    rw [hJ]
    generalize Lt.total a = ta at HL1 p1 p3 htot
    generalize Lt.total b = tb at HL2 p2 p4 htot
    obtain ⟨s, hs⟩ : ∃ s, ta + tb = s := ⟨_, rfl⟩
    have hlt : decide (1099511627776 < s) = true := decide_eq_true (by omega)
    have hw : wrap64 s = s := IntWalk.wrap64_in _ (by omega)
    clear h h' ha hb htot hJ p1 p2 p3 p4
    go_enter Try.func43, Try.ntmps43
    go_wp2_with fail
    refine HL1.out.mono ?_
    rintro e w1 ⟨rfl, b1⟩
    have B1 := Lib.hid b1
    clear b1 HL1
    go_wp2_with fail
    refine (HL2.out _ B1.out).mono ?_
    rintro e w2 ⟨rfl, b2⟩
    have B2 := Lib.hid (B1.out.trans (b2.mono B1.out.size))
    clear b2 HL2 B1
    go_wp2
    go_ret2
    exact ⟨⟨none, 0, rfl, OwnR.nil _ _⟩, B2.out⟩
  case pos =>
    obtain ⟨J, hJd⟩ : ∃ J, Lt.runs (Lt.expand a ++ Lt.expand b) = J := ⟨_, rfl⟩
    have hJ : Tx.joinI a b = if J.length ≤ 65536 then (0, J) else (2, []) := by
      unfold Tx.joinI
      rw [hJd]
      by_cases e : J.length ≤ 65536
      · rw [if_pos ⟨htot, e⟩, if_pos e]
      · rw [if_neg (fun h => e h.2), if_neg e]
    have HEnd : Hid (∀ W A' c', OwnR W w.heap.size A' c' J → Below w.heap.size w W → (J.length ≤ 65536 → RunsSaid w (Tx.joinI a b) (.returned (.tuple #[.slice A' J.length c', .int .i64 0])) W) ∧ (¬ J.length ≤ 65536 → RunsSaid w (Tx.joinI a b) (.returned (.tuple #[.slice none 0 0, .int .i64 2])) W)) := fun W A' c' ho hbW =>
      ⟨fun e => by rw [hJ, if_pos e]; exact ⟨⟨A', c', rfl, ho⟩, hbW⟩, fun e => by rw [hJ, if_neg e]; exact ⟨⟨none, 0, rfl, OwnR.nil _ _⟩, hbW⟩⟩
    have hla := h.len
    have hlb := h'.len
    have HC : Hid (∀ W, Below w.heap.size w W → Calls Try.prog 48 #[.slice (some ⟨W.heap.size, 0, none⟩) 2 2] (W.alloc (.cells #[.slice A n c, .slice B m d] 22)) fun e w' => (∃ A' c', e = .returned (.slice A' (n + m) c') ∧ OwnR w' w.heap.size A' c' (a ++ b)) ∧ Below w.heap.size w w') := fun W hW => by
      have k := (Below.refl W.heap.size W).alloc (Nat.le_refl _) (.cells #[.slice A n c, .slice B m d] 22)
      have l := Lies.new W 22 #[.slice A n c, .slice B m d]
      refine (klconcat8 _ W.heap.size A n c a B m d b l.lt (by rw [l.cell]; rfl) (by rw [l.cell]; rfl) ((h.below hW).below k) ((h'.below hW).below k) (by omega) (by omega)).mono ?_
      rintro e w' ⟨⟨A', c', rfl, o⟩, bb⟩
      have hl : (a ++ b).length = n + m := by rw [List.length_append, hla, hlb]
      have hsz : w.heap.size ≤ (W.alloc (.cells #[.slice A n c, .slice B m d] 22)).heap.size := Nat.le_trans hW.size k.size
      refine ⟨⟨A', c', by rw [hl], ?_⟩, hW.trans ((k.mono hW.size).trans (bb.mono hsz))⟩
      refine ⟨o.1, ?_⟩
      rcases o.2 with q | ⟨g, cap, cur, q1, q2, q3⟩
      · exact .inl q
      · exact .inr ⟨g, cap, cur, q1, Nat.le_trans hsz q2, q3⟩
    have hw : wrap64 (Lt.total a + Lt.total b) = Lt.total a + Lt.total b := IntWalk.wrap64_in _ (by omega)
    have hlt : decide (1099511627776 < Lt.total a + Lt.total b) = false := decide_eq_false (by omega)
    have HSum : Hid (∀ x ∈ a, ∀ y ∈ b, 1 ≤ x.2 ∧ 1 ≤ y.2 ∧ x.2 + y.2 ≤ 1099511627776) := fun x hx y hy => by
      have e1 := Lt.total_le hx fun z hz => (ha.own.pos z hz).2
      have e2 := Lt.total_le hy fun z hz => (hb.own.pos z hz).2
      exact ⟨(ha.own.pos x hx).2, (hb.own.pos y hy).2, by omega⟩
    generalize hta : Lt.total a = ta at HL1 p1 p3 htot hw hlt
    generalize htb : Lt.total b = tb at HL2 p2 p4 htot hw hlt
    have HA := Lib.hid ha.own
    have HB := Lib.hid hb.own
    have Hla := Lib.hid hla
    have Hlb := Lib.hid hlb
    have HJd := Lib.hid hJd
    clear h h' hta htb hJ htot p1 p2 p3 p4 ha hb hla hlb hJd
    go_enter Try.func43, Try.ntmps43
    go_wp2_with fail
    refine HL1.out.mono ?_
    rintro e w1 ⟨rfl, b1⟩
    have B1 := Lib.hid b1
    clear b1 HL1
    go_wp2_with fail
    refine (HL2.out _ B1.out).mono ?_
    rintro e w2 ⟨rfl, b2⟩
    have B2 := Lib.hid (B1.out.trans (b2.mono B1.out.size))
    have HC2 := Lib.hid (HC.out w2 B2.out)
    clear b2 HL2 B1 HC
    go_wp2_with fail
    refine HC2.out.mono ?_
    rintro e w3 ⟨⟨A3, c3, rfl, o3⟩, b3⟩
    have O3 := Lib.hid o3
    have B3 := Lib.hid b3
    clear o3 b3 HC2 B2 hw hlt
    have hrs := O3.out.runs (n := n + m) (by rw [List.length_append, Hla.out, Hlb.out])
    -- ways in which nothing is to be joined
    by_cases hways : n = 0 ∨ (0 < n ∧ m = 0) ∨ ∃ i x y, n = i + 1 ∧ 0 < m ∧ a[i]? = some x ∧ b[0]? = some y ∧ x.1 ≠ y.1
    · have hJl : Hid (OwnR w3 w.heap.size A3 c3 J ∧ J.length = n + m) := by
        have hl : (a ++ b).length = n + m := by rw [List.length_append, Hla.out, Hlb.out]
        have e : J = a ++ b := by
          rw [← HJd.out]
          rcases hways with e | ⟨_, e⟩ | ⟨i, x, y, e1, e2, hx, hy, hne⟩
          · obtain rfl : a = [] := List.eq_nil_of_length_eq_zero (by rw [Hla.out, e])
            exact Tx.glue_nil_l HB.out
          · obtain rfl : b = [] := List.eq_nil_of_length_eq_zero (by rw [Hlb.out, e])
            rw [Tx.glue_nil_r HA.out, List.append_nil]
          · exact Tx.glue_ne HA.out HB.out hx (by rw [Hla.out, e1]) hy hne
        rw [e]
        exact ⟨O3.out, hl⟩
      have hfin := HEnd.out w3 A3 c3 hJl.out.1 B3.out
      rw [hJl.out.2] at hfin
      have HFin : Hid (∀ k, (n + m ≤ 65536 → RunsSaid w (Tx.joinI a b) (.returned (.tuple #[.slice A3 (n + m) c3, .int .i64 0])) (w3.drewN k)) ∧ (¬ n + m ≤ 65536 → RunsSaid w (Tx.joinI a b) (.returned (.tuple #[.slice none 0 0, .int .i64 2])) (w3.drewN k))) := fun k => by
        have hbd : Below w3.heap.size w3 (w3.drewN k) := Turn.none_ ((Turn.refl (fun _ => False) w3).drewN k) (fun _ => id)
        have := HEnd.out (w3.drewN k) A3 c3 (hJl.out.1.kept hbd) (B3.out.trans (hbd.mono B3.out.size))
        rwa [hJl.out.2] at this
      clear hfin hJl HEnd
      rcases hways with rfl | ⟨hn0, rfl⟩ | ⟨i, ⟨x1, x2⟩, ⟨y1, y2⟩, rfl, hm0, hx, hy, hne⟩
      · clear hrs O3 B3 HA HB Hla Hlb HJd
        by_cases h65 : m ≤ 65536
        · have hd : decide ((65536 : Int) < (m : Int)) = false := decide_eq_false (by omega)
          go_wp2
          go_quiet (fail)
          go_wp2
          go_ret2
          have := (HFin.out nq).1 (by omega)
          rwa [Nat.zero_add] at this
        · omega
      · clear hrs O3 B3 HA HB Hla Hlb HJd
        have hd : decide ((65536 : Int) < (n : Int)) = false := decide_eq_false (by omega)
        have hn1 : decide ((0 : Int) < (n : Int)) = true := decide_eq_true (by omega)
        have hnn : decide ((n : Int) < (n : Int)) = false := decide_eq_false (by omega)
        go_wp2
        go_quiet (fail)
        go_wp2
        go_ret2
        exact (HFin.out nq).1 (by omega)
      · obtain ⟨g, off, x, rfl, hgx, _, _, hcx⟩ := hrs.get (i := i) (by omega)
        obtain ⟨g', off', y, e, hgy, _, _, hcy⟩ := hrs.get (i := i + 1) (by omega)
        cases e
        rw [List.getElem?_append_left (by rw [Hla.out]; omega), hx] at hgx
        rw [List.getElem?_append_right (by rw [Hla.out]; exact Nat.le_refl _), Hla.out, Nat.sub_self, hy] at hgy
        cases hgx
        cases hgy
        obtain ⟨_, q1, _⟩ := hcx w3 (Below.refl _ _)
        obtain ⟨_, q2, _⟩ := hcy w3 (Below.refl _ _)
        have hne' : (x1 == y1) = false := beq_eq_false_iff_ne.2 hne
        have hn1 : decide ((0 : Int) < (i : Int) + 1) = true := decide_eq_true (by omega)
        have hn2 : decide ((i : Int) + 1 < (i : Int) + 1 + (m : Int)) = true := decide_eq_true (by omega)
        have hi0 : (0 : Int) ≤ (i : Int) := by omega
        have hi1 : (i : Int) < (i : Int) + 1 + (m : Int) := by omega
        have hi2 : (i : Int) + 1 < (i : Int) + 1 + (m : Int) := by omega
        clear hrs O3 B3 HA HB Hla Hlb HJd hcx hcy hx hy hne
        by_cases h65 : i + 1 + m ≤ 65536
        · have hd : decide ((65536 : Int) < (i : Int) + 1 + (m : Int)) = false := decide_eq_false (by omega)
          go_wp2
          go_quiet (fail)
          go_wp2
          go_ret2
          exact (HFin.out nq).1 h65
        · have hd : decide ((65536 : Int) < (i : Int) + 1 + (m : Int)) = true := decide_eq_true (by omega)
          go_wp2
          go_quiet (fail)
          go_wp2
          go_ret2
          exact (HFin.out nq).2 h65
    · obtain ⟨i, rfl⟩ : ∃ i, n = i + 1 := ⟨n - 1, by omega⟩
      have hm0 : 0 < m := by omega
      obtain ⟨g, off, ⟨x1, x2⟩, rfl, hgx, _, _, hcx⟩ := hrs.get (i := i) (by omega)
      obtain ⟨g', off', ⟨y1, y2⟩, e, hgy, _, _, hcy⟩ := hrs.get (i := i + 1) (by omega)
      cases e
      obtain rfl : off = 0 := by
        rcases O3.out.2 with ⟨e, _⟩ | ⟨g', cap, cur, e, _⟩
        · cases e
        · cases e
          rfl
      have hx : a[i]? = some (x1, x2) := by rwa [List.getElem?_append_left (by rw [Hla.out]; omega)] at hgx
      have hy : b[0]? = some (y1, y2) := by rwa [List.getElem?_append_right (by rw [Hla.out]; exact Nat.le_refl _), Hla.out, Nat.sub_self] at hgy
      obtain rfl : x1 = y1 := by
        rcases Classical.em (x1 = y1) with e | e
        · exact e
        · exact absurd (.inr (.inr ⟨i, _, _, rfl, hm0, hx, hy, e⟩)) hways
      obtain ⟨_, q1, q3⟩ := hcx w3 (Below.refl _ _)
      obtain ⟨_, q2, q4⟩ := hcy w3 (Below.refl _ _)
      simp only [Nat.zero_add] at q1 q2 q3 q4
      obtain ⟨r1, r2, r3⟩ := HSum.out _ (List.mem_of_getElem? hx) _ (List.mem_of_getElem? hy)
      simp only at r1 r2 r3
      obtain ⟨s, hs⟩ : ∃ s, x2 + y2 = s := ⟨_, rfl⟩
      have hJs : J = a.take i ++ (x1, s) :: b.drop 1 := by
        rw [← HJd.out, Tx.glue_eq HA.out HB.out hx Hla.out.symm hy rfl, hs]
      have hJl : J.length = i + m := by
        rw [hJs, List.length_append, List.length_take, List.length_cons, List.length_drop, Hla.out, Hlb.out]
        omega
      have HDel : Hid (∀ W, OwnR W w.heap.size (some ⟨g, 0, none⟩) c3 (a ++ b) → w.heap.size ≤ W.heap.size → Calls Try.prog 49 #[.slice (some ⟨g, 0, none⟩) (i + 1 + m) c3, .int .i64 ((i : Int) + 1), .int .i64 ((i : Int) + 1 + 1)] (W.setCell ⟨g, i * 2 + 1, none⟩ (.int .i64 s)) fun e w' => e = .returned (.slice (some ⟨g, 0, none⟩) (i + m) c3) ∧ OwnR w' w.heap.size (some ⟨g, 0, none⟩) c3 J ∧ Below w.heap.size W w') := fun W hW hwW => by
        obtain ⟨o1, g1, _⟩ := hW.setN (i := i) (x := (x1, x2)) hgx s
        have hll : ((a ++ b).set i (x1, s)).length = i + 1 + m := by rw [List.length_set, List.length_append, Hla.out, Hlb.out]
        have hgw := (hW.lt (n := i + 1 + m) (by rw [List.length_append, Hla.out, Hlb.out]) rfl).1
        have hk := kldelete8 (W.setCell ⟨g, i * 2 + 1, none⟩ (.int .i64 s)) w.heap.size g c3 (i + 1 + m) (i + 1) _ o1 hll (by omega) (by omega) (Nat.le_trans hwW g1.size)
        rw [Int.natCast_add, show ((1 : Nat) : Int) = 1 from rfl, show i + 1 + m - 1 = i + m by omega] at hk
        refine hk.mono ?_
        rintro e w' ⟨rfl, o2, b2⟩
        refine ⟨rfl, ?_, ((Below.refl w.heap.size W).grown g1 hwW (fun k hk => by cases hk; exact hgw)).trans b2⟩
        have e1 : ((a ++ b).set i (x1, s)).take (i + 1) = a.take i ++ [(x1, s)] := by
          have hi : ((a ++ b).set i (x1, s))[i]? = some (x1, s) := by rw [List.getElem?_set_self (by rw [List.length_append, Hla.out]; omega)]
          rw [take_one hi, List.take_set_of_le (Nat.le_refl _), List.take_append_of_le_length (by rw [Hla.out]; omega)]
        have e2 : ((a ++ b).set i (x1, s)).drop (i + 1 + 1) = b.drop 1 := by
          rw [List.drop_set_of_lt (by omega), List.drop_append, Hla.out, show i + 1 + 1 - (i + 1) = 1 by omega, List.drop_of_length_le (by rw [Hla.out]; omega), List.nil_append]
        rw [e1, e2] at o2
        rw [hJs]
        simpa using o2
      have HOw : Hid (∀ k, OwnR (w3.drewN k) w.heap.size (some ⟨g, 0, none⟩) c3 (a ++ b) ∧ Below w.heap.size w (w3.drewN k) ∧ (w3.drewN k).frozen? ⟨g, i * 2 + 1, none⟩ = false) := fun k => by
        have hbd : Below w3.heap.size w3 (w3.drewN k) := Turn.none_ ((Turn.refl (fun _ => False) w3).drewN k) (fun _ => id)
        have ho := O3.out.kept hbd
        exact ⟨ho, B3.out.trans (hbd.mono B3.out.size), (ho.setN (i := i) (x := (x1, x2)) hgx s).2.2⟩
      have HE2 : Hid (∀ W, OwnR W w.heap.size (some ⟨g, 0, none⟩) c3 J → Below w.heap.size w W → (i + m ≤ 65536 → RunsSaid w (Tx.joinI a b) (.returned (.tuple #[.slice (some ⟨g, 0, none⟩) (i + m) c3, .int .i64 0])) W) ∧ (¬ i + m ≤ 65536 → RunsSaid w (Tx.joinI a b) (.returned (.tuple #[.slice none 0 0, .int .i64 2])) W)) := fun W ho hbW => by
        have := HEnd.out W _ _ ho hbW
        rwa [hJl] at this
      have hxx : (x1 == x1) = true := beq_self_eq_true x1
      have hn1 : decide ((0 : Int) < (i : Int) + 1) = true := decide_eq_true (by omega)
      have hn2 : decide ((i : Int) + 1 < (i : Int) + 1 + (m : Int)) = true := decide_eq_true (by omega)
      have hi0 : (0 : Int) ≤ (i : Int) := by omega
      have hi1 : (i : Int) < (i : Int) + 1 + (m : Int) := by omega
      have hi2 : (i : Int) + 1 < (i : Int) + 1 + (m : Int) := by omega
      have hsw : IntKind.i64.wrap s = s := IntWalk.i64_in _ (by omega)
      have hi3 : (0 : Int) ≤ (i : Int) + 1 := by omega
      have hi4 : ((i : Int) + 1).toNat = i + 1 := by omega
      have hiw : IntKind.i64.wrap (i : Int) = (i : Int) := IntWalk.i64_in _ (by omega)
      clear hways hrs O3 B3 HA HB Hla Hlb HJd hcx hcy hx hy hgx hgy hJs hJl HEnd HSum r1 r2 r3
      go_wp2
      go_quiet (fail)
      obtain ⟨w4, hw4⟩ : ∃ w4, w3.drewN nq = w4 := ⟨_, rfl⟩
      have c1 : w4.cell? ⟨g, i * 2 + 1, none⟩ = some (.int .i64 x2) := by rw [← hw4]; exact q3
      have c2 : w4.cell? ⟨g, (i + 1) * 2 + 1, none⟩ = some (.int .i64 y2) := by rw [← hw4]; exact q4
      have HO4 := Lib.hid (HOw.out nq)
      rw [hw4] at HO4 ⊢
      clear hw4 HOw q1 q2 q3 q4
      go_wp2
      go_still_tail 14, (by kernel_rfl)
      change wpList _ _ _ _ _ w4.drew
      have HO5 : Hid (OwnR w4.drew w.heap.size (some ⟨g, 0, none⟩) c3 (a ++ b) ∧ Below w.heap.size w w4.drew) := ⟨HO4.out.1.kept (Below.drew_ w4 _), HO4.out.2.1.trans (Below.drew_ w4 _)⟩
      have f1 : w4.drew.frozen? ⟨g, i * 2 + 1, none⟩ = false := HO4.out.2.2
      replace c1 : w4.drew.cell? ⟨g, i * 2 + 1, none⟩ = some (.int .i64 x2) := c1
      replace c2 : w4.drew.cell? ⟨g, (i + 1) * 2 + 1, none⟩ = some (.int .i64 y2) := c2
      clear HO4
      generalize w4.drew = w5 at HO5 f1 c1 c2 ⊢
      have HDel5 := Lib.hid (HDel.out w5 HO5.out.1 HO5.out.2.size)
      clear HDel
      go_wp2_with (go_at_call 49; refine HDel5.out.mono ?_; rintro e w6 ⟨rfl, o6, b6⟩; have HF := Lib.hid (HE2.out w6 o6 (HO5.out.2.trans b6)); clear o6 b6 f1 c1 c2)
      all_goals
        go_ret2
        first
          | exact HF.out.1 (by omega)
          | exact HF.out.2 (by omega)

theorem kconcat8 (w : World) (A : Option Addr) (n c : Nat) (R : List (Int × Int)) (B : Option Addr) (m d : Nat) (S : List (Int × Int)) (h : Txt w A n R) (h' : Txt w B m S) :
    Calls Try.prog 28 #[.slice A n c, .slice B m d] w fun e w' => RunsSaid w (Tx.conI R S) e w' := by
  have hn := h.few
  have hm := h'.few
  have H1 := Lib.hid (kmayr w A n c R h.runs (by omega))
  have H2 := Lib.hid fun W (hW : Below w.heap.size w W) => kmayr W B m d S (h'.below hW).runs (by omega)
  by_cases hok : Tx.May R ∧ Tx.May S
  case neg =>
    have hand : (Tx.mayB R && Tx.mayB S) = false := by
      by_cases ha : Tx.May R
      · rw [Tx.mayB_false fun hs => hok ⟨ha, hs⟩, Bool.and_false]
      · rw [Tx.mayB_false ha]; rfl
    rw [Tx.conI_bad hand]
    generalize Tx.mayB R = x at H1 hand
    generalize Tx.mayB S = y at H2 hand
    have hxy : x = false ∨ x = true ∧ y = false := by cases x <;> cases y <;> simp at hand ⊢
    clear h h' hok hand
    rcases hxy with rfl | ⟨rfl, rfl⟩
    all_goals
      go_enter Try.func28, Try.ntmps28
      go_wp2_with fail
      refine H1.out.mono ?_
      rintro e w1 ⟨rfl, b1⟩
      have B1 := Lib.hid b1
      clear b1
      go_wp2_with (go_at_call 16; refine (H2.out _ B1.out).mono ?_; rintro e w2 ⟨rfl, b2⟩)
      go_ret2
      first
        | exact ⟨⟨none, 0, rfl, OwnR.nil _ _⟩, B1.out.trans (b2.mono B1.out.size)⟩
        | exact ⟨⟨none, 0, rfl, OwnR.nil _ _⟩, B1.out⟩
  case pos =>
    obtain ⟨ha, hs⟩ := hok
    have hJ : Tx.conI R S = Tx.joinI R S := by
      unfold Tx.conI Tx.joinI
      rw [if_pos (by rw [Tx.mayB_true ha, Tx.mayB_true hs]; rfl)]
    rw [Tx.mayB_true ha] at H1
    rw [Tx.mayB_true hs] at H2
    have HJ := Lib.hid fun W (hW : Below w.heap.size w W) => kjoin8 W A n c R B m d S (h.below hW).runs (h'.below hW).runs ha hs (by omega) (by omega)
    rw [hJ]
    clear h h' ha hs hJ
    go_enter Try.func28, Try.ntmps28
    go_wp2_with fail
    refine H1.out.mono ?_
    rintro e w1 ⟨rfl, b1⟩
    have B1 := Lib.hid b1
    clear b1 H1
    go_wp2_with fail
    refine (H2.out _ B1.out).mono ?_
    rintro e w2 ⟨rfl, b2⟩
    have B2 := Lib.hid (B1.out.trans (b2.mono B1.out.size))
    have HJ2 := Lib.hid (HJ.out w2 B2.out)
    clear b2 H2 HJ
    go_wp2_with fail
    refine HJ2.out.mono ?_
    rintro e w3 ⟨⟨A3, c3, rfl, o3⟩, b3⟩
    have HF : Hid (RunsSaid w (Tx.joinI R S) (.returned (.tuple #[.slice A3 (Tx.joinI R S).2.length c3, .int .i64 (Tx.joinI R S).1])) w3) := by
      refine ⟨⟨A3, c3, rfl, ⟨o3.1, ?_⟩⟩, B2.out.trans (b3.mono B2.out.size)⟩
      rcases o3.2 with q | ⟨g, cap, cur, q1, q2, q3⟩
      · exact .inl q
      · exact .inr ⟨g, cap, cur, q1, Nat.le_trans B2.out.size q2, q3⟩
    clear o3 b3
    go_wp2
    go_ret2
    exact HF.out
theorem ksubstr8 (w : World) (A : Option Addr) (n c : Nat) (R : List (Int × Int)) (i k : Int) (h : Txt w A n R) (_ : (Lit.int .i64 i).wf = true) (_ : (Lit.int .i64 k).wf = true) :
    Calls Try.prog 13 #[.slice A n c, .int .i64 i, .int .i64 k] w fun e w' => RSaid w (Tx.subR R i k) e w' := by
  have HL := Lib.hid (klen8 w A n c R h)
  have hn := h.few
  by_cases hg : Tx.May R ∧ 0 ≤ i ∧ i < Lt.total R ∧ 1 ≤ k
  case neg =>
    have hr : Tx.subR R i k = [] := by
      unfold Tx.subR
      split
      · rename_i hm
        have hm := Tx.mayB_iff.1 hm
        unfold Tx.sub
        split
        · rename_i h2
          have hlen := hm.own.len
          rw [List.drop_of_length_le (by have : ¬ i < Lt.total R := fun e => hg ⟨hm, h2.1, e, by omega⟩; omega), List.take_nil]
          rfl
        · rfl
      · rfl
    rw [hr]
    have hways : decide (i < 0) = true ∨ decide (i < 0) = false ∧ decide (Tx.lenI R ≤ i) = true ∨ decide (i < 0) = false ∧ decide (Tx.lenI R ≤ i) = false ∧ decide (k < 1) = true := by
      by_cases h1 : i < 0
      · exact .inl (decide_eq_true h1)
      · by_cases h2 : Tx.lenI R ≤ i
        · exact .inr (.inl ⟨decide_eq_false h1, decide_eq_true h2⟩)
        · refine .inr (.inr ⟨decide_eq_false h1, decide_eq_false h2, decide_eq_true ?_⟩)
          rcases Int.lt_or_le k 1 with h3 | h3
          · exact h3
          · exfalso
            by_cases hm : Tx.May R
            · rw [Tx.lenI_may hm] at h2
              exact hg ⟨hm, by omega, by omega, h3⟩
            · rw [Tx.lenI_not hm] at h2
              omega
    generalize Tx.lenI R = z at HL hways
    clear h hg hr
    rcases hways with d1 | ⟨d1, d2⟩ | ⟨d1, d2, d3⟩
    all_goals
      go_enter Try.func13, Try.ntmps13
      go_wp2_with fail
      refine HL.out.mono ?_
      rintro e w1 ⟨rfl, b1⟩
      go_wp2
      go_ret
      exact ⟨⟨none, 0, rfl, OwnR.nil _ _⟩, b1⟩
  case pos =>
    obtain ⟨hm, h0, h1, h2⟩ := hg
    have hmost := hm.most
    rw [Tx.lenI_may hm] at HL
    obtain ⟨t, ht⟩ : ∃ t, i + min k (Lt.total R - i) = t := ⟨_, rfl⟩
    have hr : Lt.runs (((Lt.expand R).take t.toNat).drop i.toNat) = Tx.subR R i k := by
      unfold Tx.subR
      rw [if_pos (Tx.mayB_true hm)]
      unfold Tx.sub
      rw [if_pos ⟨h0, by omega⟩, List.drop_take]
      congr 1
      have hlen := hm.own.len
      have hl : ((Lt.expand R).drop i.toNat).length = (Lt.total R - i).toNat := by rw [List.length_drop]; omega
      rcases Int.le_total k (Lt.total R - i) with e | e
      · rw [show t.toNat - i.toNat = k.toNat by omega]
      · rw [List.take_of_length_le (by omega), List.take_of_length_le (by omega)]
    have HP := Lib.hid fun W (hW : Below w.heap.size w W) => kpiece8 W A n c R i t (h.below hW).runs hm h0 (by omega) (by omega)
    rw [hr] at HP
    have d1 : decide (i < 0) = false := decide_eq_false (by omega)
    have d2 : decide (Lt.total R ≤ i) = false := decide_eq_false (by omega)
    have d3 : decide (k < 1) = false := decide_eq_false (by omega)
    obtain ⟨u, hu⟩ : ∃ u, Lt.total R - i = u := ⟨_, rfl⟩
    have hu1 : IntKind.i64.wrap u = u := IntWalk.i64_in _ (by omega)
    obtain ⟨v, hv⟩ : ∃ v, min k u = v := ⟨_, rfl⟩
    have ht1 : IntKind.i64.wrap t = t := IntWalk.i64_in _ (by omega)
    rw [hu, hv] at ht
    generalize Lt.total R = z at HL d2 hu h1 hmost
    clear h hm hr hmost h0 h1 h2
    go_enter Try.func13, Try.ntmps13
    go_wp2_with fail
    refine HL.out.mono ?_
    rintro e w1 ⟨rfl, b1⟩
    have HP1 := Lib.hid (HP.out w1 b1)
    have B1 := Lib.hid b1
    clear b1 HL HP
    go_wp2_with fail
    refine HP1.out.mono ?_
    rintro e w2 ⟨⟨A2, c2, rfl, o2⟩, b2⟩
    have HF : Hid (RSaid w (Tx.subR R i k) (.returned (.slice A2 (Tx.subR R i k).length c2)) w2) := by
      refine ⟨⟨A2, c2, rfl, ⟨o2.1, ?_⟩⟩, B1.out.trans (b2.mono B1.out.size)⟩
      rcases o2.2 with q | ⟨g, cap, cur, q1, q2, q3⟩
      · exact .inl q
      · exact .inr ⟨g, cap, cur, q1, Nat.le_trans B1.out.size q2, q3⟩
    clear o2 b2
    go_wp2
    go_ret
    exact HF.out
theorem kat8 (w : World) (A : Option Addr) (n c : Nat) (R : List (Int × Int)) (i : Int) (h : Txt w A n R) (hi : (Lit.int .i64 i).wf = true) :
    Calls Try.prog 15 #[.slice A n c, .int .i64 i] w fun e w' => RSaid w (Tx.subR R i 1) e w' := by
  have HS := Lib.hid (ksubstr8 w A n c R i 1 h hi (by decide))
  clear h hi
  go_enter Try.func15, Try.ntmps15
  go_wp2_with fail
  refine HS.out.mono ?_
  rintro e w1 ⟨⟨A2, c2, rfl, o2⟩, b2⟩
  have HF : Hid (RSaid w (Tx.subR R i 1) (.returned (.slice A2 (Tx.subR R i 1).length c2)) w1) := ⟨⟨A2, c2, rfl, o2⟩, b2⟩
  clear o2 b2
  go_wp2
  go_ret
  exact HF.out
end Go.Proofs.Ytdpbglofijpfnaa
