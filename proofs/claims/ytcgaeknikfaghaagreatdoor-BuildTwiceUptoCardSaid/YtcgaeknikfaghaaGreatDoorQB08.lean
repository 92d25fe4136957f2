/- What the proofs of this claim use, text by text. -/
import Derived.Test.YtcgaeknikfaghaaGreatDoorQB07
set_option linter.unusedSimpArgs false
set_option linter.unusedVariables false
set_option maxRecDepth 100000
set_option maxHeartbeats 25600000
namespace Go.Proofs.YtcgaeknikfaghaaGreatDoor
def Bd.arity (D : List Dc) (j : Nat) : Option Nat := match D[j]? with
  | some d => if d.mac = true then some d.par.length else none
  | none => none
def Bd.kept (i : Nat) (m : List (Nat × List Int × Int)) : Nat := (m.filter fun q => decide (i < q.2.1.length)).length
end Go.Proofs.YtcgaeknikfaghaaGreatDoor
namespace Go.Proofs.YtcgaeknikfaghaaGreatDoor
theorem Bd.arity_get {D : List Dc} {j n : Nat} (h : Bd.arity D j = some n) : ∃ d, D[j]? = some d /\ d.mac = true /\ d.par.length = n := by
  unfold Bd.arity at h
  cases hd : D[j]? with
  | none => rw [hd] at h; cases h
  | some d =>
    rw [hd] at h
    simp only at h
    split at h
    · rename_i e; cases h; exact ⟨d, rfl, e, rfl⟩
    · cases h
end Go.Proofs.YtcgaeknikfaghaaGreatDoor
namespace Go.Proofs.YtcgaeknikfaghaaGreatDoor
def Bd.cnt (D : List Dc) (q : Nat -> Bool) : Nat -> Nat
  | 0 => 0
  | k + 1 => Bd.cnt D q k + (match Bd.arity D k with
    | some p => if q p = true then 1 else 0
    | none => 0)
end Go.Proofs.YtcgaeknikfaghaaGreatDoor
namespace Go.Proofs.YtcgaeknikfaghaaGreatDoor
open Go.RowKit
def Bd.caps (D : List Dc) (i : Nat) : Nat -> Nat
  | 0 => 0
  | k + 1 => Bd.caps D i k + (match Bd.arity D k with
    | some p => if p <= i then 20000 ^ p else 0
    | none => 0)
end Go.Proofs.YtcgaeknikfaghaaGreatDoor
namespace Go.Proofs.YtcgaeknikfaghaaGreatDoor
theorem Bd.nodup_lt : ∀ (n : Nat) (l : List Nat), l.Nodup -> (∀ x ∈ l, x < n) -> l.length <= n
  | 0, l, _, h => by
    cases l with
    | nil => exact Nat.le_refl _
    | cons x l => exact absurd (h x List.mem_cons_self) (Nat.not_lt_zero _)
  | n + 1, l, hd, h => by
    have h1 := Bd.nodup_lt n (l.erase n) (hd.erase n) fun x hx => by
      have := hd.mem_erase_iff.1 hx
      have := h x this.2
      omega
    rw [List.length_erase] at h1
    split at h1 <;> omega
def Bd.code : List Int -> Nat
  | [] => 0
  | a :: l => a.toNat + 20000 * Bd.code l
theorem Bd.code_lt : ∀ l : List Int, (∀ a ∈ l, 0 <= a /\ a < 20000) -> Bd.code l < 20000 ^ l.length
  | [], _ => by decide
  | a :: l, h => by
    have h1 := Bd.code_lt l fun b hb => h b (List.mem_cons_of_mem _ hb)
    have h2 := h a List.mem_cons_self
    rw [Bd.code, List.length_cons, Nat.pow_succ]
    omega
theorem Bd.code_inj : ∀ l m : List Int, l.length = m.length -> (∀ a ∈ l, 0 <= a /\ a < 20000) -> (∀ a ∈ m, 0 <= a /\ a < 20000) -> Bd.code l = Bd.code m -> l = m
  | [], [], _, _, _, _ => rfl
  | [], _ :: _, h, _, _, _ => by cases h
  | _ :: _, [], h, _, _, _ => by cases h
  | a :: l, b :: m, h, h1, h2, e => by
    rw [Bd.code, Bd.code] at e
    have ha := h1 a List.mem_cons_self
    have hb := h2 b List.mem_cons_self
    have e1 : a = b := by omega
    have e2 : Bd.code l = Bd.code m := by omega
    rw [e1, Bd.code_inj l m (by simpa using h) (fun x hx => h1 x (List.mem_cons_of_mem _ hx)) (fun x hx => h2 x (List.mem_cons_of_mem _ hx)) e2]
structure Bd.Apart (D : List Dc) (K : Nat) (m : List (Nat × List Int × Int)) : Prop where
  fn : ∀ q ∈ m, q.1 < K /\ Bd.arity D q.1 = some q.2.1.length
  num : ∀ q ∈ m, ∀ a ∈ q.2.1, 0 <= a /\ a < 20000
  once : (m.map fun q => (q.1, q.2.1)).Nodup
theorem Bd.Apart.nil (D : List Dc) (K : Nat) : Bd.Apart D K [] := ⟨fun _ h => (List.not_mem_nil h).elim, fun _ h => (List.not_mem_nil h).elim, List.nodup_nil⟩
def Bd.over (i : Nat) (g : Nat -> Nat) : List (Nat × List Int × Int) -> Nat
  | [] => 0
  | q :: m => (if i < q.2.1.length then 0 else g q.1) + Bd.over i g m
def Bd.most (D : List Dc) (i : Nat) (g : Nat -> Nat) : Nat -> Nat
  | 0 => 0
  | k + 1 => Bd.most D i g k + (match Bd.arity D k with
    | some p => if p <= i then 20000 ^ p * g k else 0
    | none => 0)
theorem Bd.over_split (i : Nat) (g : Nat -> Nat) (k : Nat) : ∀ m : List (Nat × List Int × Int), Bd.over i g m = Bd.over i g (m.filter fun q => decide (q.1 ≠ k)) + Bd.over i g (m.filter fun q => decide (q.1 = k))
  | [] => rfl
  | q :: m => by
    rw [Bd.over, Bd.over_split i g k m]
    by_cases e : q.1 = k
    · rw [List.filter_cons_of_neg (by simp [e]), List.filter_cons_of_pos (by simp [e]), Bd.over]; omega
    · rw [List.filter_cons_of_pos (by simp [e]), List.filter_cons_of_neg (by simp [e]), Bd.over]; omega
theorem Bd.over_same (i : Nat) (g : Nat -> Nat) (k p : Nat) : ∀ m : List (Nat × List Int × Int), (∀ q ∈ m, q.1 = k /\ q.2.1.length = p) -> Bd.over i g m = if p <= i then m.length * g k else 0
  | [], _ => by simp [Bd.over]
  | q :: m, h => by
    obtain ⟨h1, h2⟩ := h q List.mem_cons_self
    rw [Bd.over, Bd.over_same i g k p m fun r hr => h r (List.mem_cons_of_mem _ hr), h1, h2]
    by_cases e : p <= i
    · rw [if_neg (by omega), if_pos e, if_pos e, List.length_cons, Nat.add_mul]; omega
    · rw [if_pos (by omega), if_neg e, if_neg e]
theorem Bd.Apart.filter {D : List Dc} {K : Nat} {m : List (Nat × List Int × Int)} (h : Bd.Apart D K m) (f : Nat × List Int × Int -> Bool) : Bd.Apart D K (m.filter f) :=
  ⟨fun q hq => h.fn q (List.mem_filter.1 hq).1, fun q hq => h.num q (List.mem_filter.1 hq).1, h.once.sublist (List.filter_sublist.map _)⟩
theorem Bd.Apart.over {D : List Dc} (i : Nat) (g : Nat -> Nat) : ∀ (K : Nat) (m : List (Nat × List Int × Int)), Bd.Apart D K m -> Bd.over i g m <= Bd.most D i g K
  | 0, m, h => by
    cases m with
    | nil => exact Nat.le_refl _
    | cons q m => exact absurd (h.fn q List.mem_cons_self).1 (Nat.not_lt_zero _)
  | k + 1, m, h => by
    rw [Bd.over_split i g k m, Bd.most]
    have hA := h.filter fun q => decide (q.1 ≠ k)
    have hB := h.filter fun q => decide (q.1 = k)
    refine Nat.add_le_add (Bd.Apart.over i g k _ ⟨fun q hq => ⟨?_, (hA.fn q hq).2⟩, hA.num, hA.once⟩) ?_
    · have h1 := (hA.fn q hq).1
      have h2 : q.1 ≠ k := by simpa using (List.mem_filter.1 hq).2
      omega
    · generalize hm : m.filter (fun q => decide (q.1 = k)) = m' at hB
      have hk : ∀ q ∈ m', q.1 = k := fun q hq => by rw [<- hm] at hq; simpa using (List.mem_filter.1 hq).2
      cases ha : Bd.arity D k with
      | none =>
        cases m' with
        | nil => exact Nat.le_refl _
        | cons q m' =>
          have := (hB.fn q List.mem_cons_self).2
          rw [hk q List.mem_cons_self, ha] at this
          cases this
      | some p =>
        simp only
        have hl : ∀ q ∈ m', q.1 = k /\ q.2.1.length = p := fun q hq => by
          have := (hB.fn q hq).2
          rw [hk q hq, ha] at this
          exact ⟨hk q hq, by injection this with e; exact e.symm⟩
        rw [Bd.over_same i g k p m' hl]
        split
        · refine Nat.mul_le_mul_right _ ?_
          have hn : (m'.map fun q => Bd.code q.2.1).Nodup := by
            have h1 := hB.once
            rw [List.nodup_iff_pairwise_ne, List.pairwise_map] at h1 ⊢
            refine h1.imp_of_mem fun {a b} ha hb hab e => hab ?_
            rw [hk a ha, hk b hb, Bd.code_inj a.2.1 b.2.1 (by rw [(hl a ha).2, (hl b hb).2]) (hB.num a ha) (hB.num b hb) e]
          have := Bd.nodup_lt (20000 ^ p) _ hn fun x hx => by
            obtain ⟨q, hq, rfl⟩ := List.mem_map.1 hx
            rw [<- (hl q hq).2]
            exact Bd.code_lt _ (hB.num q hq)
          simpa using this
        · exact Nat.le_refl _
theorem Bd.most_caps (D : List Dc) (i : Nat) : ∀ K, Bd.most D i (fun _ => 1) K = Bd.caps D i K
  | 0 => rfl
  | k + 1 => by
    rw [Bd.most, Bd.caps, Bd.most_caps D i k]
    cases Bd.arity D k with
    | none => rfl
    | some p => simp
theorem Bd.kept_len (i : Nat) : ∀ m : List (Nat × List Int × Int), m.length = Bd.kept i m + Bd.over i (fun _ => 1) m
  | [] => rfl
  | q :: m => by
    rw [List.length_cons, Bd.kept_len i m, Bd.over]
    unfold Bd.kept
    by_cases e : i < q.2.1.length
    · rw [List.filter_cons_of_pos (by simpa using e), List.length_cons, if_pos e]; omega
    · rw [List.filter_cons_of_neg (by simpa using e), if_neg e]; omega
end Go.Proofs.YtcgaeknikfaghaaGreatDoor
namespace Go.Proofs.YtcgaeknikfaghaaGreatDoor
open Go.RowKit
theorem sgn_neg {z : Int} : (Z.sgn z < 0) ↔ z < 0 := by
  rcases Z.sgn_cases z with ⟨h1, h2⟩ | ⟨h1, h2⟩ | ⟨h1, h2⟩ <;> rw [h2] <;> omega
end Go.Proofs.YtcgaeknikfaghaaGreatDoor
namespace Go.Proofs.YtcgaeknikfaghaaGreatDoor
open Go.RowKit
structure SItem where
  X : Sx
  E : Int
  at_ : Int
structure ItS (w : World) (A : Option Addr) (n : Nat) (l : List SItem) : Prop where
  len : l.length = n
  at_ : 0 < n -> ∃ b off, A = some ⟨b, off, none⟩ /\ ∀ (i : Nat) (x : SItem), l[i]? = some x -> ∃ A' c', SAt w b (off + i * 8) x.X A' c' /\ STree w AnyP x.X A' c' /\ w.cell? ⟨b, off + i * 8 + 6, none⟩ = some (.int .i64 x.E) /\ w.cell? ⟨b, off + i * 8 + 7, none⟩ = some (.int .i64 x.at_)
theorem ItS.get {w : World} {A : Option Addr} {n i : Nat} {l : List SItem} (h : ItS w A n l) (hi : i < n) :
    ∃ b off x A' c', A = some ⟨b, off, none⟩ /\ l[i]? = some x /\ l.drop i = x :: l.drop (i + 1) /\ SAt w b (off + i * 8) x.X A' c' /\ STree w AnyP x.X A' c' /\ w.cell? ⟨b, off + i * 8 + 6, none⟩ = some (.int .i64 x.E) /\ w.cell? ⟨b, off + i * 8 + 7, none⟩ = some (.int .i64 x.at_) := by
  obtain ⟨b, off, e, hc⟩ := h.at_ (by omega)
  have hi' : i < l.length := by rw [h.len]; exact hi
  obtain ⟨A', c', h1, h2, h3, h4⟩ := hc i _ (List.getElem?_eq_getElem hi')
  exact ⟨b, off, l[i], A', c', e, List.getElem?_eq_getElem hi', List.drop_eq_getElem_cons hi', h1, h2, h3, h4⟩
end Go.Proofs.YtcgaeknikfaghaaGreatDoor
namespace Go.Proofs.YtcgaeknikfaghaaGreatDoor
open Go.RowKit
theorem knan1 (z : Int) (w : World) : Calls Tryz.prog 256 #[.int .i64 z] w fun e w' => e = .returned (.bool false) /\ w' = w := by
  go_enter Tryz.func256, Tryz.ntmps256
  go_wp2
  go_ret
  exact ⟨by simp, rfl⟩
theorem knan2 (z : Int) (w : World) : Calls Tryz.prog 243 #[.int .i64 z] w fun e w' => e = .returned (.bool false) /\ w' = w := by
  go_enter Tryz.func243, Tryz.ntmps243
  go_wp2
  go_ret
  exact ⟨by simp, rfl⟩
theorem kless (x y : Int) (w : World) : Calls Tryz.prog 242 #[.int .i64 x, .int .i64 y] w fun e w' => e = .returned (.bool (decide (x < y))) /\ w' = w := by
  have HN := Lib.hid fun w => knan1 x w
  obtain ⟨b, hb⟩ : ∃ b, decide (x < y) = b := ⟨_, rfl⟩
  rw [hb]
  go_enter Tryz.func242, Tryz.ntmps242
  go_wp2_with (go_at_call 256; refine (HN.out _).mono ?_; rintro e w1 ⟨rfl, rfl⟩)
  go_ret
  exact ⟨rfl, rfl⟩
theorem kbsearch (w : World) (A : Option Addr) (n c : Nat) (l : List Int) (h : NumS w A n l) (hn : n <= 1000000) (z : Int) (k : Nat) (hk : k <= n) (hlo : ∀ (i : Nat) x, i < k -> l[i]? = some x -> x < z) (hhi : ∀ (i : Nat) x, k <= i -> l[i]? = some x -> z <= x) :
    Calls Tryz.prog 231 #[.slice A n c, .int .i64 z] w fun e w' => (∃ b, e = .returned (.tuple #[.int .i64 (k : Int), .bool b])) /\ w' = w := by
  have HH := Lib.hid h
  have HL := Lib.hid hlo
  have HU := Lib.hid hhi
  clear h hlo hhi
  go_enter Tryz.func231, Tryz.ntmps231
  go_wp2
  go_loopw [7, 8] (fun iv jv wr => ∃ i j : Nat, i <= k /\ k <= j /\ j <= n /\ iv = .int .i64 (i : Nat) /\ jv = .int .i64 (j : Nat) /\ w = wr) (fun iv jv _ => (intOf jv).toNat - (intOf iv).toNat)
  case atStart => exact ⟨0, n, Nat.zero_le _, hk, Nat.le_refl _, rfl, rfl, rfl⟩
  case round =>
    obtain ⟨i, j, hik, hkj, hjn, rfl, rfl, rfl⟩ := hrel
    by_cases hlt : i < j
    · obtain ⟨q, hq⟩ : ∃ q, (i + j) / 2 = q := ⟨_, rfl⟩
      have hqi : i <= q := by omega
      have hqj : q < j := by omega
      have hd1 : decide ((i : Int) < (j : Int)) = true := decide_eq_true (by omega)
      obtain ⟨b, off, x, rfl, hx, _, _, hc⟩ := HH.out.get (i := q) (by omega)
      obtain ⟨hbl, cx⟩ := hc w (Below.refl _ w)
      have hqn : (q : Int) < (n : Int) := by omega
      have hq0 : (0 : Int) <= (q : Int) := by omega
      have hs : IntKind.i64.wrap ((i : Int) + (j : Int)) = (i : Int) + (j : Int) := IntWalk.i64_in _ (by omega)
      have hq2 : ((i : Int) + (j : Int)) / 2 = (q : Int) := by omega
      have hq3 : ((i : Int) + (j : Int)) >>> 1 = (q : Int) := by rw [Int.shiftRight_eq_div_pow]; omega
      have HLs := Lib.hid fun w => kless x z w
      by_cases hxz : x < z
      · have hqk : q < k := by
          rcases Nat.lt_or_ge q k with e | e
          · exact e
          · have := HU.out q x e hx
            omega
        rw [decide_eq_true hxz] at HLs
        clear hc hx hq HH HL HU hlt hxz
        go_wp2_with fail
        refine (HLs.out _).mono ?_
        rintro e w1 ⟨rfl, rfl⟩
        clear HLs
        go_wp2
        go_roundw
        case rel => exact ⟨q + 1, j, by omega, hkj, hjn, by go_num, rfl, by first | trivial | rfl⟩
        case measure => simp [intOf]; omega
      · have hqk : k <= q := by
          rcases Nat.lt_or_ge q k with e | e
          · have := HL.out q x e hx
            omega
          · exact e
        rw [decide_eq_false hxz] at HLs
        clear hc hx hq HH HL HU hlt hxz
        go_wp2_with fail
        refine (HLs.out _).mono ?_
        rintro e w1 ⟨rfl, rfl⟩
        clear HLs
        go_wp2
        go_roundw
        case rel => exact ⟨i, q, hik, hqk, by omega, rfl, by go_num, by first | trivial | rfl⟩
        case measure => simp [intOf]; omega
    · obtain rfl : i = k := by omega
      obtain rfl : j = i := by omega
      have hd1 : decide ((j : Int) < (j : Int)) = false := decide_eq_false (by omega)
      have HN := Lib.hid fun (x : Int) w => knan2 x w
      by_cases hjn2 : j < n
      · obtain ⟨b, off, x, rfl, hx, _, _, hc⟩ := HH.out.get hjn2
        obtain ⟨hbl, cx⟩ := hc w (Below.refl _ w)
        have hqn : (j : Int) < (n : Int) := by omega
        have hqd : decide ((j : Int) < (n : Int)) = true := decide_eq_true hqn
        have hq0 : (0 : Int) <= (j : Int) := by omega
        cases hxz : (x == z) with
        | true =>
          clear hc hx HH HL HU hlt hk hik hkj
          go_wp2
          go_ret2
          exact ⟨⟨_, rfl⟩, rfl⟩
        | false =>
          clear hc hx HH HL HU hlt hk hik hkj
          go_wp2_with (go_at_call 243; refine (HN.out _ _).mono ?_; rintro e w1 ⟨rfl, rfl⟩)
          go_ret2
          exact ⟨⟨_, rfl⟩, rfl⟩
      · have hqd : decide ((j : Int) < (n : Int)) = false := decide_eq_false (by omega)
        clear HH HL HU hlt hk hik hkj
        go_wp2
        go_ret2
        exact ⟨⟨_, rfl⟩, rfl⟩
end Go.Proofs.YtcgaeknikfaghaaGreatDoor
