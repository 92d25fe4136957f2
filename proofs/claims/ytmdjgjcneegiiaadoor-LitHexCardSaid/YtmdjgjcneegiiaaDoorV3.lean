/- The code's first code point: ParseUint, digits, first. -/
import Derived.Test.YtmdjgjcneegiiaaDoorV2
import Derived.Test.YtmdjgjcneegiiaaDoorJ5
import Derived.Lib.MinMax
namespace Go.Proofs.YtmdjgjcneegiiaaDoor
open Go.RowKit

theorem kParseUint7 (T : ByteArray) (w : World) (hT : T.size ≤ 5) (hG : Gl w) :
    Calls Tryd.prog 37 #[.string T, .int .i64 16, .int .i64 32] w fun e w' => (∃ (n : Nat) (v : Value), e = .returned (.tuple #[.int .u64 (n : Nat), v]) ∧ (v = .nilIface ∧ Lt.parse T.data.toList = some n ∨ (∃ t x, v = .iface t x) ∧ Lt.parse T.data.toList = none ∧ n = 0)) ∧ Below w.heap.size w w' := by
  have HP := Lib.hid (kparse_in T w hT)
  have HGl := Lib.hid hG
  obtain ⟨X, hX⟩ : ∃ X, Lt.parse T.data.toList = X := ⟨_, rfl⟩
  rw [hX] at HP ⊢
  cases X with
  | some n =>
    clear hX hG
    go_enter Tryd.func37, Tryd.ntmps37
    go_wp2_with (go_at_call 45; refine (HP.out).mono ?_; rintro e w1 ⟨rfl, hb⟩; unfold Lt.parsed)
    go_ret2
    exact ⟨⟨n, _, rfl, .inl ⟨by first | rfl | trivial, by first | rfl | trivial⟩⟩, hb⟩
  | none =>
    clear hX hG
    go_enter Tryd.func37, Tryd.ntmps37
    go_wp2_with (first
      | (go_at_call 45; refine (HP.out).mono ?_; rintro e w1 ⟨rfl, hb⟩; unfold Lt.parsed)
      | (go_at_call 46; obtain ⟨v, g1, g2⟩ := (HGl.out.below hb).syn; refine (Tryd.strconv_toError_syntax _ _ _ _ v _ (by omega) g1 g2).mono ?_; rintro e w2 ⟨N, rfl, _, _, hb2⟩))
    go_ret2
    exact ⟨⟨0, _, rfl, .inr ⟨⟨_, _, rfl⟩, by first | rfl | trivial, rfl⟩⟩, hb.trans (hb2.mono hb.size)⟩

/-- what a literal's digits are: where the escape has none, the byte itself comes first -/
def DigOf (c : UInt8) (r t : List UInt8) (k : Nat) : Prop := k = 0 ∧ Lt.one (c :: r) = (c.toNat, r) ∨ 0 < k ∧ k ≤ r.length + 1 ∧ t.length ≤ 5 ∧ Lt.one (c :: r) = (Lt.num t).elim (c.toNat, r) fun n => (n, (c :: r).drop k)
theorem DigOf.none_ {l : List UInt8} {c : UInt8} {r : List UInt8} (hl : l = c :: r) (h : l.take 2 ≠ [92, 117]) : DigOf c r [] 0 := by
  subst hl
  refine .inl ⟨rfl, Lt.one_plain fun e => h ?_⟩
  obtain ⟨rfl, e⟩ := e
  cases r with
  | nil => cases e
  | cons d r => injection e with e; subst e; rfl
theorem Lt.getD_elim {α : Type} (o : Option Nat) (f : Nat → α) (d : α) : (o.map f).getD d = o.elim d f := by cases o <;> rfl
theorem DigOf.four {l : List UInt8} {c : UInt8} {r : List UInt8} (hl : l = c :: r) (h : l.take 2 = [92, 117]) (h3 : l.take 3 ≠ [92, 117, 123]) (h6 : 6 ≤ l.length) : DigOf c r ((l.drop 2).take 4) 6 := by
  obtain ⟨q, rfl⟩ : ∃ q, l = 92 :: 117 :: q := ⟨l.drop 2, by have e := List.take_append_drop 2 l; rw [h] at e; exact e.symm⟩
  injection hl with e1 e2
  subst e1
  subst e2
  refine .inr ⟨by decide, by simpa using h6, by simp; omega, ?_⟩
  rw [Lt.one_esc, Lt.esc_four fun e => h3 ?_, if_pos (by simpa using h6), Lt.getD_elim]
  · rfl
  · cases q with
    | nil => cases e
    | cons d q => injection e with e; subst e; rfl
theorem DigOf.short {l : List UInt8} {c : UInt8} {r : List UInt8} (hl : l = c :: r) (h : l.take 2 = [92, 117]) (h3 : l.take 3 ≠ [92, 117, 123]) (h6 : ¬ 6 ≤ l.length) : DigOf c r [] 0 := by
  obtain ⟨q, rfl⟩ : ∃ q, l = 92 :: 117 :: q := ⟨l.drop 2, by have e := List.take_append_drop 2 l; rw [h] at e; exact e.symm⟩
  injection hl with e1 e2
  subst e1
  subst e2
  refine .inl ⟨rfl, ?_⟩
  rw [Lt.one_esc, Lt.esc_four fun e => h3 ?_, if_neg (by simp at h6; omega)]
  · rfl
  · cases q with
    | nil => cases e
    | cons d q => injection e with e; subst e; rfl
theorem Lt.app_first {α : Type} [DecidableEq α] {x : α} : ∀ {a b c d : List α}, a ++ x :: b = c ++ x :: d → x ∉ a → x ∉ c → a = c ∧ b = d
  | [], b, [], d, h, _, _ => ⟨rfl, by injection h⟩
  | [], b, y :: c, d, h, _, hc => by injection h with h _; subst h; exact absurd List.mem_cons_self hc
  | y :: a, b, [], d, h, ha, _ => by injection h with h _; subst h; exact absurd List.mem_cons_self ha
  | y :: a, b, z :: c, d, h, ha, hc => by
    injection h with h1 h2
    subst h1
    obtain ⟨e1, e2⟩ := Lt.app_first h2 (fun m => ha (List.mem_cons_of_mem _ m)) (fun m => hc (List.mem_cons_of_mem _ m))
    exact ⟨by rw [e1], e2⟩
theorem Lt.num_no125 {d : List UInt8} {n : Nat} (h : Lt.num d = some n) : (125 : UInt8) ∉ d := fun hm => by
  have := Lt.val_digs d 0 n (Lt.num_some.1 h).2.1 125 hm
  rw [Lt.dig_125] at this
  cases this
theorem Lt.brace_first {q d x : List UInt8} (h : q = d ++ 125 :: x) (hd : (125 : UInt8) ∉ d) (h5 : d.length ≤ 5) : Lt.brace q = (Lt.num d).map fun n => (n, q.drop (d.length + 1)) := by
  have hx : q.drop (d.length + 1) = x := by
    rw [h]
    simp
  rw [hx]
  cases e : Lt.num d with
  | some n => exact Lt.brace_some.2 ⟨d, h, h5, e⟩
  | none =>
    cases e2 : Lt.brace q with
    | none => rfl
    | some y =>
      obtain ⟨n, r⟩ := y
      obtain ⟨d', h1, _, h3⟩ := Lt.brace_some.1 e2
      obtain ⟨rfl, _⟩ := Lt.app_first (h.symm.trans h1) hd (Lt.num_no125 h3)
      rw [e] at h3
      cases h3
theorem Lt.brace_far {q : List UInt8} (h : (125 : UInt8) ∉ q.take 6) : Lt.brace q = none := by
  cases e : Lt.brace q with
  | none => rfl
  | some y =>
    obtain ⟨n, r⟩ := y
    obtain ⟨d, h1, h2, h3⟩ := Lt.brace_some.1 e
    refine absurd ?_ h
    subst h1
    rw [List.take_append]
    refine List.mem_append_right _ ?_
    obtain ⟨k, hk⟩ : ∃ k, 6 - d.length = k + 1 := ⟨5 - d.length, by omega⟩
    rw [hk, List.take_succ_cons]
    exact List.mem_cons_self
theorem DigOf.far {l : List UInt8} {c : UInt8} {r : List UInt8} (hl : l = c :: r) (h3 : l.take 3 = [92, 117, 123]) (h : (125 : UInt8) ∉ (l.drop 3).take 6) : DigOf c r [] 0 := by
  obtain ⟨q, rfl⟩ : ∃ q, l = 92 :: 117 :: 123 :: q := ⟨l.drop 3, by have e := List.take_append_drop 3 l; rw [h3] at e; exact e.symm⟩
  injection hl with e1 e2
  subst e1
  subst e2
  refine .inl ⟨rfl, ?_⟩
  rw [Lt.one_esc, Lt.esc_brace, Lt.brace_far (q := q) h]
  rfl
theorem DigOf.brace {l : List UInt8} {c : UInt8} {r d x : List UInt8} (hl : l = c :: r) (h3 : l.take 3 = [92, 117, 123]) (h : (l.drop 3).take 6 = d ++ 125 :: x) (hd : (125 : UInt8) ∉ d) : DigOf c r d (3 + d.length + 1) := by
  obtain ⟨q, rfl⟩ : ∃ q, l = 92 :: 117 :: 123 :: q := ⟨l.drop 3, by have e := List.take_append_drop 3 l; rw [h3] at e; exact e.symm⟩
  injection hl with e1 e2
  subst e1
  subst e2
  have hq : q.take 6 = d ++ 125 :: x := h
  have h5 : d.length ≤ 5 ∧ d.length + 1 ≤ q.length := by
    have := congrArg List.length hq
    rw [List.length_take, List.length_append, List.length_cons] at this
    omega
  have hq' : q = d ++ 125 :: (x ++ q.drop 6) := by
    conv => lhs; rw [← List.take_append_drop 6 q, hq]
    simp
  refine .inr ⟨by omega, by simp; omega, h5.1, ?_⟩
  rw [Lt.one_esc, Lt.esc_brace, Lt.brace_first hq' hd h5.1, Lt.getD_elim]
  rw [show 3 + d.length + 1 = (d.length + 1) + 3 by omega]
  rfl
theorem Lt.indexByte_ways (c : UInt8) : ∀ q : List UInt8, Lib.indexByte q c = -1 ∧ c ∉ q ∨ ∃ d x, Lib.indexByte q c = (d.length : Nat) ∧ q = d ++ c :: x ∧ c ∉ d
  | [] => .inl ⟨rfl, List.not_mem_nil⟩
  | b :: q => by
    rw [Lib.indexByte]
    by_cases hb : b = c
    · subst hb
      exact .inr ⟨[], q, by simp, rfl, List.not_mem_nil⟩
    · have hb' : (b == c) = false := beq_eq_false_iff_ne.2 hb
      rw [hb', if_neg (by simp)]
      rcases Lt.indexByte_ways c q with ⟨h1, h2⟩ | ⟨d, x, h1, h2, h3⟩
      · refine .inl ⟨by rw [h1]; rfl, fun h => ?_⟩
        rcases List.mem_cons.1 h with h | h
        · exact hb h.symm
        · exact h2 h
      · refine .inr ⟨b :: d, x, ?_, by rw [h2]; rfl, fun h => ?_⟩
        · rw [h1, if_neg (by simp)]
          rfl
        · rcases List.mem_cons.1 h with h | h
          · exact hb h.symm
          · exact h3 h
theorem Lt.cut_ways (q : List UInt8) : ((Lib.cut q [125]).2.2 = false ∧ (125 : UInt8) ∉ q) ∨ ((Lib.cut q [125]).2.2 = true ∧ (∃ x, q = (Lib.cut q [125]).1 ++ 125 :: x) ∧ (125 : UInt8) ∉ (Lib.cut q [125]).1) := by
  have hi := Lib.index_one q 125
  rcases Lt.indexByte_ways 125 q with ⟨h1, h2⟩ | ⟨d, x, h1, h2, h3⟩
  · refine .inl ⟨?_, h2⟩
    unfold Lib.cut
    rw [hi, h1, if_neg (by decide)]
  · have e : Lib.cut q [125] = (d, x, true) := by
      unfold Lib.cut
      rw [hi, h1, if_pos (by omega)]
      rw [h2]
      simp
    rw [e]
    exact .inr ⟨rfl, ⟨x, h2⟩, h3⟩

theorem Lt.slice_from7 (s : ByteArray) (n : Nat) (hn : n ≤ s.size) (w : World) : (Instr.slice 9 (.string s) (some (.int .i64 (n : Int))) none none).run Tryd.prog w = .ok (.string (s.extract n s.size)) w := by
  rw [run_slice_string_from_if _ _ _ _ _ Tryd.underlying9, if_pos (by omega)]
  rfl
theorem Lt.hasPrefix_take (l p : List UInt8) : Lib.hasPrefix l p = decide (l.take p.length = p) := by
  unfold Lib.hasPrefix
  rw [Bool.eq_iff_iff]
  simp only [decide_eq_true_eq, List.isPrefixOf_iff_prefix]
  constructor
  · rintro ⟨t, rfl⟩
    simp
  · intro h
    exact ⟨l.drop p.length, by conv => lhs; lhs; rw [← h]
                               exact List.take_append_drop _ _⟩
set_option maxRecDepth 100000 in
set_option maxHeartbeats 1600000 in
theorem kdigits7 (s : ByteArray) (c : UInt8) (r : List UInt8) (hl : s.data.toList = c :: r) (w : World) (hs : s.size ≤ 100000000) (hG : Gl w) :
    Calls Tryd.prog 36 #[.string s] w fun e w' => (∃ (T : ByteArray) (k : Nat), e = .returned (.tuple #[.string T, .int .i64 (k : Nat)]) ∧ DigOf c r T.data.toList k) ∧ Below w.heap.size w w' := by
  have HP3 : Hid (∀ W, Calls Tryd.prog 43 #[.string s, .string ⟨#[92, 117, 123]⟩] W fun e w' => e = .returned (.bool (decide (s.data.toList.take 3 = [92, 117, 123]))) ∧ w' = W) := fun W => by
    have := Tryd.strings_HasPrefix s ⟨#[92, 117, 123]⟩ W
    rwa [Lt.hasPrefix_take] at this
  have HP2 : Hid (∀ W, Calls Tryd.prog 43 #[.string s, .string ⟨#[92, 117]⟩] W fun e w' => e = .returned (.bool (decide (s.data.toList.take 2 = [92, 117]))) ∧ w' = W) := fun W => by
    have := Tryd.strings_HasPrefix s ⟨#[92, 117]⟩ W
    rwa [Lt.hasPrefix_take] at this
  have hsz := Lt.len_bytes s
  by_cases h3 : s.data.toList.take 3 = [92, 117, 123]
  · obtain ⟨m, hm⟩ := hG.max
    have hlen : 3 ≤ s.size := by
      have := congrArg List.length h3
      rw [List.length_take, hsz] at this
      simp at this
      omega
    obtain ⟨e, he⟩ : ∃ e : Nat, min (s.size : Int) 9 = (e : Int) := ⟨min s.size 9, by omega⟩
    have he3 : 3 ≤ e := by omega
    have hes : e ≤ s.size := by omega
    have hsl := Lt.slice_both s 3 e hes he3
    obtain ⟨c1, c2⟩ := Lt.cut_bytes s 3 e hes he3
    have hq : (s.extract 3 e).data.toList = (s.data.toList.drop 3).take 6 := by
      rw [c1]
      by_cases h9 : 9 ≤ s.size
      · rw [show e - 3 = 6 by omega]
      · rw [List.take_of_length_le (by rw [List.length_drop, hsz]; omega), List.take_of_length_le (by rw [List.length_drop, hsz]; omega)]
    have hcut := fun W hW => Tryd.strings_Cut (s.extract 3 e) ⟨#[125]⟩ m W (by omega) hW
    rw [hq] at hcut
    have hways := Lt.cut_ways ((s.data.toList.drop 3).take 6)
    obtain ⟨C, hC⟩ : ∃ C, Lib.cut ((s.data.toList.drop 3).take 6) [125] = C := ⟨_, rfl⟩
    rw [show (⟨#[125]⟩ : ByteArray).data.toList = [125] from rfl, hC] at hcut
    rw [hC] at hways
    obtain ⟨C1, C2, C3⟩ := C
    simp only at hcut hways
    rw [h3] at HP3
    have HPt : Hid (∀ W, Calls Tryd.prog 43 #[.string s, .string ⟨#[92, 117, 123]⟩] W fun e w' => e = .returned (.bool true) ∧ w' = W) := fun W => by simpa using HP3.out W
    have HCut : Hid (∀ W, W.cell? ⟨3, 0, none⟩ = some (.int .i64 m) → Calls Tryd.prog 44 #[.string (s.extract 3 e), .string ⟨#[125]⟩] W fun e w' => e = .returned (.tuple #[.string ⟨C1.toArray⟩, .string ⟨C2.toArray⟩, .bool C3]) ∧ ∃ n, w' = W.drewN n) := hcut
    obtain ⟨D, hD⟩ : ∃ D : ByteArray, (⟨C1.toArray⟩ : ByteArray) = D := ⟨_, rfl⟩
    have hD1 : D.data.toList = C1 := by rw [← hD]
    have hDl : D.size = C1.length := by rw [← Lt.len_bytes, hD1]
    rw [hD] at HCut
    have HB : Hid (∀ k, Below w.heap.size w (w.drewN k)) := fun k => Turn.none_ ((Turn.refl (fun _ => False) w).drewN k) (fun _ => id)
    rcases hways with ⟨rfl, hno⟩ | ⟨rfl, ⟨x, hx⟩, hno⟩
    · have HR := Lib.hid (DigOf.far hl h3 hno)
      clear HP3 HP2 hl hsz hG hcut hC hno hq c1 c2 h3 hD hD1 hDl
      go_enter Tryd.func36, Tryd.ntmps36
      go_wp2_with (first
        | (go_at_call 43; refine (HPt.out _).mono ?_; rintro e w1 ⟨rfl, rfl⟩)
        | (go_at_call 44; refine (HCut.out _ hm).mono ?_; rintro e w1 ⟨rfl, n, rfl⟩))
      go_ret2
      exact ⟨⟨_, _, rfl, HR.out⟩, HB.out _⟩
    · have HR := Lib.hid (DigOf.brace hl h3 hx hno)
      have hc6 : D.size ≤ 6 := by
        have := congrArg List.length hx
        rw [List.length_take, List.length_append, List.length_cons] at this
        omega
      rw [← hD1, Lt.len_bytes] at HR
      clear HP3 HP2 hl hsz hG hcut hC hno hq c1 c2 h3 hD hx hD1 hDl
      go_enter Tryd.func36, Tryd.ntmps36
      go_wp2_with (first
        | (go_at_call 43; refine (HPt.out _).mono ?_; rintro e w1 ⟨rfl, rfl⟩)
        | (go_at_call 44; refine (HCut.out _ hm).mono ?_; rintro e w1 ⟨rfl, n, rfl⟩))
      go_ret2
      exact ⟨⟨_, _, by first | rfl | (congr 3; omega), HR.out⟩, HB.out _⟩
  · have HPf : Hid (∀ W, Calls Tryd.prog 43 #[.string s, .string ⟨#[92, 117, 123]⟩] W fun e w' => e = .returned (.bool false) ∧ w' = W) := fun W => by simpa [h3] using HP3.out W
    by_cases h2 : s.data.toList.take 2 = [92, 117]
    · have HPt : Hid (∀ W, Calls Tryd.prog 43 #[.string s, .string ⟨#[92, 117]⟩] W fun e w' => e = .returned (.bool true) ∧ w' = W) := fun W => by simpa [h2] using HP2.out W
      by_cases h6 : 6 ≤ s.size
      · have HR := Lib.hid (DigOf.four hl h2 h3 (by omega))
        obtain ⟨c1, c2⟩ := Lt.cut_bytes s 2 6 h6 (by decide)
        rw [← c1] at HR
        have hsl := Lt.slice_both s 2 6 h6 (by decide)
        have h6' : (6 : Int) ≤ (s.size : Int) := by omega
        clear HP3 HP2 hl hsz hG h3 h2 c1 c2
        go_enter Tryd.func36, Tryd.ntmps36
        go_wp2_with (first
          | (go_at_call 43; refine (HPf.out _).mono ?_; rintro e w1 ⟨rfl, rfl⟩)
          | (go_at_call 43; refine (HPt.out _).mono ?_; rintro e w1 ⟨rfl, rfl⟩))
        go_ret2
        exact ⟨⟨_, _, rfl, HR.out⟩, Below.refl _ _⟩
      · have HR := Lib.hid (DigOf.short hl h2 h3 (by omega))
        have h6' : ¬ (6 : Int) ≤ (s.size : Int) := by omega
        clear HP3 HP2 hl hsz hG h3 h2 h6
        go_enter Tryd.func36, Tryd.ntmps36
        go_wp2_with (first
          | (go_at_call 43; refine (HPf.out _).mono ?_; rintro e w1 ⟨rfl, rfl⟩)
          | (go_at_call 43; refine (HPt.out _).mono ?_; rintro e w1 ⟨rfl, rfl⟩))
        go_ret2
        exact ⟨⟨⟨#[]⟩, 0, rfl, HR.out⟩, Below.refl _ _⟩
    · have HPf2 : Hid (∀ W, Calls Tryd.prog 43 #[.string s, .string ⟨#[92, 117]⟩] W fun e w' => e = .returned (.bool false) ∧ w' = W) := fun W => by simpa [h2] using HP2.out W
      have HR := Lib.hid (DigOf.none_ hl h2)
      clear HP3 HP2 hl hsz hG h3 h2
      go_enter Tryd.func36, Tryd.ntmps36
      go_wp2_with (first
        | (go_at_call 43; refine (HPf.out _).mono ?_; rintro e w1 ⟨rfl, rfl⟩)
        | (go_at_call 43; refine (HPf2.out _).mono ?_; rintro e w1 ⟨rfl, rfl⟩))
      go_ret2
      exact ⟨⟨⟨#[]⟩, 0, rfl, HR.out⟩, Below.refl _ _⟩
end Go.Proofs.YtmdjgjcneegiiaaDoor
