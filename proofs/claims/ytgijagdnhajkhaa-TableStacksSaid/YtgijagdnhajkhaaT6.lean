/- The reference's lists of keys: Find, Add, Cut. -/
import Derived.Test.YtgijagdnhajkhaaT5
namespace Go.Proofs.Ytgijagdnhajkhaa
open Go.RowKit

/-- where the reference finds a key: its place, or -1 -/
def Where (ks : List ByteArray) (x : ByteArray) (r : Int) : Prop := r = if x ∈ ks then (ks.idxOf x : Int) else -1

abbrev strs (ks : List ByteArray) : List Value := ks.map fun x => .string x
theorem strs_one {ks : List ByteArray} : ∀ u ∈ strs ks, u.oneCell' = true := by
  intro u hu
  obtain ⟨x, _, rfl⟩ := List.mem_map.1 hu
  rfl

theorem find_ref (w : World) (G : Nat → Prop) (A : Option Addr) (n c : Nat) (ks : List ByteArray) (x : ByteArray) (r : Int) (hr : Where ks x r) (h : Rd w G A n c (strs ks)) :
    Calls Try.prog 15 #[.slice A n c, .string x] w fun e w' => e = .returned (.int .i64 r) ∧ w' = w := by
  have hl : ks.length = n := by have := h.len; rwa [List.length_map] at this
  have hn := h.le
  have hc := h.cm
  have hm : n ≤ 9223372036854775807 := by unfold maxLen at hc; omega
  have HR := Lib.hid hr
  have HL := Lib.hid hl
  have HX : Hid (∀ j, j < n → ∃ b off y, A = some ⟨b, off, none⟩ ∧ ks[j]? = some y ∧ w.cell? ⟨b, off + j, none⟩ = some (.string y)) := fun j hj => by
    obtain ⟨b, off, e, _, _, hcell⟩ := h.at_ (by omega)
    have hj' : j < ks.length := by omega
    exact ⟨b, off, ks[j], e, List.getElem?_eq_getElem hj', hcell j _ (by rw [List.getElem?_map, List.getElem?_eq_getElem hj']; rfl)⟩
  clear h hr hl hn hc
  go_enter Try.func15, Try.ntmps15
  go_wp2
  go_loop [5] (fun iv => ∃ i : Nat, i ≤ n ∧ iv = .int .i64 (i : Nat) ∧ Hid (x ∉ ks.take i)) (fun iv => n - (intOf iv).toNat)
  case atStart => exact ⟨0, Nat.zero_le _, rfl, by show x ∉ ks.take 0; simp⟩
  case round =>
    obtain ⟨i, hi, rfl, hx⟩ := hrel
    by_cases hlt : i < n
    · obtain ⟨b, off, y, rfl, hy, hcell⟩ := HX.out i hlt
      have HY := Lib.hid hy
      clear hy
      by_cases hxy : x = y
      · subst hxy
        have he : (x.toList == x.toList) = true := by simp
        have hres : Hid (r = (i : Int)) := by
          show r = (i : Int)
          have hm := List.mem_of_getElem? HY.out
          have h1 : ks.idxOf x = i := by
            have hi' := idx_get hm
            have hge : ¬ ks.idxOf x < i := fun q => hx.out ((mem_take_iff hm).2 q)
            have hle : ks.idxOf x ≤ i := by
              have h2 : x ∈ ks.take (i + 1) := by
                rw [List.mem_iff_getElem?]
                exact ⟨i, by rw [List.getElem?_take_of_lt (by omega)]; exact HY.out⟩
              have := (mem_take_iff hm).1 h2
              omega
            omega
          rw [HR.out, if_pos hm, h1]
        clear he
        go_wp2
        go_ret
        exact ⟨ret_i hres.out.symm, rfl⟩
      · have he : (y.toList == x.toList) = false := (Lib.bytes_beq_false_iff y x).2 (fun e => hxy e.symm)
        go_wp2
        go_round
        case rel => exact ⟨i + 1, by omega, by go_num, by
          show x ∉ ks.take (i + 1)
          intro hm
          have hk := List.mem_of_mem_take hm
          have h1 := (mem_take_iff hk).1 hm
          have h2 : ¬ ks.idxOf x < i := fun q => hx.out ((mem_take_iff hk).2 q)
          have h3 : ks.idxOf x = i := by omega
          have h4 := idx_get hk
          rw [h3, HY.out] at h4
          exact hxy (Option.some.inj h4).symm⟩
        case measure => simp [intOf]; omega
    · have hres : Hid (r = -1) := by
        show r = -1
        have : x ∉ ks := by
          have := hx.out
          rwa [List.take_of_length_le (by have := HL.out; omega)] at this
        rw [HR.out, if_neg this]
      go_wp2
      go_ret
      exact ⟨ret_i hres.out.symm, rfl⟩

/-- a list of the reference's: it reads as ks, in blocks of G -/
def RL (w : World) (G : Nat → Prop) (v : Value) (ks : List ByteArray) : Prop := ∃ A n c, v = .slice A n c ∧ Rd w G A n c (strs ks)
theorem RL.of_own {w : World} {base : Nat} {A : Option Addr} {n c : Nat} {ks : List ByteArray} (h : w.ownsRow base 9 1 (.slice A n c) n (strs ks)) : RL w (fun b => base ≤ b) (.slice A n c) ks := ⟨A, n, c, rfl, Rd.of_own h⟩
theorem RL.turn {w w' : World} {F G : Nat → Prop} {v : Value} {ks : List ByteArray} (h : RL w G v ks) (ht : Turn F w w') (hG : ∀ b, b < w.heap.size → G b → ¬ F b) : RL w' G v ks := by
  obtain ⟨A, n, c, e, h⟩ := h
  exact ⟨A, n, c, e, h.turn ht hG⟩
theorem RL.mono {w : World} {G G' : Nat → Prop} {v : Value} {ks : List ByteArray} (h : RL w G v ks) (hG : ∀ b, b < w.heap.size → G b → G' b) : RL w G' v ks := by
  obtain ⟨A, n, c, e, h⟩ := h
  exact ⟨A, n, c, e, h.mono hG⟩

/-- a list that a call answers: the old one, or one in new blocks -/
def RGives (w : World) (G : Nat → Prop) (ks : List ByteArray) (v : Value) (w' : World) : Prop := RL w' (fun b => G b ∨ w.heap.size ≤ b) v ks ∧ Below w.heap.size w w'

theorem add_ref_old (w : World) (G : Nat → Prop) (A : Option Addr) (n c : Nat) (ks : List ByteArray) (x : ByteArray) (hx : x ∈ ks) (h : Rd w G A n c (strs ks)) :
    Calls Try.prog 13 #[.slice A n c, .string x] w fun e w' => e = .returned (.tuple #[.slice A n c, .int .i64 (ks.idxOf x : Nat), .bool false]) ∧ w' = w := by
  have HC := Lib.hid (find_ref w G A n c ks x (ks.idxOf x : Nat) (by rw [Where, if_pos hx]) h)
  have hp : (0 : Int) ≤ (ks.idxOf x : Nat) := by omega
  clear h hx
  go_enter Try.func13, Try.ntmps13
  go_wp2_with (go_at_call 15; refine HC.out.mono ?_; rintro e w1 ⟨rfl, rfl⟩)
  go_ret3
  exact ⟨rfl, rfl⟩

theorem add_ref_new (w : World) (G : Nat → Prop) (A : Option Addr) (n c : Nat) (ks : List ByteArray) (x : ByteArray) (hx : x ∉ ks) (hn : n ≤ 1000000) (h : Rd w G A n c (strs ks)) :
    Calls Try.prog 13 #[.slice A n c, .string x] w fun e w' => ∃ v, e = .returned (.tuple #[v, .int .i64 (n : Nat), .bool true]) ∧ RGives w G (ks ++ [x]) v w' := by
  have HC := Lib.hid (find_ref w G A n c ks x (-1) (by rw [Where, if_neg hx]) h)
  have HH := Lib.hid h
  obtain ⟨i0, hi, hz0, hz1, hz2⟩ := info_parts infos
  have hm1 : 0 + n ≤ maxLen := by unfold maxLen; omega
  have hm2 : n + 1 ≤ maxLen := by unfold maxLen; omega
  have hb1 : (0 + n) * 16 ≤ 140737488355328 := by omega
  have hb2 : (n + 1) * 16 ≤ 140737488355328 := by omega
  have HF : Hid (∀ w1 w2 A2 c2, Below w.heap.size w w1 → w2.ownsRow w.heap.size 9 1 (.slice A2 (n + 1) c2) (n + 1) (strs ks ++ [.string x]) → Below w.heap.size w w2 → RGives w G (ks ++ [x]) (.slice A2 (n + 1) c2) w2) := fun w1 w2 A2 c2 _ o2 b2 =>
    ⟨(RL.of_own (ks := ks ++ [x]) (by rw [strs, List.map_append]; exact o2)).mono (fun b _ hb => .inr hb), b2⟩
  obtain ⟨L, HL⟩ : ∃ L, Hid (L = strs ks) := ⟨_, rfl⟩
  have hone := @strs_one ks
  rw [← HL.out] at HH HF hone
  have HO := Lib.hid hone
  clear h hx hone
  go_enter Try.func13, Try.ntmps13
  go_wp2_with (first
    | (go_at_call 15; refine HC.out.mono ?_; rintro e w1 ⟨rfl, rfl⟩)
    | (at_builtin; refine append_any _ rfl (.const (.slice none 0 0)) (.tmp 16) 26 rfl w1.heap.size 9 i0 (.string ByteArray.empty) 16 Try.underlying26 hi hz0 hz1 hz2 rfl (.slice none 0 0) 0 [] rfl (World.ownsRow_nil _ _ _ _) G A n c L rfl HH.out HO.out hm1 hb1 (Nat.le_refl _) ?_; intro A1 c1 w2 o1 g1 _; simp only [Nat.zero_add, List.nil_append] at o1 ⊢; have O1 := Lib.hid o1; have b1 : Below w1.heap.size w1 w2 := (Below.refl _ _).grown g1 (Nat.le_refl _) (by intro k hk; cases hk); have z1 := b1.size; clear o1)
    | (at_builtin; refine append_row _ rfl (.tmp 18) (.tmp 20) 26 rfl w1.heap.size 9 i0 (.string ByteArray.empty) 16 Try.underlying26 hi hz0 hz1 hz2 rfl _ n L rfl (O1.out.alloc _) ⟨w2.heap.size, 0, none⟩ 1 1 [.string x] rfl rfl (cell_one_new _ _ _) (fun u hu => by simp at hu; subst hu; rfl) hm2 hb2 (by simp; omega) ?_; intro A2 c2 w3 o2 g2 _; have O2 := Lib.hid o2; have B2 : Below w1.heap.size w1 w3 := (b1.alloc z1 _).grown g2 (by simp; omega) (fun k hk => (O1.out.lt k hk).1); clear o2))
  go_ret3
  exact ⟨_, rfl, HF.out _ _ _ _ b1 O2.out B2⟩

theorem cut_ref (w : World) (G : Nat → Prop) (A : Option Addr) (n c : Nat) (ks : List ByteArray) (i : Int) (k : Nat) (hi : i.toNat = k) (hn : n ≤ 1000000) (h : Rd w G A n c (strs ks)) :
    Calls Try.prog 11 #[.slice A n c, .int .i64 i] w fun e w' => ∃ v, e = .returned v ∧ RGives w G (ks.take k) v w' := by
  have hlen : ks.length = n := by have := h.len; rwa [List.length_map] at this
  by_cases hge : (n : Int) ≤ i
  · have HO : Hid (RGives w G (ks.take k) (.slice A n c) w) := by
      show RGives w G (ks.take k) (.slice A n c) w
      rw [List.take_of_length_le (by omega)]
      exact ⟨⟨A, n, c, rfl, h.mono (fun _ _ e => .inl e)⟩, Below.refl _ _⟩
    clear h hi hlen
    go_enter Try.func11, Try.ntmps11
    go_wp2
    go_ret
    exact ⟨_, rfl, HO.out⟩
  · by_cases hneg : i < 0
    · have HO : Hid (RGives w G (ks.take k) (.slice none 0 0) w) := by
        show RGives w G (ks.take k) (.slice none 0 0) w
        obtain rfl : k = 0 := by omega
        exact ⟨⟨none, 0, 0, rfl, Rd.nil_ _ _⟩, Below.refl _ _⟩
      clear h hi hlen
      go_enter Try.func11, Try.ntmps11
      go_wp2
      go_ret
      exact ⟨_, rfl, HO.out⟩
    · obtain rfl : i = (k : Int) := by omega
      have hk : k < n := by omega
      have hk2 : (k : Int) < (n : Int) := by omega
      have hc := h.le
      have hcm := h.cm
      have hkc : k ≤ c := by omega
      obtain ⟨b, off, rfl, _⟩ := h.at_ (by omega)
      have HH := Lib.hid (h.take (k := k) (by omega))
      obtain ⟨i0, hi0, hz0, hz1, hz2⟩ := info_parts infos
      have hm1 : 0 + k ≤ maxLen := by unfold maxLen; omega
      have hb1 : (0 + k) * 16 ≤ 140737488355328 := by omega
      have HF : Hid (∀ w2 A2 c2, w2.ownsRow w.heap.size 9 1 (.slice A2 k c2) k ((strs ks).take k) → Below w.heap.size w w2 → RGives w G (ks.take k) (.slice A2 k c2) w2) := fun w2 A2 c2 o2 b2 =>
        ⟨(RL.of_own (ks := ks.take k) (by rw [strs, List.map_take]; exact o2)).mono (fun b _ hb => .inr hb), b2⟩
      obtain ⟨L, HL⟩ : ∃ L, Hid (L = (strs ks).take k) := ⟨_, rfl⟩
      have hone : ∀ u ∈ L, u.oneCell' = true := fun u hu => strs_one u (List.mem_of_mem_take (by rw [← HL.out]; exact hu))
      rw [← HL.out] at HH HF
      have HO := Lib.hid hone
      unfold maxLen at hcm
      clear h hlen hi hone hge hneg
      go_enter Try.func11, Try.ntmps11
      go_wp2_with (at_builtin; refine append_any _ rfl (.const (.slice none 0 0)) (.tmp 14) 26 rfl w.heap.size 9 i0 (.string ByteArray.empty) 16 Try.underlying26 hi0 hz0 hz1 hz2 rfl (.slice none 0 0) 0 [] rfl (World.ownsRow_nil _ _ _ _) G _ k c L rfl HH.out HO.out hm1 hb1 (Nat.le_refl _) ?_; intro A1 c1 w2 o1 g1 _; simp only [Nat.zero_add, List.nil_append] at o1 ⊢; have O1 := Lib.hid o1; have b1 : Below w.heap.size w w2 := (Below.refl _ _).grown g1 (Nat.le_refl _) (by intro k hk; cases hk); clear o1)
      go_ret
      exact ⟨_, rfl, HF.out _ _ _ O1.out b1⟩
end Go.Proofs.Ytgijagdnhajkhaa
