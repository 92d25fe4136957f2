/- All, and the library's Clone; the reference's Ints. -/
import Derived.Test.YtgijagdnhajkhaaT9
namespace Go.Proofs.Ytgijagdnhajkhaa
open Go.RowKit

/-- what reads as a list of whole numbers, in blocks of G -/
def RI (w : World) (G : Nat → Prop) (v : Value) (zs : List Int) : Prop := ∃ A n c, v = .slice A n c ∧ Rd w G A n c (i64s zs)
theorem RI.turn {w w' : World} {F G : Nat → Prop} {v : Value} {zs : List Int} (h : RI w G v zs) (ht : Turn F w w') (hG : ∀ b, b < w.heap.size → G b → ¬ F b) : RI w' G v zs := by
  obtain ⟨A, n, c, e, h⟩ := h
  exact ⟨A, n, c, e, h.turn ht hG⟩
theorem RI.mono {w : World} {G G' : Nat → Prop} {v : Value} {zs : List Int} (h : RI w G v zs) (hG : ∀ b, b < w.heap.size → G b → G' b) : RI w G' v zs := by
  obtain ⟨A, n, c, e, h⟩ := h
  exact ⟨A, n, c, e, h.mono hG⟩
theorem RI.below {w w' : World} {G : Nat → Prop} {v : Value} {zs : List Int} (h : RI w G v zs) (hb : Below w.heap.size w w') : RI w' G v zs := h.turn (F := fun _ => False) (Turn.of_below hb) (fun _ _ _ e => e)
theorem RI.of_own {w : World} {base : Nat} {A : Option Addr} {n c : Nat} {zs : List Int} (h : w.ownsRow base 3 1 (.slice A n c) n (i64s zs)) : RI w (fun b => base ≤ b) (.slice A n c) zs := ⟨A, n, c, rfl, Rd.of_own h⟩

/-- a list that a call made -/
def Made (w : World) (zs : List Int) (v : Value) (w' : World) : Prop := RI w' (fun b => w.heap.size ≤ b) v zs ∧ Below w.heap.size w w'

theorem clone_any (w : World) (G : Nat → Prop) (A : Option Addr) (n c : Nat) (zs : List Int) (hn : n ≤ 1000000) (h : Rd w G A n c (i64s zs)) :
    Calls Try.prog 41 #[.slice A n c] w fun e w' => ∃ v, e = .returned v ∧ Made w zs v w' := by
  cases A with
  | none =>
    obtain ⟨rfl, rfl⟩ := h.nil rfl
    have hz : zs = [] := by have := h.len; exact List.eq_nil_of_length_eq_zero (by simpa using this)
    subst hz
    have hq := fun w => Lib.run_eql_slice_nil (P := Try.prog) w 44 3 none 0 0 0 0 Try.underlying44
    clear h
    go_enter Try.func41, Try.ntmps41
    go_wp2
    go_ret
    exact ⟨_, rfl, ⟨none, 0, 0, rfl, Rd.nil_ _ _⟩, Below.refl _ _⟩
  | some ad =>
    have hq := fun w => Lib.run_eql_slice_nil (P := Try.prog) w 44 3 (some ad) n c 0 0 Try.underlying44
    have HH := Lib.hid (h.below ((Below.refl _ _).alloc (Nat.le_refl _) (.cells #[] 3)))
    obtain ⟨i0, hi, hz0, hz1, hz2⟩ := info_parts infoi
    have hm1 : 0 + n ≤ maxLen := by unfold maxLen; omega
    have hb1 : (0 + n) * 8 ≤ 140737488355328 := by omega
    have HF : Hid (∀ w2 A2 c2, w2.ownsRow w.heap.size 3 1 (.slice A2 n c2) n (i64s zs) → Below w.heap.size w w2 → Made w zs (.slice A2 n c2) w2) := fun w2 A2 c2 o2 b2 => ⟨RI.of_own o2, b2⟩
    obtain ⟨L, HL⟩ : ∃ L, Hid (L = i64s zs) := ⟨_, rfl⟩
    have hone := @i64s_one zs
    rw [← HL.out] at HH HF hone
    have HO := Lib.hid hone
    clear h hone
    go_enter Try.func41, Try.ntmps41
    go_wp2_with (at_builtin; refine append_any _ rfl (.tmp 5) (.tmp 6) 44 rfl w.heap.size 3 i0 (.int .i64 0) 8 Try.underlying44 hi hz0 hz1 hz2 rfl _ 0 [] rfl (World.ownsRow_made w #[] 0 (Nat.le_refl _) (Nat.zero_le _) rfl) G _ n c L rfl HH.out HO.out hm1 hb1 (by simp) ?_; intro A1 c1 w2 o1 g1 _; simp only [Nat.zero_add, List.nil_append] at o1 ⊢; have O1 := Lib.hid o1; have b1 : Below w.heap.size w w2 := ((Below.refl _ _).alloc (Nat.le_refl _) _).grown g1 (by simp) (fun k hk => Nat.le_of_eq (Option.some.inj hk)); clear o1)
    go_ret
    exact ⟨_, rfl, HF.out _ _ _ O1.out b1⟩

theorem all_any (w : World) (F : Nat → Prop) (sb : Nat) (d : List (List Int)) (top : List Int) (h : Stk w F sb d top) :
    Calls Try.prog 28 #[.pointer (some ⟨sb, 0, none⟩)] w fun e w' => ∃ v, e = .returned v ∧ Made w (d.flatten ++ top) v w' := by
  obtain ⟨A, n, c, B, m, e, hp, hn, hm⟩ := h.pair
  have few := h.few
  have hlt := hp.lies.lt
  have c0 := hp.lies.cell 0
  simp at c0
  have HC := Lib.hid (clone_any w (fun b => 0 ≤ b) A n c (d.flatten ++ top) (by omega) (Rd.of_own hp.own0))
  clear hp h hn hm few
  go_enter Try.func28, Try.ntmps28
  go_wp2_with (go_at_call 41; refine HC.out.mono ?_; rintro e w2 ⟨v, rfl, hm⟩; have HM := Lib.hid hm; clear hm)
  go_ret
  exact ⟨v, rfl, HM.out⟩

/-- two lists that read alike are the same -/
theorem alike_any (w : World) (G H : Nat → Prop) (A B : Option Addr) (n c m e : Nat) (zs : List Int) (hn : n ≤ 1000000) (h : Rd w G A n c (i64s zs)) (k : Rd w H B m e (i64s zs)) :
    Calls Try.prog 27 #[.slice A n c, .slice B m e] w fun e w' => e = .returned (.bool true) ∧ ∃ q, w' = w.drewN q := by
  obtain rfl : m = n := by rw [← h.len, ← k.len]
  have hm : m ≤ 9223372036854775807 := by omega
  have HX : Hid (∀ j, j < m → ∃ b off b' off' x, A = some ⟨b, off, none⟩ ∧ B = some ⟨b', off', none⟩ ∧ w.cell? ⟨b, off + j, none⟩ = some (.int .i64 x) ∧ w.cell? ⟨b', off' + j, none⟩ = some (.int .i64 x)) := fun j hj => by
    obtain ⟨b, off, e, _, _, hcell⟩ := h.at_ (by omega)
    obtain ⟨b', off', e', _, _, hcell'⟩ := k.at_ (by omega)
    have hl := h.len
    rw [List.length_map] at hl
    have hg : (i64s zs)[j]? = some (.int .i64 (zs[j]'(by omega))) := by rw [List.getElem?_map, List.getElem?_eq_getElem (by omega)]; rfl
    exact ⟨b, off, b', off', _, e, e', hcell j _ hg, hcell' j _ hg⟩
  clear h k
  go_enter Try.func27, Try.ntmps27
  go_wp2
  go_loopw [5] (fun iv wr => ∃ i q : Nat, i ≤ m ∧ iv = .int .i64 (i : Nat) ∧ wr = w.drewN q) (fun iv _ => m - (intOf iv).toNat)
  case atStart => exact ⟨0, 0, Nat.zero_le _, rfl, rfl⟩
  case round =>
    obtain ⟨i, q, hi, rfl, rfl⟩ := hrel
    by_cases hlt : i < m
    · obtain ⟨b, off, b', off', x, rfl, rfl, h1, h2⟩ := HX.out i hlt
      have hlt' : (i : Int) < (m : Int) := by omega
      have h0 : (0 : Int) ≤ (i : Int) := by omega
      go_wp2
      go_quiet (fail)
      go_wp2
      go_roundw
      case rel => exact ⟨i + 1, _, by omega, by go_num, rfl⟩
      case measure => simp [intOf]; omega
    · go_wp2
      go_ret
      exact ⟨rfl, q, rfl⟩
end Go.Proofs.Ytgijagdnhajkhaa
