/- LexShows: its walk; a token that came in. -/
import Derived.Test.YtgnonopkefbhoaaDoorK13
import Derived.Lib.SmallJoins
import Derived.ProofKit
import Derived.OpenShut
namespace Go.Proofs.YtgnonopkefbhoaaDoor
open Go.RowKit Go.Shelf

theorem open_tok {H : Type} {enc : TypeId × Value → H} {W : World} {base : Nat} {v : Value} {d : DataW H} {p : List MemPlace} (hv : Value.okWide Tryd.prog W .any base 30 v) (h : DataW.Trod enc Tryd.prog W 0 (fun _ => true) true 30 v d p) :
    ∃ (k : Int) (T : ByteArray) (a : Int), v = .agg #[.int .i64 k, .string T, .int .i64 a] ∧ T.size ≤ maxLen := by
  obtain ⟨v0, v1, v2, y0, y1, y2, n, rfl, _, _, e0, e1, e2⟩ := Go.Joins.open_agg3 Tryd.underlying30 (by kernel_rfl) (by kernel_rfl) hv h
  have e0' : DataW.trod enc Tryd.prog W 0 (fun _ => true) true n 3 [v0] = some y0 := e0
  have e1' : DataW.trod enc Tryd.prog W 0 (fun _ => true) true n 9 [v1] = some y1 := e1
  have e2' : DataW.trod enc Tryd.prog W 0 (fun _ => true) true n 3 [v2] = some y2 := e2
  obtain ⟨z0, hz0, _⟩ := DataW.trod_int Tryd.underlying3 e0'
  obtain ⟨z1, hz1, _, hz⟩ := DataW.trod_string Tryd.underlying9 e1'
  obtain ⟨z2, hz2, _⟩ := DataW.trod_int Tryd.underlying3 e2'
  injection hz0 with hz0
  injection hz1 with hz1
  injection hz2 with hz2
  subst hz0
  subst hz1
  subst hz2
  exact ⟨z0, z1, z2, rfl, hz⟩

theorem tbox_at {w w' : World} {k at_ : Int} {T : ByteArray} (hB : Below (w.alloc (tbox k T at_)).heap.size (w.alloc (tbox k T at_)) w') :
    w.heap.size < w'.heap.size ∧ w'.cell? ⟨w.heap.size, 0, none⟩ = some (.int .i64 k) ∧ w'.cell? ⟨w.heap.size, 1, none⟩ = some (.string T) ∧ w'.cell? ⟨w.heap.size, 2, none⟩ = some (.int .i64 at_) := by
  have hBx := (Turn.of_below (F := fun _ => False) hB).lies (Lies.new w 30 #[.int .i64 k, .string T, .int .i64 at_]) id
  exact ⟨hBx.lt, by simpa using hBx.cell 0, by simpa using hBx.cell 1, by simpa using hBx.cell 2⟩

set_option maxRecDepth 100000 in
set_option maxHeartbeats 3200000 in
theorem lexShows_walk (k : Int) (T : ByteArray) (at_ : Int) (s : ByteArray) (w : World) (hT : T.size ≤ maxLen) (hs : s.size ≤ maxLen) (hm : MaxL w) :
    Calls Tryd.prog 4 #[.agg #[.int .i64 k, .string T, .int .i64 at_], .string s] w fun e w' => e = .returned (.bool true) ∧ Below w.heap.size w w' := by
  have HW := Lib.hid ((Below.refl _ w).alloc (Nat.le_refl _) (tbox k T at_))
  have HM := Lib.hid (hm.alloc (tbox k T at_))
  have HA := Lib.hid (kawake _ HM.out)
  unfold maxLen at hs hT
  clear hm
  by_cases hl : 2000 < T.size ∨ 2000 < s.size
  · have hl' : (2000 : Int) < (T.size : Int) ∨ ¬ (2000 : Int) < (T.size : Int) ∧ (2000 : Int) < (s.size : Int) := by omega
    clear hl
    rcases hl' with h1 | ⟨h1, h2⟩
    all_goals
      go_enter Tryd.func4, Tryd.ntmps4
      go_wp2_with (go_at_call 9; refine HA.out.mono ?_; rintro e w1 ⟨rfl, b1⟩; obtain ⟨z0, z1, z2, z3⟩ := tbox_at b1; have B1 := Lib.hid (HW.out.trans (b1.mono HW.out.size)); clear b1)
      go_ret
      exact ⟨rfl, B1.out⟩
  have h1 : ¬ (2000 : Int) < (T.size : Int) := by omega
  have h2 : ¬ (2000 : Int) < (s.size : Int) := by omega
  have HK := Lib.hid fun W hW => kshow k T at_ W (by omega) hW
  have HRs := Lib.hid fun W => rshow k T at_ W (by omega)
  obtain ⟨ok, hok⟩ : ∃ b, Lx.okShow k T.data.toList = b := ⟨_, rfl⟩
  rw [hok] at HK HRs
  have HSk := Lib.hid fun W => ksimple s W (by unfold maxLen; omega)
  have HSr := Lib.hid fun W => rsimple s W (by unfold maxLen; omega)
  obtain ⟨b, hb⟩ : ∃ b, Lx.simple s.data.toList = b := ⟨_, rfl⟩
  rw [hb] at HSk HSr
  clear hl hok hb
  go_enter Tryd.func4, Tryd.ntmps4
  go_wp2_with fail
  refine HA.out.mono ?_
  rintro e w1 ⟨rfl, b1⟩
  obtain ⟨z0, z1, z2, z3⟩ := tbox_at b1
  have B1 := Lib.hid b1
  have HM1 := Lib.hid (HM.out.below b1)
  clear b1
  go_wp2_with fail
  refine (HK.out _ HM1.out).mono ?_
  rintro e w2 ⟨h, b2⟩
  have B2 := Lib.hid (B1.out.trans (b2.mono B1.out.size))
  clear z0 z1 z2 z3 b2
  obtain ⟨z0, z1, z2, z3⟩ := tbox_at B2.out
  cases ok with
  | true =>
    first | rw [if_pos rfl] at h | rw [if_pos trivial] at h
    obtain ⟨V, rfl, hV⟩ := h
    go_wp2_with fail
    refine (HRs.out _).mono ?_
    rintro e w3 ⟨h, b3⟩
    first | rw [if_pos rfl] at h | rw [if_pos trivial] at h
    obtain ⟨V', rfl, hV'⟩ := h
    have hVV : (V.toList == V'.toList) = true := by rw [ByteArray.toList_eq, ByteArray.toList_eq, hV, hV']; exact beq_iff_eq.2 rfl
    have B3 := Lib.hid (HW.out.trans ((B2.out.trans (b3.mono B2.out.size)).mono HW.out.size))
    clear z0 z1 z2 z3 b3 hV hV'
    cases b
    all_goals
      go_wp2_with (first
        | (go_at_call 15; refine (HSk.out _).mono ?_; rintro e w4 ⟨rfl, q, rfl⟩)
        | (go_at_call 16; refine (HSr.out _).mono ?_; rintro e w5 ⟨rfl, rfl⟩))
      go_ret
      exact ⟨rfl, B3.out.trans ((Turn.none_ ((Turn.refl (fun _ => False) _).drewN _) (fun _ => id)).mono B3.out.size)⟩
  | false =>
    first | rw [if_neg (by decide)] at h | rw [if_neg (fun e => e)] at h
    subst h
    go_wp2_with fail
    refine (HRs.out _).mono ?_
    rintro e w3 ⟨h, b3⟩
    first | rw [if_neg (by decide)] at h | rw [if_neg (fun e => e)] at h
    subst h
    have B3 := Lib.hid (HW.out.trans ((B2.out.trans (b3.mono B2.out.size)).mono HW.out.size))
    clear z0 z1 z2 z3 b3
    cases b
    all_goals
      go_wp2_with (first
        | (go_at_call 15; refine (HSk.out _).mono ?_; rintro e w4 ⟨rfl, q, rfl⟩)
        | (go_at_call 16; refine (HSr.out _).mono ?_; rintro e w5 ⟨rfl, rfl⟩))
      go_ret
      exact ⟨rfl, B3.out.trans ((Turn.none_ ((Turn.refl (fun _ => False) _).drewN _) (fun _ => id)).mono B3.out.size)⟩
end Go.Proofs.YtgnonopkefbhoaaDoor
