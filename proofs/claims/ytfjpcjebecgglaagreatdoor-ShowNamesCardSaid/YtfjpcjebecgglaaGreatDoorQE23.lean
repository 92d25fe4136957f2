/- What the proofs of this claim use, text by text. -/
import Derived.Test.YtfjpcjebecgglaaGreatDoorQE20
import Derived.Test.YtfjpcjebecgglaaGreatDoorQE22
set_option linter.unusedSimpArgs false
set_option linter.unusedVariables false
set_option maxRecDepth 100000
set_option maxHeartbeats 25600000
namespace Go.Proofs.YtfjpcjebecgglaaGreatDoor
open Go.RowKit Go.Shelf
theorem Sh.name_facts : ∀ i : Fin 31, (Sh.nameL.getD i.val ⟨#[]⟩).data.toList ≠ [] → Bd.op (Sh.nameL.getD i.val ⟨#[]⟩).data.toList (if i.val = 14 then 1 else 2) = i.val ∧ Bd.reserved (Sh.nameL.getD i.val ⟨#[]⟩).data.toList = true := by decide +kernel
theorem Sh.name_once : ∀ i j : Fin 31, (Sh.nameL.getD i.val ⟨#[]⟩).data.toList ≠ [] → (Sh.nameL.getD i.val ⟨#[]⟩).data.toList = (Sh.nameL.getD j.val ⟨#[]⟩).data.toList → i = j ∨ ((i.val = 14 ∨ i.val = 16) ∧ (j.val = 14 ∨ j.val = 16)) := by decide +kernel
theorem Sh.name_in {op : Int} (h : (Sh.name op).data.toList ≠ []) : ∃ i : Fin 31, op = (i.val : Int) ∧ Sh.name op = Sh.nameL.getD i.val ⟨#[]⟩ := by
  unfold Sh.name at h ⊢
  split at h
  · rename_i h0
    by_cases h31 : op.toNat < 31
    · exact ⟨⟨op.toNat, h31⟩, by simp; omega, by rw [if_pos h0]⟩
    · rw [List.getD_eq_getElem?_getD, List.getElem?_eq_none (by show 31 ≤ _; omega)] at h
      exact absurd rfl h
  · exact absurd rfl h
def Sh.valid (P Q C D E F : Bool) : Bool := !(P && Q) && !(C && D) && (!E || ((P == C) && (Q == D) && F)) && !(!E && P && C) && !(!E && Q && D) && (E || !F || ((P || Q) && (C || D)))
theorem Sh.names_ways {op other : Int} (h : (Sh.name op).data.toList ≠ []) : ∃ P Q C D E F : Bool, (op == 14) = P ∧ (op == 16) = Q ∧ (other == 14) = C ∧ (other == 16) = D ∧ (op == other) = E ∧ ((Sh.name op).toList == (Sh.name other).toList) = F ∧ Sh.valid P Q C D E F = true := by
  refine ⟨_, _, _, _, _, _, rfl, rfl, rfl, rfl, rfl, rfl, ?_⟩
  have hF : ((Sh.name op).toList == (Sh.name other).toList) = decide ((Sh.name op).data.toList = (Sh.name other).data.toList) := by
    rw [ByteArray.toList_eq, ByteArray.toList_eq]
    by_cases e : (Sh.name op).data.toList = (Sh.name other).data.toList
    · rw [decide_eq_true e, e]; simp
    · rw [decide_eq_false e, beq_eq_false_iff_ne]; exact e
  rw [hF]
  by_cases e : op = other
  · subst e
    rw [decide_eq_true rfl, show (op == op) = true by simp]
    by_cases h1 : op = 14
    · subst h1; rfl
    · by_cases h2 : op = 16
      · subst h2; rfl
      · rw [show (op == 14) = false from beq_eq_false_iff_ne.2 h1, show (op == 16) = false from beq_eq_false_iff_ne.2 h2]; rfl
  · rw [show (op == other) = false from beq_eq_false_iff_ne.2 e]
    by_cases f : (Sh.name op).data.toList = (Sh.name other).data.toList
    · rw [decide_eq_true f]
      obtain ⟨i, rfl, hi⟩ := Sh.name_in h
      obtain ⟨j, rfl, hj⟩ := Sh.name_in (op := other) (by rw [← f]; exact h)
      have := Sh.name_once i j (by rw [← hi]; exact h) (by rw [← hi, ← hj]; exact f)
      rcases this with rfl | ⟨h1, h2⟩
      · exact absurd rfl e
      · rcases h1 with h1 | h1 <;> rcases h2 with h2 | h2 <;> rw [h1, h2] at e ⊢ <;> first | rfl | exact absurd rfl e
    · rw [decide_eq_false f]
      by_cases h1 : op = 14
      · subst h1
        by_cases h2 : other = 16
        · subst h2; rfl
        · rw [show (other == 14) = false from beq_eq_false_iff_ne.2 (fun q => e q.symm), show (other == 16) = false from beq_eq_false_iff_ne.2 h2]; rfl
      · by_cases h2 : op = 16
        · subst h2
          by_cases h3 : other = 14
          · subst h3; rfl
          · rw [show (other == 14) = false from beq_eq_false_iff_ne.2 h3, show (other == 16) = false from beq_eq_false_iff_ne.2 (fun q => e q.symm)]; rfl
        · rw [show (op == 14) = false from beq_eq_false_iff_ne.2 h1, show (op == 16) = false from beq_eq_false_iff_ne.2 h2]
          by_cases h3 : other = 14
          · subst h3; rfl
          · by_cases h4 : other = 16
            · subst h4; rfl
            · rw [show (other == 14) = false from beq_eq_false_iff_ne.2 h3, show (other == 16) = false from beq_eq_false_iff_ne.2 h4]; rfl
theorem showNames_walk (w : World) (op other : Int) (hN : NmT w) (hG : Gl w) :
    Calls Tryz.prog 5 #[.int .i64 op, .int .i64 other] w fun e w' => e = .returned (.bool true) ∧ Below w.heap.size w w' := by
  have HAw := Lib.hid (kawake12 w hN hG)
  have HN1 := Lib.hid fun W (hb : Below w.heap.size w W) => kname12 op W (hN.below hb)
  have HN2 := Lib.hid fun W (hb : Below w.heap.size w W) => kname12 other W (hN.below hb)
  by_cases h0 : (Sh.name op).data.toList = []
  · have hz := txt_no h0
    obtain ⟨s, hs⟩ : ∃ s, Sh.name op = s := ⟨_, rfl⟩
    obtain ⟨t, ht⟩ : ∃ s, Sh.name other = s := ⟨_, rfl⟩
    rw [hs] at HN1 hz
    rw [ht] at HN2
    clear h0 hN hG hs ht
    go_enter Tryz.func5, Tryz.ntmps5
    go_wp2_with fail
    refine HAw.out.mono ?_
    rintro e w1 ⟨rfl, b1⟩
    have HA1 := Lib.hid (HN1.out w1 b1)
    have HA2 := Lib.hid (HN2.out w1 b1)
    have B1 := Lib.hid b1
    clear b1 HN1 HN2 HAw
    go_wp2_with fail
    refine HA1.out.mono ?_
    rintro e w2 ⟨rfl, rfl⟩
    go_wp2_with fail
    refine HA2.out.mono ?_
    rintro e w2' ⟨rfl, rfl⟩
    go_wp2_with fail
    go_ret
    exact ⟨rfl, B1.out⟩
  · have hz := txt_ne h0
    obtain ⟨i, hi, hin⟩ := Sh.name_in h0
    obtain ⟨P, Q, C, D, E, F, h1, h2, h3, h4, h5, h6, hval⟩ := Sh.names_ways (other := other) h0
    have hf := Sh.name_facts i (by rw [← hin]; exact h0)
    rw [← hin] at hf
    have HR := Lib.hid fun W => kreserved (Sh.name op) W
    rw [hf.2] at HR
    have HO1 : Hid (op = 14 → ∀ W, Calls Tryz.prog 19 #[.string (Sh.name op), .int .i64 1] W fun e w' => e = .returned (.int .i64 op) ∧ Below W.heap.size W w') := fun e W => by
      have := roperation10 (Sh.name op) 1 W
      have hf1 := hf.1
      rw [if_pos (by omega)] at hf1
      rw [hf1, ← hi] at this
      exact this
    have HO2 : Hid (op ≠ 14 → ∀ W, Calls Tryz.prog 19 #[.string (Sh.name op), .int .i64 2] W fun e w' => e = .returned (.int .i64 op) ∧ Below W.heap.size W w') := fun e W => by
      have := roperation10 (Sh.name op) 2 W
      have hf1 := hf.1
      rw [if_neg (by omega)] at hf1
      rw [hf1, ← hi] at this
      exact this
    have HO : Hid (∀ W, Calls Tryz.prog 19 #[.string (Sh.name op), .int .i64 (if P then 1 else 2)] W fun e w' => e = .returned (.int .i64 op) ∧ Below W.heap.size W w') := by
      show ∀ W, _
      by_cases e : op = 14
      · rw [e] at h1
        have : P = true := by rw [← h1]; rfl
        rw [this, if_pos rfl]
        exact HO1.out e
      · have : P = false := by rw [← h1, beq_eq_false_iff_ne]; exact e
        rw [this, if_neg (by decide)]
        exact HO2.out e
    have hoo : (op == op) = true := by simp
    obtain ⟨s, hs⟩ : ∃ s, Sh.name op = s := ⟨_, rfl⟩
    obtain ⟨t, ht⟩ : ∃ s, Sh.name other = s := ⟨_, rfl⟩
    rw [hs] at HN1 hz HR HO h6
    rw [ht] at HN2 h6
    clear h0 hN hG hs ht hi hin hf HO1 HO2
    cases P <;> cases Q <;> cases C <;> cases D <;> cases E <;> cases F <;> first
      | exact absurd hval (by decide)
      | skip
    all_goals
      clear hval
      go_enter Tryz.func5, Tryz.ntmps5
      go_wp2_with fail
      refine HAw.out.mono ?_
      rintro e w1 ⟨rfl, b1⟩
      have HA1 := Lib.hid (HN1.out w1 b1)
      have HA2 := Lib.hid (HN2.out w1 b1)
      have B1 := Lib.hid b1
      clear b1 HN1 HN2 HAw
      go_wp2_with fail
      refine HA1.out.mono ?_
      rintro e w2 ⟨rfl, rfl⟩
      go_wp2_with fail
      refine HA2.out.mono ?_
      rintro e w2' ⟨rfl, rfl⟩
      go_wp2_with fail
      refine (HO.out _).mono ?_
      rintro e w3 ⟨rfl, b3⟩
      have B3 := Lib.hid (B1.out.trans (b3.mono B1.out.size))
      clear b3 HA1 HA2 HO
      go_wp2_with fail
      refine (HR.out _).mono ?_
      rintro e w4 ⟨rfl, rfl⟩
      go_wp2_with fail
      go_ret
      exact ⟨rfl, B3.out⟩
end Go.Proofs.YtfjpcjebecgglaaGreatDoor
