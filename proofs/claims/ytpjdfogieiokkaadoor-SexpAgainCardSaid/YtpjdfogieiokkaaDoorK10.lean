/- The code: write, Show. -/
import Derived.Test.YtpjdfogieiokkaaDoorK9
import Derived.Test.YtpjdfogieiokkaaDoorR11
namespace Go.Proofs.YtpjdfogieiokkaaDoor
open Go.RowKit Go.Shelf

set_option maxRecDepth 100000 in
set_option maxHeartbeats 3200000 in
theorem kwrite (k : Int) (T : ByteArray) (at_ : Int) (w : World) (hT : T.size ≤ 1100000) (hm : MaxL w) :
    Calls Tryd.prog 76 #[.agg #[.int .i64 k, .string T, .int .i64 at_]] w fun e w' =>
      ∃ V : ByteArray, e = .returned (.string V) ∧ V.data.toList = Lx.show k T.data.toList ∧ V.size ≤ 4000000 ∧ Below w.heap.size w w' := by
  obtain ⟨X, hX⟩ : ∃ X, Lx.show k T.data.toList = X := ⟨_, rfl⟩
  rw [hX]
  have HX := Lib.hid hX
  obtain ⟨sm, hsm⟩ : ∃ b, Lx.simple T.data.toList = b := ⟨_, rfl⟩
  have HS := Lib.hid fun W => ksimple T W (by unfold maxLen; omega)
  rw [hsm] at HS
  have HSM := Lib.hid hsm
  have HBa := Lib.hid ((Below.refl _ w).alloc (Nat.le_refl _) (tbox k T at_))
  have HMa := Lib.hid (hm.alloc (tbox k T at_))
  have hTs : T.size ≤ 4000000 := by omega
  have hadd : ∀ (a b : ByteArray) (W : World), a.size ≤ 8388608 → b.size ≤ 8388608 → (Op.stringOp .add a b).run Tryd.prog W = .ok (.string (a ++ b)) W := fun a b W ha hb => run_string_add W a b (by omega) (by omega)
  clear hX hsm hm
  have hways : (k = 3 ∧ sm = true) ∨ (k = 3 ∧ sm = false) ∨ k = 6 ∨ (k ≠ 3 ∧ k ≠ 6) := by
    by_cases h3 : k = 3
    · cases sm
      · exact .inr (.inl ⟨h3, rfl⟩)
      · exact .inl ⟨h3, rfl⟩
    · by_cases h6 : k = 6
      · exact .inr (.inr (.inl h6))
      · exact .inr (.inr (.inr ⟨h3, h6⟩))
  rcases hways with ⟨hk, rfl⟩ | ⟨hk, rfl⟩ | hk | ⟨h3, h6⟩
  · have k3 : (k == 3) = true := beq_iff_eq.2 hk
    have k6 : (k == 6) = false := beq_eq_false_iff_ne.2 (by omega)
    have HV : Hid (T.data.toList = X) := by show _ = _; rw [← HX.out, hk, Lx.show, if_pos rfl, if_pos HSM.out]
    clear hk hadd
    go_enter Tryd.func76, Tryd.ntmps76
    go_wp2_with (go_at_call 83; refine (HS.out _).mono ?_; rintro e w1 ⟨rfl, q, rfl⟩)
    go_ret
    exact ⟨T, rfl, HV.out, hTs, HBa.out.trans ((Turn.none_ ((Turn.refl (fun _ => False) _).drewN _) (fun _ => id)).mono (by simp))⟩
  · have k3 : (k == 3) = true := beq_iff_eq.2 hk
    have k6 : (k == 6) = false := beq_eq_false_iff_ne.2 (by omega)
    have a1 := fun W => hadd ⟨#[124]⟩ T W (by decide) (by omega)
    obtain ⟨V1, hV1⟩ : ∃ V : ByteArray, ⟨#[124]⟩ ++ T = V := ⟨_, rfl⟩
    obtain ⟨q1, q2⟩ := app_bytes ⟨#[124]⟩ T
    rw [hV1] at a1 q1 q2
    have q2' : V1.size ≤ 1100001 := by rw [q2]; show 1 + T.size ≤ _; omega
    have a2 := fun W => hadd V1 ⟨#[124]⟩ W (by omega) (by decide)
    obtain ⟨V, hV⟩ : ∃ V : ByteArray, V1 ++ ⟨#[124]⟩ = V := ⟨_, rfl⟩
    obtain ⟨q3, q4⟩ := app_bytes V1 ⟨#[124]⟩
    rw [hV] at a2 q3 q4
    have HV : Hid (V.data.toList = X) := by show _ = _; rw [← HX.out, hk, Lx.show, if_pos rfl, if_neg (by rw [HSM.out]; decide), q3, q1]; rfl
    have hVs : V.size ≤ 4000000 := by rw [q4]; show V1.size + 1 ≤ _; omega
    clear hk hadd hV1 hV q1 q2 q3 q4 q2'
    go_enter Tryd.func76, Tryd.ntmps76
    go_wp2_with (go_at_call 83; refine (HS.out _).mono ?_; rintro e w1 ⟨rfl, q, rfl⟩)
    go_ret
    exact ⟨V, rfl, HV.out, hVs, HBa.out.trans ((Turn.none_ ((Turn.refl (fun _ => False) _).drewN _) (fun _ => id)).mono (by simp))⟩
  · have k3 : (k == 3) = false := beq_eq_false_iff_ne.2 (by omega)
    have k6 : (k == 6) = true := beq_iff_eq.2 hk
    obtain ⟨V0, hV0⟩ : ∃ V : ByteArray, (⟨(Lx.dbl T.data.toList).toArray⟩ : ByteArray) = V := ⟨_, rfl⟩
    have HD := Lib.hid fun W hW => kdouble T W hW hTs
    have q0 : V0.data.toList = Lx.dbl T.data.toList := by rw [← hV0]
    have q0' : V0.size ≤ 2200000 := by
      have := Lx.dbl_len T.data.toList
      rw [← len_bytes, q0]
      rw [len_bytes] at this
      omega
    rw [hV0] at HD
    have a1 := fun W => hadd ⟨#[34]⟩ V0 W (by decide) (by omega)
    obtain ⟨V1, hV1⟩ : ∃ V : ByteArray, ⟨#[34]⟩ ++ V0 = V := ⟨_, rfl⟩
    obtain ⟨q1, q2⟩ := app_bytes ⟨#[34]⟩ V0
    rw [hV1] at a1 q1 q2
    have q2' : V1.size ≤ 2200001 := by rw [q2]; show 1 + V0.size ≤ _; omega
    have a2 := fun W => hadd V1 ⟨#[34]⟩ W (by omega) (by decide)
    obtain ⟨V, hV⟩ : ∃ V : ByteArray, V1 ++ ⟨#[34]⟩ = V := ⟨_, rfl⟩
    obtain ⟨q3, q4⟩ := app_bytes V1 ⟨#[34]⟩
    rw [hV] at a2 q3 q4
    have HV : Hid (V.data.toList = X) := by show _ = _; rw [← HX.out, hk, Lx.show, if_neg (by decide), if_pos rfl, q3, q1, q0]; rfl
    have hVs : V.size ≤ 4000000 := by rw [q4]; show V1.size + 1 ≤ _; omega
    clear hk hadd hV0 q0 q0' hV1 hV q1 q2 q3 q4 q2'
    go_enter Tryd.func76, Tryd.ntmps76
    go_wp2_with (go_at_call 73; refine (HD.out _ HMa.out).mono ?_; rintro e w1 ⟨rfl, b1⟩)
    go_ret
    exact ⟨V, rfl, HV.out, hVs, HBa.out.trans (b1.mono (by simp))⟩
  · have k3 : (k == 3) = false := beq_eq_false_iff_ne.2 h3
    have k6 : (k == 6) = false := beq_eq_false_iff_ne.2 h6
    have HV : Hid (T.data.toList = X) := by show _ = _; rw [← HX.out, Lx.show, if_neg h3, if_neg h6]
    clear h3 h6 hadd
    go_enter Tryd.func76, Tryd.ntmps76
    go_wp2
    go_ret
    exact ⟨T, rfl, HV.out, hTs, HBa.out⟩
end Go.Proofs.YtpjdfogieiokkaaDoor
