/- nat: guessLimb: what it answers. -/
import Derived.Test.YtefkkmnhnldcbaaA11
import Derived.Test.YtefkkmnhnldcbaaMathS
namespace Go.Proofs.Ytefkkmnhnldcbaa
open Go.RowKit

/-- guessLimb's answer -/
def Guessed (w : World) (P V : Nat) (e : Ending) (w' : World) : Prop := ∃ G : Nat, e = .returned (.int .u64 G) ∧ M.GA P V G ∧ ∃ j, w' = w.drewN j

set_option maxHeartbeats 1000000 in
theorem guessLimb_any (A B : Option Addr) (n nn c d : Nat) (pl vl : List Nat) (w : World) (hp : Lims w A (n + 1) pl) (hv : Lims w B n vl) (hn : 2 ≤ n) (hn2 : n ≤ 1000000) (hnn : n < nn) (hh : 2147483648 ≤ vl.getD (n - 1) 0) (hP : M.val pl < M.val vl * M.BB) :
    Calls Try.prog 58 #[.slice A nn c, .slice B n d] w (Guessed w (M.val pl) (M.val vl)) := by
  have HF := Lib.hid (M.guess_ready hp.2.1 hv.2.1 hp.1 hv.1 hn)
  obtain ⟨pb, po, rfl, hpb, hpc⟩ := hp.at_ (by omega)
  obtain ⟨vb, vo, rfl, hvb, hvc⟩ := hv.at_ (by omega)
  obtain ⟨n1, Hn1⟩ : ∃ n1, Hid (n - 1 = n1) := ⟨_, rfl⟩
  obtain ⟨n2, Hn2⟩ : ∃ n2, Hid (n - 2 = n2) := ⟨_, rfl⟩
  have en1 : (n : Int) - 1 = (n1 : Int) := by have := Hn1.out; omega
  have en2 : (n : Int) - 2 = (n2 : Int) := by have := Hn2.out; omega
  have ln1 : n1 < n := by have := Hn1.out; omega
  have ln2 : n2 < n := by have := Hn2.out; omega
  obtain ⟨p0, HP0, hp0, hc0⟩ := hpc n (by omega)
  obtain ⟨p1, HP1, hp1, hc1⟩ := hpc n1 (by omega)
  obtain ⟨p2, HP2, hp2, hc2⟩ := hpc n2 (by omega)
  obtain ⟨high, HV1, hv1, hd1⟩ := hvc n1 (by omega)
  obtain ⟨next, HV2, hv2, hd2⟩ := hvc n2 (by omega)
  rw [Hn1.out, ← HV1.out] at hh
  rw [Hn1.out, Hn2.out, ← HP0.out, ← HP1.out, ← HP2.out, ← HV1.out, ← HV2.out] at HF
  have HPV := Lib.hid hP
  generalize M.val pl = P at *
  generalize M.val vl = V at *
  obtain ⟨top, HT⟩ : ∃ top, Hid (p1 + 4294967296 * p0 = top) := ⟨_, rfl⟩
  have ho := or_val p1 p0 hp1 hp0
  rw [HT.out] at ho
  have htop : top ≤ 18446744073709551615 := by have := HT.out; omega
  rw [show p0 * M.BB + p1 = top from by have := HT.out; rw [M.BB_eq]; omega] at HF
  have HS := Lib.hid (M.GI.start HF.out hh (by rw [M.BB_eq]; omega) HPV.out)
  obtain ⟨G0, HG0⟩ : ∃ G0, Hid (top / high = G0) := ⟨_, rfl⟩
  obtain ⟨R0, HR0⟩ : ∃ R0, Hid (top % high = R0) := ⟨_, rfl⟩
  have eG : (top : Int) / (high : Int) = (G0 : Int) := by rw [← HG0.out]; rfl
  have eR : (top : Int) % (high : Int) = (R0 : Int) := by rw [← HR0.out]; rfl
  rw [HG0.out, HR0.out] at HS
  have hpos : (0 : Int) < (high : Int) := by omega
  clear hP hpc hvc hp hv HG0 HR0 HT HP0 HP1 HP2 HV1 HV2
  go_enter Try.func58, Try.ntmps58
  go_wp2_with fail
  go_quiet (fail)
  generalize nq = qa
  go_wp2_with fail
  go_quiet (fail)
  rw [World.drewN_drewN]
  generalize qa + nq = qb
  go_wp2_with fail
  go_quiet (fail)
  rw [World.drewN_drewN]
  generalize qb + nq = qc
  go_wp2_with fail
  go_loopw [9, 10] (fun gv rv wr => ∃ G R : Nat, gv = .int .u64 G ∧ rv = .int .u64 R ∧ M.GI P V high top G R ∧ ∃ q, wr = w.drewN q) (fun gv _ _ => (intOf gv).toNat)
  case atStart => exact ⟨G0, R0, by rw [show IntKind.u64.wrap (G0 : Int) = (G0 : Int) from IntWalk.u64_in _ (by have := HS.out.le; rw [M.BB_eq] at this; omega)], by rw [eR], HS.out, _, rfl⟩
  case round =>
    obtain ⟨G, R, rfl, rfl, hI, q, rfl⟩ := hrel
    have hR := hI.rest
    have hG := hI.le
    rw [M.BB_eq] at hR hG
    have HI := Lib.hid hI
    clear hI
    obtain ⟨R2, HR2⟩ : ∃ R2, Hid (R + high = R2) := ⟨_, rfl⟩
    have eR2 : (R : Int) + (high : Int) = (R2 : Int) := by have := HR2.out; omega
    have wR2 : IntKind.u64.wrap (R2 : Int) = (R2 : Int) := IntWalk.u64_in _ (by omega)
    obtain ⟨GN, HGN⟩ : ∃ GN, Hid (G * next = GN) := ⟨_, rfl⟩
    have eGN : (G : Int) * (next : Int) = (GN : Int) := by rw [← HGN.out]; rfl
    have ho2 := or_val p2 R hp2 (by omega)
    obtain ⟨z, HZ⟩ : ∃ z, Hid (p2 + 4294967296 * R = z) := ⟨_, rfl⟩
    rw [HZ.out] at ho2
    have hRw : IntKind.u64.wrap ((R : Int) * 4294967296) = (R : Int) * 4294967296 := IntWalk.u64_in _ (by omega)
    by_cases hbig : 4294967296 ≤ G
    · obtain ⟨k, Hk⟩ : ∃ k, Hid (G - 1 = k) := ⟨_, rfl⟩
      have ek : (G : Int) - 1 = (k : Int) := by have := Hk.out; omega
      have wk : IntKind.u64.wrap (k : Int) = (k : Int) := IntWalk.u64_in _ (by have := Hk.out; omega)
      have e1 : (G : Int) / 4294967296 = 1 := by omega
      have HO := Lib.hid (M.guess_big HPV.out (by rw [M.BB_eq]; exact hbig))
      by_cases hbr : 4294967296 ≤ R2
      · have e2 : (R2 : Int) / 4294967296 = 1 := by have := HR2.out; omega
        have HA := Lib.hid (HI.out.broke HF.out HPV.out (by omega) HO.out (by rw [HR2.out, M.BB_eq]; exact hbr))
        rw [Hk.out] at HA
        go_wp2_with fail
        go_ret
        exact ⟨k, rfl, HA.out, _, rfl⟩
      · have e2 : (R2 : Int) / 4294967296 = 0 := by omega
        have HN := Lib.hid (HI.out.step (by omega) HO.out (by rw [HR2.out, M.BB_eq]; omega))
        rw [Hk.out, HR2.out] at HN
        go_wp2_with fail
        go_roundw
        case rel => exact ⟨k, R2, rfl, rfl, HN.out, _, rfl⟩
        case measure => simp [intOf]; have := Hk.out; omega
    · have e1 : (G : Int) / 4294967296 = 0 := by omega
      have hGN : GN ≤ 18446744065119617025 := by rw [← HGN.out]; have := Nat.mul_le_mul (show G ≤ 4294967295 by omega) hv2; omega
      have wGN : IntKind.u64.wrap (GN : Int) = (GN : Int) := IntWalk.u64_in _ (by omega)
      by_cases hov : z < GN
      · have hG0 : 0 < G := by
          rcases Nat.eq_zero_or_pos G with h0 | h0
          · exfalso
            have := HGN.out
            rw [h0, Nat.zero_mul] at this
            omega
          · exact h0
        obtain ⟨k, Hk⟩ : ∃ k, Hid (G - 1 = k) := ⟨_, rfl⟩
        have ek : (G : Int) - 1 = (k : Int) := by have := Hk.out; omega
        have wk : IntKind.u64.wrap (k : Int) = (k : Int) := IntWalk.u64_in _ (by have := Hk.out; omega)
        have HO := Lib.hid (HF.out.over G R HI.out.sum (by rw [HGN.out, M.BB_eq]; have := HZ.out; omega))
        by_cases hbr : 4294967296 ≤ R2
        · have e2 : (R2 : Int) / 4294967296 = 1 := by have := HR2.out; omega
          have HA := Lib.hid (HI.out.broke HF.out HPV.out hG0 HO.out (by rw [HR2.out, M.BB_eq]; exact hbr))
          rw [Hk.out] at HA
          go_wp2_with fail
          go_ret
          exact ⟨k, rfl, HA.out, _, rfl⟩
        · have e2 : (R2 : Int) / 4294967296 = 0 := by omega
          have HN := Lib.hid (HI.out.step hG0 HO.out (by rw [HR2.out, M.BB_eq]; omega))
          rw [Hk.out, HR2.out] at HN
          go_wp2_with fail
          go_roundw
          case rel => exact ⟨k, R2, rfl, rfl, HN.out, _, rfl⟩
          case measure => simp [intOf]; have := Hk.out; omega
      · have HA := Lib.hid (HI.out.done HF.out (by omega) (by rw [M.BB_eq]; omega) (by rw [HGN.out, M.BB_eq]; have := HZ.out; omega))
        go_wp2_with fail
        go_ret
        exact ⟨G, rfl, HA.out, _, rfl⟩
end Go.Proofs.Ytefkkmnhnldcbaa
