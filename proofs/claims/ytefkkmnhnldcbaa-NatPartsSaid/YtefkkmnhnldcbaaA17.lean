/- nat: Gcd, the whole of it. -/
import Derived.Test.YtefkkmnhnldcbaaL6
namespace Go.Proofs.Ytefkkmnhnldcbaa
open Go.RowKit

/-- the number that lies at a slice of limbs -/
def valAt (w : World) (v : Value) : Nat :=
  match v with
  | .slice (some a) n _ => M.val ((List.range n).map fun j => match w.cell? ⟨a.block, a.off + j, none⟩ with | some (.int _ x) => x.toNat | _ => 0)
  | _ => 0
theorem Lims.valAt {w : World} {A : Option Addr} {n c : Nat} {l : List Nat} (h : Lims w A n l) : valAt w (.slice A n c) = M.val l := by
  rcases Nat.eq_zero_or_pos n with rfl | hn
  · have e := h.1
    rw [List.eq_nil_of_length_eq_zero e]
    cases A <;> simp [Go.Proofs.Ytefkkmnhnldcbaa.valAt, M.val]
  · obtain ⟨b, off, rfl, _, hc⟩ := h.2.2 hn
    have e : ((List.range n).map fun j => match w.cell? ⟨b, off + j, none⟩ with | some (.int _ x) => x.toNat | _ => 0) = l := by
      apply List.ext_getElem
      · simp [h.1]
      · intro i h1 h2
        simp only [List.length_map, List.length_range] at h1
        simp only [List.getElem_map, List.getElem_range, hc i h1, Int.toNat_natCast]
        exact M.getD_lt h2
    exact congrArg M.val e
theorem Num.valAt {w : World} {v : Value} {N : Nat} (h : Num w v N) : valAt w v = N := by
  obtain ⟨A, n, c, l, rfl, h1, h2, h3, h4, h5⟩ := h
  rw [h1.valAt, h3]
theorem Num.no {w : World} {A : Option Addr} {c N : Nat} (h : Num w (.slice A 0 c) N) : N = 0 := by
  obtain ⟨A', n', c', l, e, h1, h2, h3, h4, h5⟩ := h
  injection e with _ e2 _
  subst e2
  rw [← h3, List.eq_nil_of_length_eq_zero h1.1]
  rfl
theorem Num.some {w : World} {A : Option Addr} {n c N : Nat} (h : Num w (.slice A n c) N) (hn : 0 < n) : 0 < N := by
  obtain ⟨A', n', c', l, e, h1, h2, h3, h4, h5⟩ := h
  injection e with _ e2 _
  subst e2
  rw [← h3]
  exact h2.pos (by intro e; have := h1.1; rw [e] at this; simp at this; omega)
theorem Num.small {w : World} {A : Option Addr} {n c N : Nat} (h : Num w (.slice A n c) N) (hn : n ≤ 2) :
    N ≤ 18446744073709551615 ∧ Calls Try.prog 46 #[.slice A n c] w fun e w' => e = .returned (.tuple #[.int .u64 (N : Nat), .bool true]) ∧ w = w' := by
  obtain ⟨A', n', c', l, e, h1, h2, h3, h4, h5⟩ := h
  injection e with e1 e2 e3
  subst e1 e2 e3
  subst h3
  refine ⟨?_, small_yes _ _ _ _ _ h1 hn⟩
  have q1 := M.val_lt h1.2.1
  rw [h1.1] at q1
  have q2 : M.BB ^ n ≤ M.BB ^ 2 := Nat.pow_le_pow_right M.BB_pos hn
  have q3 : M.BB ^ 2 = 18446744073709551616 := by rw [M.BB_eq]
  omega

set_option maxHeartbeats 2000000 in
theorem gcd_any (A B : Option Addr) (n m c d N K X : Nat) (w : World) (ha : In w A n c N) (hb : In w B m d K) (la : N < M.BB ^ X) (lb : K < M.BB ^ X) (hX : X ≤ 1000000) :
    Calls Try.prog 26 #[.slice A n c, .slice B m d] w (Gives w (Nat.gcd N K)) := by
  obtain ⟨G, HG⟩ : ∃ G, Hid (Nat.gcd N K = G) := ⟨_, rfl⟩
  rw [HG.out]
  have LA := Lib.hid la
  have LB := Lib.hid lb
  clear la lb
  go_enter Try.func26, Try.ntmps26
  go_wp2_with fail
  refine (norm_num ha).mono ?_
  rintro e w1 ⟨v1, rfl, hv1, hb1⟩
  go_wp2_with fail
  refine (norm_num (hb.below hb1)).mono ?_
  rintro e w2 ⟨v2, rfl, hv2, hb2⟩
  have H0 := Lib.hid (hb1.trans (hb2.mono hb1.size))
  have hv1' := hv1.below hb2
  go_wp2_with fail
  go_loopw [0, 1] (fun u v wr => ∃ N1 K1 : Nat, Num wr u N1 ∧ Num wr v K1 ∧ Hid (N1 < M.BB ^ X) ∧ Hid (K1 < M.BB ^ X) ∧ Hid (Nat.gcd N1 K1 = G) ∧ Below w.heap.size w wr) (fun _ v wr => valAt wr v)
  case atStart => exact ⟨N, K, hv1', hv2, LA, LB, HG, H0.out⟩
  case round =>
    obtain ⟨N1, K1, hu, hv, l1, l2, hg, hbel⟩ := hrel
    obtain ⟨A1, n1, c1, rfl, i1⟩ := hu.inn l1.out hX
    obtain ⟨A2, n2, c2, rfl, i2⟩ := hv.inn l2.out hX
    by_cases h0 : n2 = 0
    · subst h0
      have hK := Lib.hid hv.no
      have hx : Hid (N1 = G) := by rw [← hg.out, hK.out, Nat.gcd_zero_right]; exact rfl
      go_wp2_with fail
      go_ret
      exact ⟨_, rfl, hu.cast hx.out, hbel⟩
    · have hn2 : 0 < n2 := by omega
      clear h0
      have hK := Lib.hid (hv.some hn2)
      have hsz2 : n2 ≤ 1000000 := by obtain ⟨_, _, _, _, _, q⟩ := i2; exact q
      by_cases hss : n1 ≤ 2 ∧ n2 ≤ 2
      · obtain ⟨hN, HS⟩ := hu.small hss.1
        obtain ⟨hK2, HT⟩ := hv.small hss.2
        have HS := Lib.hid HS
        have HT := Lib.hid HT
        have HU := Lib.hid (gcd_small N1 K1 wr hN hK2)
        rw [hg.out] at HU
        have HO : Hid (∀ W, Calls Try.prog 28 #[.int .u64 (G : Nat)] W (Gives W G)) := fun W => of_any G W (by
          rw [← hg.out]
          exact Nat.le_trans (Nat.gcd_le_right N1 hK.out) hK2)
        clear hss hN hK2
        go_wp2_with fail
        refine HS.out.mono ?_
        rintro e w3 ⟨rfl, rfl⟩
        go_wp2_with fail
        refine HT.out.mono ?_
        rintro e w3 ⟨rfl, rfl⟩
        go_wp2_with fail
        refine HU.out.mono ?_
        rintro e w3 ⟨rfl, q, rfl⟩
        go_wp2_with fail
        refine (HO.out _).mono ?_
        rintro e w3 ⟨v, rfl, hv, hbel3⟩
        go_wp2_with fail
        go_ret
        exact ⟨v, rfl, hv, hbel.trans ((below_drewN (Below.refl _ _) q).trans (hbel3.mono hbel.size))⟩
      · obtain ⟨x1, b1, x2, b2, HS, HT, hc⟩ : ∃ (x1 : Int) (b1 : Bool) (x2 : Int) (b2 : Bool), Hid (Calls Try.prog 46 #[.slice A1 n1 c1] wr fun e w' => e = .returned (.tuple #[.int .u64 x1, .bool b1]) ∧ wr = w') ∧ Hid (Calls Try.prog 46 #[.slice A2 n2 c2] wr fun e w' => e = .returned (.tuple #[.int .u64 x2, .bool b2]) ∧ wr = w') ∧ (b1 = false ∨ (b1 = true ∧ b2 = false)) := by
          by_cases h1 : n1 ≤ 2
          · have h2 : 2 < n2 := by omega
            exact ⟨_, _, _, _, (hu.small h1).2, small_no A2 n2 c2 wr h2, .inr ⟨rfl, rfl⟩⟩
          · by_cases h2 : n2 ≤ 2
            · exact ⟨_, _, _, _, small_no A1 n1 c1 wr (by omega), (hv.small h2).2, .inl rfl⟩
            · exact ⟨_, _, _, _, small_no A1 n1 c1 wr (by omega), small_no A2 n2 c2 wr (by omega), .inl rfl⟩
        clear hss
        have HD := Lib.hid (divMod_num i1 i2 hK.out)
        have hlt : Hid (N1 % K1 < K1) := Nat.mod_lt _ hK.out
        have hg2 : Hid (Nat.gcd K1 (N1 % K1) = G) := by rw [← hg.out, Nat.gcd_comm K1, ← Nat.gcd_rec, Nat.gcd_comm]; exact rfl
        rcases hc with rfl | ⟨rfl, rfl⟩
        all_goals
          go_wp2_with fail
          refine HS.out.mono ?_
          rintro e w3 ⟨rfl, rfl⟩
          go_wp2_with fail
          refine HT.out.mono ?_
          rintro e w3 ⟨rfl, rfl⟩
          go_wp2_with fail
          refine HD.out.mono ?_
          rintro e w3 ⟨vq, vr, rfl, nq, nr, hb3⟩
          go_wp2_with fail
          go_roundw
          case rel => exact ⟨K1, N1 % K1, hv.below hb3, nr, l2, Nat.lt_trans hlt.out l2.out, hg2, hbel.trans (hb3.mono hbel.size)⟩
          case measure => rw [nr.valAt, hv.valAt]; exact hlt.out
end Go.Proofs.Ytefkkmnhnldcbaa
