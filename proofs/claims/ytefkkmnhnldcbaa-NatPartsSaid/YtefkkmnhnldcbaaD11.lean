/- the reference's DivMod and Gcd by the numbers that their arguments say. -/
import Derived.Test.YtefkkmnhnldcbaaD10
import Derived.Test.YtefkkmnhnldcbaaA6
namespace Go.Proofs.Ytefkkmnhnldcbaa
open Go.RowKit

theorem BNum.zero {w : World} {v : Value} (h : BNum w v 0) : ∃ A c, v = .slice A 0 c := by
  obtain ⟨A, n, c, l, rfl, h1, h2, h3⟩ := h
  have := Bt.len_le (k := 0) h2 (by rw [h3]; simp)
  rw [h1.1] at this
  obtain rfl : n = 0 := by omega
  exact ⟨A, c, rfl⟩
theorem bnum_pos {w : World} {A : Option Addr} {n c N : Nat} {l : List Bool} (h : Bts w A n c l) (hv : Bt.val l = N) (hN : 0 < N) : 0 < n := by
  rcases Nat.eq_zero_or_pos n with rfl | h0
  · rw [List.eq_nil_of_length_eq_zero h.1] at hv
    simp [Bt.val_nil] at hv
    omega
  · exact h0
theorem bnum_no {w : World} {A : Option Addr} {c N : Nat} {l : List Bool} (h : Bts w A 0 c l) (hv : Bt.val l = N) : N = 0 := by
  rw [List.eq_nil_of_length_eq_zero h.1] at hv
  simpa [Bt.val_nil] using hv.symm

set_option maxHeartbeats 2000000 in
theorem rDivMod_num {w : World} {A B : Option Addr} {n m c d N K i : Nat} (h : In w A n c N) (k : In w B m d K) (hN : N < M.BB ^ i) (hK : K < M.BB ^ i) (hi : i ≤ 5000) (hp : 0 < K) :
    Calls Try.prog 25 #[.slice A n c, .slice B m d] w (GivesTwo w (N / K) (N % K)) := by
  have hQ : Hid (N / K < M.BB ^ i) := Nat.lt_of_le_of_lt (Nat.div_le_self _ _) hN
  have hR : Hid (N % K < M.BB ^ i) := Nat.lt_trans (Nat.mod_lt _ hp) hK
  have hN := Lib.hid hN
  have hK := Lib.hid hK
  have hP := Lib.hid hp
  clear hp
  go_enter Try.func25, Try.ntmps25
  go_wp2_with fail
  refine (bits_num k).mono ?_
  rintro e w1 ⟨v1, rfl, n1, b1⟩
  have h := h.below b1
  obtain ⟨A1, m1, c1, l1, rfl, t1, p1, e1, q1⟩ := n1.bts hK.out
  have hm1 := bnum_pos t1 e1 hP.out
  have E1 := Lib.hid e1
  clear e1
  go_wp2_with fail
  refine (bits_num h).mono ?_
  rintro e w2 ⟨v2, rfl, n2, b2⟩
  obtain ⟨A2, m2, c2, l2, rfl, t2, p2, e2, q2⟩ := n2.bts hN.out
  have HD := Lib.hid (rdivmod_any A2 A1 m2 m1 c2 c1 l2 l1 w2 t2 (t1.below b2) p1 (by rw [E1.out]; exact hP.out) (by omega) (by omega))
  rw [e2, E1.out] at HD
  have b2 : Below w.heap.size w w2 := b1.trans (b2.mono b1.size)
  clear e2 n1 n2 b1
  go_wp2_with fail
  refine HD.out.mono ?_
  rintro e w3 ⟨v3, v4, rfl, n3, n4, b3⟩
  have b3 : Below w.heap.size w w3 := b2.trans (b3.mono b2.size)
  obtain ⟨A3, m3, c3, rfl, L3⟩ := limbs_num n3 hQ.out (by omega)
  have L3 := Lib.hid L3
  clear b2 n3
  go_wp2_with fail
  refine L3.out.mono ?_
  rintro e w5 ⟨v5, rfl, n5, b5⟩
  obtain ⟨A4, m4, c4, rfl, L4⟩ := limbs_num (n4.below b5) hR.out (by omega)
  have L4 := Lib.hid L4
  have b5 : Below w.heap.size w w5 := b3.trans (b5.mono b3.size)
  clear b3 n4
  go_wp2_with fail
  refine L4.out.mono ?_
  rintro e w6 ⟨v6, rfl, n6, b6⟩
  go_wp2_with fail
  go_ret3
  exact ⟨v5, v6, rfl, n5.below b6, n6, b5.trans (b6.mono b5.size)⟩

theorem rDivMod_zero {w : World} {A B : Option Addr} {n m c d K : Nat} (k : In w B m d K) (hp : K = 0) :
    Calls Try.prog 25 #[.slice A n c, .slice B m d] w fun e w' => e = .returned (.tuple #[.slice none 0 0, .slice none 0 0, .int .i64 7]) ∧ Below w.heap.size w w' := by
  subst hp
  go_enter Try.func25, Try.ntmps25
  go_wp2_with fail
  refine (bits_num k).mono ?_
  rintro e w1 ⟨v1, rfl, n1, b1⟩
  obtain ⟨A1, c1, rfl⟩ := n1.zero
  go_wp2_with fail
  go_ret3
  exact ⟨rfl, b1⟩

/-- the number that lies at a slice of bits -/
def valAtB (w : World) (v : Value) : Nat :=
  match v with
  | .slice (some a) n _ => Bt.val ((List.range n).map fun j => match w.cell? ⟨a.block, a.off + j, none⟩ with | some (.bool x) => x | _ => false)
  | _ => 0
theorem Bts.valAtB {w : World} {A : Option Addr} {n c : Nat} {l : List Bool} (h : Bts w A n c l) : valAtB w (.slice A n c) = Bt.val l := by
  obtain ⟨h1, h2, h3, ⟨rfl, h4, _⟩ | ⟨b, off, rfl, _, hc⟩⟩ := h
  · rw [List.eq_nil_of_length_eq_zero (h1.trans h4)]
    simp [Go.Proofs.Ytefkkmnhnldcbaa.valAtB, Bt.val_nil]
  · have e : ((List.range n).map fun j => match w.cell? ⟨b, off + j, none⟩ with | some (.bool x) => x | _ => false) = l := by
      apply List.ext_getElem
      · simp [h1]
      · intro i h4 h5
        simp only [List.length_map, List.length_range] at h4
        simp only [List.getElem_map, List.getElem_range, hc i h4]
        exact Bt.getD_lt h5
    exact congrArg Bt.val e
theorem BNum.valAtB {w : World} {v : Value} {N : Nat} (h : BNum w v N) : valAtB w v = N := by
  obtain ⟨A, n, c, l, rfl, h1, h2, h3⟩ := h
  rw [h1.valAtB, h3]

set_option maxHeartbeats 2000000 in
theorem rGcd_num {w : World} {A B : Option Addr} {n m c d N K i : Nat} (h : In w A n c N) (k : In w B m d K) (hN : N < M.BB ^ i) (hK : K < M.BB ^ i) (hi : i ≤ 5000) :
    Calls Try.prog 27 #[.slice A n c, .slice B m d] w (Gives w (Nat.gcd N K)) := by
  obtain ⟨G, HG⟩ : ∃ G, Hid (Nat.gcd N K = G) := ⟨_, rfl⟩
  rw [HG.out]
  have hN := Lib.hid hN
  have hK := Lib.hid hK
  go_enter Try.func27, Try.ntmps27
  go_wp2_with fail
  refine (bits_num h).mono ?_
  rintro e w1 ⟨v1, rfl, n1, b1⟩
  have k := k.below b1
  go_wp2_with fail
  refine (bits_num k).mono ?_
  rintro e w2 ⟨v2, rfl, n2, b2⟩
  have n1 := n1.below b2
  have H0 := Lib.hid (b1.trans (b2.mono b1.size))
  go_wp2_with fail
  go_loopw [5, 6] (fun u v wr => ∃ N1 K1 : Nat, BNum wr u N1 ∧ BNum wr v K1 ∧ Hid (N1 < M.BB ^ i) ∧ Hid (K1 < M.BB ^ i) ∧ Hid (Nat.gcd N1 K1 = G) ∧ Below w.heap.size w wr) (fun _ v wr => valAtB wr v)
  case atStart => exact ⟨N, K, n1, n2, hN, hK, HG, H0.out⟩
  case round =>
    obtain ⟨N1, K1, hu, hv, l1, l2, hg, hbel⟩ := hrel
    obtain ⟨A1, m1, c1, k1, rfl, t1, p1, e1, q1⟩ := hu.bts l1.out
    obtain ⟨A2, m2, c2, k2, rfl, t2, p2, e2, q2⟩ := hv.bts l2.out
    by_cases h0 : m2 = 0
    · subst h0
      have hK0 := Lib.hid (bnum_no t2 e2)
      have hx : Hid (N1 = G) := by rw [← hg.out, hK0.out, Nat.gcd_zero_right]; exact rfl
      obtain ⟨A3, m3, c3, e3, L3⟩ := limbs_num hu l1.out (by omega)
      injection e3 with e31 e32 e33
      subst e31 e32 e33
      rw [hx.out] at L3
      have L3 := Lib.hid L3
      clear e1 e2
      go_wp2_with fail
      refine L3.out.mono ?_
      rintro e w4 ⟨v4, rfl, n4, b4⟩
      go_wp2_with fail
      go_ret
      exact ⟨v4, rfl, n4, hbel.trans (b4.mono hbel.size)⟩
    · have hm2 : 0 < m2 := by omega
      clear h0
      have hKp : Hid (0 < K1) := (show 0 < K1 from by
        rcases Nat.eq_zero_or_pos K1 with h | h
        · exfalso
          subst h
          obtain ⟨A', c', e'⟩ := hv.zero
          injection e' with _ e' _
          omega
        · exact h)
      have HD := Lib.hid (rdivmod_any A1 A2 m1 m2 c1 c2 k1 k2 wr t1 t2 p2 (by rw [e2]; exact hKp.out) (by omega) (by omega))
      rw [e1, e2] at HD
      have hlt : Hid (N1 % K1 < K1) := Nat.mod_lt _ hKp.out
      have hg2 : Hid (Nat.gcd K1 (N1 % K1) = G) := by rw [← hg.out, Nat.gcd_comm K1, ← Nat.gcd_rec, Nat.gcd_comm]; exact rfl
      clear e1 e2
      go_wp2_with fail
      refine HD.out.mono ?_
      rintro e w3 ⟨vq, vr, rfl, nq, nr, hb3⟩
      go_wp2_with fail
      go_roundw
      case rel => exact ⟨K1, N1 % K1, hv.below hb3, nr, l2, Nat.lt_trans hlt.out l2.out, hg2, hbel.trans (hb3.mono hbel.size)⟩
      case measure => rw [nr.valAtB, hv.valAtB]; exact hlt.out
end Go.Proofs.Ytefkkmnhnldcbaa
