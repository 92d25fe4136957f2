/- nat: gcdSmall, divideBy: what each answers. -/
import Derived.Test.YtefkkmnhnldcbaaA4
namespace Go.Proofs.Ytefkkmnhnldcbaa
open Go.RowKit

theorem gcd_small (a b : Nat) (w : World) (_ha : a ≤ 18446744073709551615) (_hb : b ≤ 18446744073709551615) :
    Calls Try.prog 50 #[.int .u64 a, .int .u64 b] w fun e w' => e = .returned (.int .u64 (Nat.gcd a b : Nat)) ∧ ∃ j, w' = w.drewN j := by
  obtain ⟨G, HG⟩ : ∃ G, Hid (Nat.gcd a b = G) := ⟨_, rfl⟩
  rw [HG.out]
  go_enter Try.func50, Try.ntmps50
  go_wp2_with fail
  go_loopw [0, 1] (fun u v wr => ∃ x y : Nat, u = .int .u64 x ∧ v = .int .u64 y ∧ Hid (Nat.gcd x y = G) ∧ ∃ q, wr = w.drewN q) (fun _ v _ => (intOf v).toNat)
  case atStart => exact ⟨a, b, rfl, rfl, HG, 0, rfl⟩
  case round =>
    obtain ⟨x, y, rfl, rfl, HX, q, rfl⟩ := hrel
    by_cases h0 : y = 0
    · subst h0
      have hx : Hid (x = G) := by rw [← HX.out, Nat.gcd_zero_right]; exact rfl
      go_wp2_with fail
      go_ret
      exact ⟨ret_int (by rw [hx.out]), q, rfl⟩
    · have hy : ((y : Int) == 0) = false := by simpa using h0
      have hpos : (0 : Int) < (y : Int) := by omega
      clear h0
      have hm : x % y < y := Nat.mod_lt _ (by omega)
      have hg : Hid (Nat.gcd y (x % y) = G) := by rw [← HX.out, Nat.gcd_comm y, ← Nat.gcd_rec, Nat.gcd_comm]; exact rfl
      go_wp2_with fail
      go_quiet (fail)
      go_wp2_with fail
      go_roundw
      case rel => exact ⟨y, x % y, rfl, by go_num, hg, _, World.drewN_drewN _ _ _⟩
      case measure => simp [intOf]; omega

/-- divideBy's answer: the rest, and the whole part in place -/
def Divided (W : World) (g n d : Nat) (L : List Nat) (e : Ending) (w' : World) : Prop :=
  ∃ L' : List Nat, e = .returned (.int .u32 (M.val (L.take n) % d : Nat)) ∧ Row w' g L' ∧ W.grownBy w' (some g) ∧ L'.length = L.length ∧ M.Fit L' ∧ M.val (L'.take n) = M.val (L.take n) / d ∧ ∀ q, n ≤ q → L'.getD q 0 = L.getD q 0

theorem divideBy_any (g n c d : Nat) (L : List Nat) (w : World) (hrow : Row w g L) (hf : M.Fit L) (hn : n ≤ L.length) (hc : n ≤ 1000000) (hd : 1 ≤ d) (hd' : d ≤ 4294967295) :
    Calls Try.prog 47 #[.slice (some ⟨g, 0, none⟩) n c, .int .u32 d] w (Divided w g n d L) := by
  have hg : Hid (g < w.heap.size) := hrow.lt
  go_enter Try.func47, Try.ntmps47
  go_wp2_with fail
  go_loopw [5, 11] (fun rv jv wr => ∃ (j r : Nat) (L' : List Nat), j ≤ n ∧ r ≤ 4294967295 ∧ jv = .int .i64 j ∧ rv = .int .u64 r ∧ Row wr g L' ∧ M.DivInv L L' n (n - j) d r ∧ w.grownBy wr (some g)) (fun _ jv _ => n - (intOf jv).toNat)
  case atStart => exact ⟨0, 0, L, by omega, by omega, rfl, rfl, hrow, M.DivInv.start hf hn (by omega), World.grownBy.refl _ _⟩
  case round =>
    obtain ⟨j, r, L', hj, hr, rfl, rfl, hrow', hinv, hgr⟩ := hrel
    by_cases hlt : j < n
    · obtain ⟨i, hi⟩ : ∃ i : Nat, Hid (n - 1 - j = i) := ⟨_, rfl⟩
      have hi1 : i < n := by have := hi.out; omega
      have he : (n : Int) - 1 - (j : Int) = (i : Int) := by have := hi.out; omega
      have hinv : M.DivInv L L' n (i + 1) d r := by have e : n - j = i + 1 := by have := hi.out; omega
                                                    rw [← e]; exact hinv
      obtain ⟨x, HX⟩ : ∃ x, Hid (x = L'.getD i 0) := ⟨_, rfl⟩
      have hx : x ≤ 4294967295 := by rw [HX.out]; exact fit_of hinv.fit i
      have hcell : wr.cell? ⟨g, i, none⟩ = some (.int .u32 (x : Int)) := by rw [HX.out]; exact hrow'.cell (by rw [hinv.len]; omega)
      have hfr := hrow'.frozen i
      have ho := or_val x r hx hr
      obtain ⟨t, ht⟩ : ∃ t, Hid (t = x + 4294967296 * r) := ⟨_, rfl⟩
      rw [← ht.out] at ho
      have htb : t ≤ 18446744073709551615 := by rw [ht.out]; omega
      obtain ⟨hq, hinv'⟩ := hinv.step (t := t) hi1 hn HX.out (by rw [ht.out, M.BB_eq])
      obtain ⟨q, Hq⟩ : ∃ q, Hid (q = t / d) := ⟨_, rfl⟩
      obtain ⟨r', Hr⟩ : ∃ r', Hid (r' = t % d) := ⟨_, rfl⟩
      have hrd : r' < d := by rw [Hr.out]; exact Nat.mod_lt _ (by omega)
      rw [← Hq.out] at hq hinv'
      rw [← Hr.out] at hinv'
      rw [M.BB_eq] at hq
      have eq1 : (t : Int) / (d : Int) = (q : Int) := by rw [Hq.out]; rfl
      have eq2 : (t : Int) % (d : Int) = (r' : Int) := by rw [Hr.out]; rfl
      have hd1 : (1 : Int) ≤ (d : Int) := by omega
      have HR := Lib.hid (hrow'.set_ i q)
      have HG := Lib.hid (only_setCell hgr (p := ⟨g, i, none⟩) (.inl rfl) (.int .u32 (q : Int)))
      go_wp2_with fail
      go_roundw
      case rel => exact ⟨j + 1, r', _, by omega, by omega, by go_num, by rw [eq2], HR.out, by have e : n - (j + 1) = i := by have := hi.out; omega
                                                                                              rw [e]; exact hinv', HG.out⟩
      case measure => simp [intOf]; omega
    · obtain rfl : j = n := by omega
      rw [Nat.sub_self] at hinv
      obtain ⟨e1, e2⟩ := hinv.end_
      have E2 := Lib.hid e2
      clear e2
      go_wp2_with fail
      go_ret
      exact ⟨L', by rw [← E2.out]; rfl, hrow', hgr, hinv.len, hinv.fit, e1, hinv.high⟩

end Go.Proofs.Ytefkkmnhnldcbaa
