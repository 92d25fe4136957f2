/- NatSmall: its walk. -/
import Derived.Test.YtefkkmnhnldcbaaC1
import Derived.Test.YtefkkmnhnldcbaaD3
import Derived.OpenShut
namespace Go.Proofs.Ytefkkmnhnldcbaa
open Go.RowKit

/-- a slice of integers that came in, as limbs -/
theorem lims_of {w : World} {a : Option Addr} {len cap : Nat} {zs : List Int}
    (h : (a = none ∧ len = 0 ∧ cap = 0 ∧ zs = []) ∨ ∃ x, a = some x ∧ len ≤ cap ∧ cap ≤ maxLen ∧ zs.length = cap ∧ (∀ i, i < zs.length → w.cell? (x.add i) = some (.int .u32 (zs.getD i 0))) ∧ ∀ n ∈ zs, (Lit.int .u32 n).wf = true) :
    ∃ l, Lims w a len l ∧ len ≤ cap ∧ cap ≤ maxLen := by
  rcases h with ⟨rfl, rfl, rfl, rfl⟩ | ⟨x, rfl, h1, h2, h3, h4, h5⟩
  · exact ⟨[], Lims.nil_ _ _, by omega, by omega⟩
  · refine ⟨(zs.take len).map Int.toNat, ⟨by simp; omega, M.Fit.of_mem fun y hy => ?_, fun hn => ?_⟩, h1, h2⟩
    · obtain ⟨z, hz, rfl⟩ := List.mem_map.1 hy
      have := bounds_u32 (h5 z (List.mem_of_mem_take hz))
      rw [M.BB_eq]
      omega
    · have hc0 := h4 0 (by omega)
      obtain ⟨b, off, spot⟩ := x
      have hspot : spot = none := by simpa [Addr.add] using World.cell?_spot hc0
      subst hspot
      refine ⟨b, off, rfl, ?_, fun j hj => ?_⟩
      · have := World.block_lt_of_cell? w _ hc0
        simpa [Addr.add] using this
      · have hc := h4 j (by omega)
        have e : (⟨b, off, none⟩ : Addr).add j = ⟨b, off + j, none⟩ := by unfold Addr.add; split <;> simp_all
        rw [e] at hc
        rw [hc]
        have hb := bounds_u32 (h5 (zs.getD j 0) (by rw [show zs.getD j 0 = zs[j] by simp [List.getD_eq_getElem?_getD, show j < zs.length from by omega]]; exact List.getElem_mem _))
        have e2 : ((zs.take len).map Int.toNat).getD j 0 = (zs.getD j 0).toNat := by
          simp [List.getD_eq_getElem?_getD, hj, show j < zs.length from by omega]
        rw [e2, Int.toNat_of_nonneg hb.1]

theorem same_nums {u v : Value} {N : Nat} {w : World} (h : Num w u N) (k : Num w v N) :
    ∃ A n c B m d, u = .slice A n c ∧ v = .slice B m d ∧ Calls Try.prog 13 #[.slice A n c, .slice B m d] w fun e w' => e = .returned (.bool true) ∧ Below w.heap.size w w' := by
  obtain ⟨B, m, d, l, rfl, h1, h2, h3, h4, h5⟩ := k
  obtain ⟨A, n, c, rfl, hc⟩ := same_num (d := d) h h1 (by omega) h2 h3
  exact ⟨A, n, c, B, m, d, rfl, rfl, hc⟩

/-- whatever Int and its reference are, they are one -/
theorem ints (A : Option Addr) (n c : Nat) (l : List Nat) (w : World) (h : Lims w A n l) (hn : n ≤ c) (hc : c ≤ maxLen) (hs : n ≤ 900000) :
    ∃ (i : Int) (b : Bool), (Calls Try.prog 30 #[.slice A n c] w fun e w' => e = .returned (.tuple #[.int .i64 i, .bool b]) ∧ w = w') ∧
      Calls Try.prog 31 #[.slice A n c] w fun e w' => e = .returned (.tuple #[.int .i64 i, .bool b]) ∧ Below w.heap.size w w' := by
  by_cases hv : (M.val l : Int) < 4611686018427387904
  · exact ⟨_, _, int_small A n c l w h hn hc hv, rint_small A n c l w h hs hv⟩
  · exact ⟨_, _, int_great A n c l w h hn hc (by omega), rint_great A n c l w h hs (by omega)⟩

theorem natSmall_walk (x : Nat) (A : Option Addr) (n c : Nat) (l : List Nat) (w : World) (hx : x ≤ 18446744073709551615) (h : Lims w A n l) (hn : n ≤ c) (hc : c ≤ maxLen) :
    Calls Try.prog 5 #[.int .u64 x, .slice A n c] w fun e w' => e = .returned (.bool true) ∧ Below w.heap.size w w' := by
  have H1 := Lib.hid fun W => of_any x W hx
  have H2 := Lib.hid fun W => rof_any x W hx
  clear hx
  by_cases hs : n ≤ 24
  · go_enter Try.func5, Try.ntmps5
    go_wp2_with fail
    refine (awake_any _).mono ?_
    rintro e w1 ⟨rfl, b1⟩
    go_wp2_with fail
    refine (H1.out _).mono ?_
    rintro e w2 ⟨v2, rfl, n2, b2⟩
    go_wp2_with fail
    refine (H2.out _).mono ?_
    rintro e w3 ⟨v3, rfl, n3, b3⟩
    obtain ⟨A1, a1, c1, A2, a2, c2, rfl, rfl, S⟩ := same_nums (n2.below b3) n3
    have S := Lib.hid S
    clear n2 n3
    go_wp2_with fail
    refine S.out.mono ?_
    rintro e w4 ⟨rfl, b4⟩
    have b2 : Below w.heap.size w w2 := b1.trans (b2.mono b1.size)
    have b3 : Below w.heap.size w w3 := b2.trans (b3.mono b2.size)
    have b4 : Below w.heap.size w w4 := b3.trans (b4.mono b3.size)
    obtain ⟨i, b, I1, I2⟩ := ints A n c l w4 (h.below b4) hn hc (by omega)
    have I1 := Lib.hid I1
    have I2 := Lib.hid I2
    clear b1 b2 b3 S
    go_wp2_with fail
    refine I1.out.mono ?_
    rintro e w5 ⟨rfl, rfl⟩
    go_wp2_with fail
    refine I2.out.mono ?_
    rintro e w5 ⟨rfl, b5⟩
    have b5 : Below w.heap.size w w5 := b4.trans (b5.mono b4.size)
    go_wp2_with fail
    go_ret
    exact ⟨rfl, b5⟩
  · go_enter Try.func5, Try.ntmps5
    go_wp2_with fail
    refine (awake_any _).mono ?_
    rintro e w1 ⟨rfl, b1⟩
    go_wp2_with fail
    go_ret
    exact ⟨rfl, b1⟩
end Go.Proofs.Ytefkkmnhnldcbaa
