/- lower: a list's first n; what stays behind them is wiped. -/
import Derived.Test.YtgijagdnhajkhaaT2
namespace Go.Proofs.Ytgijagdnhajkhaa
open Go.RowKit

/-- what lower answers: the first n of a row, in that row -/
def Lowered (E : TypeId) (v : Value) (n : Nat) (xs : List Value) (w : World) (e : Ending) (w' : World) : Prop :=
  ∃ v', e = .returned v' ∧ w'.ownsRow 0 E 1 v' n xs ∧ w.grownBy w' v.ownBlock ∧ v'.ownBlock = v.ownBlock

theorem zeroKeys (w : World) : (zeroValue 9).run Try.prog w = .ok (.string ByteArray.empty) w := by kernel_rfl

theorem lowers (w : World) (v : Value) (len n : Nat) (xs : List Value) (hn : n ≤ len) (h : w.ownsRow 0 9 1 v len xs) :
    Calls Try.prog 37 #[v, .int .i64 (n : Nat)] w (Lowered 9 v n (xs.take n) w) := by
  have hout := h
  have HO : Hid (w.ownsRow 0 9 1 v len xs) := h
  have hl : xs.length = len := by have := h.1; omega
  rcases h.2 with ⟨rfl, h0⟩ | ⟨g, cap, cur, rfl, _, hg, hc1, hc2, hc3, hc4⟩
  · obtain rfl : n = 0 := by omega
    have hcl : ∀ ty, (Builtin.clear_ #[26] ty #[.slice none 0 0]).run Try.prog w = .ok (.tuple #[]) w := fun ty => by
      simp [Builtin.clear_, run_underlying Try.underlying26]
    clear hout h hl
    go_enter Try.func37, Try.ntmps37
    go_wp2_with (simp only [hcl])
    go_ret
    exact ⟨_, rfl, World.ownsRow_nil _ _ _ _, World.grownBy.refl _ _, rfl⟩
  · have hrow : ∀ cs' : Array Value, cs'.size = cur.size → (∀ i, i < n → cs'[i]? = cur[i]?) → ∀ w' : World, w'.heap[g]? = some (.cells cs' 9 (0, 0)) →
        w'.ownsRow 0 9 1 (.slice (some ⟨g, 0, none⟩) n cap) n (xs.take n) := fun cs' h1 h2 w' h3 => by
      refine ⟨by rw [List.length_take]; omega, .inr ⟨g, cap, cs', rfl, Nat.zero_le _, h3, by omega, hc2, by omega, ?_⟩⟩
      apply List.ext_getElem?
      intro i
      rw [← hc4]
      by_cases hi : i < n
      · simp [List.getElem?_take, hi, h2 i hi]
        intro _
        omega
      · simp [List.getElem?_take, hi]
    have HR := Lib.hid hrow
    have hcap : cap ≤ 9223372036854775807 := by unfold maxLen at hc2; omega
    have hlt : g < w.heap.size := (Array.getElem?_eq_some_iff.1 hg).1
    clear hrow hout h
    by_cases hnl : n = len
    · have hcl : ∀ ty (A : Option Addr) (c : Nat), (Builtin.clear_ #[26] ty #[.slice A 0 c]).run Try.prog w = .ok (.tuple #[]) w := fun ty A c => by
        cases A <;> simp [Builtin.clear_, run_underlying Try.underlying26]
      have ho := HR.out cur rfl (fun _ _ => rfl) w hg
      have HOO : Hid (w.ownsRow 0 9 1 (.slice (some ⟨g, 0, none⟩) n cap) n (xs.take n)) := ho
      have hz : len - n = 0 := by omega
      have hn2 : n ≤ cap := by omega
      clear ho hg hc2 hc3 hc4 HO hl HR hnl
      by_cases hcn : cap = n
      · subst hcn
        go_enter Try.func37, Try.ntmps37
        go_wp2_with (simp only [hcl])
        go_ret
        exact ⟨_, rfl, HOO.out, World.grownBy.refl _ _, rfl⟩
      · go_enter Try.func37, Try.ntmps37
        go_wp2_with (simp only [hcl])
        go_ret
        exact ⟨_, rfl, HOO.out, World.grownBy.refl _ _, rfl⟩
    · have hcl : ∀ ty, (Builtin.clear_ #[26] ty #[.slice (some ⟨g, n, none⟩) (len - n) (cap - n)]).run Try.prog w = .ok (.tuple #[]) (w.setCells g n (List.replicate (len - n) (.string ByteArray.empty))) :=
        fun ty => Lib.run_clear_slice w 26 9 ty (.string ByteArray.empty) Try.underlying26 zeroKeys rfl rfl g n (len - n) (cap - n) (by omega)
          (fun j hj => by rw [cell_of_row w g (n + j) cur 9 (0, 0) hg, Array.getElem?_eq_getElem (by omega)]; rfl) (fun j hj => Lies.free (t := 9) (cs := cur) hg _)
      obtain ⟨cs', q1, q2, q3, q4⟩ := Lies.fill (g := g) (t := 9) (List.replicate (len - n) (.string ByteArray.empty)) n (w := w) (cs := cur) hg
      have HOO : Hid ((w.setCells g n (List.replicate (len - n) (.string ByteArray.empty))).ownsRow 0 9 1 (.slice (some ⟨g, 0, none⟩) n cap) n (xs.take n)) := HR.out cs' q2 q3 _ q1
      have HG : Hid (w.grownBy (w.setCells g n (List.replicate (len - n) (.string ByteArray.empty))) (some g)) := q4
      have hn2 : n ≤ cap := by omega
      have hcn : ¬ cap = n := by omega
      obtain ⟨W, HW⟩ : ∃ W, Hid (W = w.setCells g n (List.replicate (len - n) (.string ByteArray.empty))) := ⟨_, rfl⟩
      rw [← HW.out] at hcl HOO HG
      clear q1 q2 q3 q4 hg hc2 hc3 hc4 HO hl HR HW
      go_enter Try.func37, Try.ntmps37
      go_wp2_with (simp only [hcl])
      go_ret
      exact ⟨_, rfl, HOO.out, HG.out, rfl⟩

theorem zeroKeyi (w : World) : (zeroValue 3).run Try.prog w = .ok (.int .i64 0) w := by kernel_rfl

theorem loweri (w : World) (v : Value) (len n : Nat) (xs : List Value) (hn : n ≤ len) (h : w.ownsRow 0 3 1 v len xs) :
    Calls Try.prog 40 #[v, .int .i64 (n : Nat)] w (Lowered 3 v n (xs.take n) w) := by
  have hout := h
  have HO : Hid (w.ownsRow 0 3 1 v len xs) := h
  have hl : xs.length = len := by have := h.1; omega
  rcases h.2 with ⟨rfl, h0⟩ | ⟨g, cap, cur, rfl, _, hg, hc1, hc2, hc3, hc4⟩
  · obtain rfl : n = 0 := by omega
    have hcl : ∀ ty, (Builtin.clear_ #[44] ty #[.slice none 0 0]).run Try.prog w = .ok (.tuple #[]) w := fun ty => by
      simp [Builtin.clear_, run_underlying Try.underlying44]
    clear hout h hl
    go_enter Try.func40, Try.ntmps40
    go_wp2_with (simp only [hcl])
    go_ret
    exact ⟨_, rfl, World.ownsRow_nil _ _ _ _, World.grownBy.refl _ _, rfl⟩
  · have hrow : ∀ cs' : Array Value, cs'.size = cur.size → (∀ i, i < n → cs'[i]? = cur[i]?) → ∀ w' : World, w'.heap[g]? = some (.cells cs' 3 (0, 0)) →
        w'.ownsRow 0 3 1 (.slice (some ⟨g, 0, none⟩) n cap) n (xs.take n) := fun cs' h1 h2 w' h3 => by
      refine ⟨by rw [List.length_take]; omega, .inr ⟨g, cap, cs', rfl, Nat.zero_le _, h3, by omega, hc2, by omega, ?_⟩⟩
      apply List.ext_getElem?
      intro i
      rw [← hc4]
      by_cases hi : i < n
      · simp [List.getElem?_take, hi, h2 i hi]
        intro _
        omega
      · simp [List.getElem?_take, hi]
    have HR := Lib.hid hrow
    have hcap : cap ≤ 9223372036854775807 := by unfold maxLen at hc2; omega
    have hlt : g < w.heap.size := (Array.getElem?_eq_some_iff.1 hg).1
    clear hrow hout h
    by_cases hnl : n = len
    · have hcl : ∀ ty (A : Option Addr) (c : Nat), (Builtin.clear_ #[44] ty #[.slice A 0 c]).run Try.prog w = .ok (.tuple #[]) w := fun ty A c => by
        cases A <;> simp [Builtin.clear_, run_underlying Try.underlying44]
      have ho := HR.out cur rfl (fun _ _ => rfl) w hg
      have HOO : Hid (w.ownsRow 0 3 1 (.slice (some ⟨g, 0, none⟩) n cap) n (xs.take n)) := ho
      have hz : len - n = 0 := by omega
      have hn2 : n ≤ cap := by omega
      clear ho hg hc2 hc3 hc4 HO hl HR hnl
      by_cases hcn : cap = n
      · subst hcn
        go_enter Try.func40, Try.ntmps40
        go_wp2_with (simp only [hcl])
        go_ret
        exact ⟨_, rfl, HOO.out, World.grownBy.refl _ _, rfl⟩
      · go_enter Try.func40, Try.ntmps40
        go_wp2_with (simp only [hcl])
        go_ret
        exact ⟨_, rfl, HOO.out, World.grownBy.refl _ _, rfl⟩
    · have hcl : ∀ ty, (Builtin.clear_ #[44] ty #[.slice (some ⟨g, n, none⟩) (len - n) (cap - n)]).run Try.prog w = .ok (.tuple #[]) (w.setCells g n (List.replicate (len - n) (.int .i64 0))) :=
        fun ty => Lib.run_clear_slice w 44 3 ty (.int .i64 0) Try.underlying44 zeroKeyi rfl rfl g n (len - n) (cap - n) (by omega)
          (fun j hj => by rw [cell_of_row w g (n + j) cur 3 (0, 0) hg, Array.getElem?_eq_getElem (by omega)]; rfl) (fun j hj => Lies.free (t := 3) (cs := cur) hg _)
      obtain ⟨cs', q1, q2, q3, q4⟩ := Lies.fill (g := g) (t := 3) (List.replicate (len - n) (.int .i64 0)) n (w := w) (cs := cur) hg
      have HOO : Hid ((w.setCells g n (List.replicate (len - n) (.int .i64 0))).ownsRow 0 3 1 (.slice (some ⟨g, 0, none⟩) n cap) n (xs.take n)) := HR.out cs' q2 q3 _ q1
      have HG : Hid (w.grownBy (w.setCells g n (List.replicate (len - n) (.int .i64 0))) (some g)) := q4
      have hn2 : n ≤ cap := by omega
      have hcn : ¬ cap = n := by omega
      obtain ⟨W, HW⟩ : ∃ W, Hid (W = w.setCells g n (List.replicate (len - n) (.int .i64 0))) := ⟨_, rfl⟩
      rw [← HW.out] at hcl HOO HG
      clear q1 q2 q3 q4 hg hc2 hc3 hc4 HO hl HR HW
      go_enter Try.func40, Try.ntmps40
      go_wp2_with (simp only [hcl])
      go_ret
      exact ⟨_, rfl, HOO.out, HG.out, rfl⟩
end Go.Proofs.Ytgijagdnhajkhaa
