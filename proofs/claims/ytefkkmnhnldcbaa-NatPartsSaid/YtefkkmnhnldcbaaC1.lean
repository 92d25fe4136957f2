/- the chapter's examples, which every statement asks first: they hold. -/
import Derived.Test.YtefkkmnhnldcbaaB3
import Derived.Test.YtefkkmnhnldcbaaB4
namespace Go.Proofs.Ytefkkmnhnldcbaa
open Go.RowKit

theorem parse_bad (s : ByteArray) (w : World) (hs : s.size ≤ maxLen) (h : isT s.data.toList = false) :
    Calls Try.prog 32 #[.string s] w fun e w' => e = .returned (.tuple #[.slice none 0 0, .int .i64 8]) ∧ w = w' := by
  have HT := Lib.hid (isText_any s w hs)
  rw [h] at HT
  go_enter Try.func32, Try.ntmps32
  go_wp2_with fail
  refine HT.out.mono ?_
  rintro e w1 ⟨rfl, rfl⟩
  go_wp2_with fail
  go_ret2
  exact ⟨rfl, rfl⟩

/-- Same of a number and of what it ought to be -/
theorem same_num {B : Option Addr} {m d N : Nat} {v : Value} {l : List Nat} {w : World} (h : Num w v N) (hl : Lims w B m l) (hm : m ≤ maxLen) (t : M.Top l) (hv : M.val l = N) :
    ∃ A n c, v = .slice A n c ∧ Calls Try.prog 13 #[.slice A n c, .slice B m d] w fun e w' => e = .returned (.bool true) ∧ Below w.heap.size w w' := by
  obtain ⟨A, n, c, k, rfl, h1, h2, h3, h4, h5⟩ := h
  have e : k = l := M.uniq h1.2.1 hl.2.1 h2 t (h3.trans hv.symm)
  refine ⟨A, n, c, rfl, ?_⟩
  have := same_any A B n m c d k l w h1 hl (by omega) hm
  rw [decide_eq_true e] at this
  exact this.mono fun _ _ ⟨h1, j, h2⟩ => ⟨h1, by rw [h2]; exact below_drewN (Below.refl _ _) j⟩

theorem big_txt : T.Txt 4294967296 [52, 50, 57, 52, 57, 54, 55, 50, 57, 54] := by
  refine .inr ⟨[6, 9, 2, 7, 6, 9, 4, 9, 2, 4], ?_, ?_, by simp, by simp [T.val, T.BB_eq], rfl⟩
  · refine T.Fit.of_mem fun x hx => ?_
    rw [T.BB_eq]
    simp at hx
    omega
  · intro _
    simp

theorem lims_lit {w : World} {cs : Array Value} {l : List Nat} {n : Nat} (h : cs = (cellsOf l).toArray) (hf : ∀ x ∈ l, x ≤ 4294967295) (hn : l.length = n) :
    Lims (w.alloc (.cells cs 43)) (some ⟨w.heap.size, 0, none⟩) n l := by
  subst h
  exact Row.lims (heap_alloc_new w _) (M.Fit.of_mem fun x hx => by have := hf x hx; rw [M.BB_eq]; omega) hn
theorem lims_lit1 {w : World} {cs : Array Value} {l : List Nat} {n : Nat} {o : Obj} (h : cs = (cellsOf l).toArray) (hf : ∀ x ∈ l, x ≤ 4294967295) (hn : l.length = n) :
    Lims ((w.alloc (.cells cs 43)).alloc o) (some ⟨w.heap.size, 0, none⟩) n l := (lims_lit h hf hn).below ((Below.refl _ _).alloc (Nat.le_refl _) _)
theorem lims_lit2 {w : World} {cs : Array Value} {l : List Nat} {n : Nat} {o : Obj} (h : cs = (cellsOf l).toArray) (hf : ∀ x ∈ l, x ≤ 4294967295) (hn : l.length = n) :
    Lims ((w.alloc o).alloc (.cells cs 43)) (some ⟨w.heap.size + 1, 0, none⟩) n l := by
  have := lims_lit (w := w.alloc o) h hf hn
  simpa using this
theorem two_lit {w : World} {cs ds : Array Value} {k l : List Nat} {n m : Nat} (h : cs = (cellsOf k).toArray) (h' : ds = (cellsOf l).toArray) (hf : ∀ x ∈ k, x ≤ 4294967295) (hf' : ∀ x ∈ l, x ≤ 4294967295) (hn : k.length = n) (hm : l.length = m) (hn' : n ≤ 1000) (hm' : m ≤ 1000) :
    Two ((w.alloc (.cells cs 43)).alloc (.cells ds 43)) (some ⟨w.heap.size, 0, none⟩) (some ⟨w.heap.size + 1, 0, none⟩) n m n m k l :=
  ⟨lims_lit1 h hf hn, lims_lit2 h' hf' hm, Nat.le_refl _, Nat.le_refl _, by unfold maxLen; omega, by unfold maxLen; omega, by omega, by omega⟩
theorem below_two {w w' : World} {o p : Obj} (h : Below ((w.alloc o).alloc p).heap.size ((w.alloc o).alloc p) w') : Below w.heap.size w w' :=
  (((Below.refl _ _).alloc (Nat.le_refl _) _).alloc (by simp) _).trans (h.mono (by simp; omega))
theorem below_one {w w' : World} {o : Obj} (h : Below (w.alloc o).heap.size (w.alloc o) w') : Below w.heap.size w w' :=
  ((Below.refl _ _).alloc (Nat.le_refl _) _).trans (h.mono (by simp))
theorem below_one_drew (w : World) (o : Obj) (j : Nat) : Below w.heap.size w ((w.alloc o).drewN j) :=
  below_drewN ((Below.refl _ _).alloc (Nat.le_refl _) _) j

set_option maxHeartbeats 4000000 in
theorem awake_any (w : World) : Calls Try.prog 11 #[] w fun e w' => e = .returned (.bool true) ∧ Below w.heap.size w w' := by
  go_enter Try.func11, Try.ntmps11
  go_wp2_with fail
  have T1 := two_lit (w := w) (cs := #[.int .u32 4294967295]) (ds := #[.int .u32 1]) (k := [4294967295]) (l := [1]) (n := 1) (m := 1) rfl rfl (by simp) (by simp) rfl rfl (by omega) (by omega)
  refine (add_any _ _ 1 1 1 1 [4294967295] [1] _ T1.ha T1.hb T1.hn T1.hm T1.hc T1.hd T1.hs T1.ht).mono ?_
  rintro e w1 ⟨v1, rfl, n1, b1⟩
  have b1 := below_two b1
  clear T1
  go_wp2_with fail
  have T2 := two_lit (w := w1) (cs := #[.int .u32 100]) (ds := #[.int .u32 7]) (k := [100]) (l := [7]) (n := 1) (m := 1) rfl rfl (by simp) (by simp) rfl rfl (by omega) (by omega)
  refine (divMod_small _ _ 1 1 1 1 [100] [7] _ T2 (by simp [M.val]) (by simp [M.val]) (by simp [M.val])).mono ?_
  rintro e w2 ⟨v2, v3, rfl, n2, n3, b2⟩
  have b2 := below_two b2
  have n1 := n1.below b2
  have b2 : Below w.heap.size w w2 := b1.trans (b2.mono b1.size)
  clear T2 b1
  go_wp2_with fail
  refine (parse_bad _ _ (by unfold maxLen; simp [ByteArray.size]) (by rfl)).mono ?_
  rintro e w3 ⟨rfl, rfl⟩
  go_wp2_with fail
  have T4 := two_lit (w := w2) (cs := #[.int .u32 12]) (ds := #[.int .u32 18]) (k := [12]) (l := [18]) (n := 1) (m := 1) rfl rfl (by simp) (by simp) rfl rfl (by omega) (by omega)
  refine (gcd_lo _ _ 1 1 1 1 [12] [18] _ T4 (by simp [M.val]) (by simp [M.val])).mono ?_
  rintro e w4 ⟨v4, rfl, n4, b4⟩
  have b4 := below_two b4
  have n1 := n1.below b4
  have n2 := n2.below b4
  have n3 := n3.below b4
  have b4 : Below w.heap.size w w4 := b2.trans (b4.mono b2.size)
  clear T4 b2
  have e1 : M.val [4294967295] + M.val [1] = 4294967296 := by simp [M.val]
  have e2 : M.val [100] / M.val [7] = 14 := by simp [M.val]
  have e3 : M.val [100] % M.val [7] = 2 := by simp [M.val]
  have e4 : Nat.gcd (M.val [12]) (M.val [18]) = 6 := by simp [M.val]
  rw [e1] at n1
  rw [e2] at n2
  rw [e3] at n3
  rw [e4] at n4
  clear e1 e2 e3 e4
  obtain ⟨A1, a1, c1, rfl, S1⟩ := same_num (n1.below ((Below.refl _ _).alloc (Nat.le_refl _) _)) (lims_lit (w := w4) (cs := #[.int .u32 0, .int .u32 1]) (l := [0, 1]) (n := 2) rfl (by simp) rfl) (d := 2) (by unfold maxLen; omega) (by intro _; simp) (by simp [M.val, M.BB_eq])
  have S1 := Lib.hid S1
  go_wp2_with fail
  refine S1.out.mono ?_
  rintro e w5 ⟨rfl, b5⟩
  have b5 := below_one b5
  have n2 := n2.below b5
  have n3 := n3.below b5
  have n4 := n4.below b5
  have b5 : Below w.heap.size w w5 := b4.trans (b5.mono b4.size)
  clear b4 S1 n1
  obtain ⟨A2, a2, c2, rfl, S2⟩ := same_num (n2.below ((Below.refl _ _).alloc (Nat.le_refl _) _)) (lims_lit (w := w5) (cs := #[.int .u32 14]) (l := [14]) (n := 1) rfl (by simp) rfl) (d := 1) (by unfold maxLen; omega) (by intro _; simp) (by simp [M.val])
  have S2 := Lib.hid S2
  go_wp2_with fail
  refine S2.out.mono ?_
  rintro e w6 ⟨rfl, b6⟩
  have b6 := below_one b6
  have n3 := n3.below b6
  have n4 := n4.below b6
  have b6 : Below w.heap.size w w6 := b5.trans (b6.mono b5.size)
  clear b5 S2 n2
  obtain ⟨A3, a3, c3, rfl, S3⟩ := same_num (n3.below ((Below.refl _ _).alloc (Nat.le_refl _) _)) (lims_lit (w := w6) (cs := #[.int .u32 2]) (l := [2]) (n := 1) rfl (by simp) rfl) (d := 1) (by unfold maxLen; omega) (by intro _; simp) (by simp [M.val])
  have S3 := Lib.hid S3
  go_wp2_with fail
  refine S3.out.mono ?_
  rintro e w7 ⟨rfl, b7⟩
  have b7 := below_one b7
  have n4 := n4.below b7
  have b7 : Below w.heap.size w w7 := b6.trans (b7.mono b6.size)
  clear b6 S3 n3
  obtain ⟨A4, a4, c4, rfl, S4⟩ := same_num (n4.below ((Below.refl _ _).alloc (Nat.le_refl _) _)) (lims_lit (w := w7) (cs := #[.int .u32 6]) (l := [6]) (n := 1) rfl (by simp) rfl) (d := 1) (by unfold maxLen; omega) (by intro _; simp) (by simp [M.val])
  have S4 := Lib.hid S4
  go_wp2_with fail
  refine S4.out.mono ?_
  rintro e w8 ⟨rfl, b8⟩
  have b8 := below_one b8
  have b8 : Below w.heap.size w w8 := b7.trans (b8.mono b7.size)
  clear b7 S4 n4
  have TX := Lib.hid (text_any _ 2 2 [0, 1] (w8.alloc (.cells #[.int .u32 0, .int .u32 1] 43)) (lims_lit rfl (by simp) rfl) (Nat.le_refl _) (by unfold maxLen; omega) (by omega))
  rw [show M.val [0, 1] = 4294967296 by simp [M.val, M.BB_eq]] at TX
  go_wp2_with fail
  refine TX.out.mono ?_
  rintro e w9 ⟨s9, rfl, t9, b9⟩
  obtain rfl := t9.uniq big_txt
  have b9 := below_one b9
  have b9 : Below w.heap.size w w9 := b8.trans (b9.mono b8.size)
  clear t9 TX b8
  go_wp2_with fail
  go_ret
  exact ⟨rfl, b9⟩
end Go.Proofs.Ytefkkmnhnldcbaa
