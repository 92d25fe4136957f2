/- the reference's whole numbers: Norm, Neg, Mul, Add, Sub, Sign, Cmp: what each answers. -/
import Derived.Test.YtkooconjkimgoaaDoorGW
import Derived.Test.YtkooconjkimgoaaDoorGS
namespace Go.Proofs.YtkooconjkimgoaaDoor
open Go.RowKit

theorem Num.inn_le {w : World} {v : Value} {N k : Nat} (h : Num w v N) (hN : N < M.BB ^ k) (hk : k ≤ 900000) : ∃ A n c, v = .slice A n c ∧ In w A n c N ∧ n ≤ 900000 := by
  obtain ⟨A, n, c, l, rfl, h1, h2, h3, h4, h5⟩ := h
  have : n ≤ k := M.len_le h2 h1.1 (by rw [h3]; exact hN)
  exact ⟨A, n, c, rfl, ⟨l, h1, h3, h4, h5, by omega⟩, by omega⟩
theorem WNum.open_le {w : World} {v : Value} {z : Int} {k : Nat} (h : WNum w v z) (hz : z.natAbs < M.BB ^ k) (hk : k ≤ 900000) : ∃ g A n c, v = .agg #[.bool g, .slice A n c] ∧ WIn w g A n c z ∧ WNum w (.agg #[.bool g, .slice A n c]) z ∧ n ≤ 900000 := by
  obtain ⟨u, rfl, h'⟩ := id h
  obtain ⟨A, n, c, rfl, _, hn⟩ := h'.inn_le hz hk
  obtain ⟨A', n', c', e, hi⟩ := h.inn hz (by omega)
  injection e with e
  have e1 := congrArg (fun l : Array Value => l.getD 1 undef) e
  simp at e1
  obtain ⟨rfl, rfl, rfl⟩ := e1
  exact ⟨_, A, n, c, rfl, hi, h, hn⟩
theorem sg_sg (g : Bool) (N : Nat) : Z.sg g (Z.sg g N).natAbs = Z.sg g N := by rw [Z.sg_abs]
theorem win_sg {w : World} {A : Option Addr} {n c N : Nat} (g : Bool) (h : In w A n c N) : WIn w g A n c (Z.sg g N) := ⟨by rw [Z.sg_abs]; exact h, sg_sg g N⟩
theorem win_neg {w : World} {g : Bool} {A : Option Addr} {n c : Nat} {z : Int} (h : WIn w g A n c z) : WIn w (!g) A n c (-z) := by
  obtain ⟨h1, h2⟩ := h
  refine ⟨by rw [Int.natAbs_neg]; exact h1, ?_⟩
  rw [Int.natAbs_neg]
  cases g
  · rw [Z.sg_false] at h2; rw [Bool.not_false, Z.sg_true, h2]
  · rw [Z.sg_true] at h2; rw [Bool.not_true, Z.sg_false]; omega
theorem sg_mul (g h : Bool) (N K : Nat) : Z.sg (g != h) (N * K) = Z.sg g N * Z.sg h K := by
  cases g <;> cases h <;> simp [Z.sg, Int.natCast_mul, Int.neg_mul, Int.mul_neg]

theorem gives_own {w W : World} {R : Nat} {z : Int} {g : Bool} {A : Option Addr} {n c : Nat} (m : Num W (.slice A n c) z.natAbs) (hg : decide (z < 0) = g) (r : Room W R) (hb : Below w.heap.size w W) (hR : w.heap.size ≤ R) :
    WGives w z (.returned (.agg #[.bool g, .slice A n c])) (World.room W R (.bool g) (.slice A n c)) := by
  subst hg
  exact ⟨_, rfl, ⟨_, rfl, num_room m r⟩, below_room hb hR _ _⟩
theorem rnorm_w (g : Bool) (A : Option Addr) (n c : Nat) (z : Int) (w : World) (h : WIn w g A n c z) (hn : n ≤ 900000) :
    Calls Tryd.prog 31 #[.agg #[.bool g, .slice A n c]] w (WGives w z) := by
  have HN := Lib.hid fun (W : World) (q : Held1 w g A n c 1 W) => rnorm_num (h.below q.bel).1 hn
  have q0 := Held1.one w g A n c
  have hsg := Lib.hid h.2
  clear h hn
  cases g with
  | false =>
    have hz := hsg.out
    rw [Z.sg_false] at hz
    by_cases h0 : z.natAbs = 0
    · have hz0 := Lib.hid h0
      have HE : Hid (decide (z < 0) = false) := decide_eq_false (by omega)
      clear h0 hz hsg
      go_enter Tryd.func31, Tryd.ntmps31
      go_wp2_with fail
      refine (HN.out _ q0).mono ?_
      rintro e w1 ⟨v1, rfl, n1, b1⟩
      obtain ⟨A1, a1, c1, l1, rfl, p1⟩ := id n1
      have hl := num_len n1
      have hl2 : a1 ≤ 9223372036854775807 := Nat.le_trans p1.2.2.2.1 p1.2.2.2.2
      have q1 := q0.below b1
      have hl3 : a1 = 0 := hl.2 hz0.out
      subst hl3
      clear hl p1 b1 q0 HN
      have r1 : Room w1 (w.heap.size + 1) := q1.room 0 (by omega)
      obtain ⟨k0, k1, _⟩ := room_cells (x := .bool false) (u := .slice A1 0 c1) r1
      unfold World.room at k0 k1
      have hend := Lib.hid (gives_own (g := false) n1 HE.out r1 q1.bel (by omega))
      obtain ⟨x0, x1, x2, _⟩ := q1.box
      obtain ⟨xr, yr, zr, qr, ⟨f0, f1, f2, f3⟩⟩ := r1
      have f4 := f3 0
      have f5 := f3 1
      clear f3 q1 n1
      go_wp2_with fail
      exact bodyPost_ret (v := .agg #[.bool false, .slice A1 0 c1]) (by simp [results, Tryd.results31, go_sem, k0, k1]) rfl hend.out
    · have hz0 := Lib.hid h0
      have HE : Hid (decide (z < 0) = false) := decide_eq_false (by omega)
      clear h0 hz hsg
      go_enter Tryd.func31, Tryd.ntmps31
      go_wp2_with fail
      refine (HN.out _ q0).mono ?_
      rintro e w1 ⟨v1, rfl, n1, b1⟩
      obtain ⟨A1, a1, c1, l1, rfl, p1⟩ := id n1
      have hl := num_len n1
      have hl2 : a1 ≤ 9223372036854775807 := Nat.le_trans p1.2.2.2.1 p1.2.2.2.2
      have q1 := q0.below b1
      have hl3 : 0 < a1 := Nat.pos_of_ne_zero fun e => hz0.out (hl.1 e)
  
      clear hl p1 b1 q0 HN
      have r1 : Room w1 (w.heap.size + 1) := q1.room 0 (by omega)
      obtain ⟨k0, k1, _⟩ := room_cells (x := .bool false) (u := .slice A1 a1 c1) r1
      unfold World.room at k0 k1
      have hend := Lib.hid (gives_own (g := false) n1 HE.out r1 q1.bel (by omega))
      obtain ⟨x0, x1, x2, _⟩ := q1.box
      obtain ⟨xr, yr, zr, qr, ⟨f0, f1, f2, f3⟩⟩ := r1
      have f4 := f3 0
      have f5 := f3 1
      clear f3 q1 n1
      go_wp2_with fail
      exact bodyPost_ret (v := .agg #[.bool false, .slice A1 a1 c1]) (by simp [results, Tryd.results31, go_sem, k0, k1]) rfl hend.out
  | true =>
    have hz := hsg.out
    rw [Z.sg_true] at hz
    by_cases h0 : z.natAbs = 0
    · have hz0 := Lib.hid h0
      have HE : Hid (decide (z < 0) = false) := decide_eq_false (by omega)
      clear h0 hz hsg
      go_enter Tryd.func31, Tryd.ntmps31
      go_wp2_with fail
      refine (HN.out _ q0).mono ?_
      rintro e w1 ⟨v1, rfl, n1, b1⟩
      obtain ⟨A1, a1, c1, l1, rfl, p1⟩ := id n1
      have hl := num_len n1
      have hl2 : a1 ≤ 9223372036854775807 := Nat.le_trans p1.2.2.2.1 p1.2.2.2.2
      have q1 := q0.below b1
      have hl3 : a1 = 0 := hl.2 hz0.out
      subst hl3
      clear hl p1 b1 q0 HN
      have r1 : Room w1 (w.heap.size + 1) := q1.room 0 (by omega)
      obtain ⟨k0, k1, _⟩ := room_cells (x := .bool false) (u := .slice A1 0 c1) r1
      unfold World.room at k0 k1
      have hend := Lib.hid (gives_own (g := false) n1 HE.out r1 q1.bel (by omega))
      obtain ⟨x0, x1, x2, _⟩ := q1.box
      obtain ⟨xr, yr, zr, qr, ⟨f0, f1, f2, f3⟩⟩ := r1
      have f4 := f3 0
      have f5 := f3 1
      clear f3 q1 n1
      go_wp2_with fail
      exact bodyPost_ret (v := .agg #[.bool false, .slice A1 0 c1]) (by simp [results, Tryd.results31, go_sem, k0, k1]) rfl hend.out
    · have hz0 := Lib.hid h0
      have HE : Hid (decide (z < 0) = true) := decide_eq_true (by omega)
      clear h0 hz hsg
      go_enter Tryd.func31, Tryd.ntmps31
      go_wp2_with fail
      refine (HN.out _ q0).mono ?_
      rintro e w1 ⟨v1, rfl, n1, b1⟩
      obtain ⟨A1, a1, c1, l1, rfl, p1⟩ := id n1
      have hl := num_len n1
      have hl2 : a1 ≤ 9223372036854775807 := Nat.le_trans p1.2.2.2.1 p1.2.2.2.2
      have q1 := q0.below b1
      have hl3 : 0 < a1 := Nat.pos_of_ne_zero fun e => hz0.out (hl.1 e)
  
      clear hl p1 b1 q0 HN
      have r1 : Room w1 (w.heap.size + 1) := q1.room 0 (by omega)
      obtain ⟨k0, k1, _⟩ := room_cells (x := .bool true) (u := .slice A1 a1 c1) r1
      unfold World.room at k0 k1
      have hend := Lib.hid (gives_own (g := true) n1 HE.out r1 q1.bel (by omega))
      obtain ⟨x0, x1, x2, _⟩ := q1.box
      obtain ⟨xr, yr, zr, qr, ⟨f0, f1, f2, f3⟩⟩ := r1
      have f4 := f3 0
      have f5 := f3 1
      clear f3 q1 n1
      go_wp2_with fail
      exact bodyPost_ret (v := .agg #[.bool true, .slice A1 a1 c1]) (by simp [results, Tryd.results31, go_sem, k0, k1]) rfl hend.out

theorem WNum.form {w : World} {v : Value} {z : Int} (h : WNum w v z) : ∃ g A n c, v = .agg #[.bool g, .slice A n c] ∧ Num w (.slice A n c) z.natAbs ∧ decide (z < 0) = g := by
  obtain ⟨u, rfl, h⟩ := h
  obtain ⟨A, n, c, l, rfl, h⟩ := h
  exact ⟨_, A, n, c, rfl, ⟨A, n, c, l, rfl, h⟩, rfl⟩
theorem Z.sg_add_same (g : Bool) (N K : Nat) : Z.sg g (N + K) = Z.sg g N + Z.sg g K := by
  cases g <;> simp [Z.sg] <;> omega
theorem Z.sg_add_left (g h : Bool) (N K : Nat) (hgh : (g == h) = false) (hle : K ≤ N) : Z.sg g (N - K) = Z.sg g N + Z.sg h K := by
  cases g <;> cases h <;> simp at hgh <;> simp [Z.sg] <;> omega
theorem Z.sg_add_right (g h : Bool) (N K : Nat) (hgh : (g == h) = false) (hle : N ≤ K) : Z.sg h (K - N) = Z.sg g N + Z.sg h K := by
  cases g <;> cases h <;> simp at hgh <;> simp [Z.sg] <;> omega
theorem rsign_w (g : Bool) (A : Option Addr) (n c : Nat) (z : Int) (w : World) (h : WIn w g A n c z) (hn : n ≤ 900000) :
    Calls Tryd.prog 44 #[.agg #[.bool g, .slice A n c]] w fun e w' => e = .returned (.int .i64 (Z.sgn z)) ∧ Below w.heap.size w w' := by
  have HN := Lib.hid fun (W : World) (q : Held1 w g A n c 0 W) => rnorm_w g A n c z W (h.below q.bel) hn
  have q0 := Held1.zero w g A n c
  clear h hn
  rcases Z.sgn_cases z with ⟨h1, h2⟩ | ⟨h1, h2⟩ | ⟨h1, h2⟩
  · rw [h2]
    have hz := Lib.hid h1
    clear h1 h2
    go_enter Tryd.func44, Tryd.ntmps44
    go_wp2_with fail
    refine (HN.out _ q0).mono ?_
    rintro e w1 ⟨v1, rfl, n1, b1⟩
    obtain ⟨g9, A9, n9, c9, rfl, m9, hg9⟩ := n1.form
    obtain rfl : g9 = true := by rw [← hg9]; exact decide_eq_true (by have := hz.out; omega)
    have hl : 0 < n9 := Nat.pos_of_ne_zero fun e => (by have := hz.out; have := (num_len m9).1 e; omega)
    have hl2 : n9 ≤ 9223372036854775807 := by obtain ⟨_, _, _, _, e, _, _, _, p1, p2⟩ := m9; injection e with e1 e2 e3; subst e2 e3; exact Nat.le_trans p1 p2
    
    have bl := (q0.below b1).bel.alloc (q0.below b1).bel.size (.cells #[.bool true, .slice A9 n9 c9] 39)
    clear q0 b1 m9 hg9
    go_wp2_with fail
    go_ret
    exact ⟨rfl, bl⟩
  · rw [h2]
    have hz := Lib.hid h1
    clear h1 h2
    go_enter Tryd.func44, Tryd.ntmps44
    go_wp2_with fail
    refine (HN.out _ q0).mono ?_
    rintro e w1 ⟨v1, rfl, n1, b1⟩
    obtain ⟨g9, A9, n9, c9, rfl, m9, hg9⟩ := n1.form
    obtain rfl : g9 = false := by rw [← hg9]; exact decide_eq_false (by have := hz.out; omega)
    have hl : n9 = 0 := (num_len m9).2 (by have := hz.out; omega)
    have hl2 : n9 ≤ 9223372036854775807 := by obtain ⟨_, _, _, _, e, _, _, _, p1, p2⟩ := m9; injection e with e1 e2 e3; subst e2 e3; exact Nat.le_trans p1 p2
    subst hl
    have bl := (q0.below b1).bel.alloc (q0.below b1).bel.size (.cells #[.bool false, .slice A9 0 c9] 39)
    clear q0 b1 m9 hg9
    go_wp2_with fail
    go_ret
    exact ⟨rfl, bl⟩
  · rw [h2]
    have hz := Lib.hid h1
    clear h1 h2
    go_enter Tryd.func44, Tryd.ntmps44
    go_wp2_with fail
    refine (HN.out _ q0).mono ?_
    rintro e w1 ⟨v1, rfl, n1, b1⟩
    obtain ⟨g9, A9, n9, c9, rfl, m9, hg9⟩ := n1.form
    obtain rfl : g9 = false := by rw [← hg9]; exact decide_eq_false (by have := hz.out; omega)
    have hl : 0 < n9 := Nat.pos_of_ne_zero fun e => (by have := hz.out; have := (num_len m9).1 e; omega)
    have hl2 : n9 ≤ 9223372036854775807 := by obtain ⟨_, _, _, _, e, _, _, _, p1, p2⟩ := m9; injection e with e1 e2 e3; subst e2 e3; exact Nat.le_trans p1 p2
    
    have bl := (q0.below b1).bel.alloc (q0.below b1).bel.size (.cells #[.bool false, .slice A9 n9 c9] 39)
    clear q0 b1 m9 hg9
    go_wp2_with fail
    go_ret
    exact ⟨rfl, bl⟩

end Go.Proofs.YtkooconjkimgoaaDoor
