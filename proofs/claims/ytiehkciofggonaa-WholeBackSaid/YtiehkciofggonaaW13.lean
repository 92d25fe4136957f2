/- the reference's whole numbers: Norm, Neg, Mul, Add, Sub, Sign, Cmp: what each answers. -/
import Derived.Test.YtiehkciofggonaaGW
import Derived.Test.YtiehkciofggonaaGS
namespace Go.Proofs.Ytiehkciofggonaa
open Go.RowKit

theorem Num.inn_le {w : World} {v : Value} {N k : Nat} (h : Num w v N) (hN : N < M.BB ^ k) (hk : k ≤ 900000) : ∃ A n c, v = .slice A n c ∧ In w A n c N ∧ n ≤ 900000 := by
  obtain ⟨A, n, c, l, rfl, h1, h2, h3, h4, h5⟩ := h
  have : n ≤ k := M.len_le h2 h1.1 (by rw [h3]; exact hN)
  exact ⟨A, n, c, rfl, ⟨l, h1, h3, h4, h5, by omega⟩, by omega⟩
theorem WNum.open_le {w : World} {v : Value} {z : Int} {k : Nat} (h : WNum w v z) (hz : z.natAbs < M.BB ^ k) (hk : k ≤ 900000) : ∃ g A n c, v = .agg #[.bool g, .slice A n c] ∧ WIn w g A n c z ∧ WNum w (.agg #[.bool g, .slice A n c]) z ∧ n ≤ 900000 := by
  obtain ⟨u, rfl, h'⟩ := id h
  obtain ⟨A, n, c, rfl, _, hn⟩ := h'.inn_le hz hk
  obtain ⟨A', n', c', e, hi⟩ := h.inn hz (by omega)
  injection e with e
  have e1 := congrArg (fun l : Array Value => l.getD 1 undef) e
  simp at e1
  obtain ⟨rfl, rfl, rfl⟩ := e1
  exact ⟨_, A, n, c, rfl, hi, h, hn⟩
theorem sg_sg (g : Bool) (N : Nat) : Z.sg g (Z.sg g N).natAbs = Z.sg g N := by rw [Z.sg_abs]
theorem win_sg {w : World} {A : Option Addr} {n c N : Nat} (g : Bool) (h : In w A n c N) : WIn w g A n c (Z.sg g N) := ⟨by rw [Z.sg_abs]; exact h, sg_sg g N⟩
theorem win_neg {w : World} {g : Bool} {A : Option Addr} {n c : Nat} {z : Int} (h : WIn w g A n c z) : WIn w (!g) A n c (-z) := by
  obtain ⟨h1, h2⟩ := h
  refine ⟨by rw [Int.natAbs_neg]; exact h1, ?_⟩
  rw [Int.natAbs_neg]
  cases g
  · rw [Z.sg_false] at h2; rw [Bool.not_false, Z.sg_true, h2]
  · rw [Z.sg_true] at h2; rw [Bool.not_true, Z.sg_false]; omega
theorem sg_mul (g h : Bool) (N K : Nat) : Z.sg (g != h) (N * K) = Z.sg g N * Z.sg h K := by
  cases g <;> cases h <;> simp [Z.sg, Int.natCast_mul, Int.neg_mul, Int.mul_neg]

theorem gives_own {w W : World} {R : Nat} {z : Int} {g : Bool} {A : Option Addr} {n c : Nat} (m : Num W (.slice A n c) z.natAbs) (hg : decide (z < 0) = g) (r : Room W R) (hb : Below w.heap.size w W) (hR : w.heap.size ≤ R) :
    WGives w z (.returned (.agg #[.bool g, .slice A n c])) (World.room W R (.bool g) (.slice A n c)) := by
  subst hg
  exact ⟨_, rfl, ⟨_, rfl, num_room m r⟩, below_room hb hR _ _⟩
theorem rnorm_w (g : Bool) (A : Option Addr) (n c : Nat) (z : Int) (w : World) (h : WIn w g A n c z) (hn : n ≤ 900000) :
    Calls Try.prog 13 #[.agg #[.bool g, .slice A n c]] w (WGives w z) := by
  have HN := Lib.hid fun (W : World) (q : Held1 w g A n c 1 W) => rnorm_num (h.below q.bel).1 hn
  have q0 := Held1.one w g A n c
  have hsg := Lib.hid h.2
  clear h hn
  cases g with
  | false =>
    have hz := hsg.out
    rw [Z.sg_false] at hz
    by_cases h0 : z.natAbs = 0
    · have hz0 := Lib.hid h0
      have HE : Hid (decide (z < 0) = false) := decide_eq_false (by omega)
      clear h0 hz hsg
      go_enter Try.func13, Try.ntmps13
      go_wp2_with fail
      refine (HN.out _ q0).mono ?_
      rintro e w1 ⟨v1, rfl, n1, b1⟩
      obtain ⟨A1, a1, c1, l1, rfl, p1⟩ := id n1
      have hl := num_len n1
      have hl2 : a1 ≤ 9223372036854775807 := Nat.le_trans p1.2.2.2.1 p1.2.2.2.2
      have q1 := q0.below b1
      have hl3 : a1 = 0 := hl.2 hz0.out
      subst hl3
      clear hl p1 b1 q0 HN
      have r1 : Room w1 (w.heap.size + 1) := q1.room 0 (by omega)
      obtain ⟨k0, k1, _⟩ := room_cells (x := .bool false) (u := .slice A1 0 c1) r1
      unfold World.room at k0 k1
      have hend := Lib.hid (gives_own (g := false) n1 HE.out r1 q1.bel (by omega))
      obtain ⟨x0, x1, x2, _⟩ := q1.box
      obtain ⟨xr, yr, zr, qr, ⟨f0, f1, f2, f3⟩⟩ := r1
      have f4 := f3 0
      have f5 := f3 1
      clear f3 q1 n1
      go_wp2_with fail
      exact bodyPost_ret (v := .agg #[.bool false, .slice A1 0 c1]) (by simp [results, Try.results13, go_sem, k0, k1]) rfl hend.out
    · have hz0 := Lib.hid h0
      have HE : Hid (decide (z < 0) = false) := decide_eq_false (by omega)
      clear h0 hz hsg
      go_enter Try.func13, Try.ntmps13
      go_wp2_with fail
      refine (HN.out _ q0).mono ?_
      rintro e w1 ⟨v1, rfl, n1, b1⟩
      obtain ⟨A1, a1, c1, l1, rfl, p1⟩ := id n1
      have hl := num_len n1
      have hl2 : a1 ≤ 9223372036854775807 := Nat.le_trans p1.2.2.2.1 p1.2.2.2.2
      have q1 := q0.below b1
      have hl3 : 0 < a1 := Nat.pos_of_ne_zero fun e => hz0.out (hl.1 e)
  
      clear hl p1 b1 q0 HN
      have r1 : Room w1 (w.heap.size + 1) := q1.room 0 (by omega)
      obtain ⟨k0, k1, _⟩ := room_cells (x := .bool false) (u := .slice A1 a1 c1) r1
      unfold World.room at k0 k1
      have hend := Lib.hid (gives_own (g := false) n1 HE.out r1 q1.bel (by omega))
      obtain ⟨x0, x1, x2, _⟩ := q1.box
      obtain ⟨xr, yr, zr, qr, ⟨f0, f1, f2, f3⟩⟩ := r1
      have f4 := f3 0
      have f5 := f3 1
      clear f3 q1 n1
      go_wp2_with fail
      exact bodyPost_ret (v := .agg #[.bool false, .slice A1 a1 c1]) (by simp [results, Try.results13, go_sem, k0, k1]) rfl hend.out
  | true =>
    have hz := hsg.out
    rw [Z.sg_true] at hz
    by_cases h0 : z.natAbs = 0
    · have hz0 := Lib.hid h0
      have HE : Hid (decide (z < 0) = false) := decide_eq_false (by omega)
      clear h0 hz hsg
      go_enter Try.func13, Try.ntmps13
      go_wp2_with fail
      refine (HN.out _ q0).mono ?_
      rintro e w1 ⟨v1, rfl, n1, b1⟩
      obtain ⟨A1, a1, c1, l1, rfl, p1⟩ := id n1
      have hl := num_len n1
      have hl2 : a1 ≤ 9223372036854775807 := Nat.le_trans p1.2.2.2.1 p1.2.2.2.2
      have q1 := q0.below b1
      have hl3 : a1 = 0 := hl.2 hz0.out
      subst hl3
      clear hl p1 b1 q0 HN
      have r1 : Room w1 (w.heap.size + 1) := q1.room 0 (by omega)
      obtain ⟨k0, k1, _⟩ := room_cells (x := .bool false) (u := .slice A1 0 c1) r1
      unfold World.room at k0 k1
      have hend := Lib.hid (gives_own (g := false) n1 HE.out r1 q1.bel (by omega))
      obtain ⟨x0, x1, x2, _⟩ := q1.box
      obtain ⟨xr, yr, zr, qr, ⟨f0, f1, f2, f3⟩⟩ := r1
      have f4 := f3 0
      have f5 := f3 1
      clear f3 q1 n1
      go_wp2_with fail
      exact bodyPost_ret (v := .agg #[.bool false, .slice A1 0 c1]) (by simp [results, Try.results13, go_sem, k0, k1]) rfl hend.out
    · have hz0 := Lib.hid h0
      have HE : Hid (decide (z < 0) = true) := decide_eq_true (by omega)
      clear h0 hz hsg
      go_enter Try.func13, Try.ntmps13
      go_wp2_with fail
      refine (HN.out _ q0).mono ?_
      rintro e w1 ⟨v1, rfl, n1, b1⟩
      obtain ⟨A1, a1, c1, l1, rfl, p1⟩ := id n1
      have hl := num_len n1
      have hl2 : a1 ≤ 9223372036854775807 := Nat.le_trans p1.2.2.2.1 p1.2.2.2.2
      have q1 := q0.below b1
      have hl3 : 0 < a1 := Nat.pos_of_ne_zero fun e => hz0.out (hl.1 e)
  
      clear hl p1 b1 q0 HN
      have r1 : Room w1 (w.heap.size + 1) := q1.room 0 (by omega)
      obtain ⟨k0, k1, _⟩ := room_cells (x := .bool true) (u := .slice A1 a1 c1) r1
      unfold World.room at k0 k1
      have hend := Lib.hid (gives_own (g := true) n1 HE.out r1 q1.bel (by omega))
      obtain ⟨x0, x1, x2, _⟩ := q1.box
      obtain ⟨xr, yr, zr, qr, ⟨f0, f1, f2, f3⟩⟩ := r1
      have f4 := f3 0
      have f5 := f3 1
      clear f3 q1 n1
      go_wp2_with fail
      exact bodyPost_ret (v := .agg #[.bool true, .slice A1 a1 c1]) (by simp [results, Try.results13, go_sem, k0, k1]) rfl hend.out

theorem WNum.form {w : World} {v : Value} {z : Int} (h : WNum w v z) : ∃ g A n c, v = .agg #[.bool g, .slice A n c] ∧ Num w (.slice A n c) z.natAbs ∧ decide (z < 0) = g := by
  obtain ⟨u, rfl, h⟩ := h
  obtain ⟨A, n, c, l, rfl, h⟩ := h
  exact ⟨_, A, n, c, rfl, ⟨A, n, c, l, rfl, h⟩, rfl⟩
theorem rneg_w (g : Bool) (A : Option Addr) (n c : Nat) (z : Int) (w : World) (h : WIn w g A n c z) (hn : n ≤ 900000) :
    Calls Try.prog 15 #[.agg #[.bool g, .slice A n c]] w (WGives w (-z)) := by
  obtain ⟨g', hg'⟩ : ∃ g', (!g) = g' := ⟨_, rfl⟩
  have HN := Lib.hid fun (W : World) (q : Held1 w g A n c 1 W) => rnorm_w (!g) A n c (-z) W (win_neg (h.below q.bel)) hn
  rw [hg'] at HN
  have q0 := Held1.one w g A n c
  clear h hn
  go_enter Try.func15, Try.ntmps15
  go_wp2_with fail
  refine (HN.out _ q0).mono ?_
  rintro e w1 ⟨v1, rfl, m8, b1⟩
  obtain ⟨g9, A9, n9, c9, rfl, m9, hg9⟩ := m8.form
  have q9 := q0.below b1
  have r9 : Room w1 (w.heap.size + 1) := q9.room 0 (by omega)
  obtain ⟨k0, k1, _⟩ := room_cells (x := .bool g9) (u := .slice A9 n9 c9) r9
  unfold World.room at k0 k1
  have hend := Lib.hid (gives_own m9 hg9 r9 q9.bel (by omega))
  obtain ⟨xr, yr, zr, qr, ⟨f0, f1, f2, f3⟩⟩ := r9
  have f4 := f3 0
  have f5 := f3 1
  clear f3 q9 q0 b1 m9
  go_wp2_with fail
  exact bodyPost_ret (v := .agg #[.bool g9, .slice A9 n9 c9]) (by simp [results, Try.results15, go_sem, k0, k1]) rfl hend.out

theorem rmul_w (g h : Bool) (A B : Option Addr) (n c m d i j : Nat) (z y : Int) (w : World) (ha : WIn w g A n c z) (hb : WIn w h B m d y) (la : z.natAbs < M.BB ^ i) (lb : y.natAbs < M.BB ^ j) (hi : i ≤ 2000) (hj : j ≤ 2000) :
    Calls Try.prog 21 #[.agg #[.bool g, .slice A n c], .agg #[.bool h, .slice B m d]] w (WGives w (z * y)) := by
  obtain ⟨b, hgh1⟩ : ∃ b : Bool, (g != h) = b := ⟨_, rfl⟩
  have hgh2 : (!(g == h)) = b := by rw [← hgh1]; rfl
  have hzy : Hid (Z.sg b (z.natAbs * y.natAbs) = z * y) := show Z.sg b (z.natAbs * y.natAbs) = z * y by rw [← hgh1, sg_mul, ha.2, hb.2]
  have HM := Lib.hid fun (W : World) (q : W.cell? ⟨w.heap.size, 0, none⟩ = some (.bool g) ∧ W.cell? ⟨w.heap.size, 1, none⟩ = some (.slice A n c) ∧ W.cell? ⟨w.heap.size + 1, 0, none⟩ = some (.bool h) ∧ W.cell? ⟨w.heap.size + 1, 1, none⟩ = some (.slice B m d) ∧ Held2 w g A n c h B m d 1 W) => rMul_num (ha.below q.2.2.2.2.bel).1 (hb.below q.2.2.2.2.bel).1 la lb (by omega) (by omega)
  have LM := Lib.hid (lt_mul la lb)
  have HN := Lib.hid fun (W : World) (A' : Option Addr) (n' c' : Nat) (q : In W A' n' c' (z.natAbs * y.natAbs)) (hn : n' ≤ 900000) => rnorm_w b A' n' c' _ W (win_sg b q) hn
  rw [hzy.out] at HN
  have HS := Lib.hid (Held2.one w g h A B n c m d).drew.s
  clear ha hb la lb
  go_enter Try.func21, Try.ntmps21
  go_wp2_with fail
  go_region_held3 (fun w' => w'.cell? ⟨w.heap.size, 0, none⟩ = some (.bool g) ∧ w'.cell? ⟨w.heap.size, 1, none⟩ = some (.slice A n c) ∧ w'.cell? ⟨w.heap.size + 1, 0, none⟩ = some (.bool h) ∧ w'.cell? ⟨w.heap.size + 1, 1, none⟩ = some (.slice B m d) ∧ Held2 w g A n c h B m d 1 w')
    (first | exact Held2.keep (by assumption) (by assumption) | exact HS.out | exact Held2.set1 (by omega) (by assumption))
    (first | (go_at_call 47; refine (HM.out _ ?_).mono ?_; assumption; rintro e w2 ⟨v2, rfl, n2, b2⟩; obtain ⟨A2, a2, c2, rfl, i2, hn2⟩ := n2.inn_le LM.out (by omega)) | (go_at_call 13; refine (HN.out _ _ _ _ i2 hn2).mono ?_; rintro e w3 ⟨v3, rfl, n3, b3⟩; obtain ⟨g9, A9, n9, c9, rfl, m9, hg9⟩ := n3.form; have s3 := Held2.keep b3 (by assumption); obtain ⟨x3, y3, z3, q3, ⟨f0, f1, f2, f3⟩⟩ := s3.2.2.2.2.room 0 (by omega); have f4 := f3 0; have f5 := f3 1))
  have r3 : Room w3 (w.heap.size + 2) := s3.2.2.2.2.room 0 (by omega)
  obtain ⟨k0, k1, _⟩ := room_cells (x := .bool g9) (u := .slice A9 n9 c9) r3
  unfold World.room at k0 k1
  have hend := Lib.hid (gives_own m9 hg9 r3 s3.2.2.2.2.bel (by omega))
  go_wp2_with fail
  exact bodyPost_ret (v := .agg #[.bool g9, .slice A9 n9 c9]) (by simp [results, Try.results21, go_sem, k0, k1]) rfl hend.out

theorem Z.sg_add_same (g : Bool) (N K : Nat) : Z.sg g (N + K) = Z.sg g N + Z.sg g K := by
  cases g <;> simp [Z.sg] <;> omega
theorem Z.sg_add_left (g h : Bool) (N K : Nat) (hgh : (g == h) = false) (hle : K ≤ N) : Z.sg g (N - K) = Z.sg g N + Z.sg h K := by
  cases g <;> cases h <;> simp at hgh <;> simp [Z.sg] <;> omega
theorem Z.sg_add_right (g h : Bool) (N K : Nat) (hgh : (g == h) = false) (hle : N ≤ K) : Z.sg h (K - N) = Z.sg g N + Z.sg h K := by
  cases g <;> cases h <;> simp at hgh <;> simp [Z.sg] <;> omega
theorem radd_w (g h : Bool) (A B : Option Addr) (n c m d i j : Nat) (z y : Int) (w : World) (ha : WIn w g A n c z) (hb : WIn w h B m d y) (la : z.natAbs < M.BB ^ i) (lb : y.natAbs < M.BB ^ j) (hi : i ≤ 2000) (hj : j ≤ 2000) :
    Calls Try.prog 17 #[.agg #[.bool g, .slice A n c], .agg #[.bool h, .slice B m d]] w (WGives w (z + y)) := by
  have q0 := Held2.one w g h A B n c m d
  have hza := ha.2
  have hyb := hb.2
  have HN := Lib.hid fun (W : World) (b : Bool) (A' : Option Addr) (n' c' N' : Nat) (q : In W A' n' c' N') (hn : n' ≤ 900000) => rnorm_w b A' n' c' _ W (win_sg b q) hn
  cases hgh : g == h with
  | true =>
    have hzy : Hid (Z.sg g (z.natAbs + y.natAbs) = z + y) := show Z.sg g (z.natAbs + y.natAbs) = z + y by
      rw [Z.sg_add_same, hza]
      have : g = h := by simpa using hgh
      rw [this, hyb]
    have HM := Lib.hid fun (W : World) (q : W.cell? ⟨w.heap.size, 0, none⟩ = some (.bool g) ∧ W.cell? ⟨w.heap.size, 1, none⟩ = some (.slice A n c) ∧ W.cell? ⟨w.heap.size + 1, 0, none⟩ = some (.bool h) ∧ W.cell? ⟨w.heap.size + 1, 1, none⟩ = some (.slice B m d) ∧ Held2 w g A n c h B m d 1 W) => rAdd_num (ha.below q.2.2.2.2.bel).1 (hb.below q.2.2.2.2.bel).1 la lb (by omega) (by omega)
    have LM := Lib.hid (lt_add la lb)
    have HS := Lib.hid (Held2.one w g h A B n c m d).drew.s
    clear ha hb la lb hza hyb q0
    go_enter Try.func17, Try.ntmps17
    go_wp2_with fail
    go_region_held3 (fun w' => w'.cell? ⟨w.heap.size, 0, none⟩ = some (.bool g) ∧ w'.cell? ⟨w.heap.size, 1, none⟩ = some (.slice A n c) ∧ w'.cell? ⟨w.heap.size + 1, 0, none⟩ = some (.bool h) ∧ w'.cell? ⟨w.heap.size + 1, 1, none⟩ = some (.slice B m d) ∧ Held2 w g A n c h B m d 1 w')
      (first | exact Held2.keep (by assumption) (by assumption) | exact HS.out | exact Held2.set1 (by omega) (by assumption))
      (first | (go_at_call 44; refine (HM.out _ ?_).mono ?_; assumption; rintro e w2 ⟨v2, rfl, n2, b2⟩; obtain ⟨A2, a2, c2, rfl, i2, hn2⟩ := n2.inn_le LM.out (by omega)) | (go_at_call 13; refine (HN.out _ _ _ _ _ _ i2 hn2).mono ?_; rintro e w3 ⟨v3, rfl, n3, b3⟩; obtain ⟨g9, A9, n9, c9, rfl, m9, hg9⟩ := n3.form; have s3 := Held2.keep b3 (by assumption); obtain ⟨x3, y3, z3, q3, ⟨f0, f1, f2, f3⟩⟩ := s3.2.2.2.2.room 0 (by omega); have f4 := f3 0; have f5 := f3 1))
    rw [hzy.out] at m9 hg9
    have r3 : Room w3 (w.heap.size + 2) := s3.2.2.2.2.room 0 (by omega)
    obtain ⟨k0, k1, _⟩ := room_cells (x := .bool g9) (u := .slice A9 n9 c9) r3
    unfold World.room at k0 k1
    have hend := Lib.hid (gives_own m9 hg9 r3 s3.2.2.2.2.bel (by omega))
    go_wp2_with fail
    exact bodyPost_ret (v := .agg #[.bool g9, .slice A9 n9 c9]) (by simp [results, Try.results17, go_sem, k0, k1]) rfl hend.out
  | false =>
    by_cases hle : y.natAbs ≤ z.natAbs
    · have hzy : Hid (Z.sg g (z.natAbs - y.natAbs) = z + y) := show Z.sg g (z.natAbs - y.natAbs) = z + y by rw [Z.sg_add_left g h _ _ hgh hle, hza, hyb]
      have HM := Lib.hid fun (W : World) (q : Held2 w g A n c h B m d 1 W) => rSub_num (ha.below q.bel).1 (hb.below q.bel).1 la lb (by omega) (by omega) hle
      have LM : Hid (z.natAbs - y.natAbs < M.BB ^ i) := Nat.lt_of_le_of_lt (Nat.sub_le _ _) la
      clear ha hb la lb hza hyb hle
      go_enter Try.func17, Try.ntmps17
      go_wp2_with fail
      refine (HM.out _ q0).mono ?_
      rintro e w1 ⟨v1, rfl, n1, b1⟩
      obtain ⟨A1, a1, c1, rfl, i1, hn1⟩ := n1.inn_le LM.out (by omega)
      have q1 := q0.below b1
      obtain ⟨x0, x1, x2, _⟩ := q1.box
      obtain ⟨y0, y1, y2, _⟩ := q1.box2
      clear q0 b1 n1
      go_wp2_with fail
      clear x0 x1 x2 y0 y1 y2
      refine (HN.out _ _ _ _ _ _ i1 hn1).mono ?_
      rw [hzy.out]
      rintro e w2 ⟨v2, rfl, m8, b2⟩
      clear i1 hn1
      obtain ⟨g9, A9, n9, c9, rfl, m9, hg9⟩ := m8.form
      have q9 := q1.below b2
      have r9 : Room w2 (w.heap.size + 2) := q9.room 0 (by omega)
      obtain ⟨k0, k1, _⟩ := room_cells (x := .bool g9) (u := .slice A9 n9 c9) r9
      unfold World.room at k0 k1
      have hend := Lib.hid (gives_own m9 hg9 r9 q9.bel (by omega))
      obtain ⟨xr, yr, zr, qr, ⟨f0, f1, f2, f3⟩⟩ := r9
      have f4 := f3 0
      have f5 := f3 1
      clear f3 q9 q1 b2 m9
      go_wp2_with fail
      exact bodyPost_ret (v := .agg #[.bool g9, .slice A9 n9 c9]) (by simp [results, Try.results17, go_sem, k0, k1]) rfl hend.out
    · have hzy : Hid (Z.sg h (y.natAbs - z.natAbs) = z + y) := show Z.sg h (y.natAbs - z.natAbs) = z + y by rw [Z.sg_add_right g h _ _ hgh (by omega), hza, hyb]
      have HM := Lib.hid fun (W : World) (q : Held2 w g A n c h B m d 1 W) => rSub_num_err (ha.below q.bel).1 (hb.below q.bel).1 la lb (by omega) (by omega) (by omega)
      have HM2 := Lib.hid fun (W : World) (q : Held2 w g A n c h B m d 1 W) => rSub_num (hb.below q.bel).1 (ha.below q.bel).1 lb la (by omega) (by omega) (by omega)
      have LM : Hid (y.natAbs - z.natAbs < M.BB ^ j) := Nat.lt_of_le_of_lt (Nat.sub_le _ _) lb
      clear ha hb la lb hza hyb hle
      go_enter Try.func17, Try.ntmps17
      go_wp2_with fail
      refine (HM.out _ q0).mono ?_
      rintro e w1 ⟨rfl, b1⟩
      have q1 := q0.below b1
      obtain ⟨x0, x1, x2, _⟩ := q1.box
      obtain ⟨y0, y1, y2, _⟩ := q1.box2
      clear q0 b1
      go_wp2_with fail
      clear x0 x1 x2 y0 y1 y2
      refine (HM2.out _ q1).mono ?_
      rintro e w2 ⟨v1, rfl, n1, b1⟩
      obtain ⟨A1, a1, c1, rfl, i1, hn1⟩ := n1.inn_le LM.out (by omega)
      have q2 := q1.below b1
      obtain ⟨x0, x1, x2, _⟩ := q2.box
      obtain ⟨y0, y1, y2, _⟩ := q2.box2
      clear q1 b1 n1
      go_wp2_with fail
      clear x0 x1 x2 y0 y1 y2
      refine (HN.out _ _ _ _ _ _ i1 hn1).mono ?_
      rw [hzy.out]
      rintro e w3 ⟨v2, rfl, m8, b2⟩
      clear i1 hn1
      obtain ⟨g9, A9, n9, c9, rfl, m9, hg9⟩ := m8.form
      have q9 := q2.below b2
      have r9 : Room w3 (w.heap.size + 2) := q9.room 0 (by omega)
      obtain ⟨k0, k1, _⟩ := room_cells (x := .bool g9) (u := .slice A9 n9 c9) r9
      unfold World.room at k0 k1
      have hend := Lib.hid (gives_own m9 hg9 r9 q9.bel (by omega))
      obtain ⟨xr, yr, zr, qr, ⟨f0, f1, f2, f3⟩⟩ := r9
      have f4 := f3 0
      have f5 := f3 1
      clear f3 q9 q2 b2 m9
      go_wp2_with fail
      exact bodyPost_ret (v := .agg #[.bool g9, .slice A9 n9 c9]) (by simp [results, Try.results17, go_sem, k0, k1]) rfl hend.out

theorem rsub_w (g h : Bool) (A B : Option Addr) (n c m d i j : Nat) (z y : Int) (w : World) (ha : WIn w g A n c z) (hb : WIn w h B m d y) (la : z.natAbs < M.BB ^ i) (lb : y.natAbs < M.BB ^ j) (hi : i ≤ 2000) (hj : j ≤ 2000) (hm : m ≤ 900000) :
    Calls Try.prog 19 #[.agg #[.bool g, .slice A n c], .agg #[.bool h, .slice B m d]] w (WGives w (z - y)) := by
  have HM := Lib.hid fun (W : World) (q : W.cell? ⟨w.heap.size, 0, none⟩ = some (.bool g) ∧ W.cell? ⟨w.heap.size, 1, none⟩ = some (.slice A n c) ∧ W.cell? ⟨w.heap.size + 1, 0, none⟩ = some (.bool h) ∧ W.cell? ⟨w.heap.size + 1, 1, none⟩ = some (.slice B m d) ∧ Held2 w g A n c h B m d 1 W) => rneg_w h B m d y W (hb.below q.2.2.2.2.bel) hm
  have HA := Lib.hid fun (W : World) (q : W.cell? ⟨w.heap.size, 0, none⟩ = some (.bool g) ∧ W.cell? ⟨w.heap.size, 1, none⟩ = some (.slice A n c) ∧ W.cell? ⟨w.heap.size + 1, 0, none⟩ = some (.bool h) ∧ W.cell? ⟨w.heap.size + 1, 1, none⟩ = some (.slice B m d) ∧ Held2 w g A n c h B m d 1 W) (g' : Bool) (A' : Option Addr) (n' c' : Nat) (i' : WIn W g' A' n' c' (-y)) => radd_w g g' A A' n c n' c' i j z (-y) W (ha.below q.2.2.2.2.bel) i' la (by rw [Int.natAbs_neg]; exact lb) hi hj
  rw [← Int.sub_eq_add_neg] at HA
  have LM : Hid ((-y).natAbs < M.BB ^ j) := show (-y).natAbs < M.BB ^ j by rw [Int.natAbs_neg]; exact lb
  have HS := Lib.hid (Held2.one w g h A B n c m d).drew.s
  clear ha hb la lb
  go_enter Try.func19, Try.ntmps19
  go_wp2_with fail
  go_region_held3 (fun w' => w'.cell? ⟨w.heap.size, 0, none⟩ = some (.bool g) ∧ w'.cell? ⟨w.heap.size, 1, none⟩ = some (.slice A n c) ∧ w'.cell? ⟨w.heap.size + 1, 0, none⟩ = some (.bool h) ∧ w'.cell? ⟨w.heap.size + 1, 1, none⟩ = some (.slice B m d) ∧ Held2 w g A n c h B m d 1 w')
    (first | exact Held2.keep (by assumption) (by assumption) | exact HS.out | exact Held2.set1 (by omega) (by assumption))
    (first | (go_at_call 15; refine (HM.out _ ?_).mono ?_; assumption; rintro e w2 ⟨v2, rfl, n2, b2⟩; obtain ⟨g2, A2, a2, c2, rfl, i2, _⟩ := n2.open LM.out (by omega)) | (go_at_call 17; refine (HA.out _ ?_ _ _ _ _ i2).mono ?_; assumption; rintro e w3 ⟨v3, rfl, n3, b3⟩; obtain ⟨g9, A9, n9, c9, rfl, m9, hg9⟩ := n3.form; have s3 := Held2.keep b3 (by assumption); obtain ⟨x3, y3, z3, q3, ⟨f0, f1, f2, f3⟩⟩ := s3.2.2.2.2.room 0 (by omega); have f4 := f3 0; have f5 := f3 1))
  have r3 : Room w3 (w.heap.size + 2) := s3.2.2.2.2.room 0 (by omega)
  obtain ⟨k0, k1, _⟩ := room_cells (x := .bool g9) (u := .slice A9 n9 c9) r3
  unfold World.room at k0 k1
  have hend := Lib.hid (gives_own m9 hg9 r3 s3.2.2.2.2.bel (by omega))
  go_wp2_with fail
  exact bodyPost_ret (v := .agg #[.bool g9, .slice A9 n9 c9]) (by simp [results, Try.results19, go_sem, k0, k1]) rfl hend.out

theorem rsign_w (g : Bool) (A : Option Addr) (n c : Nat) (z : Int) (w : World) (h : WIn w g A n c z) (hn : n ≤ 900000) :
    Calls Try.prog 25 #[.agg #[.bool g, .slice A n c]] w fun e w' => e = .returned (.int .i64 (Z.sgn z)) ∧ Below w.heap.size w w' := by
  have HN := Lib.hid fun (W : World) (q : Held1 w g A n c 0 W) => rnorm_w g A n c z W (h.below q.bel) hn
  have q0 := Held1.zero w g A n c
  clear h hn
  rcases Z.sgn_cases z with ⟨h1, h2⟩ | ⟨h1, h2⟩ | ⟨h1, h2⟩
  · rw [h2]
    have hz := Lib.hid h1
    clear h1 h2
    go_enter Try.func25, Try.ntmps25
    go_wp2_with fail
    refine (HN.out _ q0).mono ?_
    rintro e w1 ⟨v1, rfl, n1, b1⟩
    obtain ⟨g9, A9, n9, c9, rfl, m9, hg9⟩ := n1.form
    obtain rfl : g9 = true := by rw [← hg9]; exact decide_eq_true (by have := hz.out; omega)
    have hl : 0 < n9 := Nat.pos_of_ne_zero fun e => (by have := hz.out; have := (num_len m9).1 e; omega)
    have hl2 : n9 ≤ 9223372036854775807 := by obtain ⟨_, _, _, _, e, _, _, _, p1, p2⟩ := m9; injection e with e1 e2 e3; subst e2 e3; exact Nat.le_trans p1 p2
    
    have bl := (q0.below b1).bel.alloc (q0.below b1).bel.size (.cells #[.bool true, .slice A9 n9 c9] 24)
    clear q0 b1 m9 hg9
    go_wp2_with fail
    go_ret
    exact ⟨rfl, bl⟩
  · rw [h2]
    have hz := Lib.hid h1
    clear h1 h2
    go_enter Try.func25, Try.ntmps25
    go_wp2_with fail
    refine (HN.out _ q0).mono ?_
    rintro e w1 ⟨v1, rfl, n1, b1⟩
    obtain ⟨g9, A9, n9, c9, rfl, m9, hg9⟩ := n1.form
    obtain rfl : g9 = false := by rw [← hg9]; exact decide_eq_false (by have := hz.out; omega)
    have hl : n9 = 0 := (num_len m9).2 (by have := hz.out; omega)
    have hl2 : n9 ≤ 9223372036854775807 := by obtain ⟨_, _, _, _, e, _, _, _, p1, p2⟩ := m9; injection e with e1 e2 e3; subst e2 e3; exact Nat.le_trans p1 p2
    subst hl
    have bl := (q0.below b1).bel.alloc (q0.below b1).bel.size (.cells #[.bool false, .slice A9 0 c9] 24)
    clear q0 b1 m9 hg9
    go_wp2_with fail
    go_ret
    exact ⟨rfl, bl⟩
  · rw [h2]
    have hz := Lib.hid h1
    clear h1 h2
    go_enter Try.func25, Try.ntmps25
    go_wp2_with fail
    refine (HN.out _ q0).mono ?_
    rintro e w1 ⟨v1, rfl, n1, b1⟩
    obtain ⟨g9, A9, n9, c9, rfl, m9, hg9⟩ := n1.form
    obtain rfl : g9 = false := by rw [← hg9]; exact decide_eq_false (by have := hz.out; omega)
    have hl : 0 < n9 := Nat.pos_of_ne_zero fun e => (by have := hz.out; have := (num_len m9).1 e; omega)
    have hl2 : n9 ≤ 9223372036854775807 := by obtain ⟨_, _, _, _, e, _, _, _, p1, p2⟩ := m9; injection e with e1 e2 e3; subst e2 e3; exact Nat.le_trans p1 p2
    
    have bl := (q0.below b1).bel.alloc (q0.below b1).bel.size (.cells #[.bool false, .slice A9 n9 c9] 24)
    clear q0 b1 m9 hg9
    go_wp2_with fail
    go_ret
    exact ⟨rfl, bl⟩

theorem rcmp_w (g h : Bool) (A B : Option Addr) (n c m d i j : Nat) (z y : Int) (w : World) (ha : WIn w g A n c z) (hb : WIn w h B m d y) (la : z.natAbs < M.BB ^ i) (lb : y.natAbs < M.BB ^ j) (hi : i ≤ 2000) (hj : j ≤ 2000) (hm : m ≤ 900000) :
    Calls Try.prog 23 #[.agg #[.bool g, .slice A n c], .agg #[.bool h, .slice B m d]] w fun e w' => e = .returned (.int .i64 (Z.sgn (z - y))) ∧ Below w.heap.size w w' := by
  have HS := Lib.hid fun (W : World) (q : Held2 w g A n c h B m d 0 W) => rsub_w g h A B n c m d i j z y W (ha.below q.bel) (hb.below q.bel) la lb hi hj hm
  have q0 := Held2.zero w g h A B n c m d
  have LM := Lib.hid (lt_subZ la lb)
  have HG := Lib.hid fun (W : World) (g' : Bool) (A' : Option Addr) (n' c' : Nat) (q : WIn W g' A' n' c' (z - y)) (hn : n' ≤ 900000) => rsign_w g' A' n' c' (z - y) W q hn
  clear ha hb la lb hm
  go_enter Try.func23, Try.ntmps23
  go_wp2_with fail
  refine (HS.out _ q0).mono ?_
  rintro e w1 ⟨v1, rfl, n1, b1⟩
  obtain ⟨g1, A1, a1, c1, rfl, i1, _, hn1⟩ := n1.open_le LM.out (by omega)
  have q1 := q0.below b1
  clear q0 b1 n1
  go_wp2_with fail
  refine (HG.out _ _ _ _ _ i1 hn1).mono ?_
  rintro e w2 ⟨rfl, b2⟩
  have bl := (q1.below b2).bel
  clear q1 b2 i1
  go_wp2_with fail
  go_ret
  exact ⟨rfl, bl⟩
end Go.Proofs.Ytiehkciofggonaa
