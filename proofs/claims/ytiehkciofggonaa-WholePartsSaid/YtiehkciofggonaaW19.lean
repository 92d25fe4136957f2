/- the reference's DivMod: what it answers. -/
import Derived.Test.YtiehkciofggonaaW18
import Derived.Test.YtiehkciofggonaaGT
namespace Go.Proofs.Ytiehkciofggonaa
open Go.RowKit

theorem Z.sg_sig (g h : Bool) (z y : Int) (N : Nat) (hg : Z.sg g z.natAbs = z) (hh : Z.sg h y.natAbs = y) (hz : z ≠ 0) (hy : y ≠ 0) : Z.sg (g != h) N = Z.sig (Z.sgn z * Z.sgn y) N := by
  cases g <;> cases h <;> simp only [Z.sg_true, Z.sg_false] at hg hh
  · rw [Z.sgn_pos (by omega), Z.sgn_pos (by omega)]; simp [Z.sg, Z.sig]
  · rw [Z.sgn_pos (by omega), Z.sgn_neg (by omega)]; simp [Z.sg, Z.sig]
  · rw [Z.sgn_neg (by omega), Z.sgn_pos (by omega)]; simp [Z.sg, Z.sig]
  · rw [Z.sgn_neg (by omega), Z.sgn_neg (by omega)]; simp [Z.sg, Z.sig]
theorem Z.sig_one_more (s : Int) (Q : Nat) : Z.sig s (Q + 1) = Z.sig s Q + Z.sig s 1 := by
  unfold Z.sig
  split <;> omega
theorem Z.mod_of {z y x : Int} (h : x = z / y) : z - x * y = z % y := by
  rw [h, Int.emod_def, Int.mul_comm]
theorem Z.refdiv (g h : Bool) (z y : Int) (hg : Z.sg g z.natAbs = z) (hh : Z.sg h y.natAbs = y) (hy : y ≠ 0) :
    (0 ≤ z - Z.sg (g != h) (z.natAbs / y.natAbs) * y → Z.sg (g != h) (z.natAbs / y.natAbs) = z / y) ∧
    (z - Z.sg (g != h) (z.natAbs / y.natAbs) * y < 0 → Z.sg (g != h) (z.natAbs / y.natAbs + 1) = z / y) := by
  by_cases hz : z = 0
  · subst hz
    have e : Z.sg (g != h) ((0 : Int).natAbs / y.natAbs) = 0 := by cases g <;> cases h <;> simp [Z.sg]
    rw [e, Int.zero_mul, Int.zero_ediv]
    exact ⟨fun _ => rfl, fun h => absurd h (by omega)⟩
  · rw [Z.sg_sig g h z y _ hg hh hz hy, Z.sg_sig g h z y _ hg hh hz hy]
    obtain ⟨d1, d2⟩ := Z.divs z y hy
    by_cases hb : decide (Z.sgn z < 0) = true ∧ z.natAbs % y.natAbs ≠ 0
    · have e : Z.shQ z.natAbs y.natAbs (decide (Z.sgn z < 0)) = z.natAbs / y.natAbs + 1 := by unfold Z.shQ; rw [if_pos hb]
      rw [e] at d1
      refine ⟨fun h0 => ?_, fun _ => d1⟩
      exfalso
      have h1 := Z.sig_one_more (Z.sgn z * Z.sgn y) (z.natAbs / y.natAbs)
      have h2 := Z.mod_of d1
      have hzn : z < 0 := (Z.sgn_lt z).1 (of_decide_eq_true hb.1)
      have h3 : Z.sig (Z.sgn z * Z.sgn y) 1 * y = -(y.natAbs : Int) := by
        rw [Z.sgn_neg hzn]
        rcases Z.sgn_cases y with ⟨a, b⟩ | ⟨a, b⟩ | ⟨a, b⟩
        · rw [b]; simp [Z.sig]; omega
        · exact absurd a hy
        · rw [b]; simp [Z.sig]; omega
      have h4 := Int.emod_lt z hy
      rw [h1, Int.add_mul, h3] at h2
      omega
    · have e : Z.shQ z.natAbs y.natAbs (decide (Z.sgn z < 0)) = z.natAbs / y.natAbs := by unfold Z.shQ; rw [if_neg hb]
      rw [e] at d1
      refine ⟨fun _ => d1, fun h0 => ?_⟩
      exfalso
      have h2 := Z.mod_of d1
      have := Int.emod_nonneg z hy
      omega
theorem two_own {w W : World} {R R2 : Nat} {z y : Int} {g h : Bool} {A B : Option Addr} {n c m d : Nat} (h1 : WNum W (.agg #[.bool g, .slice A n c]) z) (h2 : WNum W (.agg #[.bool h, .slice B m d]) y) (r : Room W R) (r2 : Room W R2) (hb : Below w.heap.size w W) (hR : w.heap.size ≤ R) (hR2 : w.heap.size ≤ R2) :
    WTwo w z y (.returned (.tuple #[.agg #[.bool g, .slice A n c], .agg #[.bool h, .slice B m d], .int .i64 0])) (World.room (World.room W R (.bool g) (.slice A n c)) R2 (.bool h) (.slice B m d)) ∧
    WTwo w z y (.returned (.tuple #[.agg #[.bool g, .slice A n c], .agg #[.bool h, .slice B m d], .int .i64 0])) (World.room (World.room W R2 (.bool h) (.slice B m d)) R (.bool g) (.slice A n c)) :=
  ⟨⟨_, _, rfl, wnum_room (wnum_room h1 r) (room_room r2 r), wnum_room (wnum_room h2 r) (room_room r2 r), below_room (below_room hb hR _ _) hR2 _ _⟩,
   ⟨_, _, rfl, wnum_room (wnum_room h1 r2) (room_room r r2), wnum_room (wnum_room h2 r2) (room_room r r2), below_room (below_room hb hR2 _ _) hR _ _⟩⟩
theorem WTwo.drew {w W : World} {z y : Int} {e : Ending} (h : WTwo w z y e W) : WTwo w z y e W.drew := by
  obtain ⟨v1, v2, h0, h1, h2, h3⟩ := h
  exact ⟨v1, v2, h0, h1.below (Below.refl _ _).drew, h2.below (Below.refl _ _).drew, h3.drew⟩
theorem in_one (V : World) : In (V.alloc (.cells #[.int .u32 1] 57)) (some ⟨V.heap.size, 0, none⟩) 1 1 1 :=
  ⟨[1], lims_one V 1 (by omega), by simp [M.val], Nat.le_refl _, by unfold maxLen; omega, by omega⟩
theorem inn_of {w : World} {g : Bool} {A : Option Addr} {n c Q : Nat} (h : WNum w (.agg #[.bool g, .slice A n c]) (Q : Int)) (hn : n ≤ 1000000) : In w A n c Q := by
  obtain ⟨u, e, A', n', c', l, e2, h1, h2, h3, h4, h5⟩ := h
  injection e with e
  have e1 := congrArg (fun l : Array Value => l.getD 1 undef) e
  simp at e1
  rw [e2] at e1
  injection e1 with e3 e4 e5
  subst e3 e4 e5
  exact ⟨l, h1, by rw [h3]; simp, h4, h5, hn⟩
theorem two_cells' {W : World} {R R2 : Nat} {x x' : Bool} {A B : Option Addr} {n c m d : Nat} (r : Room W R) (r2 : Room W R2) (hne : R ≠ R2) :
    (World.room (World.room W R2 (.bool x') (.slice B m d)) R (.bool x) (.slice A n c)).cell? ⟨R, 0, none⟩ = some (.bool x) ∧ (World.room (World.room W R2 (.bool x') (.slice B m d)) R (.bool x) (.slice A n c)).cell? ⟨R, 1, none⟩ = some (.slice A n c) ∧
    (World.room (World.room W R2 (.bool x') (.slice B m d)) R (.bool x) (.slice A n c)).cell? ⟨R2, 0, none⟩ = some (.bool x') ∧ (World.room (World.room W R2 (.bool x') (.slice B m d)) R (.bool x) (.slice A n c)).cell? ⟨R2, 1, none⟩ = some (.slice B m d) := by
  obtain ⟨a1, a2, a3, a4⟩ := two_cells (x := x') (A := B) (n := m) (c := d) (x' := x) (B := A) (m := n) (d := c) r2 r (fun e => hne e.symm)
  exact ⟨a3, a4, a1, a2⟩

theorem rdivMod_w_zero (ga : Bool) (Aa : Option Addr) (na ca : Nat) (gb : Bool) (Ab : Option Addr) (nb cb : Nat) (x y : Int) (w : World) (ha : WIn w ga Aa na ca x) (hb : WIn w gb Ab nb cb y) (hy : y = 0) :
    Calls Try.prog 27 #[.agg #[.bool ga, .slice Aa na ca], .agg #[.bool gb, .slice Ab nb cb]] w fun e w' => e = .returned (.tuple #[.agg #[.bool false, .slice none 0 0], .agg #[.bool false, .slice none 0 0], .int .i64 7]) ∧ Below w.heap.size w w' := by
  go_enter Try.func27, Try.ntmps27
  obtain ⟨bl, Bap, Bbp, Bpp, Bsp⟩ := loc4 w ga Aa na ca gb Ab nb cb
  have Ba : BoxZ _ _ ga Aa na ca x := ⟨Bap, ha.below bl⟩
  clear Bap
  have Bb : BoxZ _ _ gb Ab nb cb y := ⟨Bbp, hb.below bl⟩
  clear Bbp
  have Bp : BoxZ _ _ false none 0 0 0 := ⟨Bpp, win_nil _⟩
  clear Bpp
  have Bs : BoxZ _ _ false none 0 0 0 := ⟨Bsp, win_nil _⟩
  clear Bsp
  obtain ⟨a0, a1, a2, a3'⟩ := Ba.box
  obtain ⟨b0, b1, b2, b3'⟩ := Bb.box
  obtain ⟨p0, p1, p2, p3'⟩ := Bp.box
  obtain ⟨s0, s1, s2, s3'⟩ := Bs.box
  go_wp2_with fail
  clear a0 a1 a2 a3' b0 b1 b2 b3' p0 p1 p2 p3' s0 s1 s2 s3'
  refine (rDivMod_zero Bb.num.1 (by omega)).mono ?_
  rintro e w1 ⟨rfl, b1⟩
  replace Ba := Ba.below b1
  replace Bb := Bb.below b1
  replace Bp := Bp.below b1
  replace Bs := Bs.below b1
  replace bl := bl.trans (b1.mono bl.size)
  clear b1
  have r1 : Room w1 (w.heap.size + 2) := ⟨_, _, _, _, Bp.box⟩
  have r2 : Room w1 (w.heap.size + 3) := ⟨_, _, _, _, Bs.box⟩
  obtain ⟨k0, k1, k2, k3⟩ := two_cells (x := false) (A := none) (n := 0) (c := 0) (x' := false) (B := none) (m := 0) (d := 0) r1 r2 (by omega)
  unfold World.room at k0 k1 k2 k3
  have bl2 := below_room (below_room bl (R := w.heap.size + 2) (by omega) (.bool false) (.slice none 0 0)) (R := w.heap.size + 3) (by omega) (.bool false) (.slice none 0 0)
  obtain ⟨xr, yr, zr, qr, ⟨f0, f1, f2, f3⟩⟩ := r1
  obtain ⟨xs, ys, zs, qs, ⟨g0, g1, g2, g3⟩⟩ := r2
  have f4 := f3 0
  have f5 := f3 1
  have g4 := g3 0
  have g5 := g3 1
  clear f3 g3
  go_wp2_with fail
  exact bodyPost_ret (v := .tuple #[.agg #[.bool false, .slice none 0 0], .agg #[.bool false, .slice none 0 0], .int .i64 7]) (by simp [results, Try.results27, go_sem, k0, k1, k2, k3]) rfl ⟨rfl, bl2⟩
end Go.Proofs.Ytiehkciofggonaa
