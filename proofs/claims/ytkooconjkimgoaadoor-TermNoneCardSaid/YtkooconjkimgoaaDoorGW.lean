/- several texts in one. -/
import Derived.Test.YtkooconjkimgoaaDoorGV
import Derived.Test.YtkooconjkimgoaaDoorGE
import Derived.Test.YtkooconjkimgoaaDoorGS
import Derived.Test.YtkooconjkimgoaaDoorGD
import Derived.Test.YtkooconjkimgoaaDoorGF
import Derived.Test.YtkooconjkimgoaaDoorShelf
import Derived.Lib.SmallJoins
import Derived.ProofKit
import Derived.OpenShut
import Derived.ShutString
import Derived.ChangeOld
import Derived.Below
/- whole: Cmp, Int, Of, Text: what each answers. -/
namespace Go.Proofs.YtkooconjkimgoaaDoor
open Go.RowKit

theorem Z.cmp_same (z y s k : Int) (hz : Z.sgn z = s) (hy : Z.sgn y = s) (hk : M.cmpI z.natAbs y.natAbs = k) : s * k = Z.sgn (z - y) := by
  subst hk
  rcases Z.sgn_cases z with ⟨h1, h2⟩ | ⟨h1, h2⟩ | ⟨h1, h2⟩ <;> rcases Z.sgn_cases y with ⟨h3, h4⟩ | ⟨h3, h4⟩ | ⟨h3, h4⟩ <;> rw [h2] at hz <;> rw [h4] at hy <;> subst hz
  · rcases Nat.lt_trichotomy z.natAbs y.natAbs with e | e | e
    · rw [M.cmpI_lt e, Z.sgn_pos (by omega)]; rfl
    · rw [e, M.cmpI_eq, show z - y = 0 by omega]; rfl
    · rw [M.cmpI_gt e, Z.sgn_neg (by omega)]; rfl
  · omega
  · omega
  · omega
  · rw [h1, h3]; rfl
  · omega
  · omega
  · omega
  · rcases Nat.lt_trichotomy z.natAbs y.natAbs with e | e | e
    · rw [M.cmpI_lt e, Z.sgn_neg (by omega)]; rfl
    · rw [e, M.cmpI_eq, show z - y = 0 by omega]; rfl
    · rw [M.cmpI_gt e, Z.sgn_pos (by omega)]; rfl
theorem Z.cmp_lt (z y : Int) (h : Z.sgn z < Z.sgn y) : Z.sgn (z - y) = -1 := by
  rcases Z.sgn_cases z with ⟨h1, h2⟩ | ⟨h1, h2⟩ | ⟨h1, h2⟩ <;> rcases Z.sgn_cases y with ⟨h3, h4⟩ | ⟨h3, h4⟩ | ⟨h3, h4⟩ <;> rw [h2, h4] at h <;> first | omega | exact Z.sgn_neg (by omega)
theorem Z.cmp_gt (z y : Int) (h : Z.sgn y < Z.sgn z) : Z.sgn (z - y) = 1 := by
  rw [Z.sgn_sub, Z.cmp_lt y z h]; rfl

/-- a number as an int, or nought -/
def iZ (z : Int) : Int := if z.natAbs < 4611686018427387904 then z else 0
def iB (z : Int) : Bool := decide (z.natAbs < 4611686018427387904)
theorem Z.sgn_iZ (z : Int) : Z.sgn z * iZ (z.natAbs : Int) = iZ z ∧ iB (z.natAbs : Int) = iB z := by
  unfold iZ iB
  rw [Int.natAbs_natCast]
  refine ⟨?_, rfl⟩
  split
  · rcases Z.sgn_cases z with ⟨h1, h2⟩ | ⟨h1, h2⟩ | ⟨h1, h2⟩ <;> rw [h2] <;> omega
  · simp
theorem iZ_bd (z : Int) : -4611686018427387904 ≤ iZ z ∧ iZ z ≤ 4611686018427387904 := by
  unfold iZ
  split <;> omega

theorem Z.sig_one (N : Nat) : Z.sig 1 N = (N : Int) := by simp [Z.sig]
theorem Z.sig_mone (N : Nat) : Z.sig (-1) N = -(N : Int) := by simp [Z.sig]
theorem room_new (w : World) : Room (w.alloc (.cells #[.bool false, .slice none 0 0] 39)) w.heap.size := Room.new w false none 0 0

set_option maxRecDepth 100000 in
theorem of_w (z : Int) (w : World) (hz : -9223372036854775808 ≤ z ∧ z ≤ 9223372036854775807) :
    Calls Tryd.prog 20 #[.int .i64 z] w (WGives w z) := by
  obtain ⟨N, HN⟩ : ∃ N, Hid (z.natAbs = N) := ⟨_, rfl⟩
  have HO := Lib.hid fun (W : World) => of_any N W (by have := HN.out; omega)
  have hr0 := room_new w
  have hb0 : Below w.heap.size w (w.alloc (.cells #[.bool false, .slice none 0 0] 39)) := (Below.refl _ _).alloc (Nat.le_refl _) _
  have hs0 : (w.alloc (.cells #[.bool false, .slice none 0 0] 39)).heap.size = w.heap.size + 1 := by simp
  by_cases h0 : z < 0
  · have hw1 : IntKind.u64.wrap z = z + 18446744073709551616 := by rw [IntKind.wrap_u64]; omega
    have hw2 : IntKind.u64.wrap (-(z + 18446744073709551616)) = (N : Int) := by rw [IntKind.wrap_u64]; have := HN.out; omega
    have HE : Hid (Z.sig (-1) N = z) := show Z.sig (-1) N = z by rw [Z.sig_mone]; have := HN.out; omega
    go_enter Tryd.func20, Tryd.ntmps20
    go_wp2_with fail
    refine (HO.out _).mono ?_
    rintro e w1 ⟨v2, rfl, n2, b1⟩
    have b1' := b1
    go_wp2_with fail
    refine (signed_num n2).mono ?_
    rintro e w2 ⟨v4, rfl, ⟨u4, rfl, m4⟩, b2⟩
    obtain ⟨A4, a4, c4, l4, rfl, p4⟩ := id m4
    have b3 := b1.trans (b2.mono b1.size)
    have r4 : Room w2 w.heap.size := hr0.below b3 (by omega)
    obtain ⟨k0, k1, _⟩ := room_cells (x := .bool (decide (Z.sig (-1) N < 0))) (u := .slice A4 a4 c4) r4
    unfold World.room at k0 k1
    have hend := Lib.hid (gives_room m4 (HE.out) r4 (hb0.trans (b3.mono (by omega))) (by omega))
    obtain ⟨xr, yr, zr, qr, ⟨f0, f1, f2, f3⟩⟩ := r4
    have f4 := f3 0
    have f5 := f3 1
    clear hr0 hb0 hs0 b1 b1' b2 b3 m4 p4 f3
    go_wp2_with fail
    exact bodyPost_ret (v := .agg #[.bool (decide (Z.sig (-1) N < 0)), .slice A4 a4 c4]) (by simp [results, Tryd.results20, go_sem, k0, k1]) rfl hend.out

  · have hw1 : IntKind.u64.wrap z = (N : Int) := by rw [IntKind.wrap_u64]; have := HN.out; omega
    have HE : Hid (Z.sig 1 N = z) := show Z.sig 1 N = z by rw [Z.sig_one]; have := HN.out; omega
    go_enter Tryd.func20, Tryd.ntmps20
    go_wp2_with fail
    refine (HO.out _).mono ?_
    rintro e w1 ⟨v2, rfl, n2, b1⟩
    have b1' := b1
    go_wp2_with fail
    refine (signed_num n2).mono ?_
    rintro e w2 ⟨v4, rfl, ⟨u4, rfl, m4⟩, b2⟩
    obtain ⟨A4, a4, c4, l4, rfl, p4⟩ := id m4
    have b3 := b1.trans (b2.mono b1.size)
    have r4 : Room w2 w.heap.size := hr0.below b3 (by omega)
    obtain ⟨k0, k1, _⟩ := room_cells (x := .bool (decide (Z.sig 1 N < 0))) (u := .slice A4 a4 c4) r4
    unfold World.room at k0 k1
    have hend := Lib.hid (gives_room m4 (HE.out) r4 (hb0.trans (b3.mono (by omega))) (by omega))
    obtain ⟨xr, yr, zr, qr, ⟨f0, f1, f2, f3⟩⟩ := r4
    have f4 := f3 0
    have f5 := f3 1
    clear hr0 hb0 hs0 b1 b1' b2 b3 m4 p4 f3
    go_wp2_with fail
    exact bodyPost_ret (v := .agg #[.bool (decide (Z.sig 1 N < 0)), .slice A4 a4 c4]) (by simp [results, Tryd.results20, go_sem, k0, k1]) rfl hend.out


/-- the text of a whole number: - ahead of its digits, if it is below nought -/
def ZTxt (z : Int) (l : List UInt8) : Prop := ∃ t, T.Txt z.natAbs t ∧ l = (if z < 0 then [45] else []) ++ t
def GivesZ (W : World) (z : Int) (e : Ending) (w' : World) : Prop := ∃ l : List UInt8, e = .returned (.string ⟨l.toArray⟩) ∧ ZTxt z l ∧ Below W.heap.size W w'

theorem in_lt {w : World} {A : Option Addr} {n c N : Nat} (h : In w A n c N) : ∃ k, k ≤ 1000000 ∧ N < M.BB ^ k := by
  obtain ⟨l, h1, rfl, h3, h4, h5⟩ := h
  have := M.val_lt h1.2.1
  rw [h1.1] at this
  exact ⟨n, h5, this⟩
end Go.Proofs.YtkooconjkimgoaaDoor

/- nat's DivMod by the numbers that its arguments say; NatBack: its walk. -/
namespace Go.Proofs.YtkooconjkimgoaaDoor
open Go.RowKit

/-- nought has no limbs -/
theorem Num.zero {w : World} {v : Value} (h : Num w v 0) : ∃ A c, v = .slice A 0 c := by
  obtain ⟨A, n, c, l, rfl, h1, h2, h3, h4, h5⟩ := h
  have : n ≤ 0 := M.len_le h2 h1.1 (by rw [h3]; simp)
  obtain rfl : n = 0 := by omega
  exact ⟨A, c, rfl⟩

end Go.Proofs.YtkooconjkimgoaaDoor

/- whole: share, DivMod, Floor: what each answers. -/
namespace Go.Proofs.YtkooconjkimgoaaDoor
open Go.RowKit

theorem num_len {w : World} {A : Option Addr} {n c N : Nat} (h : Num w (.slice A n c) N) : n = 0 ↔ N = 0 := by
  obtain ⟨A', n', c', l, e, h1, h2, h3, h4, h5⟩ := h
  obtain ⟨rfl, rfl, rfl⟩ : A = A' ∧ n = n' ∧ c = c' := by injection e with e1 e2 e3; exact ⟨e1, e2, e3⟩
  constructor
  · intro e
    have hl : l = [] := List.eq_nil_of_length_eq_zero (by rw [h1.1]; exact e)
    rw [← h3, hl, M.val_nil]
  · intro e
    have := M.Top.eq_nil h2 (by rw [h3]; exact e)
    rw [← h1.1, this]; rfl

/-- a quotient and a rest -/
def Shared (W : World) (Q R : Nat) (e : Ending) (w' : World) : Prop := ∃ v1 v2, e = .returned (.tuple #[v1, v2]) ∧ Num w' v1 Q ∧ Num w' v2 R ∧ Below W.heap.size W w'

/-- two whole numbers, and no error -/
def WTwo (W : World) (z1 z2 : Int) (e : Ending) (w' : World) : Prop := ∃ v1 v2, e = .returned (.tuple #[v1, v2, .int .i64 0]) ∧ WNum w' v1 z1 ∧ WNum w' v2 z2 ∧ Below W.heap.size W w'
theorem gives_two {w W : World} {R R2 : Nat} {z z' y y' : Int} {A B : Option Addr} {n c m d : Nat} (h1 : Num W (.slice A n c) z'.natAbs) (h2 : Num W (.slice B m d) y'.natAbs) (hz : z' = z) (hy : y' = y) (r : Room W R) (r2 : Room W R2) (hb : Below w.heap.size w W) (hR : w.heap.size ≤ R) (hR2 : w.heap.size ≤ R2) :
    WTwo w z y (.returned (.tuple #[.agg #[.bool (decide (z' < 0)), .slice A n c], .agg #[.bool (decide (y' < 0)), .slice B m d], .int .i64 0]))
      (World.room (World.room W R (.bool (decide (z' < 0))) (.slice A n c)) R2 (.bool (decide (y' < 0))) (.slice B m d)) := by
  subst hz hy
  exact ⟨_, _, rfl, ⟨_, rfl, num_room (num_room h1 r) (room_room r2 r)⟩, ⟨_, rfl, num_room (num_room h2 r) (room_room r2 r)⟩, below_room (below_room hb hR _ _) hR2 _ _⟩
theorem two_cells {W : World} {R R2 : Nat} {x x' : Bool} {A B : Option Addr} {n c m d : Nat} (r : Room W R) (r2 : Room W R2) (hne : R ≠ R2) :
    (World.room (World.room W R (.bool x) (.slice A n c)) R2 (.bool x') (.slice B m d)).cell? ⟨R, 0, none⟩ = some (.bool x) ∧ (World.room (World.room W R (.bool x) (.slice A n c)) R2 (.bool x') (.slice B m d)).cell? ⟨R, 1, none⟩ = some (.slice A n c) ∧
    (World.room (World.room W R (.bool x) (.slice A n c)) R2 (.bool x') (.slice B m d)).cell? ⟨R2, 0, none⟩ = some (.bool x') ∧ (World.room (World.room W R (.bool x) (.slice A n c)) R2 (.bool x') (.slice B m d)).cell? ⟨R2, 1, none⟩ = some (.slice B m d) := by
  obtain ⟨a1, a2, _⟩ := room_cells (x := .bool x) (u := .slice A n c) r
  obtain ⟨b1, b2, _⟩ := room_cells (x := .bool x') (u := .slice B m d) (room_room (x := x) (A := A) (n := n) (c := c) r2 r)
  exact ⟨(far_room _ R2 _ _ (p := ⟨R, 0, none⟩) hne).trans a1, (far_room _ R2 _ _ (p := ⟨R, 1, none⟩) hne).trans a2, b1, b2⟩

/-- a whole number, and no error -/
def WOne (W : World) (z : Int) (e : Ending) (w' : World) : Prop := ∃ v, e = .returned (.tuple #[v, .int .i64 0]) ∧ WNum w' v z ∧ Below W.heap.size W w'
theorem gives_one {w W : World} {R : Nat} {z z' : Int} {A : Option Addr} {n c : Nat} (m : Num W (.slice A n c) z'.natAbs) (hz : z' = z) (r : Room W R) (hb : Below w.heap.size w W) (hR : w.heap.size ≤ R) :
    WOne w z (.returned (.tuple #[.agg #[.bool (decide (z' < 0)), .slice A n c], .int .i64 0])) (World.room W R (.bool (decide (z' < 0))) (.slice A n c)) := by
  subst hz
  exact ⟨_, rfl, ⟨_, rfl, num_room m r⟩, below_room hb hR _ _⟩
end Go.Proofs.YtkooconjkimgoaaDoor

/- whole: Parse: what it answers. -/
namespace Go.Proofs.YtkooconjkimgoaaDoor
open Go.RowKit

theorem str_list (t : List UInt8) : (⟨t.toArray⟩ : ByteArray).data.toList = t := rfl
/-- what a text says, if it says a number -/
def PZ : List UInt8 → Option Int
  | 45 :: t => if isT t = true ∧ T.dv t ≠ 0 then some (-(T.dv t : Int)) else none
  | l => if isT l = true then some (T.dv l : Int) else none
theorem pz_minus (t : List UInt8) : PZ (45 :: t) = if isT t = true ∧ T.dv t ≠ 0 then some (-(T.dv t : Int)) else none := rfl
theorem pz_plain {l : List UInt8} (h : l.head? ≠ some 45) : PZ l = if isT l = true then some (T.dv l : Int) else none := by
  unfold PZ
  split
  · simp at h
  · rfl
end Go.Proofs.YtkooconjkimgoaaDoor

/- stage 2: few, Same, awake: what each answers. -/
namespace Go.Proofs.YtkooconjkimgoaaDoor
open Go.RowKit

theorem same_w {u v : Value} {z y : Int} {w : World} (h : WNum w u z) (k : WNum w v y) (e : z = y) :
    Calls Tryd.prog 30 #[u, v] w fun e w' => e = .returned (.bool true) ∧ Below w.heap.size w w' := by
  subst e
  obtain ⟨u', rfl, h⟩ := h
  obtain ⟨v', rfl, k⟩ := k
  obtain ⟨A, n, c, B, m, d, rfl, rfl, _⟩ := same_nums h k
  have q0 := Held2.zero w (decide (z < 0)) (decide (z < 0)) A B n c m d
  have HC := Lib.hid (same_nn (h.below q0.bel) (k.below q0.bel) rfl)
  obtain ⟨g, HG⟩ : ∃ g, Hid (decide (z < 0) = g) := ⟨_, rfl⟩
  rw [HG.out] at q0 HC ⊢
  clear h k
  go_enter Tryd.func30, Tryd.ntmps30
  go_wp2_with fail
  refine HC.out.mono ?_
  rintro e w1 ⟨rfl, b1⟩
  have q1 := q0.below b1
  have bl := q1.bel
  obtain ⟨x0, x1, x2, _⟩ := q1.box
  obtain ⟨y0, y1, y2, _⟩ := q1.box2
  clear b1 q0 q1 HC
  cases g <;> (go_wp2_with fail; go_ret; exact ⟨rfl, bl⟩)
end Go.Proofs.YtkooconjkimgoaaDoor

/- stage 2: awake: what it answers. -/
namespace Go.Proofs.YtkooconjkimgoaaDoor
open Go.RowKit

theorem WNum.open {w : World} {v : Value} {z : Int} {k : Nat} (h : WNum w v z) (hz : z.natAbs < M.BB ^ k) (hk : k ≤ 1000000) : ∃ g A n c, v = .agg #[.bool g, .slice A n c] ∧ WIn w g A n c z ∧ WNum w (.agg #[.bool g, .slice A n c]) z := by
  obtain ⟨A, n, c, rfl, hi⟩ := h.inn hz hk
  exact ⟨_, A, n, c, rfl, hi, h⟩
theorem loc1 (w : World) (g : Bool) (A : Option Addr) (n c : Nat) : Below w.heap.size w (w.alloc (.cells #[.bool g, .slice A n c] 39)) ∧ Box (w.alloc (.cells #[.bool g, .slice A n c] 39)) w.heap.size g A n c :=
  ⟨(Below.refl _ _).alloc (Nat.le_refl _) _, Box.new w g A n c⟩
theorem loc2 (w : World) (g : Bool) (A : Option Addr) (n c : Nat) (h : Bool) (B : Option Addr) (m d : Nat) :
    Below w.heap.size w ((w.alloc (.cells #[.bool g, .slice A n c] 39)).alloc (.cells #[.bool h, .slice B m d] 39)) ∧ Box ((w.alloc (.cells #[.bool g, .slice A n c] 39)).alloc (.cells #[.bool h, .slice B m d] 39)) w.heap.size g A n c ∧
    Box ((w.alloc (.cells #[.bool g, .slice A n c] 39)).alloc (.cells #[.bool h, .slice B m d] 39)) (w.heap.size + 1) h B m d :=
  ⟨(Held2.zero w g h A B n c m d).bel, (Held2.zero w g h A B n c m d).box, (Held2.zero w g h A B n c m d).box2⟩
theorem ZTxt.uniq {z : Int} {l m : List UInt8} (h : ZTxt z l) (k : ZTxt z m) : l = m := by
  obtain ⟨t, h1, rfl⟩ := h
  obtain ⟨t', k1, rfl⟩ := k
  rw [h1.uniq k1]
theorem digit_txt (d : Nat) (c : UInt8) (h0 : 0 < d) (hd : d < 10) (hc : c = UInt8.ofNat (48 + d)) : T.Txt d [c] := by
  subst hc
  refine .inr ⟨[d], ?_, ?_, by simp, by simp [T.val], rfl⟩
  · refine T.Fit.of_mem fun x hx => ?_
    rw [T.BB_eq]
    simp at hx
    omega
  · intro _
    simp
    omega
theorem ztxt_m4 : ZTxt (-4) [45, 52] := ⟨[52], digit_txt 4 52 (by omega) (by omega) rfl, rfl⟩
theorem ztxt_4 : ZTxt 4 [52] := ⟨[52], digit_txt 4 52 (by omega) (by omega) rfl, rfl⟩
theorem ztxt_1 : ZTxt 1 [49] := ⟨[49], digit_txt 1 49 (by omega) (by omega) rfl, rfl⟩
theorem lt_one {z : Int} (h : z.natAbs < 1000) : z.natAbs < M.BB ^ 1 := by rw [Nat.pow_one, M.BB_eq]; omega

end Go.Proofs.YtkooconjkimgoaaDoor

/- what is held through a region that draws: structs in memory, and the whole numbers that they say. -/
namespace Go.Proofs.YtkooconjkimgoaaDoor
open Go.RowKit

/-- a struct lies in block b and says z -/
structure BoxZ (W : World) (b : Nat) (g : Bool) (A : Option Addr) (n c : Nat) (z : Int) : Prop where
  box : Box W b g A n c
  num : WIn W g A n c z
theorem BoxZ.below {W w1 : World} {b : Nat} {g : Bool} {A : Option Addr} {n c : Nat} {z : Int} (h : BoxZ W b g A n c z) (hk : Below W.heap.size W w1) : BoxZ w1 b g A n c z := ⟨h.box.below hk h.box.lt, h.num.below hk⟩
structure Loc where
  b : Nat
  g : Bool
  A : Option Addr
  n : Nat
  c : Nat
  z : Int
/-- what lies there: L in boxes, M in their own form; nothing below w has changed -/
def HL (w : World) (L M : List Loc) (W : World) : Prop := (∀ x ∈ L, BoxZ W x.b x.g x.A x.n x.c x.z) ∧ (∀ x ∈ M, WNum W (.agg #[.bool x.g, .slice x.A x.n x.c]) x.z) ∧ Below w.heap.size w W
theorem HL.below {w W w1 : World} {L M : List Loc} (h : HL w L M W) (hk : Below W.heap.size W w1) : HL w L M w1 := ⟨fun x hx => (h.1 x hx).below hk, fun x hx => (h.2.1 x hx).below hk, h.2.2.trans (hk.mono h.2.2.size)⟩
theorem HL.drew {w W : World} {L M : List Loc} (h : HL w L M W) : HL w L M W.drew := h.below (Below.refl _ _).drew
theorem one_of {α : Type} {P : α → Prop} {a : α} (h : P a) : ∀ x ∈ [a], P x := fun x hx => by
  simp at hx
  rw [hx]; exact h
theorem cons_of {α : Type} {P : α → Prop} {a : α} {l : List α} (h : P a) (k : ∀ x ∈ l, P x) : ∀ x ∈ a :: l, P x := fun x hx => by
  rcases List.mem_cons.1 hx with e | e
  · rw [e]; exact h
  · exact k x e

theorem cells1 {w W : World} {M : List Loc} {b0 : Nat} {g0 : Bool} {A0 : Option Addr} {n0 c0 : Nat} {z0 : Int} (q : HL w [⟨b0, g0, A0, n0, c0, z0⟩] M W) : W.cell? ⟨b0, 0, none⟩ = some (.bool g0) ∧ W.cell? ⟨b0, 1, none⟩ = some (.slice A0 n0 c0) ∧ HL w [⟨b0, g0, A0, n0, c0, z0⟩] M W :=
  ⟨(q.1 _ (.head _)).box.c0, (q.1 _ (.head _)).box.c1, q⟩
theorem keepZ1 {w W w1 : World} {M : List Loc} {b0 : Nat} {g0 : Bool} {A0 : Option Addr} {n0 c0 : Nat} {z0 : Int} (hk : Below W.heap.size W w1) (h : W.cell? ⟨b0, 0, none⟩ = some (.bool g0) ∧ W.cell? ⟨b0, 1, none⟩ = some (.slice A0 n0 c0) ∧ HL w [⟨b0, g0, A0, n0, c0, z0⟩] M W) : w1.cell? ⟨b0, 0, none⟩ = some (.bool g0) ∧ w1.cell? ⟨b0, 1, none⟩ = some (.slice A0 n0 c0) ∧ HL w [⟨b0, g0, A0, n0, c0, z0⟩] M w1 := cells1 (h.2.2.below hk)
theorem start1 {w W : World} {M : List Loc} {b0 : Nat} {g0 : Bool} {A0 : Option Addr} {n0 c0 : Nat} {z0 : Int} (h0 : BoxZ W b0 g0 A0 n0 c0 z0) (bl : Below w.heap.size w W) (hM : ∀ x ∈ M, WNum W (.agg #[.bool x.g, .slice x.A x.n x.c]) x.z) : W.drew.cell? ⟨b0, 0, none⟩ = some (.bool g0) ∧ W.drew.cell? ⟨b0, 1, none⟩ = some (.slice A0 n0 c0) ∧ HL w [⟨b0, g0, A0, n0, c0, z0⟩] M W.drew :=
  cells1 (HL.drew ⟨cons_of (P := fun x : Loc => BoxZ W x.b x.g x.A x.n x.c x.z) h0 (fun _ h => absurd h (by simp)), hM, bl⟩)
theorem own1 {W : World} {b0 : Nat} {g0 : Bool} {A0 : Option Addr} {n0 c0 : Nat} {z0 : Int} (h0 : WNum W (.agg #[.bool g0, .slice A0 n0 c0]) z0) : ∀ x ∈ [(⟨b0, g0, A0, n0, c0, z0⟩ : Loc)], WNum W (.agg #[.bool x.g, .slice x.A x.n x.c]) x.z :=
  cons_of (P := fun x : Loc => WNum W (.agg #[.bool x.g, .slice x.A x.n x.c]) x.z) h0 (fun _ h => absurd h (by simp))

theorem cells2 {w W : World} {M : List Loc} {b0 : Nat} {g0 : Bool} {A0 : Option Addr} {n0 c0 : Nat} {z0 : Int} {b1 : Nat} {g1 : Bool} {A1 : Option Addr} {n1 c1 : Nat} {z1 : Int} (q : HL w [⟨b0, g0, A0, n0, c0, z0⟩, ⟨b1, g1, A1, n1, c1, z1⟩] M W) : W.cell? ⟨b0, 0, none⟩ = some (.bool g0) ∧ W.cell? ⟨b0, 1, none⟩ = some (.slice A0 n0 c0) ∧ W.cell? ⟨b1, 0, none⟩ = some (.bool g1) ∧ W.cell? ⟨b1, 1, none⟩ = some (.slice A1 n1 c1) ∧ HL w [⟨b0, g0, A0, n0, c0, z0⟩, ⟨b1, g1, A1, n1, c1, z1⟩] M W :=
  ⟨(q.1 _ (.head _)).box.c0, (q.1 _ (.head _)).box.c1, (q.1 _ (.tail _ (.head _))).box.c0, (q.1 _ (.tail _ (.head _))).box.c1, q⟩
theorem keepZ2 {w W w1 : World} {M : List Loc} {b0 : Nat} {g0 : Bool} {A0 : Option Addr} {n0 c0 : Nat} {z0 : Int} {b1 : Nat} {g1 : Bool} {A1 : Option Addr} {n1 c1 : Nat} {z1 : Int} (hk : Below W.heap.size W w1) (h : W.cell? ⟨b0, 0, none⟩ = some (.bool g0) ∧ W.cell? ⟨b0, 1, none⟩ = some (.slice A0 n0 c0) ∧ W.cell? ⟨b1, 0, none⟩ = some (.bool g1) ∧ W.cell? ⟨b1, 1, none⟩ = some (.slice A1 n1 c1) ∧ HL w [⟨b0, g0, A0, n0, c0, z0⟩, ⟨b1, g1, A1, n1, c1, z1⟩] M W) : w1.cell? ⟨b0, 0, none⟩ = some (.bool g0) ∧ w1.cell? ⟨b0, 1, none⟩ = some (.slice A0 n0 c0) ∧ w1.cell? ⟨b1, 0, none⟩ = some (.bool g1) ∧ w1.cell? ⟨b1, 1, none⟩ = some (.slice A1 n1 c1) ∧ HL w [⟨b0, g0, A0, n0, c0, z0⟩, ⟨b1, g1, A1, n1, c1, z1⟩] M w1 := cells2 (h.2.2.2.2.below hk)
theorem start2 {w W : World} {M : List Loc} {b0 : Nat} {g0 : Bool} {A0 : Option Addr} {n0 c0 : Nat} {z0 : Int} {b1 : Nat} {g1 : Bool} {A1 : Option Addr} {n1 c1 : Nat} {z1 : Int} (h0 : BoxZ W b0 g0 A0 n0 c0 z0) (h1 : BoxZ W b1 g1 A1 n1 c1 z1) (bl : Below w.heap.size w W) (hM : ∀ x ∈ M, WNum W (.agg #[.bool x.g, .slice x.A x.n x.c]) x.z) : W.drew.cell? ⟨b0, 0, none⟩ = some (.bool g0) ∧ W.drew.cell? ⟨b0, 1, none⟩ = some (.slice A0 n0 c0) ∧ W.drew.cell? ⟨b1, 0, none⟩ = some (.bool g1) ∧ W.drew.cell? ⟨b1, 1, none⟩ = some (.slice A1 n1 c1) ∧ HL w [⟨b0, g0, A0, n0, c0, z0⟩, ⟨b1, g1, A1, n1, c1, z1⟩] M W.drew :=
  cells2 (HL.drew ⟨cons_of (P := fun x : Loc => BoxZ W x.b x.g x.A x.n x.c x.z) h0 (cons_of (P := fun x : Loc => BoxZ W x.b x.g x.A x.n x.c x.z) h1 (fun _ h => absurd h (by simp))), hM, bl⟩)
theorem own2 {W : World} {b0 : Nat} {g0 : Bool} {A0 : Option Addr} {n0 c0 : Nat} {z0 : Int} {b1 : Nat} {g1 : Bool} {A1 : Option Addr} {n1 c1 : Nat} {z1 : Int} (h0 : WNum W (.agg #[.bool g0, .slice A0 n0 c0]) z0) (h1 : WNum W (.agg #[.bool g1, .slice A1 n1 c1]) z1) : ∀ x ∈ [(⟨b0, g0, A0, n0, c0, z0⟩ : Loc), (⟨b1, g1, A1, n1, c1, z1⟩ : Loc)], WNum W (.agg #[.bool x.g, .slice x.A x.n x.c]) x.z :=
  cons_of (P := fun x : Loc => WNum W (.agg #[.bool x.g, .slice x.A x.n x.c]) x.z) h0 (cons_of (P := fun x : Loc => WNum W (.agg #[.bool x.g, .slice x.A x.n x.c]) x.z) h1 (fun _ h => absurd h (by simp)))

theorem cells3 {w W : World} {M : List Loc} {b0 : Nat} {g0 : Bool} {A0 : Option Addr} {n0 c0 : Nat} {z0 : Int} {b1 : Nat} {g1 : Bool} {A1 : Option Addr} {n1 c1 : Nat} {z1 : Int} {b2 : Nat} {g2 : Bool} {A2 : Option Addr} {n2 c2 : Nat} {z2 : Int} (q : HL w [⟨b0, g0, A0, n0, c0, z0⟩, ⟨b1, g1, A1, n1, c1, z1⟩, ⟨b2, g2, A2, n2, c2, z2⟩] M W) : W.cell? ⟨b0, 0, none⟩ = some (.bool g0) ∧ W.cell? ⟨b0, 1, none⟩ = some (.slice A0 n0 c0) ∧ W.cell? ⟨b1, 0, none⟩ = some (.bool g1) ∧ W.cell? ⟨b1, 1, none⟩ = some (.slice A1 n1 c1) ∧ W.cell? ⟨b2, 0, none⟩ = some (.bool g2) ∧ W.cell? ⟨b2, 1, none⟩ = some (.slice A2 n2 c2) ∧ HL w [⟨b0, g0, A0, n0, c0, z0⟩, ⟨b1, g1, A1, n1, c1, z1⟩, ⟨b2, g2, A2, n2, c2, z2⟩] M W :=
  ⟨(q.1 _ (.head _)).box.c0, (q.1 _ (.head _)).box.c1, (q.1 _ (.tail _ (.head _))).box.c0, (q.1 _ (.tail _ (.head _))).box.c1, (q.1 _ (.tail _ (.tail _ (.head _)))).box.c0, (q.1 _ (.tail _ (.tail _ (.head _)))).box.c1, q⟩
theorem keepZ3 {w W w1 : World} {M : List Loc} {b0 : Nat} {g0 : Bool} {A0 : Option Addr} {n0 c0 : Nat} {z0 : Int} {b1 : Nat} {g1 : Bool} {A1 : Option Addr} {n1 c1 : Nat} {z1 : Int} {b2 : Nat} {g2 : Bool} {A2 : Option Addr} {n2 c2 : Nat} {z2 : Int} (hk : Below W.heap.size W w1) (h : W.cell? ⟨b0, 0, none⟩ = some (.bool g0) ∧ W.cell? ⟨b0, 1, none⟩ = some (.slice A0 n0 c0) ∧ W.cell? ⟨b1, 0, none⟩ = some (.bool g1) ∧ W.cell? ⟨b1, 1, none⟩ = some (.slice A1 n1 c1) ∧ W.cell? ⟨b2, 0, none⟩ = some (.bool g2) ∧ W.cell? ⟨b2, 1, none⟩ = some (.slice A2 n2 c2) ∧ HL w [⟨b0, g0, A0, n0, c0, z0⟩, ⟨b1, g1, A1, n1, c1, z1⟩, ⟨b2, g2, A2, n2, c2, z2⟩] M W) : w1.cell? ⟨b0, 0, none⟩ = some (.bool g0) ∧ w1.cell? ⟨b0, 1, none⟩ = some (.slice A0 n0 c0) ∧ w1.cell? ⟨b1, 0, none⟩ = some (.bool g1) ∧ w1.cell? ⟨b1, 1, none⟩ = some (.slice A1 n1 c1) ∧ w1.cell? ⟨b2, 0, none⟩ = some (.bool g2) ∧ w1.cell? ⟨b2, 1, none⟩ = some (.slice A2 n2 c2) ∧ HL w [⟨b0, g0, A0, n0, c0, z0⟩, ⟨b1, g1, A1, n1, c1, z1⟩, ⟨b2, g2, A2, n2, c2, z2⟩] M w1 := cells3 (h.2.2.2.2.2.2.below hk)
theorem start3 {w W : World} {M : List Loc} {b0 : Nat} {g0 : Bool} {A0 : Option Addr} {n0 c0 : Nat} {z0 : Int} {b1 : Nat} {g1 : Bool} {A1 : Option Addr} {n1 c1 : Nat} {z1 : Int} {b2 : Nat} {g2 : Bool} {A2 : Option Addr} {n2 c2 : Nat} {z2 : Int} (h0 : BoxZ W b0 g0 A0 n0 c0 z0) (h1 : BoxZ W b1 g1 A1 n1 c1 z1) (h2 : BoxZ W b2 g2 A2 n2 c2 z2) (bl : Below w.heap.size w W) (hM : ∀ x ∈ M, WNum W (.agg #[.bool x.g, .slice x.A x.n x.c]) x.z) : W.drew.cell? ⟨b0, 0, none⟩ = some (.bool g0) ∧ W.drew.cell? ⟨b0, 1, none⟩ = some (.slice A0 n0 c0) ∧ W.drew.cell? ⟨b1, 0, none⟩ = some (.bool g1) ∧ W.drew.cell? ⟨b1, 1, none⟩ = some (.slice A1 n1 c1) ∧ W.drew.cell? ⟨b2, 0, none⟩ = some (.bool g2) ∧ W.drew.cell? ⟨b2, 1, none⟩ = some (.slice A2 n2 c2) ∧ HL w [⟨b0, g0, A0, n0, c0, z0⟩, ⟨b1, g1, A1, n1, c1, z1⟩, ⟨b2, g2, A2, n2, c2, z2⟩] M W.drew :=
  cells3 (HL.drew ⟨cons_of (P := fun x : Loc => BoxZ W x.b x.g x.A x.n x.c x.z) h0 (cons_of (P := fun x : Loc => BoxZ W x.b x.g x.A x.n x.c x.z) h1 (cons_of (P := fun x : Loc => BoxZ W x.b x.g x.A x.n x.c x.z) h2 (fun _ h => absurd h (by simp)))), hM, bl⟩)
theorem own3 {W : World} {b0 : Nat} {g0 : Bool} {A0 : Option Addr} {n0 c0 : Nat} {z0 : Int} {b1 : Nat} {g1 : Bool} {A1 : Option Addr} {n1 c1 : Nat} {z1 : Int} {b2 : Nat} {g2 : Bool} {A2 : Option Addr} {n2 c2 : Nat} {z2 : Int} (h0 : WNum W (.agg #[.bool g0, .slice A0 n0 c0]) z0) (h1 : WNum W (.agg #[.bool g1, .slice A1 n1 c1]) z1) (h2 : WNum W (.agg #[.bool g2, .slice A2 n2 c2]) z2) : ∀ x ∈ [(⟨b0, g0, A0, n0, c0, z0⟩ : Loc), (⟨b1, g1, A1, n1, c1, z1⟩ : Loc), (⟨b2, g2, A2, n2, c2, z2⟩ : Loc)], WNum W (.agg #[.bool x.g, .slice x.A x.n x.c]) x.z :=
  cons_of (P := fun x : Loc => WNum W (.agg #[.bool x.g, .slice x.A x.n x.c]) x.z) h0 (cons_of (P := fun x : Loc => WNum W (.agg #[.bool x.g, .slice x.A x.n x.c]) x.z) h1 (cons_of (P := fun x : Loc => WNum W (.agg #[.bool x.g, .slice x.A x.n x.c]) x.z) h2 (fun _ h => absurd h (by simp))))

theorem cells4 {w W : World} {M : List Loc} {b0 : Nat} {g0 : Bool} {A0 : Option Addr} {n0 c0 : Nat} {z0 : Int} {b1 : Nat} {g1 : Bool} {A1 : Option Addr} {n1 c1 : Nat} {z1 : Int} {b2 : Nat} {g2 : Bool} {A2 : Option Addr} {n2 c2 : Nat} {z2 : Int} {b3 : Nat} {g3 : Bool} {A3 : Option Addr} {n3 c3 : Nat} {z3 : Int} (q : HL w [⟨b0, g0, A0, n0, c0, z0⟩, ⟨b1, g1, A1, n1, c1, z1⟩, ⟨b2, g2, A2, n2, c2, z2⟩, ⟨b3, g3, A3, n3, c3, z3⟩] M W) : W.cell? ⟨b0, 0, none⟩ = some (.bool g0) ∧ W.cell? ⟨b0, 1, none⟩ = some (.slice A0 n0 c0) ∧ W.cell? ⟨b1, 0, none⟩ = some (.bool g1) ∧ W.cell? ⟨b1, 1, none⟩ = some (.slice A1 n1 c1) ∧ W.cell? ⟨b2, 0, none⟩ = some (.bool g2) ∧ W.cell? ⟨b2, 1, none⟩ = some (.slice A2 n2 c2) ∧ W.cell? ⟨b3, 0, none⟩ = some (.bool g3) ∧ W.cell? ⟨b3, 1, none⟩ = some (.slice A3 n3 c3) ∧ HL w [⟨b0, g0, A0, n0, c0, z0⟩, ⟨b1, g1, A1, n1, c1, z1⟩, ⟨b2, g2, A2, n2, c2, z2⟩, ⟨b3, g3, A3, n3, c3, z3⟩] M W :=
  ⟨(q.1 _ (.head _)).box.c0, (q.1 _ (.head _)).box.c1, (q.1 _ (.tail _ (.head _))).box.c0, (q.1 _ (.tail _ (.head _))).box.c1, (q.1 _ (.tail _ (.tail _ (.head _)))).box.c0, (q.1 _ (.tail _ (.tail _ (.head _)))).box.c1, (q.1 _ (.tail _ (.tail _ (.tail _ (.head _))))).box.c0, (q.1 _ (.tail _ (.tail _ (.tail _ (.head _))))).box.c1, q⟩
theorem keepZ4 {w W w1 : World} {M : List Loc} {b0 : Nat} {g0 : Bool} {A0 : Option Addr} {n0 c0 : Nat} {z0 : Int} {b1 : Nat} {g1 : Bool} {A1 : Option Addr} {n1 c1 : Nat} {z1 : Int} {b2 : Nat} {g2 : Bool} {A2 : Option Addr} {n2 c2 : Nat} {z2 : Int} {b3 : Nat} {g3 : Bool} {A3 : Option Addr} {n3 c3 : Nat} {z3 : Int} (hk : Below W.heap.size W w1) (h : W.cell? ⟨b0, 0, none⟩ = some (.bool g0) ∧ W.cell? ⟨b0, 1, none⟩ = some (.slice A0 n0 c0) ∧ W.cell? ⟨b1, 0, none⟩ = some (.bool g1) ∧ W.cell? ⟨b1, 1, none⟩ = some (.slice A1 n1 c1) ∧ W.cell? ⟨b2, 0, none⟩ = some (.bool g2) ∧ W.cell? ⟨b2, 1, none⟩ = some (.slice A2 n2 c2) ∧ W.cell? ⟨b3, 0, none⟩ = some (.bool g3) ∧ W.cell? ⟨b3, 1, none⟩ = some (.slice A3 n3 c3) ∧ HL w [⟨b0, g0, A0, n0, c0, z0⟩, ⟨b1, g1, A1, n1, c1, z1⟩, ⟨b2, g2, A2, n2, c2, z2⟩, ⟨b3, g3, A3, n3, c3, z3⟩] M W) : w1.cell? ⟨b0, 0, none⟩ = some (.bool g0) ∧ w1.cell? ⟨b0, 1, none⟩ = some (.slice A0 n0 c0) ∧ w1.cell? ⟨b1, 0, none⟩ = some (.bool g1) ∧ w1.cell? ⟨b1, 1, none⟩ = some (.slice A1 n1 c1) ∧ w1.cell? ⟨b2, 0, none⟩ = some (.bool g2) ∧ w1.cell? ⟨b2, 1, none⟩ = some (.slice A2 n2 c2) ∧ w1.cell? ⟨b3, 0, none⟩ = some (.bool g3) ∧ w1.cell? ⟨b3, 1, none⟩ = some (.slice A3 n3 c3) ∧ HL w [⟨b0, g0, A0, n0, c0, z0⟩, ⟨b1, g1, A1, n1, c1, z1⟩, ⟨b2, g2, A2, n2, c2, z2⟩, ⟨b3, g3, A3, n3, c3, z3⟩] M w1 := cells4 (h.2.2.2.2.2.2.2.2.below hk)
theorem start4 {w W : World} {M : List Loc} {b0 : Nat} {g0 : Bool} {A0 : Option Addr} {n0 c0 : Nat} {z0 : Int} {b1 : Nat} {g1 : Bool} {A1 : Option Addr} {n1 c1 : Nat} {z1 : Int} {b2 : Nat} {g2 : Bool} {A2 : Option Addr} {n2 c2 : Nat} {z2 : Int} {b3 : Nat} {g3 : Bool} {A3 : Option Addr} {n3 c3 : Nat} {z3 : Int} (h0 : BoxZ W b0 g0 A0 n0 c0 z0) (h1 : BoxZ W b1 g1 A1 n1 c1 z1) (h2 : BoxZ W b2 g2 A2 n2 c2 z2) (h3 : BoxZ W b3 g3 A3 n3 c3 z3) (bl : Below w.heap.size w W) (hM : ∀ x ∈ M, WNum W (.agg #[.bool x.g, .slice x.A x.n x.c]) x.z) : W.drew.cell? ⟨b0, 0, none⟩ = some (.bool g0) ∧ W.drew.cell? ⟨b0, 1, none⟩ = some (.slice A0 n0 c0) ∧ W.drew.cell? ⟨b1, 0, none⟩ = some (.bool g1) ∧ W.drew.cell? ⟨b1, 1, none⟩ = some (.slice A1 n1 c1) ∧ W.drew.cell? ⟨b2, 0, none⟩ = some (.bool g2) ∧ W.drew.cell? ⟨b2, 1, none⟩ = some (.slice A2 n2 c2) ∧ W.drew.cell? ⟨b3, 0, none⟩ = some (.bool g3) ∧ W.drew.cell? ⟨b3, 1, none⟩ = some (.slice A3 n3 c3) ∧ HL w [⟨b0, g0, A0, n0, c0, z0⟩, ⟨b1, g1, A1, n1, c1, z1⟩, ⟨b2, g2, A2, n2, c2, z2⟩, ⟨b3, g3, A3, n3, c3, z3⟩] M W.drew :=
  cells4 (HL.drew ⟨cons_of (P := fun x : Loc => BoxZ W x.b x.g x.A x.n x.c x.z) h0 (cons_of (P := fun x : Loc => BoxZ W x.b x.g x.A x.n x.c x.z) h1 (cons_of (P := fun x : Loc => BoxZ W x.b x.g x.A x.n x.c x.z) h2 (cons_of (P := fun x : Loc => BoxZ W x.b x.g x.A x.n x.c x.z) h3 (fun _ h => absurd h (by simp))))), hM, bl⟩)
theorem own4 {W : World} {b0 : Nat} {g0 : Bool} {A0 : Option Addr} {n0 c0 : Nat} {z0 : Int} {b1 : Nat} {g1 : Bool} {A1 : Option Addr} {n1 c1 : Nat} {z1 : Int} {b2 : Nat} {g2 : Bool} {A2 : Option Addr} {n2 c2 : Nat} {z2 : Int} {b3 : Nat} {g3 : Bool} {A3 : Option Addr} {n3 c3 : Nat} {z3 : Int} (h0 : WNum W (.agg #[.bool g0, .slice A0 n0 c0]) z0) (h1 : WNum W (.agg #[.bool g1, .slice A1 n1 c1]) z1) (h2 : WNum W (.agg #[.bool g2, .slice A2 n2 c2]) z2) (h3 : WNum W (.agg #[.bool g3, .slice A3 n3 c3]) z3) : ∀ x ∈ [(⟨b0, g0, A0, n0, c0, z0⟩ : Loc), (⟨b1, g1, A1, n1, c1, z1⟩ : Loc), (⟨b2, g2, A2, n2, c2, z2⟩ : Loc), (⟨b3, g3, A3, n3, c3, z3⟩ : Loc)], WNum W (.agg #[.bool x.g, .slice x.A x.n x.c]) x.z :=
  cons_of (P := fun x : Loc => WNum W (.agg #[.bool x.g, .slice x.A x.n x.c]) x.z) h0 (cons_of (P := fun x : Loc => WNum W (.agg #[.bool x.g, .slice x.A x.n x.c]) x.z) h1 (cons_of (P := fun x : Loc => WNum W (.agg #[.bool x.g, .slice x.A x.n x.c]) x.z) h2 (cons_of (P := fun x : Loc => WNum W (.agg #[.bool x.g, .slice x.A x.n x.c]) x.z) h3 (fun _ h => absurd h (by simp)))))

theorem cells5 {w W : World} {M : List Loc} {b0 : Nat} {g0 : Bool} {A0 : Option Addr} {n0 c0 : Nat} {z0 : Int} {b1 : Nat} {g1 : Bool} {A1 : Option Addr} {n1 c1 : Nat} {z1 : Int} {b2 : Nat} {g2 : Bool} {A2 : Option Addr} {n2 c2 : Nat} {z2 : Int} {b3 : Nat} {g3 : Bool} {A3 : Option Addr} {n3 c3 : Nat} {z3 : Int} {b4 : Nat} {g4 : Bool} {A4 : Option Addr} {n4 c4 : Nat} {z4 : Int} (q : HL w [⟨b0, g0, A0, n0, c0, z0⟩, ⟨b1, g1, A1, n1, c1, z1⟩, ⟨b2, g2, A2, n2, c2, z2⟩, ⟨b3, g3, A3, n3, c3, z3⟩, ⟨b4, g4, A4, n4, c4, z4⟩] M W) : W.cell? ⟨b0, 0, none⟩ = some (.bool g0) ∧ W.cell? ⟨b0, 1, none⟩ = some (.slice A0 n0 c0) ∧ W.cell? ⟨b1, 0, none⟩ = some (.bool g1) ∧ W.cell? ⟨b1, 1, none⟩ = some (.slice A1 n1 c1) ∧ W.cell? ⟨b2, 0, none⟩ = some (.bool g2) ∧ W.cell? ⟨b2, 1, none⟩ = some (.slice A2 n2 c2) ∧ W.cell? ⟨b3, 0, none⟩ = some (.bool g3) ∧ W.cell? ⟨b3, 1, none⟩ = some (.slice A3 n3 c3) ∧ W.cell? ⟨b4, 0, none⟩ = some (.bool g4) ∧ W.cell? ⟨b4, 1, none⟩ = some (.slice A4 n4 c4) ∧ HL w [⟨b0, g0, A0, n0, c0, z0⟩, ⟨b1, g1, A1, n1, c1, z1⟩, ⟨b2, g2, A2, n2, c2, z2⟩, ⟨b3, g3, A3, n3, c3, z3⟩, ⟨b4, g4, A4, n4, c4, z4⟩] M W :=
  ⟨(q.1 _ (.head _)).box.c0, (q.1 _ (.head _)).box.c1, (q.1 _ (.tail _ (.head _))).box.c0, (q.1 _ (.tail _ (.head _))).box.c1, (q.1 _ (.tail _ (.tail _ (.head _)))).box.c0, (q.1 _ (.tail _ (.tail _ (.head _)))).box.c1, (q.1 _ (.tail _ (.tail _ (.tail _ (.head _))))).box.c0, (q.1 _ (.tail _ (.tail _ (.tail _ (.head _))))).box.c1, (q.1 _ (.tail _ (.tail _ (.tail _ (.tail _ (.head _)))))).box.c0, (q.1 _ (.tail _ (.tail _ (.tail _ (.tail _ (.head _)))))).box.c1, q⟩
theorem keepZ5 {w W w1 : World} {M : List Loc} {b0 : Nat} {g0 : Bool} {A0 : Option Addr} {n0 c0 : Nat} {z0 : Int} {b1 : Nat} {g1 : Bool} {A1 : Option Addr} {n1 c1 : Nat} {z1 : Int} {b2 : Nat} {g2 : Bool} {A2 : Option Addr} {n2 c2 : Nat} {z2 : Int} {b3 : Nat} {g3 : Bool} {A3 : Option Addr} {n3 c3 : Nat} {z3 : Int} {b4 : Nat} {g4 : Bool} {A4 : Option Addr} {n4 c4 : Nat} {z4 : Int} (hk : Below W.heap.size W w1) (h : W.cell? ⟨b0, 0, none⟩ = some (.bool g0) ∧ W.cell? ⟨b0, 1, none⟩ = some (.slice A0 n0 c0) ∧ W.cell? ⟨b1, 0, none⟩ = some (.bool g1) ∧ W.cell? ⟨b1, 1, none⟩ = some (.slice A1 n1 c1) ∧ W.cell? ⟨b2, 0, none⟩ = some (.bool g2) ∧ W.cell? ⟨b2, 1, none⟩ = some (.slice A2 n2 c2) ∧ W.cell? ⟨b3, 0, none⟩ = some (.bool g3) ∧ W.cell? ⟨b3, 1, none⟩ = some (.slice A3 n3 c3) ∧ W.cell? ⟨b4, 0, none⟩ = some (.bool g4) ∧ W.cell? ⟨b4, 1, none⟩ = some (.slice A4 n4 c4) ∧ HL w [⟨b0, g0, A0, n0, c0, z0⟩, ⟨b1, g1, A1, n1, c1, z1⟩, ⟨b2, g2, A2, n2, c2, z2⟩, ⟨b3, g3, A3, n3, c3, z3⟩, ⟨b4, g4, A4, n4, c4, z4⟩] M W) : w1.cell? ⟨b0, 0, none⟩ = some (.bool g0) ∧ w1.cell? ⟨b0, 1, none⟩ = some (.slice A0 n0 c0) ∧ w1.cell? ⟨b1, 0, none⟩ = some (.bool g1) ∧ w1.cell? ⟨b1, 1, none⟩ = some (.slice A1 n1 c1) ∧ w1.cell? ⟨b2, 0, none⟩ = some (.bool g2) ∧ w1.cell? ⟨b2, 1, none⟩ = some (.slice A2 n2 c2) ∧ w1.cell? ⟨b3, 0, none⟩ = some (.bool g3) ∧ w1.cell? ⟨b3, 1, none⟩ = some (.slice A3 n3 c3) ∧ w1.cell? ⟨b4, 0, none⟩ = some (.bool g4) ∧ w1.cell? ⟨b4, 1, none⟩ = some (.slice A4 n4 c4) ∧ HL w [⟨b0, g0, A0, n0, c0, z0⟩, ⟨b1, g1, A1, n1, c1, z1⟩, ⟨b2, g2, A2, n2, c2, z2⟩, ⟨b3, g3, A3, n3, c3, z3⟩, ⟨b4, g4, A4, n4, c4, z4⟩] M w1 := cells5 (h.2.2.2.2.2.2.2.2.2.2.below hk)
theorem start5 {w W : World} {M : List Loc} {b0 : Nat} {g0 : Bool} {A0 : Option Addr} {n0 c0 : Nat} {z0 : Int} {b1 : Nat} {g1 : Bool} {A1 : Option Addr} {n1 c1 : Nat} {z1 : Int} {b2 : Nat} {g2 : Bool} {A2 : Option Addr} {n2 c2 : Nat} {z2 : Int} {b3 : Nat} {g3 : Bool} {A3 : Option Addr} {n3 c3 : Nat} {z3 : Int} {b4 : Nat} {g4 : Bool} {A4 : Option Addr} {n4 c4 : Nat} {z4 : Int} (h0 : BoxZ W b0 g0 A0 n0 c0 z0) (h1 : BoxZ W b1 g1 A1 n1 c1 z1) (h2 : BoxZ W b2 g2 A2 n2 c2 z2) (h3 : BoxZ W b3 g3 A3 n3 c3 z3) (h4 : BoxZ W b4 g4 A4 n4 c4 z4) (bl : Below w.heap.size w W) (hM : ∀ x ∈ M, WNum W (.agg #[.bool x.g, .slice x.A x.n x.c]) x.z) : W.drew.cell? ⟨b0, 0, none⟩ = some (.bool g0) ∧ W.drew.cell? ⟨b0, 1, none⟩ = some (.slice A0 n0 c0) ∧ W.drew.cell? ⟨b1, 0, none⟩ = some (.bool g1) ∧ W.drew.cell? ⟨b1, 1, none⟩ = some (.slice A1 n1 c1) ∧ W.drew.cell? ⟨b2, 0, none⟩ = some (.bool g2) ∧ W.drew.cell? ⟨b2, 1, none⟩ = some (.slice A2 n2 c2) ∧ W.drew.cell? ⟨b3, 0, none⟩ = some (.bool g3) ∧ W.drew.cell? ⟨b3, 1, none⟩ = some (.slice A3 n3 c3) ∧ W.drew.cell? ⟨b4, 0, none⟩ = some (.bool g4) ∧ W.drew.cell? ⟨b4, 1, none⟩ = some (.slice A4 n4 c4) ∧ HL w [⟨b0, g0, A0, n0, c0, z0⟩, ⟨b1, g1, A1, n1, c1, z1⟩, ⟨b2, g2, A2, n2, c2, z2⟩, ⟨b3, g3, A3, n3, c3, z3⟩, ⟨b4, g4, A4, n4, c4, z4⟩] M W.drew :=
  cells5 (HL.drew ⟨cons_of (P := fun x : Loc => BoxZ W x.b x.g x.A x.n x.c x.z) h0 (cons_of (P := fun x : Loc => BoxZ W x.b x.g x.A x.n x.c x.z) h1 (cons_of (P := fun x : Loc => BoxZ W x.b x.g x.A x.n x.c x.z) h2 (cons_of (P := fun x : Loc => BoxZ W x.b x.g x.A x.n x.c x.z) h3 (cons_of (P := fun x : Loc => BoxZ W x.b x.g x.A x.n x.c x.z) h4 (fun _ h => absurd h (by simp)))))), hM, bl⟩)
theorem own5 {W : World} {b0 : Nat} {g0 : Bool} {A0 : Option Addr} {n0 c0 : Nat} {z0 : Int} {b1 : Nat} {g1 : Bool} {A1 : Option Addr} {n1 c1 : Nat} {z1 : Int} {b2 : Nat} {g2 : Bool} {A2 : Option Addr} {n2 c2 : Nat} {z2 : Int} {b3 : Nat} {g3 : Bool} {A3 : Option Addr} {n3 c3 : Nat} {z3 : Int} {b4 : Nat} {g4 : Bool} {A4 : Option Addr} {n4 c4 : Nat} {z4 : Int} (h0 : WNum W (.agg #[.bool g0, .slice A0 n0 c0]) z0) (h1 : WNum W (.agg #[.bool g1, .slice A1 n1 c1]) z1) (h2 : WNum W (.agg #[.bool g2, .slice A2 n2 c2]) z2) (h3 : WNum W (.agg #[.bool g3, .slice A3 n3 c3]) z3) (h4 : WNum W (.agg #[.bool g4, .slice A4 n4 c4]) z4) : ∀ x ∈ [(⟨b0, g0, A0, n0, c0, z0⟩ : Loc), (⟨b1, g1, A1, n1, c1, z1⟩ : Loc), (⟨b2, g2, A2, n2, c2, z2⟩ : Loc), (⟨b3, g3, A3, n3, c3, z3⟩ : Loc), (⟨b4, g4, A4, n4, c4, z4⟩ : Loc)], WNum W (.agg #[.bool x.g, .slice x.A x.n x.c]) x.z :=
  cons_of (P := fun x : Loc => WNum W (.agg #[.bool x.g, .slice x.A x.n x.c]) x.z) h0 (cons_of (P := fun x : Loc => WNum W (.agg #[.bool x.g, .slice x.A x.n x.c]) x.z) h1 (cons_of (P := fun x : Loc => WNum W (.agg #[.bool x.g, .slice x.A x.n x.c]) x.z) h2 (cons_of (P := fun x : Loc => WNum W (.agg #[.bool x.g, .slice x.A x.n x.c]) x.z) h3 (cons_of (P := fun x : Loc => WNum W (.agg #[.bool x.g, .slice x.A x.n x.c]) x.z) h4 (fun _ h => absurd h (by simp))))))

theorem cells6 {w W : World} {M : List Loc} {b0 : Nat} {g0 : Bool} {A0 : Option Addr} {n0 c0 : Nat} {z0 : Int} {b1 : Nat} {g1 : Bool} {A1 : Option Addr} {n1 c1 : Nat} {z1 : Int} {b2 : Nat} {g2 : Bool} {A2 : Option Addr} {n2 c2 : Nat} {z2 : Int} {b3 : Nat} {g3 : Bool} {A3 : Option Addr} {n3 c3 : Nat} {z3 : Int} {b4 : Nat} {g4 : Bool} {A4 : Option Addr} {n4 c4 : Nat} {z4 : Int} {b5 : Nat} {g5 : Bool} {A5 : Option Addr} {n5 c5 : Nat} {z5 : Int} (q : HL w [⟨b0, g0, A0, n0, c0, z0⟩, ⟨b1, g1, A1, n1, c1, z1⟩, ⟨b2, g2, A2, n2, c2, z2⟩, ⟨b3, g3, A3, n3, c3, z3⟩, ⟨b4, g4, A4, n4, c4, z4⟩, ⟨b5, g5, A5, n5, c5, z5⟩] M W) : W.cell? ⟨b0, 0, none⟩ = some (.bool g0) ∧ W.cell? ⟨b0, 1, none⟩ = some (.slice A0 n0 c0) ∧ W.cell? ⟨b1, 0, none⟩ = some (.bool g1) ∧ W.cell? ⟨b1, 1, none⟩ = some (.slice A1 n1 c1) ∧ W.cell? ⟨b2, 0, none⟩ = some (.bool g2) ∧ W.cell? ⟨b2, 1, none⟩ = some (.slice A2 n2 c2) ∧ W.cell? ⟨b3, 0, none⟩ = some (.bool g3) ∧ W.cell? ⟨b3, 1, none⟩ = some (.slice A3 n3 c3) ∧ W.cell? ⟨b4, 0, none⟩ = some (.bool g4) ∧ W.cell? ⟨b4, 1, none⟩ = some (.slice A4 n4 c4) ∧ W.cell? ⟨b5, 0, none⟩ = some (.bool g5) ∧ W.cell? ⟨b5, 1, none⟩ = some (.slice A5 n5 c5) ∧ HL w [⟨b0, g0, A0, n0, c0, z0⟩, ⟨b1, g1, A1, n1, c1, z1⟩, ⟨b2, g2, A2, n2, c2, z2⟩, ⟨b3, g3, A3, n3, c3, z3⟩, ⟨b4, g4, A4, n4, c4, z4⟩, ⟨b5, g5, A5, n5, c5, z5⟩] M W :=
  ⟨(q.1 _ (.head _)).box.c0, (q.1 _ (.head _)).box.c1, (q.1 _ (.tail _ (.head _))).box.c0, (q.1 _ (.tail _ (.head _))).box.c1, (q.1 _ (.tail _ (.tail _ (.head _)))).box.c0, (q.1 _ (.tail _ (.tail _ (.head _)))).box.c1, (q.1 _ (.tail _ (.tail _ (.tail _ (.head _))))).box.c0, (q.1 _ (.tail _ (.tail _ (.tail _ (.head _))))).box.c1, (q.1 _ (.tail _ (.tail _ (.tail _ (.tail _ (.head _)))))).box.c0, (q.1 _ (.tail _ (.tail _ (.tail _ (.tail _ (.head _)))))).box.c1, (q.1 _ (.tail _ (.tail _ (.tail _ (.tail _ (.tail _ (.head _))))))).box.c0, (q.1 _ (.tail _ (.tail _ (.tail _ (.tail _ (.tail _ (.head _))))))).box.c1, q⟩
theorem keepZ6 {w W w1 : World} {M : List Loc} {b0 : Nat} {g0 : Bool} {A0 : Option Addr} {n0 c0 : Nat} {z0 : Int} {b1 : Nat} {g1 : Bool} {A1 : Option Addr} {n1 c1 : Nat} {z1 : Int} {b2 : Nat} {g2 : Bool} {A2 : Option Addr} {n2 c2 : Nat} {z2 : Int} {b3 : Nat} {g3 : Bool} {A3 : Option Addr} {n3 c3 : Nat} {z3 : Int} {b4 : Nat} {g4 : Bool} {A4 : Option Addr} {n4 c4 : Nat} {z4 : Int} {b5 : Nat} {g5 : Bool} {A5 : Option Addr} {n5 c5 : Nat} {z5 : Int} (hk : Below W.heap.size W w1) (h : W.cell? ⟨b0, 0, none⟩ = some (.bool g0) ∧ W.cell? ⟨b0, 1, none⟩ = some (.slice A0 n0 c0) ∧ W.cell? ⟨b1, 0, none⟩ = some (.bool g1) ∧ W.cell? ⟨b1, 1, none⟩ = some (.slice A1 n1 c1) ∧ W.cell? ⟨b2, 0, none⟩ = some (.bool g2) ∧ W.cell? ⟨b2, 1, none⟩ = some (.slice A2 n2 c2) ∧ W.cell? ⟨b3, 0, none⟩ = some (.bool g3) ∧ W.cell? ⟨b3, 1, none⟩ = some (.slice A3 n3 c3) ∧ W.cell? ⟨b4, 0, none⟩ = some (.bool g4) ∧ W.cell? ⟨b4, 1, none⟩ = some (.slice A4 n4 c4) ∧ W.cell? ⟨b5, 0, none⟩ = some (.bool g5) ∧ W.cell? ⟨b5, 1, none⟩ = some (.slice A5 n5 c5) ∧ HL w [⟨b0, g0, A0, n0, c0, z0⟩, ⟨b1, g1, A1, n1, c1, z1⟩, ⟨b2, g2, A2, n2, c2, z2⟩, ⟨b3, g3, A3, n3, c3, z3⟩, ⟨b4, g4, A4, n4, c4, z4⟩, ⟨b5, g5, A5, n5, c5, z5⟩] M W) : w1.cell? ⟨b0, 0, none⟩ = some (.bool g0) ∧ w1.cell? ⟨b0, 1, none⟩ = some (.slice A0 n0 c0) ∧ w1.cell? ⟨b1, 0, none⟩ = some (.bool g1) ∧ w1.cell? ⟨b1, 1, none⟩ = some (.slice A1 n1 c1) ∧ w1.cell? ⟨b2, 0, none⟩ = some (.bool g2) ∧ w1.cell? ⟨b2, 1, none⟩ = some (.slice A2 n2 c2) ∧ w1.cell? ⟨b3, 0, none⟩ = some (.bool g3) ∧ w1.cell? ⟨b3, 1, none⟩ = some (.slice A3 n3 c3) ∧ w1.cell? ⟨b4, 0, none⟩ = some (.bool g4) ∧ w1.cell? ⟨b4, 1, none⟩ = some (.slice A4 n4 c4) ∧ w1.cell? ⟨b5, 0, none⟩ = some (.bool g5) ∧ w1.cell? ⟨b5, 1, none⟩ = some (.slice A5 n5 c5) ∧ HL w [⟨b0, g0, A0, n0, c0, z0⟩, ⟨b1, g1, A1, n1, c1, z1⟩, ⟨b2, g2, A2, n2, c2, z2⟩, ⟨b3, g3, A3, n3, c3, z3⟩, ⟨b4, g4, A4, n4, c4, z4⟩, ⟨b5, g5, A5, n5, c5, z5⟩] M w1 := cells6 (h.2.2.2.2.2.2.2.2.2.2.2.2.below hk)
theorem start6 {w W : World} {M : List Loc} {b0 : Nat} {g0 : Bool} {A0 : Option Addr} {n0 c0 : Nat} {z0 : Int} {b1 : Nat} {g1 : Bool} {A1 : Option Addr} {n1 c1 : Nat} {z1 : Int} {b2 : Nat} {g2 : Bool} {A2 : Option Addr} {n2 c2 : Nat} {z2 : Int} {b3 : Nat} {g3 : Bool} {A3 : Option Addr} {n3 c3 : Nat} {z3 : Int} {b4 : Nat} {g4 : Bool} {A4 : Option Addr} {n4 c4 : Nat} {z4 : Int} {b5 : Nat} {g5 : Bool} {A5 : Option Addr} {n5 c5 : Nat} {z5 : Int} (h0 : BoxZ W b0 g0 A0 n0 c0 z0) (h1 : BoxZ W b1 g1 A1 n1 c1 z1) (h2 : BoxZ W b2 g2 A2 n2 c2 z2) (h3 : BoxZ W b3 g3 A3 n3 c3 z3) (h4 : BoxZ W b4 g4 A4 n4 c4 z4) (h5 : BoxZ W b5 g5 A5 n5 c5 z5) (bl : Below w.heap.size w W) (hM : ∀ x ∈ M, WNum W (.agg #[.bool x.g, .slice x.A x.n x.c]) x.z) : W.drew.cell? ⟨b0, 0, none⟩ = some (.bool g0) ∧ W.drew.cell? ⟨b0, 1, none⟩ = some (.slice A0 n0 c0) ∧ W.drew.cell? ⟨b1, 0, none⟩ = some (.bool g1) ∧ W.drew.cell? ⟨b1, 1, none⟩ = some (.slice A1 n1 c1) ∧ W.drew.cell? ⟨b2, 0, none⟩ = some (.bool g2) ∧ W.drew.cell? ⟨b2, 1, none⟩ = some (.slice A2 n2 c2) ∧ W.drew.cell? ⟨b3, 0, none⟩ = some (.bool g3) ∧ W.drew.cell? ⟨b3, 1, none⟩ = some (.slice A3 n3 c3) ∧ W.drew.cell? ⟨b4, 0, none⟩ = some (.bool g4) ∧ W.drew.cell? ⟨b4, 1, none⟩ = some (.slice A4 n4 c4) ∧ W.drew.cell? ⟨b5, 0, none⟩ = some (.bool g5) ∧ W.drew.cell? ⟨b5, 1, none⟩ = some (.slice A5 n5 c5) ∧ HL w [⟨b0, g0, A0, n0, c0, z0⟩, ⟨b1, g1, A1, n1, c1, z1⟩, ⟨b2, g2, A2, n2, c2, z2⟩, ⟨b3, g3, A3, n3, c3, z3⟩, ⟨b4, g4, A4, n4, c4, z4⟩, ⟨b5, g5, A5, n5, c5, z5⟩] M W.drew :=
  cells6 (HL.drew ⟨cons_of (P := fun x : Loc => BoxZ W x.b x.g x.A x.n x.c x.z) h0 (cons_of (P := fun x : Loc => BoxZ W x.b x.g x.A x.n x.c x.z) h1 (cons_of (P := fun x : Loc => BoxZ W x.b x.g x.A x.n x.c x.z) h2 (cons_of (P := fun x : Loc => BoxZ W x.b x.g x.A x.n x.c x.z) h3 (cons_of (P := fun x : Loc => BoxZ W x.b x.g x.A x.n x.c x.z) h4 (cons_of (P := fun x : Loc => BoxZ W x.b x.g x.A x.n x.c x.z) h5 (fun _ h => absurd h (by simp))))))), hM, bl⟩)
theorem own6 {W : World} {b0 : Nat} {g0 : Bool} {A0 : Option Addr} {n0 c0 : Nat} {z0 : Int} {b1 : Nat} {g1 : Bool} {A1 : Option Addr} {n1 c1 : Nat} {z1 : Int} {b2 : Nat} {g2 : Bool} {A2 : Option Addr} {n2 c2 : Nat} {z2 : Int} {b3 : Nat} {g3 : Bool} {A3 : Option Addr} {n3 c3 : Nat} {z3 : Int} {b4 : Nat} {g4 : Bool} {A4 : Option Addr} {n4 c4 : Nat} {z4 : Int} {b5 : Nat} {g5 : Bool} {A5 : Option Addr} {n5 c5 : Nat} {z5 : Int} (h0 : WNum W (.agg #[.bool g0, .slice A0 n0 c0]) z0) (h1 : WNum W (.agg #[.bool g1, .slice A1 n1 c1]) z1) (h2 : WNum W (.agg #[.bool g2, .slice A2 n2 c2]) z2) (h3 : WNum W (.agg #[.bool g3, .slice A3 n3 c3]) z3) (h4 : WNum W (.agg #[.bool g4, .slice A4 n4 c4]) z4) (h5 : WNum W (.agg #[.bool g5, .slice A5 n5 c5]) z5) : ∀ x ∈ [(⟨b0, g0, A0, n0, c0, z0⟩ : Loc), (⟨b1, g1, A1, n1, c1, z1⟩ : Loc), (⟨b2, g2, A2, n2, c2, z2⟩ : Loc), (⟨b3, g3, A3, n3, c3, z3⟩ : Loc), (⟨b4, g4, A4, n4, c4, z4⟩ : Loc), (⟨b5, g5, A5, n5, c5, z5⟩ : Loc)], WNum W (.agg #[.bool x.g, .slice x.A x.n x.c]) x.z :=
  cons_of (P := fun x : Loc => WNum W (.agg #[.bool x.g, .slice x.A x.n x.c]) x.z) h0 (cons_of (P := fun x : Loc => WNum W (.agg #[.bool x.g, .slice x.A x.n x.c]) x.z) h1 (cons_of (P := fun x : Loc => WNum W (.agg #[.bool x.g, .slice x.A x.n x.c]) x.z) h2 (cons_of (P := fun x : Loc => WNum W (.agg #[.bool x.g, .slice x.A x.n x.c]) x.z) h3 (cons_of (P := fun x : Loc => WNum W (.agg #[.bool x.g, .slice x.A x.n x.c]) x.z) h4 (cons_of (P := fun x : Loc => WNum W (.agg #[.bool x.g, .slice x.A x.n x.c]) x.z) h5 (fun _ h => absurd h (by simp)))))))

theorem cells7 {w W : World} {M : List Loc} {b0 : Nat} {g0 : Bool} {A0 : Option Addr} {n0 c0 : Nat} {z0 : Int} {b1 : Nat} {g1 : Bool} {A1 : Option Addr} {n1 c1 : Nat} {z1 : Int} {b2 : Nat} {g2 : Bool} {A2 : Option Addr} {n2 c2 : Nat} {z2 : Int} {b3 : Nat} {g3 : Bool} {A3 : Option Addr} {n3 c3 : Nat} {z3 : Int} {b4 : Nat} {g4 : Bool} {A4 : Option Addr} {n4 c4 : Nat} {z4 : Int} {b5 : Nat} {g5 : Bool} {A5 : Option Addr} {n5 c5 : Nat} {z5 : Int} {b6 : Nat} {g6 : Bool} {A6 : Option Addr} {n6 c6 : Nat} {z6 : Int} (q : HL w [⟨b0, g0, A0, n0, c0, z0⟩, ⟨b1, g1, A1, n1, c1, z1⟩, ⟨b2, g2, A2, n2, c2, z2⟩, ⟨b3, g3, A3, n3, c3, z3⟩, ⟨b4, g4, A4, n4, c4, z4⟩, ⟨b5, g5, A5, n5, c5, z5⟩, ⟨b6, g6, A6, n6, c6, z6⟩] M W) : W.cell? ⟨b0, 0, none⟩ = some (.bool g0) ∧ W.cell? ⟨b0, 1, none⟩ = some (.slice A0 n0 c0) ∧ W.cell? ⟨b1, 0, none⟩ = some (.bool g1) ∧ W.cell? ⟨b1, 1, none⟩ = some (.slice A1 n1 c1) ∧ W.cell? ⟨b2, 0, none⟩ = some (.bool g2) ∧ W.cell? ⟨b2, 1, none⟩ = some (.slice A2 n2 c2) ∧ W.cell? ⟨b3, 0, none⟩ = some (.bool g3) ∧ W.cell? ⟨b3, 1, none⟩ = some (.slice A3 n3 c3) ∧ W.cell? ⟨b4, 0, none⟩ = some (.bool g4) ∧ W.cell? ⟨b4, 1, none⟩ = some (.slice A4 n4 c4) ∧ W.cell? ⟨b5, 0, none⟩ = some (.bool g5) ∧ W.cell? ⟨b5, 1, none⟩ = some (.slice A5 n5 c5) ∧ W.cell? ⟨b6, 0, none⟩ = some (.bool g6) ∧ W.cell? ⟨b6, 1, none⟩ = some (.slice A6 n6 c6) ∧ HL w [⟨b0, g0, A0, n0, c0, z0⟩, ⟨b1, g1, A1, n1, c1, z1⟩, ⟨b2, g2, A2, n2, c2, z2⟩, ⟨b3, g3, A3, n3, c3, z3⟩, ⟨b4, g4, A4, n4, c4, z4⟩, ⟨b5, g5, A5, n5, c5, z5⟩, ⟨b6, g6, A6, n6, c6, z6⟩] M W :=
  ⟨(q.1 _ (.head _)).box.c0, (q.1 _ (.head _)).box.c1, (q.1 _ (.tail _ (.head _))).box.c0, (q.1 _ (.tail _ (.head _))).box.c1, (q.1 _ (.tail _ (.tail _ (.head _)))).box.c0, (q.1 _ (.tail _ (.tail _ (.head _)))).box.c1, (q.1 _ (.tail _ (.tail _ (.tail _ (.head _))))).box.c0, (q.1 _ (.tail _ (.tail _ (.tail _ (.head _))))).box.c1, (q.1 _ (.tail _ (.tail _ (.tail _ (.tail _ (.head _)))))).box.c0, (q.1 _ (.tail _ (.tail _ (.tail _ (.tail _ (.head _)))))).box.c1, (q.1 _ (.tail _ (.tail _ (.tail _ (.tail _ (.tail _ (.head _))))))).box.c0, (q.1 _ (.tail _ (.tail _ (.tail _ (.tail _ (.tail _ (.head _))))))).box.c1, (q.1 _ (.tail _ (.tail _ (.tail _ (.tail _ (.tail _ (.tail _ (.head _)))))))).box.c0, (q.1 _ (.tail _ (.tail _ (.tail _ (.tail _ (.tail _ (.tail _ (.head _)))))))).box.c1, q⟩
theorem keepZ7 {w W w1 : World} {M : List Loc} {b0 : Nat} {g0 : Bool} {A0 : Option Addr} {n0 c0 : Nat} {z0 : Int} {b1 : Nat} {g1 : Bool} {A1 : Option Addr} {n1 c1 : Nat} {z1 : Int} {b2 : Nat} {g2 : Bool} {A2 : Option Addr} {n2 c2 : Nat} {z2 : Int} {b3 : Nat} {g3 : Bool} {A3 : Option Addr} {n3 c3 : Nat} {z3 : Int} {b4 : Nat} {g4 : Bool} {A4 : Option Addr} {n4 c4 : Nat} {z4 : Int} {b5 : Nat} {g5 : Bool} {A5 : Option Addr} {n5 c5 : Nat} {z5 : Int} {b6 : Nat} {g6 : Bool} {A6 : Option Addr} {n6 c6 : Nat} {z6 : Int} (hk : Below W.heap.size W w1) (h : W.cell? ⟨b0, 0, none⟩ = some (.bool g0) ∧ W.cell? ⟨b0, 1, none⟩ = some (.slice A0 n0 c0) ∧ W.cell? ⟨b1, 0, none⟩ = some (.bool g1) ∧ W.cell? ⟨b1, 1, none⟩ = some (.slice A1 n1 c1) ∧ W.cell? ⟨b2, 0, none⟩ = some (.bool g2) ∧ W.cell? ⟨b2, 1, none⟩ = some (.slice A2 n2 c2) ∧ W.cell? ⟨b3, 0, none⟩ = some (.bool g3) ∧ W.cell? ⟨b3, 1, none⟩ = some (.slice A3 n3 c3) ∧ W.cell? ⟨b4, 0, none⟩ = some (.bool g4) ∧ W.cell? ⟨b4, 1, none⟩ = some (.slice A4 n4 c4) ∧ W.cell? ⟨b5, 0, none⟩ = some (.bool g5) ∧ W.cell? ⟨b5, 1, none⟩ = some (.slice A5 n5 c5) ∧ W.cell? ⟨b6, 0, none⟩ = some (.bool g6) ∧ W.cell? ⟨b6, 1, none⟩ = some (.slice A6 n6 c6) ∧ HL w [⟨b0, g0, A0, n0, c0, z0⟩, ⟨b1, g1, A1, n1, c1, z1⟩, ⟨b2, g2, A2, n2, c2, z2⟩, ⟨b3, g3, A3, n3, c3, z3⟩, ⟨b4, g4, A4, n4, c4, z4⟩, ⟨b5, g5, A5, n5, c5, z5⟩, ⟨b6, g6, A6, n6, c6, z6⟩] M W) : w1.cell? ⟨b0, 0, none⟩ = some (.bool g0) ∧ w1.cell? ⟨b0, 1, none⟩ = some (.slice A0 n0 c0) ∧ w1.cell? ⟨b1, 0, none⟩ = some (.bool g1) ∧ w1.cell? ⟨b1, 1, none⟩ = some (.slice A1 n1 c1) ∧ w1.cell? ⟨b2, 0, none⟩ = some (.bool g2) ∧ w1.cell? ⟨b2, 1, none⟩ = some (.slice A2 n2 c2) ∧ w1.cell? ⟨b3, 0, none⟩ = some (.bool g3) ∧ w1.cell? ⟨b3, 1, none⟩ = some (.slice A3 n3 c3) ∧ w1.cell? ⟨b4, 0, none⟩ = some (.bool g4) ∧ w1.cell? ⟨b4, 1, none⟩ = some (.slice A4 n4 c4) ∧ w1.cell? ⟨b5, 0, none⟩ = some (.bool g5) ∧ w1.cell? ⟨b5, 1, none⟩ = some (.slice A5 n5 c5) ∧ w1.cell? ⟨b6, 0, none⟩ = some (.bool g6) ∧ w1.cell? ⟨b6, 1, none⟩ = some (.slice A6 n6 c6) ∧ HL w [⟨b0, g0, A0, n0, c0, z0⟩, ⟨b1, g1, A1, n1, c1, z1⟩, ⟨b2, g2, A2, n2, c2, z2⟩, ⟨b3, g3, A3, n3, c3, z3⟩, ⟨b4, g4, A4, n4, c4, z4⟩, ⟨b5, g5, A5, n5, c5, z5⟩, ⟨b6, g6, A6, n6, c6, z6⟩] M w1 := cells7 (h.2.2.2.2.2.2.2.2.2.2.2.2.2.2.below hk)
theorem start7 {w W : World} {M : List Loc} {b0 : Nat} {g0 : Bool} {A0 : Option Addr} {n0 c0 : Nat} {z0 : Int} {b1 : Nat} {g1 : Bool} {A1 : Option Addr} {n1 c1 : Nat} {z1 : Int} {b2 : Nat} {g2 : Bool} {A2 : Option Addr} {n2 c2 : Nat} {z2 : Int} {b3 : Nat} {g3 : Bool} {A3 : Option Addr} {n3 c3 : Nat} {z3 : Int} {b4 : Nat} {g4 : Bool} {A4 : Option Addr} {n4 c4 : Nat} {z4 : Int} {b5 : Nat} {g5 : Bool} {A5 : Option Addr} {n5 c5 : Nat} {z5 : Int} {b6 : Nat} {g6 : Bool} {A6 : Option Addr} {n6 c6 : Nat} {z6 : Int} (h0 : BoxZ W b0 g0 A0 n0 c0 z0) (h1 : BoxZ W b1 g1 A1 n1 c1 z1) (h2 : BoxZ W b2 g2 A2 n2 c2 z2) (h3 : BoxZ W b3 g3 A3 n3 c3 z3) (h4 : BoxZ W b4 g4 A4 n4 c4 z4) (h5 : BoxZ W b5 g5 A5 n5 c5 z5) (h6 : BoxZ W b6 g6 A6 n6 c6 z6) (bl : Below w.heap.size w W) (hM : ∀ x ∈ M, WNum W (.agg #[.bool x.g, .slice x.A x.n x.c]) x.z) : W.drew.cell? ⟨b0, 0, none⟩ = some (.bool g0) ∧ W.drew.cell? ⟨b0, 1, none⟩ = some (.slice A0 n0 c0) ∧ W.drew.cell? ⟨b1, 0, none⟩ = some (.bool g1) ∧ W.drew.cell? ⟨b1, 1, none⟩ = some (.slice A1 n1 c1) ∧ W.drew.cell? ⟨b2, 0, none⟩ = some (.bool g2) ∧ W.drew.cell? ⟨b2, 1, none⟩ = some (.slice A2 n2 c2) ∧ W.drew.cell? ⟨b3, 0, none⟩ = some (.bool g3) ∧ W.drew.cell? ⟨b3, 1, none⟩ = some (.slice A3 n3 c3) ∧ W.drew.cell? ⟨b4, 0, none⟩ = some (.bool g4) ∧ W.drew.cell? ⟨b4, 1, none⟩ = some (.slice A4 n4 c4) ∧ W.drew.cell? ⟨b5, 0, none⟩ = some (.bool g5) ∧ W.drew.cell? ⟨b5, 1, none⟩ = some (.slice A5 n5 c5) ∧ W.drew.cell? ⟨b6, 0, none⟩ = some (.bool g6) ∧ W.drew.cell? ⟨b6, 1, none⟩ = some (.slice A6 n6 c6) ∧ HL w [⟨b0, g0, A0, n0, c0, z0⟩, ⟨b1, g1, A1, n1, c1, z1⟩, ⟨b2, g2, A2, n2, c2, z2⟩, ⟨b3, g3, A3, n3, c3, z3⟩, ⟨b4, g4, A4, n4, c4, z4⟩, ⟨b5, g5, A5, n5, c5, z5⟩, ⟨b6, g6, A6, n6, c6, z6⟩] M W.drew :=
  cells7 (HL.drew ⟨cons_of (P := fun x : Loc => BoxZ W x.b x.g x.A x.n x.c x.z) h0 (cons_of (P := fun x : Loc => BoxZ W x.b x.g x.A x.n x.c x.z) h1 (cons_of (P := fun x : Loc => BoxZ W x.b x.g x.A x.n x.c x.z) h2 (cons_of (P := fun x : Loc => BoxZ W x.b x.g x.A x.n x.c x.z) h3 (cons_of (P := fun x : Loc => BoxZ W x.b x.g x.A x.n x.c x.z) h4 (cons_of (P := fun x : Loc => BoxZ W x.b x.g x.A x.n x.c x.z) h5 (cons_of (P := fun x : Loc => BoxZ W x.b x.g x.A x.n x.c x.z) h6 (fun _ h => absurd h (by simp)))))))), hM, bl⟩)
theorem own7 {W : World} {b0 : Nat} {g0 : Bool} {A0 : Option Addr} {n0 c0 : Nat} {z0 : Int} {b1 : Nat} {g1 : Bool} {A1 : Option Addr} {n1 c1 : Nat} {z1 : Int} {b2 : Nat} {g2 : Bool} {A2 : Option Addr} {n2 c2 : Nat} {z2 : Int} {b3 : Nat} {g3 : Bool} {A3 : Option Addr} {n3 c3 : Nat} {z3 : Int} {b4 : Nat} {g4 : Bool} {A4 : Option Addr} {n4 c4 : Nat} {z4 : Int} {b5 : Nat} {g5 : Bool} {A5 : Option Addr} {n5 c5 : Nat} {z5 : Int} {b6 : Nat} {g6 : Bool} {A6 : Option Addr} {n6 c6 : Nat} {z6 : Int} (h0 : WNum W (.agg #[.bool g0, .slice A0 n0 c0]) z0) (h1 : WNum W (.agg #[.bool g1, .slice A1 n1 c1]) z1) (h2 : WNum W (.agg #[.bool g2, .slice A2 n2 c2]) z2) (h3 : WNum W (.agg #[.bool g3, .slice A3 n3 c3]) z3) (h4 : WNum W (.agg #[.bool g4, .slice A4 n4 c4]) z4) (h5 : WNum W (.agg #[.bool g5, .slice A5 n5 c5]) z5) (h6 : WNum W (.agg #[.bool g6, .slice A6 n6 c6]) z6) : ∀ x ∈ [(⟨b0, g0, A0, n0, c0, z0⟩ : Loc), (⟨b1, g1, A1, n1, c1, z1⟩ : Loc), (⟨b2, g2, A2, n2, c2, z2⟩ : Loc), (⟨b3, g3, A3, n3, c3, z3⟩ : Loc), (⟨b4, g4, A4, n4, c4, z4⟩ : Loc), (⟨b5, g5, A5, n5, c5, z5⟩ : Loc), (⟨b6, g6, A6, n6, c6, z6⟩ : Loc)], WNum W (.agg #[.bool x.g, .slice x.A x.n x.c]) x.z :=
  cons_of (P := fun x : Loc => WNum W (.agg #[.bool x.g, .slice x.A x.n x.c]) x.z) h0 (cons_of (P := fun x : Loc => WNum W (.agg #[.bool x.g, .slice x.A x.n x.c]) x.z) h1 (cons_of (P := fun x : Loc => WNum W (.agg #[.bool x.g, .slice x.A x.n x.c]) x.z) h2 (cons_of (P := fun x : Loc => WNum W (.agg #[.bool x.g, .slice x.A x.n x.c]) x.z) h3 (cons_of (P := fun x : Loc => WNum W (.agg #[.bool x.g, .slice x.A x.n x.c]) x.z) h4 (cons_of (P := fun x : Loc => WNum W (.agg #[.bool x.g, .slice x.A x.n x.c]) x.z) h5 (cons_of (P := fun x : Loc => WNum W (.agg #[.bool x.g, .slice x.A x.n x.c]) x.z) h6 (fun _ h => absurd h (by simp))))))))

theorem lt_addZ {x y : Int} {i j : Nat} (hx : x.natAbs < M.BB ^ i) (hy : y.natAbs < M.BB ^ j) : (x + y).natAbs < M.BB ^ (i + j + 1) := by
  have := lt_add hx hy
  omega
theorem lt_subZ {x y : Int} {i j : Nat} (hx : x.natAbs < M.BB ^ i) (hy : y.natAbs < M.BB ^ j) : (x - y).natAbs < M.BB ^ (i + j + 1) := by
  have := lt_add hx hy
  omega
theorem lt_mulZ {x y : Int} {i j : Nat} (hx : x.natAbs < M.BB ^ i) (hy : y.natAbs < M.BB ^ j) : (x * y).natAbs < M.BB ^ (i + j) := by
  rw [Int.natAbs_mul]
  exact lt_mul hx hy
theorem lt_negZ {x : Int} {i : Nat} (hx : x.natAbs < M.BB ^ i) : (-x).natAbs < M.BB ^ i := by rw [Int.natAbs_neg]; exact hx
theorem lt_moreZ {x : Nat} {i : Nat} (hx : x < M.BB ^ i) : x + 1 < M.BB ^ (i + 1) := by
  have h1 : M.BB ^ i * 2 ≤ M.BB ^ i * M.BB := Nat.mul_le_mul_left _ (by rw [M.BB_eq]; omega)
  rw [Nat.pow_succ]
  omega
theorem lt_divZ {z y : Int} {i : Nat} (hz : z.natAbs < M.BB ^ i) (hy : y ≠ 0) : (z / y).natAbs < M.BB ^ (i + 1) := Nat.lt_of_le_of_lt (Z.abs_div hy) (lt_moreZ hz)
theorem lt_flZ {z y : Int} {i : Nat} (hz : z.natAbs < M.BB ^ i) (hy : y ≠ 0) : (Z.fl z y).natAbs < M.BB ^ (i + 1) := Nat.lt_of_le_of_lt (Z.abs_lt_fl hy) (lt_moreZ hz)
theorem lt_modZ {z y : Int} {i : Nat} (hy : y.natAbs < M.BB ^ i) (h0 : y ≠ 0) : (z % y).natAbs < M.BB ^ i := Nat.lt_trans (Z.abs_mod h0) hy
/-- what came in -/
theorem win_of {w : World} {g : Bool} {A : Option Addr} {n c k : Nat} {l : List Nat} (h : Lims w A n l) (hn : n ≤ c) (hc : c ≤ maxLen) (hk : n ≤ k) (hk' : k ≤ 1000000) : WIn w g A n c (Z.sg g (M.val l)) ∧ (Z.sg g (M.val l)).natAbs < M.BB ^ k := by
  obtain ⟨i, b⟩ := in_of h hn hc hk hk'
  rw [Z.sg_abs]
  refine ⟨⟨?_, ?_⟩, b⟩
  · rw [Z.sg_abs]; exact i
  · rw [Z.sg_abs]
end Go.Proofs.YtkooconjkimgoaaDoor

/- a whole number that came in: a struct of a sign and a list of limbs. -/
namespace Go.Proofs.YtkooconjkimgoaaDoor
open Go.RowKit Go.ChangeShapes Go.WideShapes Go.Joins

theorem open_limbs {H : Type} {enc : TypeId × Value → H} {W : World} {fuel : Nat} {v : Value} {y : DataW H × List MemPlace} (h : DataW.trod enc Tryd.prog W 0 (fun _ => true) true fuel 37 [v] = some y) :
    ∃ A n c l, v = .slice A n c ∧ Lims W A n l ∧ n ≤ c ∧ c ≤ maxLen ∧ (A = none → n = 0 ∧ c = 0) := by
  rcases open_ints Tryd.underlying37 Tryd.underlying104 (by kernel_rfl) h with ⟨hcs, _⟩ | ⟨x, l, c, zs, hcs, _, hl, hm, hz, _, hcell, hwz⟩
  · injection hcs with hcs
    subst hcs
    exact ⟨none, 0, 0, [], rfl, Lims.nil_ _ _, by omega, by omega, fun _ => ⟨rfl, rfl⟩⟩
  · injection hcs with hcs
    subst hcs
    obtain ⟨k, hk, h1, h2⟩ := lims_of (zs := zs) (.inr ⟨_, rfl, hl, hm, by simpa using hz, hcell, hwz⟩)
    exact ⟨_, _, _, k, rfl, hk, h1, h2, fun e => by cases e⟩
set_option maxRecDepth 100000 in
theorem open_whole {H : Type} {enc : TypeId × Value → H} {W : World} {r : Reach} {b0 : Nat} {v : Value} {d : DataW H} {p : List MemPlace} (hv : Value.okWide Tryd.prog W r b0 39 v) (h : DataW.Trod enc Tryd.prog W 0 (fun _ => true) true 39 v d p) :
    ∃ g A n c l, v = .agg #[.bool g, .slice A n c] ∧ Lims W A n l ∧ n ≤ c ∧ c ≤ maxLen ∧ (A = none → n = 0 ∧ c = 0) := by
  obtain ⟨v0, v1, y0, y1, n, rfl, rfl, rfl, h0, h1⟩ := open_agg2 Tryd.underlying39 (by kernel_rfl) (by kernel_rfl) hv h
  obtain ⟨g, hg, _⟩ := DataW.trod_bool Tryd.underlying4 h0
  injection hg with hg
  subst hg
  obtain ⟨A, n', c, l, rfl, hl⟩ := open_limbs h1
  exact ⟨g, A, n', c, l, rfl, hl⟩
end Go.Proofs.YtkooconjkimgoaaDoor
