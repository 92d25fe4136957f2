/- S-expressions in memory. -/
import Derived.Test.YtpjdfogieiokkaaDoorP1
import Derived.Test.YtpjdfogieiokkaaDoorR1
import Derived.Deep.QuietTactic
import Derived.BigQuiet
import Derived.StillTailTactics
namespace Go.Proofs.YtpjdfogieiokkaaDoor
open Go.RowKit

/-- an s-expression as a value: its list lies at A -/
abbrev sval (x : Sx) (A : Option Addr) (c : Nat) : Value := .agg #[.bool x.list, .int .i64 x.k, .string x.T, .int .i64 x.ta, .int .i64 x.at_, .slice A x.L.length c]
abbrev scells (x : Sx) (A : Option Addr) (c : Nat) : List Value := [.bool x.list, .int .i64 x.k, .string x.T, .int .i64 x.ta, .int .i64 x.at_, .slice A x.L.length c]
/-- the six cells at a place are an s-expression's -/
structure SAt (w : World) (b off : Nat) (x : Sx) (A : Option Addr) (c : Nat) : Prop where
  lt : b < w.heap.size
  c0 : w.cell? ⟨b, off, none⟩ = some (.bool x.list)
  c1 : w.cell? ⟨b, off + 1, none⟩ = some (.int .i64 x.k)
  c2 : w.cell? ⟨b, off + 2, none⟩ = some (.string x.T)
  c3 : w.cell? ⟨b, off + 3, none⟩ = some (.int .i64 x.ta)
  c4 : w.cell? ⟨b, off + 4, none⟩ = some (.int .i64 x.at_)
  c5 : w.cell? ⟨b, off + 5, none⟩ = some (.slice A x.L.length c)
theorem SAt.kept {w w' : World} {b off : Nat} {x : Sx} {A : Option Addr} {c : Nat} (h : SAt w b off x A c) (hs : w.heap.size ≤ w'.heap.size) (hc : ∀ j, j < 6 → w'.cell? ⟨b, off + j, none⟩ = w.cell? ⟨b, off + j, none⟩) : SAt w' b off x A c :=
  ⟨Nat.lt_of_lt_of_le h.lt hs, (hc 0 (by decide)).trans h.c0, (hc 1 (by decide)).trans h.c1, (hc 2 (by decide)).trans h.c2, (hc 3 (by decide)).trans h.c3, (hc 4 (by decide)).trans h.c4, (hc 5 (by decide)).trans h.c5⟩
theorem SAt.below {w w' : World} {b off : Nat} {x : Sx} {A : Option Addr} {c : Nat} (h : SAt w b off x A c) (hb : Below w.heap.size w w') : SAt w' b off x A c :=
  h.kept hb.size fun _ _ => hb.cell h.lt
/-- the list that lies at A, element by element, at places of G -/
inductive TreeL (w : World) (G : Nat → Nat → Prop) : Option Addr → List Sx → Prop
  | nil (A : Option Addr) : TreeL w G A []
  | cons (b off : Nat) (x : Sx) (l : List Sx) (A : Option Addr) (c : Nat) : SAt w b off x A c → G b off → x.L.length ≤ c ∧ c ≤ maxLen → TreeL w G A x.L → TreeL w G (some ⟨b, off + 6, none⟩) l → TreeL w G (some ⟨b, off, none⟩) (x :: l)
theorem TreeL.imp {w w' : World} {G G' : Nat → Nat → Prop} {A : Option Addr} {l : List Sx} (h : TreeL w G A l) (hs : w.heap.size ≤ w'.heap.size) (hc : ∀ b off, b < w.heap.size → G b off → ∀ j, j < 6 → w'.cell? ⟨b, off + j, none⟩ = w.cell? ⟨b, off + j, none⟩) (hG : ∀ b off, b < w.heap.size → G b off → G' b off) : TreeL w' G' A l := by
  induction h with
  | nil A => exact .nil A
  | cons b off x l A c h1 h2 h3 _ _ i1 i2 => exact .cons b off x l A c (h1.kept hs (hc b off h1.lt h2)) (hG b off h1.lt h2) h3 i1 i2
theorem TreeL.kept {w w' : World} {G : Nat → Nat → Prop} {A : Option Addr} {l : List Sx} (h : TreeL w G A l) (hb : Below w.heap.size w w') : TreeL w' G A l :=
  h.imp hb.size (fun b off hlt _ j _ => hb.cell (p := ⟨b, off + j, none⟩) hlt) fun _ _ _ h => h
theorem TreeL.mono {w : World} {G G' : Nat → Nat → Prop} {A : Option Addr} {l : List Sx} (h : TreeL w G A l) (hG : ∀ b off, b < w.heap.size → G b off → G' b off) : TreeL w G' A l := h.imp (Nat.le_refl _) (fun _ _ _ _ _ _ => rfl) hG
theorem TreeL.get {w : World} {G : Nat → Nat → Prop} {A : Option Addr} {l : List Sx} (h : TreeL w G A l) : ∀ {i : Nat}, i < l.length → ∃ b off x A' c', A = some ⟨b, off, none⟩ ∧ l[i]? = some x ∧ SAt w b (off + i * 6) x A' c' ∧ G b (off + i * 6) ∧ (x.L.length ≤ c' ∧ c' ≤ maxLen) ∧ TreeL w G A' x.L := by
  induction h with
  | nil A => intro i hi; simp at hi
  | cons b off x l A c h1 h2 h3 h4 _ _ i2 =>
    intro i hi
    cases i with
    | zero => exact ⟨b, off, x, A, c, rfl, rfl, by simpa using h1, by simpa using h2, h3, h4⟩
    | succ i =>
      obtain ⟨b', off', y, A', c', e, hy, q1, q2, q3, q4⟩ := i2 (i := i) (by simpa using hi)
      injection e with e
      injection e with e1 e2 _
      subst e1
      subst e2
      exact ⟨b, off, y, A', c', rfl, by simpa using hy, by rw [show off + (i + 1) * 6 = off + 6 + i * 6 by omega]; exact q1, by rw [show off + (i + 1) * 6 = off + 6 + i * 6 by omega]; exact q2, q3, q4⟩
/-- a thing that reads as x -/
structure STree (w : World) (G : Nat → Nat → Prop) (x : Sx) (A : Option Addr) (c : Nat) : Prop where
  le : x.L.length ≤ c ∧ c ≤ maxLen
  tree : TreeL w G A x.L
theorem STree.kept {w w' : World} {G : Nat → Nat → Prop} {x : Sx} {A : Option Addr} {c : Nat} (h : STree w G x A c) (hb : Below w.heap.size w w') : STree w' G x A c := ⟨h.le, h.tree.kept hb⟩
theorem STree.get {w : World} {G : Nat → Nat → Prop} {x : Sx} {A : Option Addr} {c : Nat} (h : STree w G x A c) {i : Nat} (hi : i < x.L.length) :
    ∃ b off y A' c', A = some ⟨b, off, none⟩ ∧ x.L[i]? = some y ∧ x.L.drop i = y :: x.L.drop (i + 1) ∧ y ∈ x.L ∧ SAt w b (off + i * 6) y A' c' ∧ STree w G y A' c' := by
  obtain ⟨b, off, y, A', c', e, hy, q1, q2, q3, q4⟩ := h.tree.get hi
  refine ⟨b, off, y, A', c', e, hy, ?_, List.mem_of_getElem? hy, q1, q3, q4⟩
  obtain ⟨hi', rfl⟩ := List.getElem?_eq_some_iff.1 hy
  exact List.drop_eq_getElem_cons hi'
/-- the box of a parameter -/
abbrev sbox (x : Sx) (A : Option Addr) (c : Nat) : Obj := .cells #[.bool x.list, .int .i64 x.k, .string x.T, .int .i64 x.ta, .int .i64 x.at_, .slice A x.L.length c] 34
theorem sbox_at (w : World) (x : Sx) (A : Option Addr) (c : Nat) : SAt (w.alloc (sbox x A c)) w.heap.size 0 x A c := by
  have h := Lies.new w 34 #[.bool x.list, .int .i64 x.k, .string x.T, .int .i64 x.ta, .int .i64 x.at_, .slice A x.L.length c]
  exact ⟨h.lt, h.cell 0, h.cell 1, h.cell 2, h.cell 3, h.cell 4, h.cell 5⟩

set_option maxRecDepth 100000 in
set_option maxHeartbeats 3200000 in
theorem rdepth : ∀ (m : Nat) (x : Sx) (A : Option Addr) (c : Nat) (w : World), m ≤ 1000 → STree w (fun _ _ => True) x A c →
    Calls Tryd.prog 30 #[sval x A c, .int .i64 (m : Nat)] w fun e w' => e = .returned (.int .i64 (Sx.dep m x : Nat)) ∧ Below w.heap.size w w' := by
  intro m
  induction m with
  | zero =>
    intro x A c w hm h
    obtain ⟨xl, xk, xt, xta, xa, L⟩ := x
    rw [Sx.dep]
    clear h
    cases xl
    all_goals
      go_enter Tryd.func30, Tryd.ntmps30
      go_wp2
      go_ret
      exact ⟨rfl, (Below.refl _ w).alloc (Nat.le_refl _) _⟩
  | succ m ih =>
    intro x A c w hm h
    by_cases hx : x.list = true
    case neg =>
      obtain ⟨xl, xk, xt, xta, xa, L⟩ := x
      obtain rfl : xl = false := by simpa using hx
      rw [Sx.dep, if_neg (by exact hx)]
      clear h hx
      go_enter Tryd.func30, Tryd.ntmps30
      go_wp2
      go_ret
      exact ⟨rfl, (Below.refl _ w).alloc (Nat.le_refl _) _⟩
    case pos =>
      obtain ⟨X, HX⟩ : ∃ X : Nat, Hid (Sx.dep (m + 1) x = X) := ⟨_, rfl⟩
      rw [HX.out]
      have HD : Hid ((x.L.map (Sx.dep m)).foldl max 0 + 1 = X) := by show _ = _; rw [← HX.out, Sx.dep, if_pos hx]
      have hm0 : ((m : Int) + 1 == 0) = false := beq_eq_false_iff_ne.2 (by omega)
      obtain ⟨n, hn⟩ : ∃ n, x.L.length = n := ⟨_, rfl⟩
      have HN := Lib.hid hn
      have hmm : ((m + 1 : Nat) : Int) = (m : Int) + 1 := by omega
      rw [hmm]
      unfold sval
      have hl : n ≤ maxLen := hn ▸ Nat.le_trans h.le.1 h.le.2
      rw [hn]
      rw [hx]
      unfold maxLen at hl
      clear hn hmm
      go_enter Tryd.func30, Tryd.ntmps30
      go_wp2
      generalize hW0 : w.alloc (Obj.cells #[Value.bool true, Value.int IntKind.i64 x.k, Value.string x.T, Value.int IntKind.i64 x.ta, Value.int IntKind.i64 x.at_, Value.slice A n c] 34) = W0
      have HB0 : Hid (Below w.heap.size w W0 ∧ STree W0 (fun _ _ => True) x A c ∧ SAt W0 w.heap.size 0 x A c) := by
        have e : w.alloc (sbox x A c) = W0 := by rw [← hW0, sbox, HN.out, hx]
        rw [← e]
        exact ⟨(Below.refl _ w).alloc (Nat.le_refl _) _, h.kept ((Below.refl _ w).alloc (Nat.le_refl _) _), sbox_at w x A c⟩
      clear h hW0 HX
      go_loopw [5, 6] (fun av iv wr => ∃ i a : Nat, i ≤ n ∧ a ≤ m ∧ iv = .int .i64 (i : Nat) ∧ av = .int .i64 (a : Nat) ∧ Below W0.heap.size W0 wr ∧ Hid ((((x.L.drop i).map (Sx.dep m)).foldl max a) + 1 = X)) (fun _ iv _ => n - (intOf iv).toNat)
      case atStart => exact ⟨0, 0, Nat.zero_le _, Nat.zero_le _, rfl, rfl, Below.refl _ _, by show _ = _; rw [List.drop_zero]; exact HD.out⟩
      case round =>
        obtain ⟨i, a, hi, ha, rfl, rfl, hb, HI⟩ := hrel
        obtain ⟨hb1, ht1, hbx1⟩ := HB0.out
        have hbx2 := hbx1.below hb
        obtain ⟨z, z0, z1, z2, z3, z4, z5⟩ := hbx2
        rw [HN.out] at z5
        simp only [Nat.zero_add] at z0 z1 z2 z3 z4 z5
        have HB := Lib.hid (hb1.trans (hb.mono hb1.size))
        by_cases hlt : i < n
        · obtain ⟨b, off, y, A', c', rfl, hy, hdr, hym, hs, hty⟩ := (ht1.kept hb).get (i := i) (by rw [HN.out]; exact hlt)
          obtain ⟨y_, y0, y1, y2, y3, y4, y5⟩ := hs
          have hIH := Lib.hid fun W (hW : Below wr.heap.size wr W) => ih y A' c' W (by omega) (hty.kept hW)
          have hd := HI.out
          rw [hdr, List.map_cons, List.foldl_cons] at hd
          obtain ⟨d, hd'⟩ : ∃ d, Sx.dep m y = d := ⟨_, rfl⟩
          have hdm := Sx.dep_le m y
          rw [hd'] at hd hdm
          rw [hd'] at hIH
          have HD2 := Lib.hid hd
          have HBr := Lib.hid hb
          have hlt' : (i : Int) < (n : Int) := by omega
          have hi0 : (0 : Int) ≤ (i : Int) := by omega
          clear hd hd' HI ht1 hbx1 hb1 hty hdr hy hb hym
          go_wp2_with (go_at_call 30; refine (hIH.out _ (Below.refl _ _)).mono ?_; rintro e w2 ⟨rfl, b2⟩)
          · go_roundw
            case rel => exact ⟨i + 1, d, by omega, hdm, by go_num, rfl, HBr.out.trans (b2.mono HBr.out.size), by rw [show max a d = d by omega] at HD2; exact HD2⟩
            case measure => simp [intOf]; omega
          · go_roundw
            case rel => exact ⟨i + 1, a, by omega, ha, by go_num, rfl, HBr.out.trans (b2.mono HBr.out.size), by rw [show max a d = a by omega] at HD2; exact HD2⟩
            case measure => simp [intOf]; omega
        · obtain rfl : i = n := by omega
          have hX : a + 1 = X := by
            have := HI.out
            rw [List.drop_of_length_le (by rw [HN.out]; exact Nat.le_refl _)] at this
            exact this
          have hXi : (a : Int) + 1 = (X : Int) := by omega
          clear HI hX
          go_wp2
          go_ret
          exact ⟨rfl, HB.out⟩
end Go.Proofs.YtpjdfogieiokkaaDoor
