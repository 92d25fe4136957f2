/- Stage 8's awake; the law RunsPieces. -/
import Derived.Test.YtdpbglofijpfnaaU9
namespace Go.Proofs.Ytdpbglofijpfnaa
open Go.RowKit

abbrev awR : List (Int × Int) := [(97, 3), (98, 1)]
theorem may_small {R : List (Int × Int)} (h1 : ∀ x ∈ R, Lt.pt x.1 = true ∧ 1 ≤ x.2) (h2 : ∀ i x y, R[i]? = some x → R[i + 1]? = some y → x.1 ≠ y.1) (h3 : R.length ≤ 65536) (h4 : Lt.total R ≤ 1099511627776) : Tx.May R := ⟨⟨h1, h2⟩, h3, h4⟩
theorem adj_two {a b : Int × Int} (h : a.1 ≠ b.1) : ∀ i x y, [a, b][i]? = some x → [a, b][i + 1]? = some y → x.1 ≠ y.1
  | 0, x, y, h1, h2 => by
    obtain rfl : a = x := by simpa using h1
    obtain rfl : b = y := by simpa using h2
    exact h
  | i + 1, x, y, _, h2 => by simp at h2
theorem adj_one {a : Int × Int} : ∀ i x y, [a][i]? = some x → [a][i + 1]? = some y → x.1 ≠ y.1 := fun i x y _ h2 => by simp at h2
theorem awR_may : Tx.May awR := may_small (by decide) (adj_two (by decide)) (by decide) (by decide)
theorem aw_ab : Tx.May [(97, 1), (98, 1)] := may_small (by decide) (adj_two (by decide)) (by decide) (by decide)
theorem aw_a : Tx.May [(97, 1)] := may_small (by decide) adj_one (by decide) (by decide)
theorem aw_c : Tx.May [(99, 1)] := may_small (by decide) adj_one (by decide) (by decide)
theorem aw_sub : Tx.subR awR 1 2 = [(97, 2)] := by
  rw [Tx.subR_may awR_may]
  decide
theorem aw_first {l m : List Int} {i k : Nat} (h : k + m.length ≤ l.length ∧ (l.drop k).take m.length = m) (hik : i ≤ k) (hno : ∀ j, j < k → i ≤ j → ¬ (l.drop j).take m.length = m) : Tx.First l m i k :=
  ⟨hik, Tx.stands_iff.2 h, fun j h1 h2 h3 => hno j h2 h1 (Tx.stands_iff.1 h3).2⟩
theorem aw_idx {r : Int} (h : IdxSaid awR [(97, 1), (98, 1)] 0 r) : r = 2 :=
  h.uniq (.inr ⟨awR_may, aw_ab, .inr ⟨by decide, .inl ⟨2, rfl, aw_first (by decide) (by decide) (by decide)⟩⟩⟩)
theorem aw_idx4 {r : Int} (h : IdxSaid awR [] 4 r) : r = 4 :=
  h.uniq (.inr ⟨awR_may, Tx.May.nil, .inr ⟨by decide, .inl ⟨4, rfl, aw_first (by decide) (by decide) (by decide)⟩⟩⟩)
theorem aw_idx5 {r : Int} (h : IdxSaid awR [] 5 r) : r = -1 :=
  h.uniq (.inr ⟨awR_may, Tx.May.nil, .inr ⟨by decide, .inr ⟨rfl, fun j hj hst => by
    have := hst.1
    have e : (Lt.expand awR).length = 4 := by decide
    have : 5 ≤ j := hj
    omega⟩⟩⟩)
theorem aw_rep {x : Int × List (Int × Int)} (h : Tx.RepIs awR [(97, 1)] [(99, 1)] x) : x = (0, [(99, 1), (97, 2), (98, 1)]) := by
  refine h.uniq (.inr ⟨⟨awR_may, aw_a, aw_c⟩, .inl ⟨0, aw_first (by decide) (by decide) (by decide), ?_⟩⟩)
  decide

theorem Below.new (w : World) (o : Obj) : Below w.heap.size w (w.alloc o) := (Below.refl _ w).alloc (Nat.le_refl _) o
set_option maxRecDepth 100000 in
set_option maxHeartbeats 3200000 in
theorem kawake8 (w : World) : Calls Try.prog 10 #[] w fun e w' => e = .returned (.bool true) ∧ Below w.heap.size w w' := by
  go_enter Try.func10, Try.ntmps10
  go_wp2_with fail
  generalize hW0 : w.alloc (Obj.cells #[Value.int IntKind.i64 97, Value.int IntKind.i64 3, Value.int IntKind.i64 98, Value.int IntKind.i64 1] 38) = W0
  have H0 : Hid (Below w.heap.size w W0 ∧ Txt W0 (some ⟨w.heap.size, 0, none⟩) 2 awR) := by
    rw [← hW0]
    exact ⟨Below.new _ _, Txt.may (RunS.lit w awR) awR_may (by decide)⟩
  clear hW0
  have HS : Hid (∀ W, Below W0.heap.size W0 W → Below w.heap.size w W ∧ Txt W (some ⟨w.heap.size, 0, none⟩) 2 awR) := fun W hW => ⟨H0.out.1.trans (hW.mono H0.out.1.size), H0.out.2.below hW⟩
  have H1 := ksubstr8 W0 (some ⟨w.heap.size, 0, none⟩) 2 2 awR 1 2 H0.out.2 (by decide) (by decide)
  unfold RSaid at H1
  rw [aw_sub] at H1
  refine H1.mono ?_
  rintro e w1 ⟨⟨A1, c1, rfl, o1⟩, b1⟩
  have B1 := Lib.hid b1
  have R1 := Lib.hid (OwnR.runs o1 (n := 1) rfl)
  clear b1 o1 H1
  have H2 : Hid (∀ W2, W2 = (w1.alloc (.cells #[.int .i64 97, .int .i64 1] 38)).alloc (.cells #[.int .i64 99, .int .i64 1] 38) → Calls Try.prog 30 #[.slice (some ⟨w.heap.size, 0, none⟩) 2 2, .slice (some ⟨w1.heap.size, 0, none⟩) 1 1, .slice (some ⟨w1.heap.size + 1, 0, none⟩) 1 1] W2 fun e w' => (∃ A c, e = .returned (.tuple #[.slice A 3 c, .int .i64 0]) ∧ RunS w' A 3 [(99, 1), (97, 2), (98, 1)]) ∧ Below w1.heap.size w1 w') := fun W2 h2 => by
    subst h2
    have k1 := Below.new w1 (.cells #[.int .i64 97, .int .i64 1] 38)
    have k2 := Below.new (w1.alloc (.cells #[.int .i64 97, .int .i64 1] 38)) (.cells #[.int .i64 99, .int .i64 1] 38)
    have k12 := k1.trans (k2.mono k1.size)
    have r1 := RunS.lit w1 [(97, 1)]
    have r2 := RunS.lit (w1.alloc (.cells #[.int .i64 97, .int .i64 1] 38)) [(99, 1)]
    have hsz : (w1.alloc (.cells #[.int .i64 97, .int .i64 1] 38)).heap.size = w1.heap.size + 1 := by simp
    rw [hsz] at r2
    have h := kreplace8 _ (some ⟨w.heap.size, 0, none⟩) 2 2 awR (some ⟨w1.heap.size, 0, none⟩) 1 1 [(97, 1)] (some ⟨w1.heap.size + 1, 0, none⟩) 1 1 [(99, 1)] (((HS.out _ B1.out).2.below k1).below k2) (Txt.may (r1.below k2) aw_a (by decide)) (Txt.may r2 aw_c (by decide)) (by decide)
    refine h.mono ?_
    rintro e w' ⟨⟨A, c, x, rfl, o, hx⟩, b⟩
    obtain rfl := aw_rep hx
    exact ⟨⟨A, c, rfl, OwnR.runs o (n := 3) rfl⟩, k12.trans (b.mono k12.size)⟩
  go_wp2_with fail
  refine (H2.out _ rfl).mono ?_
  rintro e w2 ⟨⟨A2, c2, rfl, r2⟩, b2⟩
  have B2 := Lib.hid (B1.out.trans (b2.mono B1.out.size))
  have R2 := Lib.hid (And.intro (R1.out.below b2) r2)
  clear b2 r2 H2 R1 B1
  have H3 : Hid (Calls Try.prog 12 #[.slice A1 1 c1, .slice (some ⟨w2.heap.size, 0, none⟩) 1 1] (w2.alloc (.cells #[.int .i64 97, .int .i64 2] 38)) fun e w' => e = .returned (.bool true) ∧ Below w2.heap.size w2 w') := by
    have k := Below.new w2 (.cells #[.int .i64 97, .int .i64 2] 38)
    have h := rtexts _ A1 1 c1 [(97, 2)] (some ⟨w2.heap.size, 0, none⟩) 1 1 [(97, 2)] (R2.out.1.below k) (RunS.lit w2 [(97, 2)]) (by decide)
    rw [sameR_self] at h
    exact h.mono fun e w' ⟨h1, h2⟩ => ⟨h1, k.trans (h2.mono k.size)⟩
  go_wp2_with fail
  refine H3.out.mono ?_
  rintro e w3 ⟨rfl, b3⟩
  have B3 := Lib.hid (B2.out.trans (b3.mono B2.out.size))
  have R3 := Lib.hid (R2.out.2.below b3)
  clear b3 H3 R2 B2
  have H4 : Hid (Calls Try.prog 12 #[.slice A2 3 c2, .slice (some ⟨w3.heap.size, 0, none⟩) 3 3] (w3.alloc (.cells #[.int .i64 99, .int .i64 1, .int .i64 97, .int .i64 2, .int .i64 98, .int .i64 1] 38)) fun e w' => e = .returned (.bool true) ∧ Below w3.heap.size w3 w') := by
    have k := Below.new w3 (.cells #[.int .i64 99, .int .i64 1, .int .i64 97, .int .i64 2, .int .i64 98, .int .i64 1] 38)
    have h := rtexts _ A2 3 c2 [(99, 1), (97, 2), (98, 1)] (some ⟨w3.heap.size, 0, none⟩) 3 3 [(99, 1), (97, 2), (98, 1)] (R3.out.below k) (RunS.lit w3 [(99, 1), (97, 2), (98, 1)]) (by decide)
    rw [sameR_self] at h
    exact h.mono fun e w' ⟨h1, h2⟩ => ⟨h1, k.trans (h2.mono k.size)⟩
  go_wp2_with fail
  refine H4.out.mono ?_
  rintro e w4 ⟨rfl, b4⟩
  have B4 := Lib.hid (B3.out.trans (b4.mono B3.out.size))
  clear b4 H4 R3 B3
  have H5 : Hid (Calls Try.prog 24 #[.slice (some ⟨w.heap.size, 0, none⟩) 2 2, .slice (some ⟨w4.heap.size, 0, none⟩) 2 2, .int .i64 0] (w4.alloc (.cells #[.int .i64 97, .int .i64 1, .int .i64 98, .int .i64 1] 38)) fun e w' => e = .returned (.int .i64 2) ∧ Below w4.heap.size w4 w') := by
    have k := Below.new w4 (.cells #[.int .i64 97, .int .i64 1, .int .i64 98, .int .i64 1] 38)
    have h := kindex8 _ (some ⟨w.heap.size, 0, none⟩) 2 2 awR (some ⟨w4.heap.size, 0, none⟩) 2 2 [(97, 1), (98, 1)] 0 ((HS.out _ B4.out).2.below k) (Txt.may (RunS.lit w4 [(97, 1), (98, 1)]) aw_ab (by decide)) (by decide) (by decide)
    refine h.mono ?_
    rintro e w' ⟨⟨r, rfl, hr⟩, b⟩
    rw [aw_idx hr]
    exact ⟨rfl, k.trans (b.mono k.size)⟩
  have H6 : Hid (∀ W, Below W0.heap.size W0 W → Calls Try.prog 24 #[.slice (some ⟨w.heap.size, 0, none⟩) 2 2, .slice none 0 0, .int .i64 4] W fun e w' => e = .returned (.int .i64 4) ∧ Below W.heap.size W w') := fun W hW => by
    refine (kindex8 _ (some ⟨w.heap.size, 0, none⟩) 2 2 awR none 0 0 [] 4 (HS.out _ hW).2 (Txt.nil _ _) (by decide) (by decide)).mono ?_
    rintro e w' ⟨⟨r, rfl, hr⟩, b⟩
    rw [aw_idx4 hr]
    exact ⟨rfl, b⟩
  have H7 : Hid (∀ W, Below W0.heap.size W0 W → Calls Try.prog 24 #[.slice (some ⟨w.heap.size, 0, none⟩) 2 2, .slice none 0 0, .int .i64 5] W fun e w' => e = .returned (.int .i64 (-1)) ∧ Below W.heap.size W w') := fun W hW => by
    refine (kindex8 _ (some ⟨w.heap.size, 0, none⟩) 2 2 awR none 0 0 [] 5 (HS.out _ hW).2 (Txt.nil _ _) (by decide) (by decide)).mono ?_
    rintro e w' ⟨⟨r, rfl, hr⟩, b⟩
    rw [aw_idx5 hr]
    exact ⟨rfl, b⟩
  go_wp2_with fail
  refine H5.out.mono ?_
  rintro e w5 ⟨rfl, b5⟩
  have B5 := Lib.hid (B4.out.trans (b5.mono B4.out.size))
  clear b5 H5 B4
  go_wp2_with fail
  refine (H6.out _ B5.out).mono ?_
  rintro e w6 ⟨rfl, b6⟩
  have B6 := Lib.hid (B5.out.trans (b6.mono B5.out.size))
  clear b6 H6 B5
  go_wp2_with fail
  refine (H7.out _ B6.out).mono ?_
  rintro e w7 ⟨rfl, b7⟩
  have B7 := Lib.hid (B6.out.trans (b7.mono B6.out.size))
  clear b7 H7 B6
  go_wp2
  go_ret
  exact ⟨rfl, (HS.out _ B7.out).1⟩
end Go.Proofs.Ytdpbglofijpfnaa
