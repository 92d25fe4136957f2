/- The reference of s-expressions: Same. -/
import Derived.Test.YtpjdfogieiokkaaDoorS2
namespace Go.Proofs.YtpjdfogieiokkaaDoor
open Go.RowKit

theorem sbox_in2 {w W0 : World} {x y : Sx} {A B : Option Addr} {c d n m : Nat} {l k : Bool} (hn : x.L.length = n) (hl : x.list = l) (hm : y.L.length = m) (hk : y.list = k) (h : STree w AnyP x A c) (h' : STree w AnyP y B d)
    (hW0 : (w.alloc (Obj.cells #[Value.bool l, Value.int IntKind.i64 x.k, Value.string x.T, Value.int IntKind.i64 x.ta, Value.int IntKind.i64 x.at_, Value.slice A n c] 34)).alloc (Obj.cells #[Value.bool k, Value.int IntKind.i64 y.k, Value.string y.T, Value.int IntKind.i64 y.ta, Value.int IntKind.i64 y.at_, Value.slice B m d] 34) = W0) :
    Below w.heap.size w W0 ∧ STree W0 AnyP x A c ∧ SAt W0 w.heap.size 0 x A c ∧ STree W0 AnyP y B d ∧ SAt W0 (w.heap.size + 1) 0 y B d := by
  obtain ⟨a1, a2, a3⟩ := sbox_in hn hl h rfl
  obtain ⟨b1, b2, b3⟩ := sbox_in (A := B) hm hk (h'.kept a1) hW0
  refine ⟨a1.trans (b1.mono a1.size), a2.kept b1, a3.below b1, b2, ?_⟩
  have e : (w.alloc (Obj.cells #[Value.bool l, Value.int IntKind.i64 x.k, Value.string x.T, Value.int IntKind.i64 x.ta, Value.int IntKind.i64 x.at_, Value.slice A n c] 34)).heap.size = w.heap.size + 1 := by simp
  rw [e] at b3
  exact b3

set_option maxRecDepth 100000 in
set_option maxHeartbeats 6400000 in
theorem rsamex : ∀ (k : Nat) (x y : Sx) (A B : Option Addr) (c d : Nat) (p : Bool) (w : World), x.size ≤ k → STree w AnyP x A c → STree w AnyP y B d →
    Calls Tryd.prog 20 #[sval x A c, sval y B d, .bool p] w fun e w' => e = .returned (.bool (Sx.same p x y)) ∧ Below w.heap.size w w' := by
  intro k
  induction k with
  | zero =>
    intro x y A B c d p w hk
    exact absurd x.size_pos (by omega)
  | succ k ih =>
    intro x y A B c d p w hk h h'
    obtain ⟨n, hn⟩ : ∃ n, x.L.length = n := ⟨_, rfl⟩
    have HN := Lib.hid hn
    obtain ⟨m, hm⟩ : ∃ m, y.L.length = m := ⟨_, rfl⟩
    have HM := Lib.hid hm
    have hl : n ≤ maxLen := hn ▸ Nat.le_trans h.le.1 h.le.2
    have hl' : m ≤ maxLen := hm ▸ Nat.le_trans h'.le.1 h'.le.2
    unfold maxLen at hl hl'
    obtain ⟨X, hX⟩ : ∃ X, Sx.same p x y = X := ⟨_, rfl⟩
    have HX := Lib.hid hX
    rw [hX]
    unfold sval
    rw [hn, hm]
    obtain ⟨bx, hbx⟩ : ∃ b, x.list = b := ⟨_, rfl⟩
    have HBX := Lib.hid hbx
    obtain ⟨by_, hby⟩ : ∃ b, y.list = b := ⟨_, rfl⟩
    have HBY := Lib.hid hby
    rw [hbx, hby]
    have key := fun e : x.key p = y.key p => Sx.key_len e
    have hno : ∀ q : Prop, (x.key p = y.key p → q) → ¬ q → X = false := fun q h1 h2 => by rw [← hX]; exact Sx.same_false fun e => h2 (h1 e)
    have hways : X = false ∧ ((bx = true ∧ by_ = false) ∨ (bx = false ∧ by_ = true) ∨ (bx = by_ ∧ p = true ∧ (x.at_ != y.at_) = true) ∨ (bx = by_ ∧ p = false ∧ ((n : Int) != (m : Int)) = true) ∨ (bx = by_ ∧ p = true ∧ (x.at_ != y.at_) = false ∧ ((n : Int) != (m : Int)) = true)) ∨
        (bx = by_ ∧ (p = true → x.at_ = y.at_) ∧ n = m) := by
      by_cases e1 : bx = by_
      · by_cases e2 : p = true → x.at_ = y.at_
        · by_cases e3 : n = m
          · exact .inr ⟨e1, e2, e3⟩
          · have e3' : ((n : Int) != (m : Int)) = true := by rw [bne_iff_ne]; omega
            refine .inl ⟨hno (n = m) (fun e => by rw [← hn, ← hm]; exact (key e).2.2) e3, ?_⟩
            cases p
            · exact .inr (.inr (.inr (.inl ⟨e1, rfl, e3'⟩)))
            · exact .inr (.inr (.inr (.inr ⟨e1, rfl, by simp [e2 rfl], e3'⟩)))
        · have hp : p = true := by
            cases p
            · exact absurd (fun h => by cases h) e2
            · rfl
          subst hp
          exact .inl ⟨hno _ (fun e => (key e).2.1) e2, .inr (.inr (.inl ⟨e1, rfl, by rw [bne_iff_ne]; exact fun h => e2 fun _ => h⟩))⟩
      · refine .inl ⟨hno (bx = by_) (fun e => by rw [← hbx, ← hby]; exact (key e).1) e1, ?_⟩
        cases bx <;> cases by_
        · exact absurd rfl e1
        · exact .inr (.inl ⟨rfl, rfl⟩)
        · exact .inl ⟨rfl, rfl⟩
        · exact absurd rfl e1
    have hbb : Hid (∀ o o', Below w.heap.size w ((w.alloc o).alloc o')) := fun o o' => ((Below.refl _ w).alloc (Nat.le_refl _) o).alloc (by simp) o'
    clear hn hm hX hbx hby key hno
    rcases hways with ⟨rfl, hw⟩ | ⟨rfl, ha, rfl⟩
    · clear h h' hl hl' ih hk
      rcases hw with ⟨rfl, rfl⟩ | ⟨rfl, rfl⟩ | ⟨rfl, rfl, e2⟩ | ⟨rfl, rfl, e3⟩ | ⟨rfl, rfl, e2, e3⟩
      all_goals try cases bx
      all_goals
        go_enter Tryd.func20, Tryd.ntmps20
        go_wp2
        go_ret
        exact ⟨rfl, hbb.out _ _⟩
    · cases bx
      · have hXa := Sx.same_atom (p := p) HBX.out HBY.out ha (by rw [HN.out, HM.out])
        rw [HX.out] at hXa
        have hT : decide (x.T = y.T) = (x.T.toList == y.T.toList) := by
          rw [ByteArray.toList_eq, ByteArray.toList_eq, Bool.eq_iff_iff, decide_eq_true_iff, beq_iff_eq]
          constructor
          · intro e; rw [e]
          · intro e
            have e' := Array.toList_inj.1 e
            cases h1 : x.T
            cases h2 : y.T
            rw [h1, h2] at e'
            simp only at e'
            rw [e']
        rw [hT] at hXa
        have hnn : ((n : Int) != (n : Int)) = false := by simp
        have hw2 : (X = false ∧ (x.k == y.k) = false) ∨ (X = false ∧ (x.k == y.k) = true ∧ (x.T.toList == y.T.toList) = false) ∨ (X = true ∧ (x.k == y.k) = true ∧ (x.T.toList == y.T.toList) = true ∧ p = false) ∨
            ((x.k == y.k) = true ∧ (x.T.toList == y.T.toList) = true ∧ p = true ∧ (x.at_ != y.at_) = false ∧ (x.ta == y.ta) = X) := by
          by_cases e1 : x.k = y.k
          · rw [decide_eq_true e1, Bool.true_and] at hXa
            cases e2 : (x.T.toList == y.T.toList)
            · rw [e2] at hXa
              exact .inr (.inl ⟨by simpa using hXa, beq_iff_eq.2 e1, rfl⟩)
            · rw [e2] at hXa
              cases p
              · exact .inr (.inr (.inl ⟨by simpa using hXa, beq_iff_eq.2 e1, rfl, rfl⟩))
              · exact .inr (.inr (.inr ⟨beq_iff_eq.2 e1, rfl, rfl, by simp [ha rfl], by simp at hXa; rw [hXa]; rfl⟩))
          · rw [decide_eq_false e1] at hXa
            exact .inl ⟨by simpa using hXa, beq_eq_false_iff_ne.2 e1⟩
        have hat : p = false ∨ p = true ∧ (x.at_ != y.at_) = false := by
          cases p
          · exact .inl rfl
          · exact .inr ⟨rfl, by simp [ha rfl]⟩
        clear h h' ih hk hXa hT ha
        rcases hw2 with ⟨rfl, e1⟩ | ⟨rfl, e1, e2⟩ | ⟨rfl, e1, e2, rfl⟩ | ⟨e1, e2, rfl, e3, e4⟩
        · rcases hat with rfl | ⟨rfl, e3⟩
          all_goals
            go_enter Tryd.func20, Tryd.ntmps20
            go_wp2
            go_ret
            exact ⟨rfl, hbb.out _ _⟩
        · rcases hat with rfl | ⟨rfl, e3⟩
          all_goals
            go_enter Tryd.func20, Tryd.ntmps20
            go_wp2
            go_ret
            exact ⟨rfl, hbb.out _ _⟩
        · go_enter Tryd.func20, Tryd.ntmps20
          go_wp2
          go_ret
          exact ⟨rfl, hbb.out _ _⟩
        · go_enter Tryd.func20, Tryd.ntmps20
          go_wp2
          go_ret
          exact ⟨rfl, hbb.out _ _⟩
      · have hXl := Sx.same_list (p := p) HBX.out HBY.out ha
        rw [HX.out] at hXl
        have HL := Lib.hid hXl
        have hnn : ((n : Int) != (n : Int)) = false := by simp
        have hat : p = false ∨ p = true ∧ (x.at_ != y.at_) = false := by
          cases p
          · exact .inl rfl
          · exact .inr ⟨rfl, by simp [ha rfl]⟩
        have IHp := Lib.hid fun x y A B c d w => ih x y A B c d p w
        obtain ⟨S, hS⟩ : ∃ S, Sx.sames p = S := ⟨_, rfl⟩
        obtain ⟨R, hR⟩ : ∃ R, Sx.same p = R := ⟨_, rfl⟩
        have HSc : Hid (∀ x y l m, S (x :: l) (y :: m) = (R x y && S l m)) := fun x y l m => by rw [← hS, ← hR]; exact Sx.sames_cons
        have HSn : Hid (S [] [] = true) := by show _ = _; rw [← hS]; exact Sx.sames_nil p
        rw [hR] at IHp
        rw [hS] at hXl
        have HL0 := Lib.hid hXl
        have HZ : Hid (∀ y ∈ x.L, y.size ≤ k) := fun y hy => by have := Sx.size_lt hy; omega
        clear hXl ha HX HL ih hk hS hR
        rcases hat with rfl | ⟨rfl, e3⟩
        all_goals
          go_enter Tryd.func20, Tryd.ntmps20
          go_wp2
          generalize hW0 : (w.alloc (Obj.cells #[Value.bool true, Value.int IntKind.i64 x.k, Value.string x.T, Value.int IntKind.i64 x.ta, Value.int IntKind.i64 x.at_, Value.slice A n c] 34)).alloc (Obj.cells #[Value.bool true, Value.int IntKind.i64 y.k, Value.string y.T, Value.int IntKind.i64 y.ta, Value.int IntKind.i64 y.at_, Value.slice B n d] 34) = W0
          have HB0 := Lib.hid (sbox_in2 HN.out HBX.out HM.out HBY.out h h' hW0)
          clear h h' hW0
          go_loopw [7] (fun iv wr => ∃ i : Nat, i ≤ n ∧ iv = .int .i64 (i : Nat) ∧ Below W0.heap.size W0 wr ∧ Hid (S (x.L.drop i) (y.L.drop i) = X)) (fun iv _ => n - (intOf iv).toNat)
          case atStart => exact ⟨0, Nat.zero_le _, rfl, Below.refl _ _, HL0.out.symm⟩
          case round =>
            obtain ⟨i, hi, rfl, hb, HI⟩ := hrel
            obtain ⟨hb1, ht1, hbx1, ht2, hbx2⟩ := HB0.out
            have hbx3 := hbx1.below hb
            have hbx4 := hbx2.below hb
            obtain ⟨q, q0, q1, q2, q3, q4, q5⟩ := hbx3
            obtain ⟨s, s0, s1, s2, s3, s4, s5⟩ := hbx4
            rw [HN.out] at q5
            rw [HM.out] at s5
            simp only [Nat.zero_add] at q0 q1 q2 q3 q4 q5 s0 s1 s2 s3 s4 s5
            have HB := Lib.hid (hb1.trans (hb.mono hb1.size))
            by_cases hlt : i < n
            · obtain ⟨b, off, v, A', c', rfl, hy, hdr, hym, hs, hty⟩ := (ht1.kept hb).get (i := i) (by rw [HN.out]; exact hlt)
              obtain ⟨y_, y0, y1, y2, y3, y4, y5⟩ := hs
              obtain ⟨b', off', v', A'', c'', rfl, hy', hdr', hym', hs', hty'⟩ := (ht2.kept hb).get (i := i) (by rw [HM.out]; exact hlt)
              obtain ⟨x_, x0, x1, x2, x3, x4, x5⟩ := hs'
              have hd := HI.out
              rw [hdr, hdr', HSc.out] at hd
              have HIH := Lib.hid fun W (hW : Below wr.heap.size wr W) => IHp.out v v' A' A'' c' c'' W (HZ.out v hym) (hty.kept hW) (hty'.kept hW)
              obtain ⟨r, hr⟩ : ∃ r, R v v' = r := ⟨_, rfl⟩
              rw [hr] at HIH hd
              have HD := Lib.hid hd
              have HBr := Lib.hid hb
              have hlt' : (i : Int) < (n : Int) := by omega
              have hi0 : (0 : Int) ≤ (i : Int) := by omega
              clear hd hr HI ht1 hbx1 hb1 hty hdr hy hb hym ht2 hbx2 hty' hdr' hy' hym'
              go_wp2
              go_still_tail 11, (by kernel_rfl)
              change wpList _ _ _ _ _ wr.drew
              have hdw : Below wr.heap.size wr wr.drew := ⟨rfl, rfl, rfl, Nat.le_refl _, fun _ _ => rfl⟩
              generalize wr.drew = w2 at hdw ⊢
              have HD2 := Lib.hid hdw
              clear hdw
              cases r
              all_goals
                go_wp2_with (go_at_call 20; refine (HIH.out _ HD2.out).mono ?_; rintro e w3 ⟨rfl, b3⟩; have B3 := Lib.hid (HD2.out.trans (b3.mono HD2.out.size)); clear b3)
              · go_ret
                obtain rfl : X = false := by have := HD.out; rw [Bool.false_and] at this; exact this.symm
                exact ⟨rfl, HB.out.trans (B3.out.mono HB.out.size)⟩
              · go_roundw
                case rel => exact ⟨i + 1, by omega, by go_num, HBr.out.trans (B3.out.mono HBr.out.size), by have := HD.out; rw [Bool.true_and] at this; exact this⟩
                case measure => simp [intOf]; omega
            · obtain rfl : i = n := by omega
              have hX : X = true := by
                have := HI.out
                rw [List.drop_of_length_le (by rw [HN.out]; exact Nat.le_refl _), List.drop_of_length_le (by rw [HM.out]; exact Nat.le_refl _), HSn.out] at this
                exact this.symm
              subst hX
              clear HI
              go_wp2
              go_ret
              exact ⟨rfl, HB.out⟩
end Go.Proofs.YtpjdfogieiokkaaDoor
