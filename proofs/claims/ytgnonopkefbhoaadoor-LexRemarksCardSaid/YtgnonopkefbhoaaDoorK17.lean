/- LexBack: its walk. -/
import Derived.Test.YtgnonopkefbhoaaDoorK16
import Derived.Test.YtgnonopkefbhoaaDoorY5
namespace Go.Proofs.YtgnonopkefbhoaaDoor
open Go.RowKit Go.Shelf

theorem keys_in (l : List ITok) : l.map (tkey false) = (l.map ikey).map fun y => (y.1, y.2, (0 : Int)) := by
  rw [List.map_map]
  apply List.map_congr_left
  intro x _
  simp [tkey]
/-- what is written of l, cut, is l -/
theorem LSaid.back {V : ByteArray} {w w' : World} {A : Option Addr} {c : Nat} {l2 : List MTok} {E : Int} {p : Nat} (q : LSaid V w A c l2 E p w') {b : UInt8} (hb : Lx.Ends b) (hbl : Lx.blank b = true) (l : List ITok)
    (hV : V.data.toList = Lx.joined b (l.map ikey)) (hok : ∀ x ∈ l, Lx.okShow x.1 x.2.1.data.toList = true) (hl : l.length ≤ 4000) (hs : V.size ≤ 16384) : sameT false l (l2.map toI) = true ∧ E = 0 ∧ p = V.size := by
  obtain ⟨t1, t2, t3⟩ := q.toks hs
  obtain ⟨b1, b2⟩ := Lx.back hb hbl (l.map ikey) (fun x hx => by obtain ⟨y, hy, rfl⟩ := List.mem_map.1 hx; exact hok y hy) (by rw [List.length_map]; exact hl)
  rw [← hV] at b1 b2
  rw [b2] at t2 t3
  refine ⟨?_, t2, ?_⟩
  · unfold sameT
    rw [keys_in, keys_false V l2, t1, b1, decide_eq_true rfl]
  · have := congrArg List.length t3
    rw [List.length_drop, len_bytes] at this
    have := q.le
    simp at *
    omega
theorem joined_few (b : UInt8) (l : List ITok) (n m : Nat) (hn : l.length ≤ n) (h : ∀ x ∈ l, x.2.1.size ≤ m) : (Lx.joined b (l.map ikey)).length ≤ n * (2 * m + 3) := by
  have := Lx.joined_len b m (l.map ikey) (fun x hx => by
    obtain ⟨y, hy, rfl⟩ := List.mem_map.1 hx
    show y.2.1.data.toList.length ≤ m
    rw [len_bytes]
    exact h y hy)
  rw [List.length_map] at this
  exact Nat.le_trans this (Nat.mul_le_mul_right _ hn)

set_option maxRecDepth 100000 in
set_option maxHeartbeats 3200000 in
theorem lexBack_walk (A : Option Addr) (n c : Nat) (l : List ITok) (line : Bool) (w : World) (h : TokS w A n l ∧ ∀ x ∈ l, x.2.1.size ≤ maxLen) (hm : MaxL w) :
    Calls Tryd.prog 5 #[.slice A n c, .bool line] w fun e w' => e = .returned (.bool true) ∧ Below w.heap.size w w' := by
  have HA := Lib.hid (kawake w hm)
  have HM := Lib.hid hm
  have HT := Lib.hid h.1
  have HZ := Lib.hid h.2
  clear h hm
  by_cases hn : 100 < n
  · have hn' : (100 : Int) < (n : Int) := by omega
    clear hn
    go_enter Tryd.func5, Tryd.ntmps5
    go_wp2_with (go_at_call 9; refine HA.out.mono ?_; rintro e w1 ⟨rfl, b1⟩)
    go_ret
    exact ⟨rfl, b1⟩
  have hn' : ¬ (100 : Int) < (n : Int) := by omega
  go_enter Tryd.func5, Tryd.ntmps5
  go_wp2_with (go_at_call 9; refine HA.out.mono ?_; rintro e w1 ⟨rfl, b1⟩; have B1 := Lib.hid b1; have HM1 := Lib.hid (HM.out.below b1); have T1 := Lib.hid (HT.out.below b1); clear b1)
  go_loopw [6] (fun iv wr => ∃ i : Nat, i ≤ n ∧ iv = .int .i64 (i : Nat) ∧ w1 = wr ∧ Hid (∀ x ∈ l.take i, x.2.1.size ≤ 60)) (fun iv _ => n - (intOf iv).toNat)
  case atStart => exact ⟨0, Nat.zero_le _, rfl, rfl, fun x hx => absurd hx (by simp)⟩
  case round =>
    obtain ⟨i, hi, rfl, rfl, HI⟩ := hrel
    by_cases hlt : i < n
    · obtain ⟨b, off, x, rfl, hx, _, hc⟩ := T1.out.get hlt
      obtain ⟨z0, z1, z2, z3⟩ := hc _ (Below.refl _ _)
      obtain ⟨xk, xt, xa⟩ := x
      have hlt' : (i : Int) < (n : Int) := by omega
      have hj0 : (0 : Int) ≤ (i : Int) := by omega
      have HX := Lib.hid hx
      clear hx hc
      by_cases h60 : (60 : Int) < (xt.size : Int)
      · clear HI
        go_wp2
        go_ret
        exact ⟨rfl, B1.out⟩
      · have HN : Hid (∀ x ∈ l.take (i + 1), x.2.1.size ≤ 60) := fun x hx => by
          rw [take_one HX.out] at hx
          rcases List.mem_append.1 hx with hx | hx
          · exact HI.out x hx
          · rw [List.mem_singleton.1 hx]
            show xt.size ≤ 60
            omega
        clear HI
        go_wp2
        go_roundw
        case rel => exact ⟨i + 1, by omega, by go_num, by first | trivial | rfl, HN⟩
        case measure => simp [intOf]; omega
    · obtain rfl : i = n := by omega
      have HF : Hid (∀ x ∈ l, x.2.1.size ≤ 60) := by
        have := HI.out
        rw [List.take_of_length_le (by rw [T1.out.len]; exact Nat.le_refl _)] at this
        exact this
      clear HI
      cases line
      case' false =>
        obtain ⟨b, hb⟩ : ∃ b : UInt8, b = 32 := ⟨_, rfl⟩
        have hbz : ((b.toNat : Nat) : Int) = 32 := by rw [hb]; rfl
        have HE : Hid (Lx.Ends b ∧ Lx.blank b = true) := by show _ ∧ _; rw [hb]; exact ⟨Lx.ends_32, by decide⟩
      case' true =>
        obtain ⟨b, hb⟩ : ∃ b : UInt8, b = 10 := ⟨_, rfl⟩
        have hbz : ((b.toNat : Nat) : Int) = 10 := by rw [hb]; rfl
        have HE : Hid (Lx.Ends b ∧ Lx.blank b = true) := by show _ ∧ _; rw [hb]; exact ⟨Lx.ends_10, by decide⟩
      all_goals
        have hjl := joined_few b l 100 60 (by rw [T1.out.len]; omega) HF.out
        have HJ := kjoined w1 A i c l b T1.out (by omega) (fun x hx => Nat.le_trans (HF.out x hx) (by decide)) (by omega) HM1.out
        rw [hbz] at HJ
        replace HJ := Lib.hid HJ
        have HJL := Lib.hid hjl
        clear hjl hb hbz
        go_wp2_with fail
        refine HJ.out.mono ?_
        rintro e w2 ⟨h, b2⟩
        have B2 := Lib.hid (B1.out.trans (b2.mono B1.out.size))
        have HM2 := Lib.hid (HM1.out.below b2)
        have T2 := Lib.hid (T1.out.below b2)
        clear b2
        rcases h with ⟨V, hok, rfl, hV⟩ | ⟨_, rfl⟩
        · have hVs : V.size ≤ 12300 := by rw [← len_bytes, hV]; exact HJL.out
          have HK := Lib.hid fun W hW => klex V W (by omega) hW
          have HB := Lib.hid fun W W' A3 c3 l3 E3 p3 (q : LSaid V W A3 c3 l3 E3 p3 W') => q.back HE.out.1 HE.out.2 l hV hok (by rw [T1.out.len]; omega) (by omega)
          clear hok hV hVs
          go_wp2_with fail
          refine (HK.out _ HM2.out).mono ?_
          rintro e w3 ⟨A3, c3, l3, E3, p3, rfl, q3⟩
          obtain ⟨hsame, rfl, rfl⟩ := HB.out _ _ _ _ _ _ _ q3
          have B3 := Lib.hid (B2.out.trans (q3.below.mono B2.out.size))
          have HS := Lib.hid (rsame w3 A i c l A3 l3.length c3 (l3.map toI) false (T2.out.below q3.below) q3.own.toks (by omega))
          rw [hsame] at HS
          obtain ⟨n3, hn3⟩ : ∃ n, l3.length = n := ⟨_, rfl⟩
          rw [hn3] at HS ⊢
          clear q3 hsame hn3
          go_wp2_with (go_at_call 12; refine HS.out.mono ?_; rintro e w4 ⟨rfl, q, rfl⟩)
          go_ret
          exact ⟨rfl, B3.out.trans ((Turn.none_ ((Turn.refl (fun _ => False) _).drewN _) (fun _ => id)).mono B3.out.size)⟩
        · go_wp2
          go_ret
          exact ⟨rfl, B2.out⟩
end Go.Proofs.YtgnonopkefbhoaaDoor
