/- The code: Show. -/
import Derived.Test.YtpjdfogieiokkaaDoorK10
namespace Go.Proofs.YtpjdfogieiokkaaDoor
open Go.RowKit Go.Shelf

set_option maxRecDepth 100000 in
set_option maxHeartbeats 6400000 in
theorem kshow (k : Int) (T : ByteArray) (at_ : Int) (w : World) (hT : T.size ≤ 1100000) (hm : MaxL w) :
    Calls Tryd.prog 64 #[.agg #[.int .i64 k, .string T, .int .i64 at_]] w fun e w' =>
      (if Lx.okShow k T.data.toList then ∃ V : ByteArray, e = .returned (.tuple #[.string V, .int .i64 0]) ∧ V.data.toList = Lx.show k T.data.toList else e = .returned (.tuple #[.string ⟨#[]⟩, .int .i64 1])) ∧ Below w.heap.size w w' := by
  obtain ⟨ok, hok⟩ : ∃ b, Lx.okShow k T.data.toList = b := ⟨_, rfl⟩
  obtain ⟨X, hX⟩ : ∃ X, Lx.show k T.data.toList = X := ⟨_, rfl⟩
  rw [hok, hX]
  obtain ⟨Post, hPost⟩ : ∃ Post : Ending → World → Prop, Post = fun e w' => (if ok then ∃ V : ByteArray, e = .returned (.tuple #[.string V, .int .i64 0]) ∧ V.data.toList = X else e = .returned (.tuple #[.string ⟨#[]⟩, .int .i64 1])) ∧ Below w.heap.size w w' := ⟨_, rfl⟩
  rw [← hPost]
  have HPo := Lib.hid hPost
  have HOK := Lib.hid hok
  have HX := Lib.hid hX
  have HW1 := Lib.hid ((Below.refl _ w).alloc (Nat.le_refl _) (tbox k T at_))
  have HMa := Lib.hid (hm.alloc (tbox k T at_))
  have HWr := Lib.hid fun W hW => kwrite k T at_ W hT hW
  have HL := Lib.hid fun (V : ByteArray) (hV : V.size ≤ 4000000) W hW => klex V W (by omega) hW
  clear hPost hok hX hm
  go_enter Tryd.func64, Tryd.ntmps64
  go_wp2_with (first
    | (go_at_call 76; refine (HWr.out _ HMa.out).mono ?_; rintro e w1 ⟨V, rfl, hV, hVs, b1⟩; rw [HX.out] at hV; have HV := Lib.hid hV; have B1 := Lib.hid b1; have HM1 := Lib.hid (HMa.out.below b1); clear hV b1)
    | (go_at_call 24; refine (HL.out _ hVs _ HM1.out).mono ?_; rintro e w2 ⟨A9, c9, l9, E, p9, rfl, q⟩
       have hok := show_ok (HV.out.trans HX.out.symm) q
       rw [HOK.out] at hok
       have hB := B1.out.trans (q.below.mono B1.out.size)
       have hBx := (Turn.of_below (F := fun _ => False) hB).lies (Lies.new w 31 #[.int .i64 k, .string T, .int .i64 at_]) id
       have HB2 : Hid (∀ n, Below w.heap.size w (w2.drewN n)) := fun n => (HW1.out.trans (hB.mono HW1.out.size)).trans ((Turn.none_ ((Turn.refl (fun _ => False) w2).drewN n) (fun _ => id)).mono (HW1.out.trans (hB.mono HW1.out.size)).size)
       have z0 := hBx.lt
       have z1 := hBx.cell 0
       have z2 := hBx.cell 1
       simp at z1 z2
       have HTk := q.own.toks
       clear hB hBx q))
  clear HL HOK HX HW1 HMa HWr B1 HM1 hVs
  by_cases hE : E = 0
  · subst hE
    rw [decide_eq_true rfl, Bool.true_and] at hok
    obtain ⟨n9, hn9⟩ : ∃ n9, l9.length = n9 := ⟨_, rfl⟩
    rw [hn9] at HTk ⊢
    by_cases h1 : n9 = 1
    case neg =>
      obtain rfl : ok = false := by
        rw [hok, decide_eq_false_iff_not]
        intro e
        have := congrArg List.length e
        rw [List.length_map, hn9] at this
        exact h1 this
      have hl : (n9 : Int) ≠ 1 := by omega
      have b1 : ((n9 : Int) != 1) = true := bne_iff_ne.2 hl
      have b2 : ((n9 : Int) == 1) = false := beq_eq_false_iff_ne.2 hl
      clear hok HTk hn9 hl h1
      go_quiet (fail)
      go_wp2
      rw [HPo.out]
      exact ⟨by rw [if_neg (by decide)]; rfl, HB2.out _⟩
    case pos =>
      obtain ⟨x, rfl⟩ : ∃ x, l9 = [x] := List.length_eq_one_iff.1 (hn9.trans h1)
      obtain ⟨b, off, x', rfl, hx', _, hc⟩ := HTk.get (i := 0) (by omega)
      obtain rfl : x' = toI x := by simpa using hx'.symm
      obtain ⟨y0, y1, y2, _⟩ := hc _ (Below.refl _ w2)
      simp only [Nat.zero_mul, Nat.add_zero] at y1 y2
      obtain ⟨xk, xt, xa⟩ := x
      simp only [toI] at y1 y2
      have b3 : ((n9 : Int) != 1) = false := by rw [h1]; rfl
      have b4 : ((n9 : Int) == 1) = true := by rw [h1]; rfl
      have h0 : (0 : Int) < (n9 : Int) := by omega
      have h0' : 0 < n9 := by omega
      clear HTk hx' hc hn9 h1
      by_cases hk : xk = k
      · subst hk
        by_cases ht : xt.data.toList = T.data.toList
        · obtain rfl : ok = true := by rw [hok]; simp [ht]
          have b1 : (xt.toList == T.toList) = true := by rw [ByteArray.toList_eq, ByteArray.toList_eq]; exact beq_iff_eq.2 ht
          have b2 : (xt.toList != T.toList) = false := by rw [bne, b1]; rfl
          clear hok ht
          go_quiet (fail)
          go_wp2
          rw [HPo.out]
          exact ⟨by rw [if_pos trivial]; exact ⟨_, rfl, HV.out⟩, HB2.out _⟩
        · obtain rfl : ok = false := by rw [hok]; simp [ht]
          have b1 : (xt.toList == T.toList) = false := by rw [ByteArray.toList_eq, ByteArray.toList_eq]; exact beq_eq_false_iff_ne.2 ht
          have b2 : (xt.toList != T.toList) = true := by rw [bne, b1]; rfl
          clear hok ht
          go_quiet (fail)
          go_wp2
          rw [HPo.out]
          exact ⟨by rw [if_neg (by decide)]; rfl, HB2.out _⟩
      · obtain rfl : ok = false := by rw [hok]; simp [hk]
        have b1 : (xk != k) = true := bne_iff_ne.2 hk
        have b2 : (xk == k) = false := beq_eq_false_iff_ne.2 hk
        clear hok hk
        go_quiet (fail)
        go_wp2
        rw [HPo.out]
        exact ⟨by rw [if_neg (by decide)]; rfl, HB2.out _⟩
  · obtain rfl : ok = false := by rw [hok, decide_eq_false hE]; rfl
    have b1 : (E != 0) = true := bne_iff_ne.2 hE
    have b2 : (E == 0) = false := beq_eq_false_iff_ne.2 hE
    obtain ⟨n9, hn9⟩ : ∃ n9, l9.length = n9 := ⟨_, rfl⟩
    rw [hn9]
    clear hok hE HTk hn9
    go_quiet (fail)
    go_wp2
    rw [HPo.out]
    exact ⟨by rw [if_neg (by decide)]; rfl, HB2.out _⟩
end Go.Proofs.YtpjdfogieiokkaaDoor
