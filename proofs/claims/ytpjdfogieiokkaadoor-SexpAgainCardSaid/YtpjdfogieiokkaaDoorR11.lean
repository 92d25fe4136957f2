/- The reference of scripts: Show. -/
import Derived.Test.YtpjdfogieiokkaaDoorR10
import Derived.Deep.CutBlock
import Derived.Deep.DeepCutAuto
namespace Go.Proofs.YtpjdfogieiokkaaDoor
open Go.RowKit

theorem app_bytes (a b : ByteArray) : (a ++ b).data.toList = a.data.toList ++ b.data.toList ∧ (a ++ b).size = a.size + b.size := by
  have e : (a ++ b).data.toList = a.data.toList ++ b.data.toList := by simp [ByteArray.data_append]
  refine ⟨e, ?_⟩
  rw [← len_bytes, e, List.length_append, len_bytes, len_bytes]
theorem Lx.dbl_len : ∀ l : List UInt8, (Lx.dbl l).length ≤ 2 * l.length
  | [] => Nat.le_refl _
  | c :: t => by
    have := Lx.dbl_len t
    rw [Lx.dbl_cons]
    split <;> · simp only [List.length_cons]; omega
/-- may it be written? as Lex of it tells -/
theorem show_ok {k : Int} {t : List UInt8} {V : ByteArray} {w w' : World} {A : Option Addr} {c p : Nat} {l : List MTok} {E : Int} (hV : V.data.toList = Lx.show k t) (q : LSaid V w A c l E p w') :
    Lx.okShow k t = (decide (E = 0) && decide (l.map (fun x => (x.1, x.2.1.data.toList)) = [(k, t)])) := by
  have hl : (Lx.show k t).length = V.size := by rw [← hV, len_bytes]
  unfold Lx.okShow
  by_cases hs : 16384 < V.size
  · obtain ⟨rfl, rfl, _⟩ := q.long hs
    rw [decide_eq_false (by omega)]
    simp
  · obtain ⟨h1, h2, _⟩ := q.toks (by omega)
    rw [hV] at h1 h2
    rw [decide_eq_true (by omega), Bool.true_and, ← h2, ← h1, List.map_map]
    rfl
abbrev tbox (k : Int) (T : ByteArray) (at_ : Int) : Obj := .cells #[.int .i64 k, .string T, .int .i64 at_] 31

set_option maxRecDepth 100000 in
set_option maxHeartbeats 6400000 in
theorem rshow (k : Int) (T : ByteArray) (at_ : Int) (w : World) (hT : T.size ≤ 1100000) :
    Calls Tryd.prog 42 #[.agg #[.int .i64 k, .string T, .int .i64 at_]] w fun e w' =>
      (if Lx.okShow k T.data.toList then ∃ V : ByteArray, e = .returned (.tuple #[.string V, .int .i64 0]) ∧ V.data.toList = Lx.show k T.data.toList else e = .returned (.tuple #[.string ⟨#[]⟩, .int .i64 1])) ∧ Below w.heap.size w w' := by
  obtain ⟨ok, hok⟩ : ∃ b, Lx.okShow k T.data.toList = b := ⟨_, rfl⟩
  obtain ⟨X, hX⟩ : ∃ X, Lx.show k T.data.toList = X := ⟨_, rfl⟩
  rw [hok, hX]
  have HP : Hid (∀ (P : Bool → Prop), P ok → P ok) := fun _ h => h
  obtain ⟨Post, hPost⟩ : ∃ Post : Ending → World → Prop, Post = fun e w' => (if ok then ∃ V : ByteArray, e = .returned (.tuple #[.string V, .int .i64 0]) ∧ V.data.toList = X else e = .returned (.tuple #[.string ⟨#[]⟩, .int .i64 1])) ∧ Below w.heap.size w w' := ⟨_, rfl⟩
  rw [← hPost]
  have HPo := Lib.hid hPost
  have HOK := Lib.hid hok
  have HX := Lib.hid hX
  obtain ⟨sm, hsm⟩ : ∃ b, Lx.simple T.data.toList = b := ⟨_, rfl⟩
  have HS := Lib.hid fun W => rsimple T W (by unfold maxLen; omega)
  rw [hsm] at HS
  have HSM := Lib.hid hsm
  have hw1 : Below w.heap.size w (w.alloc (tbox k T at_)) := (Below.refl _ w).alloc (Nat.le_refl _) _
  have HW1 := Lib.hid hw1
  clear hPost hok hX hsm hw1 HP
  go_enter Tryd.func42, Tryd.ntmps42
  have HL := Lib.hid fun (V : ByteArray) (hV : V.size ≤ 4000000) W => rlex V W hV
  have hways : (k = 3 ∧ sm = true) ∨ (k = 3 ∧ sm = false) ∨ k = 6 ∨ (k ≠ 3 ∧ k ≠ 6) := by
    by_cases h3 : k = 3
    · cases sm
      · exact .inr (.inl ⟨h3, rfl⟩)
      · exact .inl ⟨h3, rfl⟩
    · by_cases h6 : k = 6
      · exact .inr (.inr (.inl h6))
      · exact .inr (.inr (.inr ⟨h3, h6⟩))
  have HBX0 := Lib.hid fun w2 (b : Below (w.alloc (tbox k T at_)).heap.size (w.alloc (tbox k T at_)) w2) => b
  have hTs : T.size ≤ 4000000 := by omega
  have hadd : ∀ (a b : ByteArray) (W : World), a.size ≤ 8388608 → b.size ≤ 8388608 → (Op.stringOp .add a b).run Tryd.prog W = .ok (.string (a ++ b)) W := fun a b W ha hb => run_string_add W a b (by omega) (by omega)
  rcases hways with ⟨hk, rfl⟩ | ⟨hk, rfl⟩ | hk | ⟨h3, h6⟩
  case' inl =>
    have k3 : (k == 3) = true := beq_iff_eq.2 hk
    have k6 : (k == 6) = false := beq_eq_false_iff_ne.2 (by omega)
    have HV : Hid (T.data.toList = X) := by show _ = _; rw [← HX.out, hk, Lx.show, if_pos rfl, if_pos HSM.out]
    have hVs : T.size ≤ 4000000 := hTs
    have HBX := HBX0
    clear hk hadd
    go_wp2_with (go_at_call 66; refine (HS.out _).mono ?_; rintro e w1 ⟨rfl, rfl⟩)
  case' inr.inl =>
    have k3 : (k == 3) = true := beq_iff_eq.2 hk
    have k6 : (k == 6) = false := beq_eq_false_iff_ne.2 (by omega)
    have a1 := fun W => hadd ⟨#[124]⟩ T W (by decide) (by omega)
    obtain ⟨V1, hV1⟩ : ∃ V : ByteArray, ⟨#[124]⟩ ++ T = V := ⟨_, rfl⟩
    obtain ⟨q1, q2⟩ := app_bytes ⟨#[124]⟩ T
    rw [hV1] at a1 q1 q2
    have q2' : V1.size ≤ 1100001 := by rw [q2]; show 1 + T.size ≤ _; omega
    have a2 := fun W => hadd V1 ⟨#[124]⟩ W (by omega) (by decide)
    obtain ⟨V, hV⟩ : ∃ V : ByteArray, V1 ++ ⟨#[124]⟩ = V := ⟨_, rfl⟩
    obtain ⟨q3, q4⟩ := app_bytes V1 ⟨#[124]⟩
    rw [hV] at a2 q3 q4
    have HV : Hid (V.data.toList = X) := by show _ = _; rw [← HX.out, hk, Lx.show, if_pos rfl, if_neg (by rw [HSM.out]; decide), q3, q1]; rfl
    have hVs : V.size ≤ 4000000 := by rw [q4]; show V1.size + 1 ≤ _; omega
    have HBX := HBX0
    clear hk hadd hV1 hV q1 q2 q3 q4 q2'
    go_wp2_with (go_at_call 66; refine (HS.out _).mono ?_; rintro e w1 ⟨rfl, rfl⟩)
  case' inr.inr.inr =>
    have k3 : (k == 3) = false := beq_eq_false_iff_ne.2 h3
    have k6 : (k == 6) = false := beq_eq_false_iff_ne.2 h6
    have HV : Hid (T.data.toList = X) := by show _ = _; rw [← HX.out, Lx.show, if_neg h3, if_neg h6]
    have hVs : T.size ≤ 4000000 := hTs
    have HBX := HBX0
    clear h3 h6 hadd
    go_wp2_with (go_at_call 66; refine (HS.out _).mono ?_; rintro e w1 ⟨rfl, rfl⟩)
  case' inr.inr.inl =>
    have k3 : (k == 3) = false := beq_eq_false_iff_ne.2 (by omega)
    have k6 : (k == 6) = true := beq_iff_eq.2 hk
    have HXd : Hid (X = 34 :: (Lx.dbl T.data.toList ++ [34])) := by show _ = _; rw [← HX.out, hk, Lx.show, if_neg (by decide), if_pos rfl]
    have HAD := Lib.hid hadd
    clear hk hadd
    go_wp2_with (go_at_call 66; refine (HS.out _).mono ?_; rintro e w1 ⟨rfl, rfl⟩)
    go_loopw [6, 7] (fun ov iv wr => ∃ (i m : Nat) (A : Option Addr) (c : Nat) (l : List UInt8), i ≤ T.size ∧ m ≤ 2 * i ∧ iv = .int .i64 (i : Nat) ∧ ov = .slice A m c ∧ Below (w.alloc (tbox k T at_)).heap.size (w.alloc (tbox k T at_)) wr ∧
      Hid (OwnY wr (w.alloc (tbox k T at_)).heap.size A c l ∧ l.length = m ∧ l ++ Lx.dbl (T.data.toList.drop i) = Lx.dbl T.data.toList)) (fun _ iv _ => T.size - (intOf iv).toNat)
    case atStart => exact ⟨0, 0, none, 0, [], Nat.zero_le _, Nat.zero_le _, rfl, rfl, by first | exact Below.refl _ _ | assumption, ⟨OwnY.nil _ _, rfl, by rw [List.drop_zero]; rfl⟩⟩
    case' round =>
      obtain ⟨i, m, A, c, l, hi, hm, rfl, rfl, hb, HI⟩ := hrel
      obtain ⟨ho, hlm, hd⟩ := HI.out
      clear HI
      have HO := Lib.hid ho
      have HLn := Lib.hid hlm
      have hbz : (w.alloc (tbox k T at_)).heap.size ≤ wr.heap.size := hb.size
      have HBn : Hid (∀ w2, wr.grownBy w2 (Value.slice A m c).ownBlock → Below (w.alloc (tbox k T at_)).heap.size (w.alloc (tbox k T at_)) w2 ∧ (w.alloc (tbox k T at_)).heap.size ≤ w2.heap.size) := fun w2 g2 =>
        ⟨hb.grown g2 hb.size (fun q hq => (ho.lt q (by rw [hlm]; exact hq)).1), Nat.le_trans hb.size g2.size⟩
      by_cases hlt : i < T.size
  case pos =>
    have HDr := drop_at T hlt
    rw [HDr, Lx.dbl_cons] at hd
    have hlt' : (i : Int) < (T.size : Int) := by omega
    have hm1 : m ≤ 4000000 := by omega
    by_cases h34 : T[i].toNat = 34
    · have b1 : ((T[i].toNat : Int) == 34) = true := beq_iff_eq.2 (by omega)
      have hz : (34 : Int) = (T[i].toNat : Int) := by omega
      rw [if_pos h34] at hd
      have HDD := Lib.hid hd
      have HZ := Lib.hid hz
      clear hd HDr ho hlm h34 hz hb
      go_wp2_with (first
        | (at_builtin; refine appendY _ rfl (.tmp 34) (.tmp 38) rfl (w.alloc (tbox k T at_)).heap.size A c l m HLn.out T[i] _ rfl rfl HO.out rfl (by omega) hbz ?_; intro A2 c2 w2 o2 g2; have O2 := Lib.hid o2; have B2 := Lib.hid (HBn.out _ g2); clear o2 g2)
        | (at_builtin; refine appendY _ rfl (.tmp 44) (.tmp 45) rfl (w.alloc (tbox k T at_)).heap.size A2 c2 (l ++ [T[i]]) (m + 1) (by rw [List.length_append, HLn.out]; rfl) T[i] _ HZ.out rfl O2.out rfl (by omega) B2.out.2 ?_; intro A3 c3 w3 o3 g3; have O3 := Lib.hid o3; have B3 := Lib.hid (B2.out.1.grown g3 B2.out.2 (fun q hq => (O2.out.lt q (by rw [List.length_append, HLn.out]; exact hq)).1)); clear o3 g3))
      go_roundw
      case rel => exact ⟨i + 1, m + 2, A3, c3, l ++ [T[i]] ++ [T[i]], by omega, by omega, by go_num, by first | rfl | go_num, B3.out, ⟨O3.out, by rw [List.length_append, List.length_append, HLn.out]; rfl, by rw [← HDD.out]; simp⟩⟩
      case measure => simp [intOf]; omega
    · have b1 : ((T[i].toNat : Int) == 34) = false := beq_eq_false_iff_ne.2 (by omega)
      rw [if_neg h34] at hd
      have HDD := Lib.hid hd
      clear hd HDr ho hlm h34 hb
      go_wp2_with (at_builtin; refine appendY _ rfl (.tmp 34) (.tmp 38) rfl (w.alloc (tbox k T at_)).heap.size A c l m HLn.out T[i] _ rfl rfl HO.out rfl (by omega) hbz ?_; intro A2 c2 w2 o2 g2; have O2 := Lib.hid o2; have B2 := Lib.hid (HBn.out _ g2); clear o2 g2)
      go_roundw
      case rel => exact ⟨i + 1, m + 1, A2, c2, l ++ [T[i]], by omega, by omega, by go_num, by first | rfl | go_num, B2.out.1, ⟨O2.out, by rw [List.length_append, HLn.out]; rfl, by rw [← HDD.out]; simp⟩⟩
      case measure => simp [intOf]; omega
  case' neg =>
    obtain rfl : i = T.size := by omega
    rw [drop_end, show Lx.dbl [] = [] from rfl, List.append_nil] at hd
    have HCV := convY m hlm ho
    have hll : l.length ≤ 2200000 := by omega
    obtain ⟨V0, hV0⟩ : ∃ V : ByteArray, (⟨l.toArray⟩ : ByteArray) = V := ⟨_, rfl⟩
    have q0 : V0.data.toList = l := by rw [← hV0]
    have q0' : V0.size ≤ 2200000 := by rw [← len_bytes, q0]; exact hll
    rw [hV0] at HCV
    have a1 := fun W => HAD.out ⟨#[34]⟩ V0 W (by decide) (by omega)
    obtain ⟨V1, hV1⟩ : ∃ V : ByteArray, ⟨#[34]⟩ ++ V0 = V := ⟨_, rfl⟩
    obtain ⟨q1, q2⟩ := app_bytes ⟨#[34]⟩ V0
    rw [hV1] at a1 q1 q2
    have q2' : V1.size ≤ 2200001 := by rw [q2]; show 1 + V0.size ≤ _; omega
    have a2 := fun W => HAD.out V1 ⟨#[34]⟩ W (by omega) (by decide)
    obtain ⟨V, hV⟩ : ∃ V : ByteArray, V1 ++ ⟨#[34]⟩ = V := ⟨_, rfl⟩
    obtain ⟨q3, q4⟩ := app_bytes V1 ⟨#[34]⟩
    rw [hV] at a2 q3 q4
    have HV : Hid (V.data.toList = X) := by show _ = _; rw [HXd.out, q3, q1, q0, hd]; rfl
    have hVs : V.size ≤ 4000000 := by rw [q4]; show V1.size + 1 ≤ _; omega
    have HBX := Lib.hid fun w2 (b : Below wr.heap.size wr w2) => hb.trans (b.mono hb.size)
    clear hd ho hlm hll hV0 q0 q0' hV1 q1 q2 q2' hV q3 q4 hb HBn HO
    go_wp2_with fail
  all_goals
    refine (HL.out _ hVs _).mono ?_
    rintro e w2 ⟨A9, c9, l9, E, p9, rfl, q⟩
    have hok := show_ok (HV.out.trans HX.out.symm) q
    rw [HOK.out] at hok
    have hB := HBX.out _ q.below
    have hBx := (Turn.of_below (F := fun _ => False) hB).lies (Lies.new w 31 #[.int .i64 k, .string T, .int .i64 at_]) id
    have HB2 : Hid (∀ n, Below w.heap.size w (w2.drewN n)) := fun n => (HW1.out.trans (hB.mono HW1.out.size)).trans ((Turn.none_ ((Turn.refl (fun _ => False) w2).drewN n) (fun _ => id)).mono (HW1.out.trans (hB.mono HW1.out.size)).size)
    have z0 := hBx.lt
    have z1 := hBx.cell 0
    have z2 := hBx.cell 1
    simp at z1 z2
    have HTk := q.own.toks
    clear hB hBx q HBX HL HOK HX HW1 HBX0 HSM hVs
    try clear HAD
    try clear HXd
    by_cases hE : E = 0
    · subst hE
      rw [decide_eq_true rfl, Bool.true_and] at hok
      obtain ⟨n9, hn9⟩ : ∃ n9, l9.length = n9 := ⟨_, rfl⟩
      rw [hn9] at HTk ⊢
      by_cases h1 : n9 = 1
      case neg =>
        obtain rfl : ok = false := by
          rw [hok, decide_eq_false_iff_not]
          intro e
          have := congrArg List.length e
          rw [List.length_map, hn9] at this
          exact h1 this
        have hl : (n9 : Int) ≠ 1 := by omega
        have b1 : ((n9 : Int) != 1) = true := bne_iff_ne.2 hl
        have b2 : ((n9 : Int) == 1) = false := beq_eq_false_iff_ne.2 hl
        clear hok HTk hn9 hl h1
        go_wp2_with fail
        go_quiet (fail)
        go_wp2
        rw [HPo.out]
        exact ⟨by rw [if_neg (by decide)]; rfl, HB2.out _⟩
      case pos =>
        obtain ⟨x, rfl⟩ : ∃ x, l9 = [x] := List.length_eq_one_iff.1 (hn9.trans h1)
        obtain ⟨b, off, x', rfl, hx', _, hc⟩ := HTk.get (i := 0) (by omega)
        obtain rfl : x' = toI x := by simpa using hx'.symm
        obtain ⟨y0, y1, y2, _⟩ := hc _ (Below.refl _ w2)
        simp only [Nat.zero_mul, Nat.add_zero] at y1 y2
        obtain ⟨xk, xt, xa⟩ := x
        simp only [toI] at y1 y2
        have b3 : ((n9 : Int) != 1) = false := by rw [h1]; rfl
        have b4 : ((n9 : Int) == 1) = true := by rw [h1]; rfl
        have h0 : (0 : Int) < (n9 : Int) := by omega
        have h0' : 0 < n9 := by omega
        clear HTk hx' hc hn9 h1
        by_cases hk : xk = k
        · subst hk
          by_cases ht : xt.data.toList = T.data.toList
          · obtain rfl : ok = true := by rw [hok]; simp [ht]
            have b1 : (xt.toList == T.toList) = true := by rw [ByteArray.toList_eq, ByteArray.toList_eq]; exact beq_iff_eq.2 ht
            have b2 : (xt.toList != T.toList) = false := by rw [bne, b1]; rfl
            clear hok ht
            go_wp2_with fail
            go_quiet (fail)
            go_wp2
            rw [HPo.out]
            exact ⟨by rw [if_pos trivial]; exact ⟨_, rfl, HV.out⟩, HB2.out _⟩
          · obtain rfl : ok = false := by rw [hok]; simp [ht]
            have b1 : (xt.toList == T.toList) = false := by rw [ByteArray.toList_eq, ByteArray.toList_eq]; exact beq_eq_false_iff_ne.2 ht
            have b2 : (xt.toList != T.toList) = true := by rw [bne, b1]; rfl
            clear hok ht
            go_wp2_with fail
            go_quiet (fail)
            go_wp2
            rw [HPo.out]
            exact ⟨by rw [if_neg (by decide)]; rfl, HB2.out _⟩
        · obtain rfl : ok = false := by rw [hok]; simp [hk]
          have b1 : (xk != k) = true := bne_iff_ne.2 hk
          have b2 : (xk == k) = false := beq_eq_false_iff_ne.2 hk
          clear hok hk
          go_wp2_with fail
          go_quiet (fail)
          go_wp2
          rw [HPo.out]
          exact ⟨by rw [if_neg (by decide)]; rfl, HB2.out _⟩
    · obtain rfl : ok = false := by rw [hok, decide_eq_false hE]; rfl
      have b1 : (E != 0) = true := bne_iff_ne.2 hE
      have b2 : (E == 0) = false := beq_eq_false_iff_ne.2 hE
      obtain ⟨n9, hn9⟩ : ∃ n9, l9.length = n9 := ⟨_, rfl⟩
      rw [hn9]
      clear hok hE HTk hn9
      go_wp2_with fail
      go_quiet (fail)
      go_wp2
      rw [HPo.out]
      exact ⟨by rw [if_neg (by decide)]; rfl, HB2.out _⟩
end Go.Proofs.YtpjdfogieiokkaaDoor
