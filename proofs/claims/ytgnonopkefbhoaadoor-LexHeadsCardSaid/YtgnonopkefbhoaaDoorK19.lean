/- LexRemarks: its walk. -/
import Derived.Test.YtgnonopkefbhoaaDoorK18
namespace Go.Proofs.YtgnonopkefbhoaaDoor
open Go.RowKit Go.Shelf

theorem OwnL.parts {w : World} {B : Nat} {A : Option Addr} {c : Nat} {l : List MTok} (h : OwnL w B A c l) : (A = none ∧ c = 0 ∧ l = []) ∨ ∃ g, A = some ⟨g, 0, none⟩ ∧ l.length ≤ c ∧ B ≤ g := by
  rcases h.2 with ⟨e, hn⟩ | ⟨g, cap, cur, e, hb, _, hc, _⟩
  · injection e with e1 e2 e3
    exact .inl ⟨e1, e3, List.eq_nil_of_length_eq_zero hn⟩
  · injection e with e1 e2 e3
    subst e3
    exact .inr ⟨g, e1, hc, hb⟩
theorem tks_one (l : List MTok) : ∀ u ∈ tksOf l, u.oneCell' = true := by
  intro u hu
  obtain ⟨x, _, hu⟩ := List.mem_flatMap.1 hu
  simp [tcells] at hu
  rcases hu with rfl | rfl | rfl <;> rfl
/-- append to a row of tokens of one's own whatever row of tokens -/
theorem appendLL (w : World) {ops : Array Oper} {rest : List Oper} {o : Oper} {a : Act} {Q : Exit → Act → World → Prop} (hgd : o.guard = none) (s x : Operand)
    (ho : o.op = .call { callee := .builtin .append, args := #[s, x], argTypes := #[23, 23] }) (B : Nat) (A : Option Addr) (c : Nat) (l : List MTok) (n : Nat) (hn : l.length = n)
    (B2 : Nat) (A2 : Option Addr) (c2 : Nat) (l2 : List MTok) (n2 : Nat) (hn2 : l2.length = n2) (m : Nat) (hm : n + n2 = m)
    (hs : a.eval s = .slice A n c) (hown : OwnL w B A c l) (hx : a.eval x = .slice A2 n2 c2) (hown2 : OwnL w B2 A2 c2 l2) (hl : m ≤ 1000000) (hB : B ≤ w.heap.size)
    (h : ∀ A' c' w', OwnL w' B A' c' (l ++ l2) → w.grownBy w' (Value.slice A n c).ownBlock → wpList Tryd.prog ops Q rest (a.put o.dst (.slice A' m c')) w') :
    wpList Tryd.prog ops Q (o :: rest) a w := by
  subst hm
  subst hn
  subst hn2
  obtain ⟨i0, hi, hz0, hz1, hz2⟩ := info_parts infoT
  rcases hown2.parts with ⟨rfl, rfl, rfl⟩ | ⟨g, rfl, _, _⟩
  · exact wpList_append_own_none hgd s x 23 ho B 30 i0 3 Tryd.underlying23 hi (.slice A l.length c) l.length (tksOf l) hs hown hx (h A c w (by simpa using hown) ⟨rfl, rfl, rfl, Nat.le_refl _, fun _ _ _ => rfl⟩)
  · refine wpList_append_own_at _ hgd s x 23 ho B 30 i0 (.agg #[.int .i64 0, .string ByteArray.empty, .int .i64 0]) 3 32 Tryd.underlying23 hi hz0 hz1 hz2 rfl (by decide) _ l.length (tksOf l) hs hown ⟨g, 0, none⟩ l2.length c2 (tksOf l2) hx (tks_length l2) (fun j u hu => hown2.cells (g := g) rfl j u hu) (tks_one l2) (by unfold maxLen; omega) (by omega) hB ?_
    intro v' w' q1 q2 _ _
    obtain ⟨A', c', rfl⟩ := own_form q1
    refine h A' c' w' ?_ q2
    unfold OwnL
    have e : tksOf l ++ tksOf l2 = tksOf (l ++ l2) := by simp [tksOf]
    rw [e] at q1
    rw [List.length_append]
    exact q1

theorem LSaid.remarks {a b Z : ByteArray} {r : List UInt8} {wa wa' wb wb' wz wz' : World} {Aa Ab Az : Option Addr} {ca cb cz pa pb pz : Nat} {la lb lz : List MTok} {Eb Ez : Int} (qa : LSaid a wa Aa ca la 0 pa wa') (qb : LSaid b wb Ab cb lb Eb pb wb') (qz : LSaid Z wz Az cz lz Ez pz wz')
    (ha : a.size ≤ 2000) (hb : b.size ≤ 2000) (hr : ∀ c ∈ r, 32 ≤ c.toNat ∧ c.toNat ≤ 126) (hZ : Z.data.toList = a.data.toList ++ 10 :: 32 :: 59 :: (r ++ 10 :: b.data.toList)) (hz : Z.size ≤ 16384) :
    sameT false ((la ++ lb).map toI) (lz.map toI) = true ∧ Eb = Ez := by
  obtain ⟨a1, a2, _⟩ := qa.toks (by omega)
  obtain ⟨b1, b2, _⟩ := qb.toks (by omega)
  obtain ⟨z1, z2, _⟩ := qz.toks hz
  obtain ⟨h1, h2⟩ := Lx.remarks a.data.toList b.data.toList r (by rw [len_bytes]; exact ha) (by rw [len_bytes]; exact hb) hr a2.symm
  rw [← hZ] at h1 h2
  refine ⟨?_, b2.trans (h2.symm.trans z2.symm)⟩
  unfold sameT
  rw [List.map_append, List.map_append, keys_false a la, keys_false b lb, keys_false Z lz, z1, h1, a1, b1, List.map_append, decide_eq_true rfl]

set_option maxRecDepth 100000 in
set_option maxHeartbeats 3200000 in
theorem lexRemarks_walk (a b r : ByteArray) (w : World) (has : a.size ≤ maxLen) (hbs : b.size ≤ maxLen) (hrs : r.size ≤ maxLen) (hm : MaxL w) :
    Calls Tryd.prog 7 #[.string a, .string b, .string r] w fun e w' => e = .returned (.bool true) ∧ Below w.heap.size w w' := by
  have HA := Lib.hid (kawake w hm)
  have HM := Lib.hid hm
  unfold maxLen at has hbs hrs
  clear hm
  by_cases hl : 2000 < a.size ∨ 2000 < b.size ∨ 2000 < r.size
  · have hl' : (2000 : Int) < (a.size : Int) ∨ ¬ (2000 : Int) < (a.size : Int) ∧ (2000 : Int) < (b.size : Int) ∨ ¬ (2000 : Int) < (a.size : Int) ∧ ¬ (2000 : Int) < (b.size : Int) ∧ (2000 : Int) < (r.size : Int) := by omega
    clear hl
    rcases hl' with h1 | ⟨h1, h2⟩ | ⟨h1, h2, h3⟩
    all_goals
      go_enter Tryd.func7, Tryd.ntmps7
      go_wp2_with (go_at_call 9; refine HA.out.mono ?_; rintro e w1 ⟨rfl, b1⟩)
      go_ret
      exact ⟨rfl, b1⟩
  have h1 : ¬ (2000 : Int) < (a.size : Int) := by omega
  have h2 : ¬ (2000 : Int) < (b.size : Int) := by omega
  have h3 : ¬ (2000 : Int) < (r.size : Int) := by omega
  have HN : Hid (a.size ≤ 2000 ∧ b.size ≤ 2000 ∧ r.size ≤ 2000) := by show _ ∧ _; omega
  have HKa := Lib.hid fun W hW => klex a W (by omega) hW
  have HKb := Lib.hid fun W hW => klex b W (by omega) hW
  clear hl
  go_enter Tryd.func7, Tryd.ntmps7
  go_wp2_with (go_at_call 9; refine HA.out.mono ?_; rintro e w1 ⟨rfl, b1⟩; have B1 := Lib.hid b1; have HM1 := Lib.hid (HM.out.below b1); clear b1)
  go_loopw [8] (fun iv wr => ∃ i : Nat, i ≤ r.size ∧ iv = .int .i64 (i : Nat) ∧ w1 = wr ∧ Hid (∀ c ∈ r.data.toList.take i, 32 ≤ c.toNat ∧ c.toNat ≤ 126)) (fun iv _ => r.size - (intOf iv).toNat)
  case atStart => exact ⟨0, Nat.zero_le _, rfl, rfl, fun x hx => absurd hx (by simp)⟩
  case round =>
    obtain ⟨i, hi, rfl, rfl, HI⟩ := hrel
    by_cases hlt : i < r.size
    · have hlt' : (i : Int) < (r.size : Int) := by omega
      have hD := drop_at r hlt
      have hx : r.data.toList[i]? = some r[i] := by
        have := congrArg (fun l => l[0]?) hD
        simpa using this
      have HX := Lib.hid hx
      clear hD hx
      have hways : (r[i].toNat : Int) < 32 ∨ (¬ (r[i].toNat : Int) < 32 ∧ (126 : Int) < (r[i].toNat : Int)) ∨ (¬ (r[i].toNat : Int) < 32 ∧ ¬ (126 : Int) < (r[i].toNat : Int)) := by omega
      rcases hways with c1 | ⟨c1, c2⟩ | ⟨c1, c2⟩
      · clear HI
        go_wp2
        go_ret
        exact ⟨rfl, B1.out⟩
      · clear HI
        go_wp2
        go_ret
        exact ⟨rfl, B1.out⟩
      · have HN2 : Hid (∀ c ∈ r.data.toList.take (i + 1), 32 ≤ c.toNat ∧ c.toNat ≤ 126) := fun c hc => by
          rw [take_one HX.out] at hc
          rcases List.mem_append.1 hc with hc | hc
          · exact HI.out c hc
          · rw [List.mem_singleton.1 hc]
            omega
        clear HI
        go_wp2
        go_roundw
        case rel => exact ⟨i + 1, by omega, by go_num, by first | trivial | rfl, HN2⟩
        case measure => simp [intOf]; omega
    · obtain rfl : i = r.size := by omega
      have HR : Hid (∀ c ∈ r.data.toList, 32 ≤ c.toNat ∧ c.toNat ≤ 126) := by
        have := HI.out
        rw [List.take_of_length_le (by rw [len_bytes]; exact Nat.le_refl _)] at this
        exact this
      clear HI hi hlt
      go_wp2_with fail
      refine (HKa.out _ HM1.out).mono ?_
      rintro e w2 ⟨A2, c2, l2, E2, p2, rfl, q2⟩
      obtain ⟨n2, hn2⟩ : ∃ n, l2.length = n := ⟨_, rfl⟩
      rw [hn2]
      have B2 := Lib.hid (B1.out.trans (q2.below.mono B1.out.size))
      have HM2 := Lib.hid (HM1.out.below q2.below)
      by_cases hE : E2 = 0
      case neg =>
        have e1 : (E2 != 0) = true := bne_iff_ne.2 hE
        have e2 : (E2 == 0) = false := beq_eq_false_iff_ne.2 hE
        clear hE q2 hn2
        go_wp2
        go_ret
        exact ⟨rfl, B2.out⟩
      subst hE
      have Q2 := Lib.hid q2
      have N2 := Lib.hid hn2
      clear q2 hn2
      go_wp2_with fail
      refine (HKb.out _ HM2.out).mono ?_
      rintro e w3 ⟨A3, c3, l3, E3, p3, rfl, q3⟩
      obtain ⟨n3, hn3⟩ : ∃ n, l3.length = n := ⟨_, rfl⟩
      rw [hn3]
      have B3 := Lib.hid (B2.out.trans (q3.below.mono B2.out.size))
      have HM3 := Lib.hid (HM2.out.below q3.below)
      have O2 := Lib.hid (Q2.out.own.kept q3.below)
      have Q3 := Lib.hid q3
      have N3 := Lib.hid hn3
      clear q3 hn3
      have hadd : ∀ (a b : ByteArray) (W : World), a.size ≤ 8388608 → b.size ≤ 8388608 → (Op.stringOp .add a b).run Tryd.prog W = .ok (.string (a ++ b)) W := fun a b W ha hb => run_string_add W a b (by omega) (by omega)
      have a1 := fun W => hadd a ⟨#[10, 32, 59]⟩ W (by omega) (by decide)
      obtain ⟨V1, hV1⟩ : ∃ V : ByteArray, a ++ ⟨#[10, 32, 59]⟩ = V := ⟨_, rfl⟩
      obtain ⟨y1, z1⟩ := app_bytes a ⟨#[10, 32, 59]⟩
      rw [hV1] at a1 y1 z1
      have z1' : V1.size ≤ 2003 := by rw [z1]; show a.size + 3 ≤ _; omega
      have a2 := fun W => hadd V1 r W (by omega) (by omega)
      obtain ⟨V2, hV2⟩ : ∃ V : ByteArray, V1 ++ r = V := ⟨_, rfl⟩
      obtain ⟨y2, z2⟩ := app_bytes V1 r
      rw [hV2] at a2 y2 z2
      have z2' : V2.size ≤ 4003 := by omega
      have a3 := fun W => hadd V2 ⟨#[10]⟩ W (by omega) (by decide)
      obtain ⟨V3, hV3⟩ : ∃ V : ByteArray, V2 ++ ⟨#[10]⟩ = V := ⟨_, rfl⟩
      obtain ⟨y3, z3⟩ := app_bytes V2 ⟨#[10]⟩
      rw [hV3] at a3 y3 z3
      have z3' : V3.size ≤ 4004 := by rw [z3]; show V2.size + 1 ≤ _; omega
      have a4 := fun W => hadd V3 b W (by omega) (by omega)
      obtain ⟨V, hV⟩ : ∃ V : ByteArray, V3 ++ b = V := ⟨_, rfl⟩
      obtain ⟨y4, z4⟩ := app_bytes V3 b
      rw [hV] at a4 y4 z4
      have hVs : V.size ≤ 6004 := by omega
      have HV : Hid (V.data.toList = a.data.toList ++ 10 :: 32 :: 59 :: (r.data.toList ++ 10 :: b.data.toList)) := by show _ = _; rw [y4, y3, y2, y1]; simp
      have HK := Lib.hid fun W hW => klex V W (by omega) hW
      have HVS := Lib.hid hVs
      clear hadd hV1 hV2 hV3 hV y1 y2 y3 y4 z1 z2 z3 z4 z1' z2' z3' hVs
      go_wp2_with fail
      refine (HK.out _ HM3.out).mono ?_
      rintro e w4 ⟨A4, c4, l4, E4, p4, rfl, q4⟩
      obtain ⟨hsame, rfl⟩ := Q2.out.remarks Q3.out q4 HN.out.1 HN.out.2.1 HR.out HV.out (by have := HVS.out; omega)
      have B4 := Lib.hid (B3.out.trans (q4.below.mono B3.out.size))
      have O3 := Lib.hid (Q3.out.own.kept q4.below)
      have O2' := Lib.hid (O2.out.kept q4.below)
      have O4 := Lib.hid q4.own
      have f2 := Q2.out.few
      have f3 := Q3.out.few
      obtain ⟨n4, hn4⟩ : ∃ n, l4.length = n := ⟨_, rfl⟩
      have N4 := Lib.hid hn4
      obtain ⟨n5, hn5⟩ : ∃ n, n2 + n3 = n := ⟨_, rfl⟩
      have hn5' : n5 ≤ 8000 := by have := N2.out; have := N3.out; omega
      have N5 := Lib.hid hn5
      have HS := Lib.hid fun W A6 c6 (t : TokS W A6 n5 ((l2 ++ l3).map toI)) (u : TokS W A4 n4 (l4.map toI)) => rsame W A6 n5 c6 ((l2 ++ l3).map toI) A4 n4 c4 (l4.map toI) false t u (by omega)
      rw [hsame] at HS
      have HLt := Lib.hid (show n2 ≤ 4000 by have := N2.out; omega)
      rw [hn4]
      clear q4 hsame hn4 hn5 f2 f3 O2 Q2 Q3
      go_wp2_with (first
        | (go_at_call 12; refine (HS.out _ _ _ T6.out T7.out).mono ?_; rintro e w7 ⟨rfl, q, rfl⟩)
        | (at_builtin; refine appendLL _ rfl _ (.tmp 81) rfl w4.heap.size none 0 [] 0 rfl _ A2 c2 l2 n2 N2.out n2 (Nat.zero_add _) rfl (OwnL.nil _ _) rfl O2'.out (Nat.le_trans HLt.out (by decide)) (Nat.le_refl _) ?_; intro A5 c5 w5 o5 g5; have O5 := Lib.hid o5; have b5 := (Below.refl w4.heap.size w4).grown g5 (Nat.le_refl _) (fun q hq => by cases hq); have B5 := Lib.hid b5; have O35 := Lib.hid (O3.out.kept b5); clear o5 g5 b5)
        | (at_builtin; refine appendLL _ rfl (.tmp 83) (.tmp 84) rfl w4.heap.size A5 c5 l2 n2 N2.out _ A3 c3 l3 n3 N3.out n5 N5.out rfl O5.out rfl O35.out (by omega) B5.out.size ?_; intro A6 c6 w6 o6 g6; have b6 := B5.out.grown g6 B5.out.size (fun q hq => (O5.out.lt q (by rw [List.nil_append, N2.out]; exact hq)).1); have T6 := Lib.hid (show TokS w6 A6 n5 ((l2 ++ l3).map toI) by have := o6.toks; rw [List.length_append, N2.out, N3.out, N5.out] at this; exact this); have T7 := Lib.hid (show TokS w6 A4 n4 (l4.map toI) by have := (O4.out.kept b6).toks; rw [N4.out] at this; exact this); have B6 := Lib.hid (B4.out.trans (b6.mono B4.out.size)); clear o6 g6 b6))
      go_ret
      exact ⟨rfl, B6.out.trans ((Turn.none_ ((Turn.refl (fun _ => False) _).drewN _) (fun _ => id)).mono B6.out.size)⟩
end Go.Proofs.YtgnonopkefbhoaaDoor
