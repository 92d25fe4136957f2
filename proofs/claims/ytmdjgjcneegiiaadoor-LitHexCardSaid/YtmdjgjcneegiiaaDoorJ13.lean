/- The law LitHex. -/
import Derived.Test.YtmdjgjcneegiiaaDoorJ9
namespace Go.Proofs.YtmdjgjcneegiiaaDoor
open Go.RowKit

theorem Lt.val_from : ∀ (l : List UInt8) (n : Nat), Lt.val n l = (Lt.val 0 l).map fun r => n * 16 ^ l.length + r
  | [], n => by simp [Lt.val]
  | c :: t, n => by
    cases h : Lt.dig c with
    | none => rw [Lt.val_none _ h, Lt.val_none _ h]; rfl
    | some d =>
      rw [Lt.val_some _ h, Lt.val_some _ h, Lt.val_from t (n * 16 + d), Lt.val_from t (0 * 16 + d), Option.map_map]
      congr 1
      funext r
      simp only [Function.comp, List.length_cons, Nat.pow_succ]
      rw [Nat.zero_mul, Nat.zero_add, Nat.add_mul, Nat.mul_assoc, Nat.mul_comm 16 (16 ^ t.length), Nat.add_assoc]
theorem Lt.val_zero (l : List UInt8) : Lt.val 0 (48 :: l) = Lt.val 0 l := by
  rw [Lt.val_some (d := 0) _ (by decide)]
/-- one digit more ahead -/
theorem Lt.val_more {c : UInt8} {l : List UInt8} {m k : Nat} (hk : l.length = k) (h : Lt.val 0 l = some (m % 16 ^ k)) (hc : Lt.dig c = some (m / 16 ^ k % 16)) : Lt.val 0 (c :: l) = some (m % 16 ^ (k + 1)) := by
  rw [Lt.val_some _ hc, Lt.val_from, h, hk, Option.map_some, Nat.mod_pow_succ]
  congr 1
  rw [Nat.zero_mul, Nat.zero_add, Nat.mul_comm, Nat.add_comm]
theorem Lt.hexL_cut (i : Nat) (h : i < 16) : ∃ d, (⟨#[48, 49, 50, 51, 52, 53, 54, 55, 56, 57, 97, 98, 99, 100, 101, 102]⟩ : ByteArray).extract i (i + 1) = ⟨#[d]⟩ ∧ Lt.dig d = some i := by
  have : ∀ i : Fin 16, (((⟨#[48, 49, 50, 51, 52, 53, 54, 55, 56, 57, 97, 98, 99, 100, 101, 102]⟩ : ByteArray).extract i.1 (i.1 + 1)).data.toList.length = 1 ∧ (((⟨#[48, 49, 50, 51, 52, 53, 54, 55, 56, 57, 97, 98, 99, 100, 101, 102]⟩ : ByteArray).extract i.1 (i.1 + 1)).data.toList.head?.bind Lt.dig) = some i.1) := by decide +kernel
  obtain ⟨h1, h2⟩ := this ⟨i, h⟩
  generalize (⟨#[48, 49, 50, 51, 52, 53, 54, 55, 56, 57, 97, 98, 99, 100, 101, 102]⟩ : ByteArray).extract i (i + 1) = E at h1 h2
  match hE : E.data.toList, h1 with
  | [d], _ =>
    rw [hE] at h2
    exact ⟨d, Lt.bytes_eq hE, by simpa using h2⟩
theorem Lt.hexU_cut (i : Nat) (h : i < 16) : ∃ d, (⟨#[48, 49, 50, 51, 52, 53, 54, 55, 56, 57, 65, 66, 67, 68, 69, 70]⟩ : ByteArray).extract i (i + 1) = ⟨#[d]⟩ ∧ Lt.dig d = some i := by
  have : ∀ i : Fin 16, (((⟨#[48, 49, 50, 51, 52, 53, 54, 55, 56, 57, 65, 66, 67, 68, 69, 70]⟩ : ByteArray).extract i.1 (i.1 + 1)).data.toList.length = 1 ∧ (((⟨#[48, 49, 50, 51, 52, 53, 54, 55, 56, 57, 65, 66, 67, 68, 69, 70]⟩ : ByteArray).extract i.1 (i.1 + 1)).data.toList.head?.bind Lt.dig) = some i.1) := by decide +kernel
  obtain ⟨h1, h2⟩ := this ⟨i, h⟩
  generalize (⟨#[48, 49, 50, 51, 52, 53, 54, 55, 56, 57, 65, 66, 67, 68, 69, 70]⟩ : ByteArray).extract i (i + 1) = E at h1 h2
  match hE : E.data.toList, h1 with
  | [d], _ =>
    rw [hE] at h2
    exact ⟨d, Lt.bytes_eq hE, by simpa using h2⟩

set_option maxRecDepth 100000 in
set_option maxHeartbeats 1600000 in
theorem litHex_walk (w : World) (z : Int) (big : Bool) (p : Int) (hG : Gl w) :
    Calls Tryd.prog 9 #[.int .i64 z, .bool big, .int .i64 p] w fun e w' => e = .returned (.bool true) ∧ Below w.heap.size w w' := by
  have HA := Lib.hid (kawake7 w hG)
  have HGl := Lib.hid hG
  clear hG
  by_cases hout : z < 0 ∨ 196607 < z ∨ p < 0 ∨ 5 < p
  · have hw : z < 0 ∨ ¬ z < 0 ∧ 196607 < z ∨ ¬ z < 0 ∧ ¬ 196607 < z ∧ p < 0 ∨ ¬ z < 0 ∧ ¬ 196607 < z ∧ ¬ p < 0 ∧ 5 < p := by omega
    clear hout
    rcases hw with h1 | ⟨h1, h2⟩ | ⟨h1, h2, h3⟩ | ⟨h1, h2, h3, h4⟩
    all_goals
      go_enter Tryd.func9, Tryd.ntmps9
      go_wp2_with (go_at_call 10; refine HA.out.mono ?_; rintro e w1 ⟨rfl, b1⟩)
      go_ret
      exact ⟨rfl, b1⟩
  obtain ⟨m, rfl⟩ : ∃ m : Nat, z = (m : Int) := ⟨z.toNat, by omega⟩
  have hm : m ≤ 196607 := by omega
  have g1 : ¬ (m : Int) < 0 := by omega
  have g2 : ¬ (196607 : Int) < (m : Int) := by omega
  have g3 : ¬ p < 0 := by omega
  have g4 : ¬ 5 < p := by omega
  have HP := Lib.hid fun (T : ByteArray) (hT : T.size ≤ 100) W (hW : Below w.heap.size w W) => kpoints7 T W (by omega) (HGl.out.below hW)
  have HI : Hid (∀ W A c, NumS W A 1 [(m : Int)] → ∀ W2, W2 = W.alloc (.cells #[.int .i64 (m : Int)] 3) → Calls Tryd.prog 11 #[.slice A 1 c, .slice (some ⟨W.heap.size, 0, none⟩) 1 1] W2 fun e w' => e = .returned (.bool true) ∧ Below W.heap.size W w') := fun W A c hA W2 h2 => by
    subst h2
    have k := (Below.refl _ W).alloc (Nat.le_refl _) (.cells #[.int .i64 (m : Int)] 3)
    have h := rints _ A 1 c _ (some ⟨W.heap.size, 0, none⟩) 1 1 _ (hA.below k) (NumS.lit W [(m : Int)]) (by decide)
    rw [sameN_self] at h
    exact h.mono fun e w' ⟨h1, h2⟩ => ⟨h1, k.trans (h2.mono k.size)⟩
  have HAdd : Hid (∀ (a b : ByteArray) (W : World), a.size ≤ 8388608 → b.size ≤ 8388608 → (Op.stringOp .add a b).run Tryd.prog W = .ok (.string (a ++ b)) W) := fun a b W ha hb => run_string_add W a b (by omega) (by omega)
  have HSl := Lib.hid fun (S : ByteArray) (x y : Nat) hy hx W => Lt.slice_both S x y hy hx W
  clear hout
  cases big
  all_goals
    go_enter Tryd.func9, Tryd.ntmps9
    go_wp2_with (go_at_call 10; refine HA.out.mono ?_; rintro e w1 ⟨rfl, b1⟩)
    have B1 := Lib.hid b1
    clear b1 HA
    have HDD : Hid (((⟨#[48, 49, 50, 51, 52, 53, 54, 55, 56, 57, 97, 98, 99, 100, 101, 102]⟩ : ByteArray).size = 16 ∧ ∀ i, i < 16 → ∃ d, (⟨#[48, 49, 50, 51, 52, 53, 54, 55, 56, 57, 97, 98, 99, 100, 101, 102]⟩ : ByteArray).extract i (i + 1) = ⟨#[d]⟩ ∧ Lt.dig d = some i) ∧
        ((⟨#[48, 49, 50, 51, 52, 53, 54, 55, 56, 57, 65, 66, 67, 68, 69, 70]⟩ : ByteArray).size = 16 ∧ ∀ i, i < 16 → ∃ d, (⟨#[48, 49, 50, 51, 52, 53, 54, 55, 56, 57, 65, 66, 67, 68, 69, 70]⟩ : ByteArray).extract i (i + 1) = ⟨#[d]⟩ ∧ Lt.dig d = some i)) := ⟨⟨rfl, Lt.hexL_cut⟩, ⟨rfl, Lt.hexU_cut⟩⟩
  · have HD := Lib.hid HDD.out.1
    clear HDD
    generalize (⟨#[48, 49, 50, 51, 52, 53, 54, 55, 56, 57, 97, 98, 99, 100, 101, 102]⟩ : ByteArray) = D at HD ⊢
    go_loopw [9, 10] (fun sv qv wr => ∃ (T : ByteArray) (q : Nat), sv = .string T ∧ qv = .int .i64 (q : Nat) ∧ wr = w1 ∧ T.size ≤ 5 ∧ q ≤ 196607 ∧ Hid (Lt.val 0 T.data.toList = some (m % 16 ^ T.size) ∧ q = m / 16 ^ T.size)) (fun sv qv _ => (match sv with | .string T => if T.size = 0 then 1 else 0 | _ => 0) + (intOf qv).toNat)
    case atStart => exact ⟨⟨#[]⟩, m, rfl, rfl, rfl, by decide, hm, by show Lt.val 0 [] = some (m % 1); rw [Nat.mod_one]; rfl, by show m = m / 1; rw [Nat.div_one]⟩
    case round =>
      obtain ⟨T, q, rfl, rfl, rfl, hT5, hqm, HJ⟩ := hrel
      by_cases hgo : 0 < q ∨ T.size = 0
      · have hT4 : T.size ≤ 4 := by
          rcases hgo with h | h
          · by_cases h5 : T.size = 5
            · have := HJ.out.2
              rw [h5] at this
              omega
            · omega
          · omega
        have hq16 : q % 16 < 16 := Nat.mod_lt _ (by decide)
        obtain ⟨d, hd1, hd2⟩ := HD.out.2 (q % 16) hq16
        have hD16 := HD.out.1
        have e2 : (q : Int) % 16 = ((q % 16 : Nat) : Int) := by omega
        have e1 : (q : Int) / 16 = ((q / 16 : Nat) : Int) := by omega
        have hsl := fun W => HSl.out D (q % 16) (q % 16 + 1) (by omega) (by omega) W
        rw [hd1] at hsl
        have hcast : (((q % 16 + 1 : Nat)) : Int) = ((q % 16 : Nat) : Int) + 1 := by omega
        rw [hcast] at hsl
        obtain ⟨y1, y2⟩ := Lt.app_bytes ⟨#[d]⟩ T
        have hadd := fun W => HAdd.out ⟨#[d]⟩ T W (by show 1 ≤ 8388608; decide) (by omega)
        have y2' : ((⟨#[d]⟩ : ByteArray) ++ T).size = 1 + T.size := y2
        have HN : Hid (Lt.val 0 ((⟨#[d]⟩ : ByteArray) ++ T).data.toList = some (m % 16 ^ ((⟨#[d]⟩ : ByteArray) ++ T).size) ∧ q / 16 = m / 16 ^ ((⟨#[d]⟩ : ByteArray) ++ T).size) := by
          obtain ⟨v1, v2⟩ := HJ.out
          show _ ∧ _
          rw [y2', y1, Nat.add_comm 1]
          refine ⟨Lt.val_more (Lt.len_bytes T) v1 (by rw [← v2]; exact hd2), ?_⟩
          rw [v2, Nat.div_div_eq_div_mul, Nat.pow_succ]
        generalize (⟨#[d]⟩ : ByteArray) ++ T = T1 at y1 y2 y2' hadd HN
        have hT1s : T1.size ≤ 5 := by omega
        have hmeas : (if T1.size = 0 then 1 else 0) + q / 16 < (if T.size = 0 then 1 else 0) + q := by
          rw [if_neg (by omega)]
          rcases hgo with h | h
          · split <;> omega
          · rw [if_pos h]
            omega
        have hq16' : q / 16 ≤ 196607 := by omega
        have hn0 : (0 : Int) ≤ (q : Int) := by omega
        have hqi : (q : Int) < 1000000 := by omega
        generalize hq1 : q / 16 = q1 at e1 HN hmeas hq16'
        generalize hr1 : q % 16 = r1 at hd1 hd2 e2 hsl hcast hq16
        have e3 : IntKind.i64.wrap (q1 : Int) = (q1 : Int) := IntWalk.i64_in _ (by omega)
        have hr16 : (r1 : Int) < 16 := by omega
        have hway : 0 < q ∨ ¬ 0 < q ∧ (T.toList == []) = true := by
          rcases hgo with h | h
          · exact .inl h
          · by_cases h0 : 0 < q
            · exact .inl h0
            · refine .inr ⟨by omega, ?_⟩
              rw [ByteArray.toList_eq, List.eq_nil_of_length_eq_zero ((Lt.len_bytes T).trans h)]
              rfl
        clear HJ hgo hd1 hd2 y1 y2 y2' hcast hq1 hr1 hq16
        rcases hway with h0 | ⟨hq0, h0⟩
        all_goals
          go_wp2
          go_roundw
          case rel => exact ⟨T1, q1, rfl, by go_num, by first | rfl | trivial, hT1s, hq16', HN.out⟩
          case measure => simpa [intOf] using hmeas
      · have hq0 : q = 0 := by omega
        subst hq0
        have hT0 : 0 < T.size := by omega
        have hne : (T.toList == []) = false := by
          rw [ByteArray.toList_eq]
          refine beq_eq_false_iff_ne.2 fun e => ?_
          have := Lt.len_bytes T
          rw [e] at this
          simp at this
          omega
        have HV : Hid (Lt.val 0 T.data.toList = some m) := by
          obtain ⟨v1, v2⟩ := HJ.out
          show _ = _
          have hlt : m < 16 ^ T.size := by
            rcases Nat.lt_or_ge m (16 ^ T.size) with h | h
            · exact h
            · exact absurd v2.symm (Nat.pos_iff_ne_zero.1 (Nat.div_pos h (Nat.pow_pos (by decide))))
          rw [v1, Nat.mod_eq_of_lt hlt]
        clear HJ hgo HD HSl
        go_wp2
        obtain ⟨wq, hwq⟩ : ∃ W, W = wr := ⟨_, rfl⟩
        rw [← hwq] at B1
        go_loopw [9] (fun sv w2 => ∃ (T : ByteArray), sv = .string T ∧ w2 = wq ∧ 0 < T.size ∧ T.size ≤ 5 ∧ Hid (Lt.val 0 T.data.toList = some m)) (fun sv _ => match sv with | .string T => 5 - T.size | _ => 0)
        case atStart => exact ⟨T, rfl, hwq.symm, hT0, hT5, HV.out⟩
        case round =>
          clear hwq hT0 hT5 hne HV
          obtain ⟨T, rfl, rfl, hT0, hT5, HV⟩ := hrel
          by_cases hpad : (T.size : Int) < p
          · obtain ⟨y1, y2⟩ := Lt.app_bytes ⟨#[48]⟩ T
            have hadd := fun W => HAdd.out ⟨#[48]⟩ T W (by decide) (by omega)
            have y2' : ((⟨#[48]⟩ : ByteArray) ++ T).size = 1 + T.size := y2
            have HV2 : Hid (Lt.val 0 ((⟨#[48]⟩ : ByteArray) ++ T).data.toList = some m) := by
              show _ = _
              rw [y1]
              show Lt.val 0 (48 :: T.data.toList) = _
              rw [Lt.val_zero]
              exact HV.out
            generalize (⟨#[48]⟩ : ByteArray) ++ T = T1 at y1 y2 y2' hadd HV2
            have hT1 : 0 < T1.size := by omega
            have hT15 : T1.size ≤ 5 := by omega
            have hmeas : 5 - T1.size < 5 - T.size := by omega
            clear y1 y2 y2' HV HP HI
            go_wp2
            go_roundw
            case rel => exact ⟨T1, rfl, by first | rfl | trivial, hT1, hT15, HV2.out⟩
            case measure => simpa [intOf] using hmeas
          · obtain ⟨y1, y2⟩ := Lt.app_bytes ⟨#[92, 117, 123]⟩ T
            have a1 := fun W => HAdd.out ⟨#[92, 117, 123]⟩ T W (by decide) (by omega)
            have y2' : ((⟨#[92, 117, 123]⟩ : ByteArray) ++ T).size = 3 + T.size := y2
            generalize (⟨#[92, 117, 123]⟩ : ByteArray) ++ T = V1 at y1 y2 y2' a1
            obtain ⟨y3, y4⟩ := Lt.app_bytes V1 ⟨#[125]⟩
            have a2 := fun W => HAdd.out V1 ⟨#[125]⟩ W (by omega) (by decide)
            have y4' : (V1 ++ (⟨#[125]⟩ : ByteArray)).size = V1.size + 1 := y4
            generalize V1 ++ (⟨#[125]⟩ : ByteArray) = V2 at y3 y4 y4' a2
            have hne0 : T.data.toList ≠ [] := fun e => by
              have := Lt.len_bytes T
              rw [e] at this
              simp at this
              omega
            have hpts : Lt.pts V2.data.toList = [(m : Int)] := by
              have hT5' : T.data.toList.length ≤ 5 := by rw [Lt.len_bytes]; exact hT5
              rw [y3, y1]
              exact Lt.pts_braces HV.out hne0 hT5' hm
            have HPt := Lib.hid fun W hW => HP.out V2 (by omega) W hW
            rw [hpts] at HPt
            unfold PtsSaid at HPt
            clear y1 y2 y2' y3 y4 y4' hne0 hpts
            go_wp2_with fail
            refine (HPt.out _ B1.out).mono ?_
            rintro e w3 ⟨⟨A3, c3, rfl, o3⟩, b3⟩
            have B3 := Lib.hid (B1.out.trans (b3.mono B1.out.size))
            have HIn := Lib.hid (HI.out w3 A3 c3 (o3.nums rfl) _ rfl)
            clear b3 o3 HPt a1 a2
            go_wp2_with fail
            refine HIn.out.mono ?_
            rintro e w4 ⟨rfl, b4⟩
            have B4 := Lib.hid (B3.out.trans (b4.mono B3.out.size))
            have HI2 := Lib.hid HI.out
            clear b4 HIn
            go_wp2
            obtain ⟨wp, hwp⟩ : ∃ W, W = w4 := ⟨_, rfl⟩
            rw [← hwp] at B4
            go_loopw [9] (fun sv w5 => ∃ (T : ByteArray), sv = .string T ∧ w5 = wp ∧ T.size ≤ 5 ∧ Hid (Lt.val 0 T.data.toList = some m)) (fun sv _ => match sv with | .string T => 5 - T.size | _ => 0)
            case atStart => exact ⟨T, rfl, hwp.symm, hT5, HV.out⟩
            case round =>
              clear hwp hT0 hT5 HV hpad HI
              obtain ⟨T, rfl, rfl, hT5, HV⟩ := hrel
              by_cases hpad : (T.size : Int) < 4
              · obtain ⟨y1, y2⟩ := Lt.app_bytes ⟨#[48]⟩ T
                have hadd := fun W => HAdd.out ⟨#[48]⟩ T W (by decide) (by omega)
                have y2' : ((⟨#[48]⟩ : ByteArray) ++ T).size = 1 + T.size := y2
                have HV2 : Hid (Lt.val 0 ((⟨#[48]⟩ : ByteArray) ++ T).data.toList = some m) := by
                  show _ = _
                  rw [y1]
                  show Lt.val 0 (48 :: T.data.toList) = _
                  rw [Lt.val_zero]
                  exact HV.out
                generalize (⟨#[48]⟩ : ByteArray) ++ T = T1 at y1 y2 y2' hadd HV2
                have hT15 : T1.size ≤ 5 := by omega
                have hmeas : 5 - T1.size < 5 - T.size := by omega
                have hpadN : T.size < 4 := by omega
                clear y1 y2 y2' HV HP
                go_wp2
                go_roundw
                case rel => exact ⟨T1, rfl, by first | rfl | trivial, hT15, HV2.out⟩
                case measure => simpa [intOf] using hmeas
              · by_cases h4 : T.size = 4
                · obtain ⟨y1, y2⟩ := Lt.app_bytes ⟨#[92, 117]⟩ T
                  have a1 := fun W => HAdd.out ⟨#[92, 117]⟩ T W (by decide) (by omega)
                  have y2' : ((⟨#[92, 117]⟩ : ByteArray) ++ T).size = 2 + T.size := y2
                  generalize (⟨#[92, 117]⟩ : ByteArray) ++ T = V1 at y1 y2 y2' a1
                  have hpts : Lt.pts V1.data.toList = [(m : Int)] := by
                    have hl4 : T.data.toList.length = 4 := by rw [Lt.len_bytes]; exact h4
                    rw [y1]
                    exact Lt.pts_four HV.out hl4 hm
                  have HPt := Lib.hid fun W hW => HP.out V1 (by omega) W hW
                  rw [hpts] at HPt
                  unfold PtsSaid at HPt
                  have h4n : ¬ T.size < 4 := by omega
                  have h4g : ¬ 4 < T.size := by omega
                  clear y1 y2 y2' hpts
                  go_wp2_with fail
                  refine (HPt.out _ B4.out).mono ?_
                  rintro e w6 ⟨⟨A6, c6, rfl, o6⟩, b6⟩
                  have B6 := Lib.hid (B4.out.trans (b6.mono B4.out.size))
                  have HIn := Lib.hid (HI2.out w6 A6 c6 (o6.nums rfl) _ rfl)
                  clear b6 o6 HPt a1
                  go_wp2_with (go_at_call 11; refine HIn.out.mono ?_; rintro e w7 ⟨rfl, b7⟩)
                  go_ret
                  exact ⟨rfl, B6.out.trans (b7.mono B6.out.size)⟩
                · have h4n : ¬ T.size < 4 := by omega
                  have h4g : (4 : Int) < (T.size : Int) := by omega
                  clear HP HI2
                  go_wp2
                  go_ret
                  exact ⟨rfl, B4.out⟩
  · have HD := Lib.hid HDD.out.2
    clear HDD
    generalize (⟨#[48, 49, 50, 51, 52, 53, 54, 55, 56, 57, 65, 66, 67, 68, 69, 70]⟩ : ByteArray) = D at HD ⊢
    go_loopw [9, 10] (fun sv qv wr => ∃ (T : ByteArray) (q : Nat), sv = .string T ∧ qv = .int .i64 (q : Nat) ∧ wr = w1 ∧ T.size ≤ 5 ∧ q ≤ 196607 ∧ Hid (Lt.val 0 T.data.toList = some (m % 16 ^ T.size) ∧ q = m / 16 ^ T.size)) (fun sv qv _ => (match sv with | .string T => if T.size = 0 then 1 else 0 | _ => 0) + (intOf qv).toNat)
    case atStart => exact ⟨⟨#[]⟩, m, rfl, rfl, rfl, by decide, hm, by show Lt.val 0 [] = some (m % 1); rw [Nat.mod_one]; rfl, by show m = m / 1; rw [Nat.div_one]⟩
    case round =>
      obtain ⟨T, q, rfl, rfl, rfl, hT5, hqm, HJ⟩ := hrel
      by_cases hgo : 0 < q ∨ T.size = 0
      · have hT4 : T.size ≤ 4 := by
          rcases hgo with h | h
          · by_cases h5 : T.size = 5
            · have := HJ.out.2
              rw [h5] at this
              omega
            · omega
          · omega
        have hq16 : q % 16 < 16 := Nat.mod_lt _ (by decide)
        obtain ⟨d, hd1, hd2⟩ := HD.out.2 (q % 16) hq16
        have hD16 := HD.out.1
        have e2 : (q : Int) % 16 = ((q % 16 : Nat) : Int) := by omega
        have e1 : (q : Int) / 16 = ((q / 16 : Nat) : Int) := by omega
        have hsl := fun W => HSl.out D (q % 16) (q % 16 + 1) (by omega) (by omega) W
        rw [hd1] at hsl
        have hcast : (((q % 16 + 1 : Nat)) : Int) = ((q % 16 : Nat) : Int) + 1 := by omega
        rw [hcast] at hsl
        obtain ⟨y1, y2⟩ := Lt.app_bytes ⟨#[d]⟩ T
        have hadd := fun W => HAdd.out ⟨#[d]⟩ T W (by show 1 ≤ 8388608; decide) (by omega)
        have y2' : ((⟨#[d]⟩ : ByteArray) ++ T).size = 1 + T.size := y2
        have HN : Hid (Lt.val 0 ((⟨#[d]⟩ : ByteArray) ++ T).data.toList = some (m % 16 ^ ((⟨#[d]⟩ : ByteArray) ++ T).size) ∧ q / 16 = m / 16 ^ ((⟨#[d]⟩ : ByteArray) ++ T).size) := by
          obtain ⟨v1, v2⟩ := HJ.out
          show _ ∧ _
          rw [y2', y1, Nat.add_comm 1]
          refine ⟨Lt.val_more (Lt.len_bytes T) v1 (by rw [← v2]; exact hd2), ?_⟩
          rw [v2, Nat.div_div_eq_div_mul, Nat.pow_succ]
        generalize (⟨#[d]⟩ : ByteArray) ++ T = T1 at y1 y2 y2' hadd HN
        have hT1s : T1.size ≤ 5 := by omega
        have hmeas : (if T1.size = 0 then 1 else 0) + q / 16 < (if T.size = 0 then 1 else 0) + q := by
          rw [if_neg (by omega)]
          rcases hgo with h | h
          · split <;> omega
          · rw [if_pos h]
            omega
        have hq16' : q / 16 ≤ 196607 := by omega
        have hn0 : (0 : Int) ≤ (q : Int) := by omega
        have hqi : (q : Int) < 1000000 := by omega
        generalize hq1 : q / 16 = q1 at e1 HN hmeas hq16'
        generalize hr1 : q % 16 = r1 at hd1 hd2 e2 hsl hcast hq16
        have e3 : IntKind.i64.wrap (q1 : Int) = (q1 : Int) := IntWalk.i64_in _ (by omega)
        have hr16 : (r1 : Int) < 16 := by omega
        have hway : 0 < q ∨ ¬ 0 < q ∧ (T.toList == []) = true := by
          rcases hgo with h | h
          · exact .inl h
          · by_cases h0 : 0 < q
            · exact .inl h0
            · refine .inr ⟨by omega, ?_⟩
              rw [ByteArray.toList_eq, List.eq_nil_of_length_eq_zero ((Lt.len_bytes T).trans h)]
              rfl
        clear HJ hgo hd1 hd2 y1 y2 y2' hcast hq1 hr1 hq16
        rcases hway with h0 | ⟨hq0, h0⟩
        all_goals
          go_wp2
          go_roundw
          case rel => exact ⟨T1, q1, rfl, by go_num, by first | rfl | trivial, hT1s, hq16', HN.out⟩
          case measure => simpa [intOf] using hmeas
      · have hq0 : q = 0 := by omega
        subst hq0
        have hT0 : 0 < T.size := by omega
        have hne : (T.toList == []) = false := by
          rw [ByteArray.toList_eq]
          refine beq_eq_false_iff_ne.2 fun e => ?_
          have := Lt.len_bytes T
          rw [e] at this
          simp at this
          omega
        have HV : Hid (Lt.val 0 T.data.toList = some m) := by
          obtain ⟨v1, v2⟩ := HJ.out
          show _ = _
          have hlt : m < 16 ^ T.size := by
            rcases Nat.lt_or_ge m (16 ^ T.size) with h | h
            · exact h
            · exact absurd v2.symm (Nat.pos_iff_ne_zero.1 (Nat.div_pos h (Nat.pow_pos (by decide))))
          rw [v1, Nat.mod_eq_of_lt hlt]
        clear HJ hgo HD HSl
        go_wp2
        obtain ⟨wq, hwq⟩ : ∃ W, W = wr := ⟨_, rfl⟩
        rw [← hwq] at B1
        go_loopw [9] (fun sv w2 => ∃ (T : ByteArray), sv = .string T ∧ w2 = wq ∧ 0 < T.size ∧ T.size ≤ 5 ∧ Hid (Lt.val 0 T.data.toList = some m)) (fun sv _ => match sv with | .string T => 5 - T.size | _ => 0)
        case atStart => exact ⟨T, rfl, hwq.symm, hT0, hT5, HV.out⟩
        case round =>
          clear hwq hT0 hT5 hne HV
          obtain ⟨T, rfl, rfl, hT0, hT5, HV⟩ := hrel
          by_cases hpad : (T.size : Int) < p
          · obtain ⟨y1, y2⟩ := Lt.app_bytes ⟨#[48]⟩ T
            have hadd := fun W => HAdd.out ⟨#[48]⟩ T W (by decide) (by omega)
            have y2' : ((⟨#[48]⟩ : ByteArray) ++ T).size = 1 + T.size := y2
            have HV2 : Hid (Lt.val 0 ((⟨#[48]⟩ : ByteArray) ++ T).data.toList = some m) := by
              show _ = _
              rw [y1]
              show Lt.val 0 (48 :: T.data.toList) = _
              rw [Lt.val_zero]
              exact HV.out
            generalize (⟨#[48]⟩ : ByteArray) ++ T = T1 at y1 y2 y2' hadd HV2
            have hT1 : 0 < T1.size := by omega
            have hT15 : T1.size ≤ 5 := by omega
            have hmeas : 5 - T1.size < 5 - T.size := by omega
            clear y1 y2 y2' HV HP HI
            go_wp2
            go_roundw
            case rel => exact ⟨T1, rfl, by first | rfl | trivial, hT1, hT15, HV2.out⟩
            case measure => simpa [intOf] using hmeas
          · obtain ⟨y1, y2⟩ := Lt.app_bytes ⟨#[92, 117, 123]⟩ T
            have a1 := fun W => HAdd.out ⟨#[92, 117, 123]⟩ T W (by decide) (by omega)
            have y2' : ((⟨#[92, 117, 123]⟩ : ByteArray) ++ T).size = 3 + T.size := y2
            generalize (⟨#[92, 117, 123]⟩ : ByteArray) ++ T = V1 at y1 y2 y2' a1
            obtain ⟨y3, y4⟩ := Lt.app_bytes V1 ⟨#[125]⟩
            have a2 := fun W => HAdd.out V1 ⟨#[125]⟩ W (by omega) (by decide)
            have y4' : (V1 ++ (⟨#[125]⟩ : ByteArray)).size = V1.size + 1 := y4
            generalize V1 ++ (⟨#[125]⟩ : ByteArray) = V2 at y3 y4 y4' a2
            have hne0 : T.data.toList ≠ [] := fun e => by
              have := Lt.len_bytes T
              rw [e] at this
              simp at this
              omega
            have hpts : Lt.pts V2.data.toList = [(m : Int)] := by
              have hT5' : T.data.toList.length ≤ 5 := by rw [Lt.len_bytes]; exact hT5
              rw [y3, y1]
              exact Lt.pts_braces HV.out hne0 hT5' hm
            have HPt := Lib.hid fun W hW => HP.out V2 (by omega) W hW
            rw [hpts] at HPt
            unfold PtsSaid at HPt
            clear y1 y2 y2' y3 y4 y4' hne0 hpts
            go_wp2_with fail
            refine (HPt.out _ B1.out).mono ?_
            rintro e w3 ⟨⟨A3, c3, rfl, o3⟩, b3⟩
            have B3 := Lib.hid (B1.out.trans (b3.mono B1.out.size))
            have HIn := Lib.hid (HI.out w3 A3 c3 (o3.nums rfl) _ rfl)
            clear b3 o3 HPt a1 a2
            go_wp2_with fail
            refine HIn.out.mono ?_
            rintro e w4 ⟨rfl, b4⟩
            have B4 := Lib.hid (B3.out.trans (b4.mono B3.out.size))
            have HI2 := Lib.hid HI.out
            clear b4 HIn
            go_wp2
            obtain ⟨wp, hwp⟩ : ∃ W, W = w4 := ⟨_, rfl⟩
            rw [← hwp] at B4
            go_loopw [9] (fun sv w5 => ∃ (T : ByteArray), sv = .string T ∧ w5 = wp ∧ T.size ≤ 5 ∧ Hid (Lt.val 0 T.data.toList = some m)) (fun sv _ => match sv with | .string T => 5 - T.size | _ => 0)
            case atStart => exact ⟨T, rfl, hwp.symm, hT5, HV.out⟩
            case round =>
              clear hwp hT0 hT5 HV hpad HI
              obtain ⟨T, rfl, rfl, hT5, HV⟩ := hrel
              by_cases hpad : (T.size : Int) < 4
              · obtain ⟨y1, y2⟩ := Lt.app_bytes ⟨#[48]⟩ T
                have hadd := fun W => HAdd.out ⟨#[48]⟩ T W (by decide) (by omega)
                have y2' : ((⟨#[48]⟩ : ByteArray) ++ T).size = 1 + T.size := y2
                have HV2 : Hid (Lt.val 0 ((⟨#[48]⟩ : ByteArray) ++ T).data.toList = some m) := by
                  show _ = _
                  rw [y1]
                  show Lt.val 0 (48 :: T.data.toList) = _
                  rw [Lt.val_zero]
                  exact HV.out
                generalize (⟨#[48]⟩ : ByteArray) ++ T = T1 at y1 y2 y2' hadd HV2
                have hT15 : T1.size ≤ 5 := by omega
                have hmeas : 5 - T1.size < 5 - T.size := by omega
                have hpadN : T.size < 4 := by omega
                clear y1 y2 y2' HV HP
                go_wp2
                go_roundw
                case rel => exact ⟨T1, rfl, by first | rfl | trivial, hT15, HV2.out⟩
                case measure => simpa [intOf] using hmeas
              · by_cases h4 : T.size = 4
                · obtain ⟨y1, y2⟩ := Lt.app_bytes ⟨#[92, 117]⟩ T
                  have a1 := fun W => HAdd.out ⟨#[92, 117]⟩ T W (by decide) (by omega)
                  have y2' : ((⟨#[92, 117]⟩ : ByteArray) ++ T).size = 2 + T.size := y2
                  generalize (⟨#[92, 117]⟩ : ByteArray) ++ T = V1 at y1 y2 y2' a1
                  have hpts : Lt.pts V1.data.toList = [(m : Int)] := by
                    have hl4 : T.data.toList.length = 4 := by rw [Lt.len_bytes]; exact h4
                    rw [y1]
                    exact Lt.pts_four HV.out hl4 hm
                  have HPt := Lib.hid fun W hW => HP.out V1 (by omega) W hW
                  rw [hpts] at HPt
                  unfold PtsSaid at HPt
                  have h4n : ¬ T.size < 4 := by omega
                  have h4g : ¬ 4 < T.size := by omega
                  clear y1 y2 y2' hpts
                  go_wp2_with fail
                  refine (HPt.out _ B4.out).mono ?_
                  rintro e w6 ⟨⟨A6, c6, rfl, o6⟩, b6⟩
                  have B6 := Lib.hid (B4.out.trans (b6.mono B4.out.size))
                  have HIn := Lib.hid (HI2.out w6 A6 c6 (o6.nums rfl) _ rfl)
                  clear b6 o6 HPt a1
                  go_wp2_with (go_at_call 11; refine HIn.out.mono ?_; rintro e w7 ⟨rfl, b7⟩)
                  go_ret
                  exact ⟨rfl, B6.out.trans (b7.mono B6.out.size)⟩
                · have h4n : ¬ T.size < 4 := by omega
                  have h4g : (4 : Int) < (T.size : Int) := by omega
                  clear HP HI2
                  go_wp2
                  go_ret
                  exact ⟨rfl, B4.out⟩
end Go.Proofs.YtmdjgjcneegiiaaDoor
