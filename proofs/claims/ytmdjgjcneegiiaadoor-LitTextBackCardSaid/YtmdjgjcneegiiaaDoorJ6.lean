/- The reference of literals: hex, Escape. -/
import Derived.Test.YtmdjgjcneegiiaaDoorJ5
namespace Go.Proofs.YtmdjgjcneegiiaaDoor
open Go.RowKit

theorem Lt.hexS_cut (i : Nat) (h : i < 16) : (⟨#[48, 49, 50, 51, 52, 53, 54, 55, 56, 57, 97, 98, 99, 100, 101, 102]⟩ : ByteArray).extract i (i + 1) = ⟨#[Lt.hd i]⟩ := by
  have : ∀ i : Fin 16, ((⟨#[48, 49, 50, 51, 52, 53, 54, 55, 56, 57, 97, 98, 99, 100, 101, 102]⟩ : ByteArray).extract i.1 (i.1 + 1)).data.toList = [Lt.hd i.1] := by decide +kernel
  exact Lt.bytes_eq (this ⟨i, h⟩)
theorem Lt.hex_run (i : Nat) (h : i < 16) (W : World) : (Instr.slice 9 (.string ⟨#[48, 49, 50, 51, 52, 53, 54, 55, 56, 57, 97, 98, 99, 100, 101, 102]⟩) (some (.int .i64 (i : Int))) (some (.int .i64 ((i : Int) + 1))) none).run Tryd.prog W = .ok (.string ⟨#[Lt.hd i]⟩) W := by
  have := Lt.slice_both ⟨#[48, 49, 50, 51, 52, 53, 54, 55, 56, 57, 97, 98, 99, 100, 101, 102]⟩ i (i + 1) (by show i + 1 ≤ 16; omega) (by omega) W
  rw [Lt.hexS_cut i h] at this
  exact this

set_option maxRecDepth 100000 in
theorem rhex7 : ∀ (k n : Nat) (w : World), n < 16 ^ (k + 1) → k ≤ 14 →
    Calls Tryd.prog 30 #[.int .i64 (n : Nat)] w fun e w' => e = .returned (.string ⟨(Lt.hex n).toArray⟩) ∧ ∃ q, w' = w.drewN q := by
  intro k
  induction k with
  | zero =>
    intro n w hn _
    have h16 : n < 16 := by omega
    rw [Lt.hex_small h16]
    have hlt : (n : Int) < 16 := by omega
    have hr := Lt.hex_run n h16
    clear hn
    go_enter Tryd.func30, Tryd.ntmps30
    go_wp2
    go_ret
    exact ⟨rfl, 0, rfl⟩
  | succ k ih =>
    intro n w hn hk
    by_cases h16 : n < 16
    · rw [Lt.hex_small h16]
      have hlt : (n : Int) < 16 := by omega
      have hr := Lt.hex_run n h16
      clear hn ih
      go_enter Tryd.func30, Tryd.ntmps30
      go_wp2
      go_ret
      exact ⟨rfl, 0, rfl⟩
    · rw [Lt.hex_big h16]
      have hlt : ¬ (n : Int) < 16 := by omega
      have hn15 : n < 16 ^ 15 := Nat.lt_of_lt_of_le hn (Nat.pow_le_pow_right (by decide) (by omega))
      have hn60 : (n : Int) < 1152921504606846976 := by have : (16 : Nat) ^ 15 = 1152921504606846976 := by decide
                                                        omega
      have hq : n / 16 < 16 ^ (k + 1) := by
        rw [Nat.pow_succ] at hn
        exact Nat.div_lt_of_lt_mul (by rw [Nat.mul_comm]; exact hn)
      have hm : n % 16 < 16 := Nat.mod_lt _ (by decide)
      have hsz := (Lt.hex_facts k (n / 16) hq).2.1
      have hI := fun W => ih (n / 16) W hq (by omega)
      have hr := Lt.hex_run (n % 16) hm
      have e1 : (n : Int) / 16 = ((n / 16 : Nat) : Int) := by omega
      have e2 : (n : Int) % 16 = ((n % 16 : Nat) : Int) := by omega
      generalize n / 16 = q at hsz hI e1 ⊢
      generalize n % 16 = r at hr e2 hm ⊢
      have HI := Lib.hid hI
      have hn0 : (0 : Int) ≤ (n : Int) := by omega
      have e3 : IntKind.i64.wrap (q : Int) = (q : Int) := IntWalk.i64_in _ (by omega)
      have z1 : (⟨(Lt.hex q).toArray⟩ : ByteArray).size = (Lt.hex q).length := List.size_toArray
      have z2 : (⟨#[Lt.hd r]⟩ : ByteArray).size = 1 := rfl
      have hcat : ∀ W, (Op.stringOp .add ⟨(Lt.hex q).toArray⟩ ⟨#[Lt.hd r]⟩).run Tryd.prog W = .ok (.string ⟨(Lt.hex q ++ [Lt.hd r]).toArray⟩) W := fun W => by
        rw [run_string_add W _ _ (by omega) (by omega), show (⟨(Lt.hex q).toArray⟩ : ByteArray) ++ ⟨#[Lt.hd r]⟩ = ⟨(Lt.hex q ++ [Lt.hd r]).toArray⟩ from Lt.bytes_eq (by simp [ByteArray.data_append])]
      have hr16 : (r : Int) < 16 := by omega
      clear hn ih hn15 hq hI hsz z1 z2 h16 hm
      go_enter Tryd.func30, Tryd.ntmps30
      go_wp2
      go_quiet (first | (go_at_call 30; refine Calls.quiet_of (HI.out _)))
      go_wp2
      go_ret
      exact ⟨rfl, _, rfl⟩

/-- one byte as a text -/
theorem conv_one (w : World) (c : UInt8) : (convert 46 9 (.slice (some ⟨w.heap.size, 0, none⟩) 1 1)).run Tryd.prog (w.alloc (.cells #[.int .u8 (c.toNat : Int)] 5)) = .ok (.string ⟨#[c]⟩) (w.alloc (.cells #[.int .u8 (c.toNat : Int)] 5)) :=
  run_convert_bytes_back _ 46 9 5 ⟨w.heap.size, 0, none⟩ 1 [c] Tryd.underlying46 Tryd.underlying5 Tryd.underlying9 fun j hj => by
    obtain rfl : j = 0 := by simp at hj; omega
    exact cell_one_new w (.int .u8 (c.toNat : Int)) 5 0 _ rfl
theorem Lt.all_false {l : List Int} {z : Int} (hz : z ∈ l) (h : Lt.pt z = false) : l.all Lt.pt = false := by
  rw [List.all_eq_false]
  exact ⟨z, hz, by rw [h]; decide⟩
theorem Lt.esc1_plain {z : Int} (h : 32 ≤ z ∧ z ≤ 126 ∧ z ≠ 92) : Lt.esc1 z = [UInt8.ofNat z.toNat] := by rw [Lt.esc1, if_pos h]
theorem Lt.esc1_hex {z : Int} (h : ¬ (32 ≤ z ∧ z ≤ 126 ∧ z ≠ 92)) : Lt.esc1 z = 92 :: 117 :: 123 :: (Lt.hex z.toNat ++ [125]) := by rw [Lt.esc1, if_neg h]
/-- what Escape answers -/
def EscSaid (w : World) (x : Int × List UInt8) (e : Ending) (w' : World) : Prop := e = .returned (.tuple #[.string ⟨x.2.toArray⟩, .int .i64 x.1]) ∧ Below w.heap.size w w'

set_option maxRecDepth 100000 in
set_option maxHeartbeats 1600000 in
theorem rescape7 (w : World) (A : Option Addr) (n c : Nat) (l : List Int) (h : NumS w A n l) (hn : n ≤ 100000) :
    Calls Tryd.prog 15 #[.slice A n c] w fun e w' => EscSaid w (Lt.escOf l) e w' := by
  obtain ⟨Post, hPost⟩ : ∃ Post : Ending → World → Prop, Post = fun e w' => EscSaid w (Lt.escOf l) e w' := ⟨_, rfl⟩
  rw [← hPost]
  have HBad : Hid (l.all Lt.pt = false → ∀ w', Below w.heap.size w w' → Post (.returned (.tuple #[.string ⟨#[]⟩, .int .i64 1])) w') := fun h w' hb => by
    rw [hPost]
    refine ⟨?_, hb⟩
    rw [Lt.escOf, if_neg (by rw [h]; decide)]
  have HGood : Hid (l.all Lt.pt = true → ∀ (T : ByteArray) w', T.data.toList = Lt.escape l → Below w.heap.size w w' → Post (.returned (.tuple #[.string T, .int .i64 0])) w') := fun h T w' hT hb => by
    rw [hPost]
    refine ⟨?_, hb⟩
    rw [Lt.escOf, if_pos h, ← hT]
  have HH := Lib.hid h
  have HAdd : Hid (∀ (a b : ByteArray) (W : World), a.size ≤ 8388608 → b.size ≤ 8388608 → (Op.stringOp .add a b).run Tryd.prog W = .ok (.string (a ++ b)) W) := fun a b W ha hb => run_string_add W a b (by omega) (by omega)
  clear hPost h
  go_enter Tryd.func15, Tryd.ntmps15
  go_wp2
  go_loopw [4, 5] (fun tv iv wr => ∃ (i : Nat) (T : ByteArray), i ≤ n ∧ iv = .int .i64 (i : Nat) ∧ tv = .string T ∧ T.size ≤ 9 * i ∧ Hid (Below w.heap.size w wr ∧ T.data.toList = Lt.escape (l.take i) ∧ ∀ z ∈ l.take i, Lt.pt z = true)) (fun _ iv _ => n - (intOf iv).toNat)
  case atStart => exact ⟨0, ⟨#[]⟩, Nat.zero_le _, rfl, rfl, by decide, Below.refl _ _, rfl, fun _ hz => absurd hz List.not_mem_nil⟩
  case round =>
    obtain ⟨i, T, hi, rfl, rfl, hTs, HI⟩ := hrel
    obtain ⟨hI0, hI1, hI2⟩ := HI.out
    have HB := Lib.hid hI0
    by_cases hlt : i < n
    · obtain ⟨b, off, z, rfl, hz, hmem, _, hc⟩ := HH.out.get hlt
      obtain ⟨q1, q2⟩ := hc wr hI0
      have hlt' : (i : Int) < (n : Int) := by omega
      have h0 : (0 : Int) ≤ (i : Int) := by omega
      have HPt := Lib.hid (rpoint z wr)
      cases hp : Lt.pt z with
      | false =>
        have hfin := HBad.out (Lt.all_false hmem hp) wr hI0
        have HF := Lib.hid hfin
        rw [hp] at HPt
        clear hI0 hI1 hI2 HI hz hmem hc hp hfin HGood HBad
        go_wp2_with (go_at_call 29; refine HPt.out.mono ?_; rintro e w1 ⟨rfl, rfl⟩)
        first | exact HF.out | exact bodyPost_ret (by simp [results, Tryd.results15, go_sem]) rfl HF.out
      | true =>
        rw [hp] at HPt
        obtain ⟨z0, z1⟩ := Lt.pt_facts hp
        have htk : Lt.escape (l.take (i + 1)) = Lt.escape (l.take i) ++ Lt.esc1 z := by
          rw [take_one hz, Lt.escape_app]
          simp [Lt.escape]
        have hall : ∀ y ∈ l.take (i + 1), Lt.pt y = true := by
          rw [take_one hz]
          intro y hy
          rcases List.mem_append.1 hy with hy | hy
          · exact hI2 y hy
          · rw [List.mem_singleton.1 hy]
            exact hp
        have HAll := Lib.hid hall
        by_cases hpl : 32 ≤ z ∧ z ≤ 126 ∧ z ≠ 92
        · obtain ⟨p1, p2, p3⟩ := hpl
          obtain ⟨ch, hch⟩ : ∃ ch : UInt8, z = (ch.toNat : Int) := ⟨UInt8.ofNat z.toNat, by simp; omega⟩
          subst hch
          have hT1 : (T ++ ⟨#[ch]⟩).data.toList = Lt.escape (l.take (i + 1)) ∧ (T ++ ⟨#[ch]⟩).size = T.size + 1 := by
            obtain ⟨k1, k2⟩ := Lt.app_bytes T ⟨#[ch]⟩
            refine ⟨?_, k2⟩
            rw [k1, hI1, htk, Lt.esc1_plain ⟨p1, p2, p3⟩]
            simp
          have hadd := fun W => HAdd.out T ⟨#[ch]⟩ W (by omega) (by show 1 ≤ 8388608; decide)
          generalize T ++ ⟨#[ch]⟩ = T1 at hT1 hadd
          obtain ⟨k1, k2⟩ := hT1
          have HT1 := Lib.hid k1
          have hconv := fun W => conv_one W ch
          have p2' : (ch.toNat : Int) < 127 := by omega
          have p3' : ((ch.toNat : Int) != 92) = true := bne_iff_ne.2 p3
          have hwr8 : IntKind.u8.wrap (ch.toNat : Int) = (ch.toNat : Int) := by
            have := ch.toNat_lt
            simp [IntKind.wrap, IntKind.bits, IntKind.signed] <;> omega
          clear hI0 hI1 hI2 HI hz hmem hc hp htk hall k1 HGood HBad
          go_wp2_with (go_at_call 29; refine HPt.out.mono ?_; rintro e w1 ⟨rfl, rfl⟩)
          go_roundw
          case rel => exact ⟨i + 1, T1, by omega, by go_num, rfl, by omega, HB.out.alloc HB.out.size _, HT1.out, HAll.out⟩
          case measure => simp [intOf]; omega
        · have hn0 : z.toNat < 16 ^ 5 := by omega
          obtain ⟨m, hm⟩ : ∃ m : Nat, z = (m : Int) := ⟨z.toNat, by omega⟩
          subst hm
          have HX := Lib.hid fun W => rhex7 4 m W (by simpa using hn0) (by decide)
          have hxl := (Lt.hex_facts 4 m (by simpa using hn0)).2.1
          have z3 : (⟨(Lt.hex m).toArray⟩ : ByteArray).size = (Lt.hex m).length := List.size_toArray
          obtain ⟨k1, k2⟩ := Lt.app_bytes T ⟨#[92, 117, 123]⟩
          have a1 := fun W => HAdd.out T ⟨#[92, 117, 123]⟩ W (by omega) (by decide)
          generalize T ++ ⟨#[92, 117, 123]⟩ = T1 at k1 k2 a1
          have k2' : T1.size = T.size + 3 := k2
          obtain ⟨k3, k4⟩ := Lt.app_bytes T1 ⟨(Lt.hex m).toArray⟩
          have a2 := fun W => HAdd.out T1 ⟨(Lt.hex m).toArray⟩ W (by omega) (by omega)
          generalize T1 ++ ⟨(Lt.hex m).toArray⟩ = T2 at k3 k4 a2
          obtain ⟨k5, k6⟩ := Lt.app_bytes T2 ⟨#[125]⟩
          have a3 := fun W => HAdd.out T2 ⟨#[125]⟩ W (by omega) (by decide)
          generalize T2 ++ ⟨#[125]⟩ = T3 at k5 k6 a3
          have k6' : T3.size = T2.size + 1 := k6
          have hT3 : T3.data.toList = Lt.escape (l.take (i + 1)) := by
            rw [k5, k3, k1, hI1, htk, Lt.esc1_hex hpl]
            simp
          have HT3 := Lib.hid hT3
          have hs3 : T3.size ≤ 9 * (i + 1) := by omega
          have hw3 : (m : Int) < 32 ∨ (32 : Int) ≤ (m : Int) ∧ ¬ (m : Int) < 127 ∨ (32 : Int) ≤ (m : Int) ∧ (m : Int) < 127 ∧ ((m : Int) != 92) = false := by
            by_cases h1 : (m : Int) < 32
            · exact .inl h1
            · by_cases h2 : (m : Int) < 127
              · refine .inr (.inr ⟨by omega, h2, ?_⟩)
                by_cases h3 : (m : Int) = 92
                · simp [h3]
                · exact absurd ⟨by omega, by omega, h3⟩ hpl
              · exact .inr (.inl ⟨by omega, h2⟩)
          clear hI0 hI1 hI2 HI hz hmem hc hp htk hall k1 k2 k2' k3 k4 k5 k6 k6' z3 hxl hT3 hpl hn0 HGood HBad
          rcases hw3 with g | ⟨g, g'⟩ | ⟨g, g', g''⟩
          all_goals
            go_wp2_with (first
              | (go_at_call 29; refine HPt.out.mono ?_; rintro e w1 ⟨rfl, rfl⟩)
              | (go_at_call 30; refine (HX.out _).mono ?_; rintro e w2 ⟨rfl, qq, rfl⟩))
            go_roundw
            case rel => exact ⟨i + 1, T3, by omega, by go_num, rfl, hs3, HB.out.trans ((Turn.none_ ((Turn.refl (fun _ => False) _).drewN qq) (fun _ => id)).mono HB.out.size), HT3.out, HAll.out⟩
            case measure => simp [intOf]; omega
    · obtain rfl : i = n := by omega
      have htk : l.take i = l := List.take_of_length_le (by rw [HH.out.len]; exact Nat.le_refl _)
      rw [htk] at hI1 hI2
      have hfin := HGood.out (List.all_eq_true.2 hI2) T wr hI1 hI0
      have HF := Lib.hid hfin
      clear hI0 hI1 hI2 HI htk hfin HGood HBad
      go_wp2
      first | exact HF.out | exact bodyPost_ret (by simp [results, Tryd.results15, go_sem]) rfl HF.out
end Go.Proofs.YtmdjgjcneegiiaaDoor
