/- The code's Escape. -/
import Derived.Test.YtmdjgjcneegiiaaDoorV6
import Derived.Test.YtmdjgjcneegiiaaDoorShelf
import Derived.WalkMore
namespace Go.Proofs.YtmdjgjcneegiiaaDoor
open Go.RowKit Go.Shelf

theorem Bld7.kept {B b : Nat} {l : List UInt8} {w w' : World} (h : Bld7 B b l w) (hb : Below w.heap.size w w') : Bld7 B b l w' := by
  have t := Turn.of_below (F := fun _ => False) hb
  rcases h with ⟨h1, v, h2, h3, h4⟩ | ⟨h1, v, h2, h3, h4⟩
  · exact .inl ⟨h1, v, t.lies h2 id, t.own h3 (fun _ _ => id), h4⟩
  · exact .inr ⟨h1, v, t.lies h2 id, t.own h3 (fun _ _ => id), h4⟩
theorem Bld7.lt {B b : Nat} {l : List UInt8} {w : World} (h : Bld7 B b l w) : B ≤ b ∧ b < w.heap.size := by
  rcases h with ⟨h1, v, h2, _⟩ | ⟨h1, v, h2, _⟩
  · exact ⟨h1, (Array.getElem?_eq_some_iff.1 h2).1⟩
  · exact ⟨h1, (Array.getElem?_eq_some_iff.1 h2).1⟩
theorem Lt.self_iff {z : Int} : Lt.self z = true ↔ 32 ≤ z ∧ z ≤ 126 ∧ z ≠ 92 := decide_eq_true_iff

set_option maxRecDepth 100000 in
set_option maxHeartbeats 3200000 in
theorem kescape7 (w : World) (A : Option Addr) (n c : Nat) (l : List Int) (h : NumS w A n l) (hn : n ≤ 100000) (hG : Gl w) :
    Calls Tryd.prog 14 #[.slice A n c] w fun e w' => EscSaid w (Lt.escOf l) e w' := by
  obtain ⟨Post, hPost⟩ : ∃ Post : Ending → World → Prop, Post = fun e w' => EscSaid w (Lt.escOf l) e w' := ⟨_, rfl⟩
  rw [← hPost]
  have HBad : Hid (l.all Lt.pt = false → ∀ w', Below w.heap.size w w' → Post (.returned (.tuple #[.string ⟨#[]⟩, .int .i64 1])) w') := fun h w' hb => by
    rw [hPost]
    refine ⟨?_, hb⟩
    rw [Lt.escOf, if_neg (by rw [h]; decide)]
  have HGood : Hid (l.all Lt.pt = true → ∀ w', Below w.heap.size w w' → Post (.returned (.tuple #[.string ⟨(Lt.escape l).toArray⟩, .int .i64 0])) w') := fun h w' hb => by
    rw [hPost]
    refine ⟨?_, hb⟩
    rw [Lt.escOf, if_pos h]
  have HH := Lib.hid h
  have HGl := Lib.hid hG
  have HAdd : Hid (∀ (a b : ByteArray) (W : World), a.size ≤ 8388608 → b.size ≤ 8388608 → (Op.stringOp .add a b).run Tryd.prog W = .ok (.string (a ++ b)) W) := fun a b W ha hb => run_string_add W a b (by omega) (by omega)
  have HFr : Hid (Bld7 w.heap.size w.heap.size [] (w.alloc (.cells #[.pointer none, .slice none 0 0] 48))) := Lib.fresh_isBuilder 48 5 w
  have HBl : Hid (Below w.heap.size w (w.alloc (.cells #[.pointer none, .slice none 0 0] 48))) := (Below.refl _ w).alloc (Nat.le_refl _) _
  clear hPost h hG
  go_enter Tryd.func14, Tryd.ntmps14
  go_wp2
  go_step3
  go_wp2
  go_step3
  go_wp2
  go_loopw [5, 10] (fun ev iv wr => ∃ (i : Nat) (L : List UInt8), i ≤ n ∧ iv = .int .i64 (i : Nat) ∧ ev = .int .i64 0 ∧ L.length ≤ 9 * i ∧ Hid (Below w.heap.size w wr ∧ Bld7 w.heap.size w.heap.size L wr ∧ L = Lt.escape (l.take i) ∧ ∀ z ∈ l.take i, Lt.pt z = true)) (fun _ iv _ => n - (intOf iv).toNat)
  case atStart => exact ⟨0, [], Nat.zero_le _, rfl, rfl, by decide, HBl.out, HFr.out, rfl, fun _ hz => absurd hz List.not_mem_nil⟩
  case round =>
    obtain ⟨i, L, hi, rfl, rfl, hLs, HI⟩ := hrel
    obtain ⟨hI0, hI1, hI2, hI3⟩ := HI.out
    have HB := Lib.hid hI0
    have HBd := Lib.hid hI1
    by_cases hlt : i < n
    · obtain ⟨b, off, z, rfl, hz, hmem, _, hc⟩ := HH.out.get hlt
      obtain ⟨q1, q2⟩ := hc wr hI0
      have hlt' : (i : Int) < (n : Int) := by omega
      have h0 : (0 : Int) ≤ (i : Int) := by omega
      have HPt := Lib.hid (kpoint7 z wr)
      cases hp : Lt.pt z with
      | false =>
        have HF := Lib.hid (HBad.out (Lt.all_false hmem hp) wr hI0)
        rw [hp] at HPt
        clear hI0 hI1 hI2 hI3 HI hz hmem hc hp HGood HBad HFr HBl
        go_wp2_with (go_at_call 23; refine HPt.out.mono ?_; rintro e w1 ⟨rfl, rfl⟩)
        first | exact HF.out | exact bodyPost_ret (by simp [results, Tryd.results14, go_sem]) rfl HF.out
      | true =>
        rw [hp] at HPt
        obtain ⟨z0, z1⟩ := Lt.pt_facts hp
        have htk : Lt.escape (l.take (i + 1)) = L ++ Lt.esc1 z := by
          rw [hI2, take_one hz, Lt.escape_app]
          simp [Lt.escape]
        have hall : ∀ y ∈ l.take (i + 1), Lt.pt y = true := by
          rw [take_one hz]
          intro y hy
          rcases List.mem_append.1 hy with hy | hy
          · exact hI3 y hy
          · rw [List.mem_singleton.1 hy]
            exact hp
        have HAll := Lib.hid hall
        have HSf := Lib.hid (kitself7 z wr)
        have hL1 := (Lt.esc1_facts hp).1
        by_cases hpl : 32 ≤ z ∧ z ≤ 126 ∧ z ≠ 92
        · rw [Lt.self_iff.2 hpl] at HSf
          obtain ⟨p1, p2, p3⟩ := hpl
          obtain ⟨ch, hch⟩ : ∃ ch : UInt8, z = (ch.toNat : Int) := ⟨UInt8.ofNat z.toNat, by simp; omega⟩
          subst hch
          rw [Lt.esc1_plain ⟨p1, p2, p3⟩, show UInt8.ofNat (ch.toNat : Int).toNat = ch by simp] at htk
          have HW := Lib.hid (kwbyte7 w.heap.size w.heap.size L ch wr hI1 (by omega) hI0.size)
          have HN := Lib.hid htk
          clear hI0 hI1 hI2 hI3 HI hz hmem hc hp HGood HBad HFr HBl htk hall hL1 HBd
          go_wp2_with (first
            | (go_at_call 23; refine HPt.out.mono ?_; rintro e w1 ⟨rfl, rfl⟩)
            | (go_at_call 24; refine HSf.out.mono ?_; rintro e w1 ⟨rfl, rfl⟩)
            | (go_at_call 25; refine HW.out.mono ?_; rintro e w2 ⟨rfl, bl2, b2, t2⟩; have B2 := Lib.hid (HB.out.trans b2); have BL2 := Lib.hid bl2; clear bl2 b2 t2))
          go_roundw
          case rel => exact ⟨i + 1, L ++ [ch], by omega, by go_num, rfl, by rw [List.length_append]; simp; omega, B2.out, BL2.out, HN.out.symm, HAll.out⟩
          case measure => simp [intOf]; omega
        · rw [show Lt.self z = false from Bool.eq_false_iff.2 fun e => hpl (Lt.self_iff.1 e)] at HSf
          obtain ⟨m, hm⟩ : ∃ m : Nat, z = (m : Int) := ⟨z.toNat, by omega⟩
          subst hm
          rw [Lt.esc1_hex hpl, Int.toNat_natCast] at htk
          have hm2 : m < 1048576 := by omega
          have HFm := Lib.hid (kformat7 m wr hm2 (HGl.out.below hI0))
          have hhl := (Lt.hex_facts 4 m (by omega)).2.1
          obtain ⟨H, hH⟩ : ∃ H : ByteArray, (⟨(Lt.hex m).toArray⟩ : ByteArray) = H := ⟨_, rfl⟩
          have hHd : H.data.toList = Lt.hex m := by rw [← hH]
          have hHs : H.size ≤ 5 := by rw [← Lt.len_bytes, hHd]; exact hhl
          rw [hH] at HFm
          have hT : ((⟨#[92, 117, 123]⟩ : ByteArray) ++ H ++ (⟨#[125]⟩ : ByteArray)).data.toList = 92 :: 117 :: 123 :: (Lt.hex m ++ [125]) ∧ ((⟨#[92, 117, 123]⟩ : ByteArray) ++ H ++ (⟨#[125]⟩ : ByteArray)).size = H.size + 4 := by
            obtain ⟨k1, k2⟩ := Lt.app_bytes ⟨#[92, 117, 123]⟩ H
            obtain ⟨k3, k4⟩ := Lt.app_bytes ((⟨#[92, 117, 123]⟩ : ByteArray) ++ H) ⟨#[125]⟩
            refine ⟨?_, ?_⟩
            · rw [k3, k1, hHd]
              simp
            · rw [k4, k2]
              show 3 + H.size + 1 = _
              omega
          have hadd1 := fun W => HAdd.out ⟨#[92, 117, 123]⟩ H W (by decide) (by omega)
          have hadd2 := fun W => HAdd.out ((⟨#[92, 117, 123]⟩ : ByteArray) ++ H) ⟨#[125]⟩ W (by rw [(Lt.app_bytes _ _).2]; show 3 + H.size ≤ _; omega) (by decide)
          generalize (⟨#[92, 117, 123]⟩ : ByteArray) ++ H = T1 at hadd1 hadd2 hT
          generalize T1 ++ (⟨#[125]⟩ : ByteArray) = T at hadd2 hT
          rw [← hT.1] at htk
          have hTs := hT.2
          have HN := Lib.hid htk
          have hTl : T.data.toList.length = T.size := Lt.len_bytes T
          clear hI0 hI1 hI2 hI3 HI hz hmem hc hp HGood HBad HFr HBl htk hall hL1 hH hHd hT hpl hhl hm2
          go_wp2_with (first
            | (go_at_call 23; refine HPt.out.mono ?_; rintro e w1 ⟨rfl, rfl⟩)
            | (go_at_call 24; refine HSf.out.mono ?_; rintro e w1 ⟨rfl, rfl⟩)
            | (go_at_call 27; refine HFm.out.mono ?_; rintro e w2 ⟨rfl, b2⟩; have B2 := Lib.hid (HB.out.trans (b2.mono HB.out.size)); have BL2 := Lib.hid (HBd.out.kept b2); clear b2)
            | (go_at_call 26; refine (kwstring7 w.heap.size w.heap.size L T _ BL2.out (by omega) B2.out.size).mono ?_; rintro e w3 ⟨rfl, bl3, b3, t3⟩; have B3 := Lib.hid (B2.out.trans b3); have BL3 := Lib.hid bl3; clear bl3 b3 t3))
          go_roundw
          case rel => exact ⟨i + 1, L ++ T.data.toList, by omega, by go_num, rfl, by rw [List.length_append]; omega, B3.out, BL3.out, HN.out.symm, HAll.out⟩
          case measure => simp [intOf]; omega
    · obtain rfl : i = n := by omega
      have htk : l.take i = l := List.take_of_length_le (by rw [HH.out.len]; exact Nat.le_refl _)
      rw [htk] at hI2 hI3
      have HF := Lib.hid (HGood.out (List.all_eq_true.2 hI3))
      have HSt := Lib.hid (Tryd.Builder_String_any w.heap.size w.heap.size L wr hI1 hI0.size)
      have HL := Lib.hid hI2
      clear hI0 hI1 hI2 hI3 HI htk HGood HBad HFr HBl
      go_wp2_with (go_at_call 28; refine HSt.out.mono ?_; rintro e w4 ⟨rfl, b4⟩; have HF4 := Lib.hid (HF.out w4 (HB.out.trans b4)); clear b4)
      rw [HL.out]
      first | exact HF4.out | exact bodyPost_ret (by simp [results, Tryd.results14, go_sem]) rfl HF4.out
end Go.Proofs.YtmdjgjcneegiiaaDoor
