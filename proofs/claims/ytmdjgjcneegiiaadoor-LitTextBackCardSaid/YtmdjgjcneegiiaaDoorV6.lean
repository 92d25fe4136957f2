/- The library's FormatInt to the base 16. -/
import Derived.Test.YtmdjgjcneegiiaaDoorV5
import Derived.Test.YtmdjgjcneegiiaaDoorJ6
import Derived.Deep.Cut
namespace Go.Proofs.YtmdjgjcneegiiaaDoor
open Go.RowKit

def Lt.lim (j u : Nat) : Prop := j = 0 ∧ u < 1048576 ∨ j = 1 ∧ u < 65536 ∨ j = 2 ∧ u < 4096 ∨ j = 3 ∧ u < 256 ∨ j = 4 ∧ u < 16
theorem Lt.lim_next {j u : Nat} (h : Lt.lim j u) (hu : 16 ≤ u) : Lt.lim (j + 1) (u / 16) := by
  unfold Lt.lim at *
  omega
/-- digits at the end of an array of 65 bytes, from place i on -/
def Digs (w : World) (b i : Nat) (l : List UInt8) : Prop := ∃ ca, Lies w b 94 ca ∧ ca.size = 65 ∧ ∀ (k : Nat) (x : UInt8), l[k]? = some x → ca[i + k]? = some (.int .u8 (x.toNat : Nat))
theorem Lt.digS_at {i : Nat} (h : i < 16) : ((⟨#[48, 49, 50, 51, 52, 53, 54, 55, 56, 57, 97, 98, 99, 100, 101, 102, 103, 104, 105, 106, 107, 108, 109, 110, 111, 112, 113, 114, 115, 116, 117, 118, 119, 120, 121, 122]⟩ : ByteArray)[i]'(Nat.lt_trans h (by decide))).toNat = (Lt.hd i).toNat := by
  have : ∀ i : Fin 16, ((⟨#[48, 49, 50, 51, 52, 53, 54, 55, 56, 57, 97, 98, 99, 100, 101, 102, 103, 104, 105, 106, 107, 108, 109, 110, 111, 112, 113, 114, 115, 116, 117, 118, 119, 120, 121, 122]⟩ : ByteArray)[i.1]'(Nat.lt_trans i.2 (by decide))).toNat = (Lt.hd i.1).toNat := by decide
  exact this ⟨i, h⟩
theorem Lt.and15 (u : Nat) (hu : u < 18446744073709551616) : bits .and .u64 (u : Int) 15 = ((u % 16 : Nat) : Int) := by
  have h := bits_and_u64_nat u 15 hu (by decide)
  rw [show u &&& 15 = u % 16 from Nat.and_two_pow_sub_one_eq_mod u 4] at h
  exact h
theorem Digs.put {w : World} {b i : Nat} {l : List UInt8} (h : Digs w b (i + 1) l) (hi : i < 65) (x : UInt8) : Digs (w.setCell ⟨b, i, none⟩ (.int .u8 (x.toNat : Nat))) b i (x :: l) := by
  obtain ⟨ca, hL, hs, hc⟩ := h
  refine ⟨_, hL.put i _, by simpa using hs, fun k y hk => ?_⟩
  rcases k with _ | k
  · have e : x = y := by simpa using hk
    subst e
    rw [Nat.add_zero, Array.getElem?_setIfInBounds_self, if_pos (by omega)]
  · rw [Array.getElem?_setIfInBounds_ne (by omega), show i + (k + 1) = i + 1 + k by omega]
    exact hc k y (by simpa using hk)
theorem ktz7 (w : World) (hG : Gl w) : Calls Tryd.prog 65 #[.int .u64 16] w fun e w' => e = .returned (.int .i64 4) ∧ w' = w := by
  have hb := hG.bru
  have h1 : bits .and .u64 16 (IntKind.u64.wrap (-16)) = 16 := by decide +kernel
  clear hG
  have h64 : Calls Tryd.prog 71 #[.int .u64 16] w fun e w' => e = .returned (.int .i64 4) ∧ w' = w := by
    go_enter Tryd.func71, Tryd.ntmps71
    go_wp2
    go_ret
    exact ⟨rfl, rfl⟩
  go_enter Tryd.func65, Tryd.ntmps65
  go_wp2_with (go_at_call 71; refine h64.mono ?_; rintro e w1 ⟨rfl, rfl⟩)
  go_ret
  exact ⟨rfl, rfl⟩
theorem kpow7 (w : World) : Calls Tryd.prog 64 #[.int .i64 16] w fun e w' => e = .returned (.bool true) ∧ w' = w := by
  go_enter Tryd.func64, Tryd.ntmps64
  go_wp2
  go_ret
  exact ⟨rfl, rfl⟩

theorem Lt.arr65 : Tryd.prog.underlying 94 = some (.array (Tryd.prog.arrayLen 94) (Tryd.prog.elem 94)) ∧ Tryd.prog.arrayLen 94 = 65 ∧ Tryd.prog.elem 94 = 5 := by
  refine ⟨by kernel_rfl, by kernel_rfl, by kernel_rfl⟩
theorem Lt.slice65 (W : World) (b i : Nat) (hi : i < 65) : (Instr.sliceAt 94 (.pointer (some ⟨b, 0, none⟩)) (some (.int .i64 (i : Int))) none none).run Tryd.prog W = .ok (.slice (some ⟨b, i, none⟩) (65 - i) (65 - i)) W := by
  obtain ⟨h1, h2, h3⟩ := Lt.arr65
  have h := run_sliceAt_array_l (P := Tryd.prog) W 94 ⟨b, 0, none⟩ h1 .i64 (i : Int) (by omega) (by rw [h2]; omega)
  rw [h, h2, h3, Tryd.sizeOf5]
  simp only [Result.andThen_ok, slicedAt, Int.toNat_natCast]
  rw [if_neg (by omega), addr_add, Nat.mul_one, Nat.zero_add]

set_option maxRecDepth 100000 in
set_option maxHeartbeats 3200000 in
theorem kbits7 (n : Nat) (w : World) (hn : n < 1048576) (hG : Gl w) :
    Calls Tryd.prog 52 #[.slice none 0 0, .int .u64 (n : Nat), .int .i64 16, .bool false, .bool false] w fun e w' => e = .returned (.tuple #[.slice none 0 0, .string ⟨(Lt.hex n).toArray⟩]) ∧ Below w.heap.size w w' := by
  have hn' : (n : Int) < 1048576 := by omega
  have HGl := Lib.hid hG
  clear hG
  go_enter Tryd.func52, Tryd.ntmps52
  go_wp2_with (first
    | (go_at_call 64; refine (kpow7 _).mono ?_; rintro e w1 ⟨rfl, rfl⟩)
    | (go_at_call 65; refine (ktz7 _ (HGl.out.below ((Below.refl _ w).alloc (Nat.le_refl _) _))).mono ?_; rintro e w1 ⟨rfl, rfl⟩))
  have HM : Hid (∀ (i : Nat) (h : i < 16), ((⟨#[48, 49, 50, 51, 52, 53, 54, 55, 56, 57, 97, 98, 99, 100, 101, 102, 103, 104, 105, 106, 107, 108, 109, 110, 111, 112, 113, 114, 115, 116, 117, 118, 119, 120, 121, 122]⟩ : ByteArray)[i]'(Nat.lt_trans h (by decide))).toNat = (Lt.hd i).toNat) := fun _ h => Lt.digS_at h
  generalize hS : (⟨#[48, 49, 50, 51, 52, 53, 54, 55, 56, 57, 97, 98, 99, 100, 101, 102, 103, 104, 105, 106, 107, 108, 109, 110, 111, 112, 113, 114, 115, 116, 117, 118, 119, 120, 121, 122]⟩ : ByteArray) = S
  have hsz : S.size = 36 := by rw [← hS]; rfl
  have HS : Hid (∀ i (h : i < S.size), i < 16 → S[i].toNat = (Lt.hd i).toNat) := by
    subst hS
    exact fun i h h' => HM.out i h'
  clear hS HM
  go_loopw [1, 13] (fun uv iv wr => ∃ (u i : Nat) (l : List UInt8), uv = .int .u64 (u : Nat) ∧ iv = .int .i64 (i : Nat) ∧ i + l.length = 65 ∧ Lt.lim l.length u ∧ Hid (Lt.hex n = Lt.hex u ++ l ∧ Digs wr w.heap.size i l ∧ Below w.heap.size w wr)) (fun uv _ _ => (intOf uv).toNat)
  case atStart => exact ⟨n, 65, [], rfl, rfl, rfl, .inl ⟨rfl, hn⟩, by simp, ⟨_, Lies.new w _ _, by kernel_rfl, fun k x hk => by simp at hk⟩, (Below.refl _ w).alloc (Nat.le_refl _) _⟩
  case round =>
    obtain ⟨u, i, l, rfl, rfl, hil, hlim, HI⟩ := hrel
    by_cases h16 : 16 ≤ u
    · have h16' : (16 : Int) ≤ (u : Int) := by omega
      have hu' : (u : Int) < 1048576 := by unfold Lt.lim at hlim; omega
      have hi61 : (61 : Int) ≤ (i : Int) := by unfold Lt.lim at hlim; omega
      have hi65 : (i : Int) ≤ 65 := by omega
      have hd16 : decide ((16 : Int) ≤ (u : Int)) = true := decide_eq_true h16'
      obtain ⟨m, hm⟩ : ∃ m : Nat, u % 16 = m := ⟨_, rfl⟩
      obtain ⟨i', rfl⟩ : ∃ i', i = i' + 1 := ⟨i - 1, by omega⟩
      have hand : bits .and .u64 (u : Int) 15 = (m : Int) := by rw [← hm]; exact Lt.and15 u (by omega)
      have hm16 : (m : Int) < 16 := by omega
      have hm16' : m < 16 := by omega
      obtain ⟨hI0, ⟨ca, hL, hca, hcs⟩, hI2⟩ := HI.out
      obtain ⟨q, hq⟩ : ∃ q, q = u / 16 := ⟨_, rfl⟩
      have hq' : (u : Int) / 16 = (q : Int) := by omega
      have HLm : Hid (Lt.lim (Lt.hd m :: l).length q) := by
        rw [hq, List.length_cons]
        exact Lt.lim_next hlim h16
      have HR : Hid (Lt.hex n = Lt.hex q ++ (Lt.hd m :: l) ∧ Digs (wr.setCell ⟨w.heap.size, i', none⟩ (.int .u8 ((Lt.hd m).toNat : Nat))) w.heap.size i' (Lt.hd m :: l) ∧ Below w.heap.size w (wr.setCell ⟨w.heap.size, i', none⟩ (.int .u8 ((Lt.hd m).toNat : Nat)))) := by
        refine ⟨?_, Digs.put ⟨ca, hL, hca, hcs⟩ (by omega) _, hI2.setCell (p := ⟨w.heap.size, i', none⟩) (Nat.le_refl _) _⟩
        rw [hI0, Lt.hex_big (show ¬ u < 16 by omega), hm, ← hq, List.append_assoc]
        rfl
      have hmS : m < S.size := by omega
      have hv := HS.out m hmS hm16'
      obtain ⟨v0, hcell⟩ : ∃ v0, wr.cell? ⟨w.heap.size, i', none⟩ = some v0 := ⟨_, (hL.cell i').trans (Array.getElem?_eq_getElem (show i' < ca.size by omega))⟩
      have hfz := hL.free i'
      have hlt := hL.lt
      clear HI hI0 hL hI2 hcs hca hm hlim hq
      go_wp2
      go_roundw
      case rel => exact ⟨q, i', Lt.hd m :: l, by first | rfl | (congr 1; omega), rfl, by rw [List.length_cons]; omega, HLm.out, HR.out⟩
      case measure => simp [intOf]; omega
    · obtain ⟨i', rfl⟩ : ∃ i', i = i' + 1 := ⟨i - 1, by unfold Lt.lim at hlim; omega⟩
      have hi60 : 60 ≤ i' := by unfold Lt.lim at hlim; omega
      obtain ⟨hI0, ⟨ca, hL, hca, hcs⟩, hI2⟩ := HI.out
      have hu16 : u < 16 := by omega
      have huS : u < S.size := by omega
      have hv := HS.out u huS hu16
      obtain ⟨v0, hcell⟩ : ∃ v0, wr.cell? ⟨w.heap.size, i', none⟩ = some v0 := ⟨_, (hL.cell i').trans (Array.getElem?_eq_getElem (show i' < ca.size by omega))⟩
      have hfz := hL.free i'
      have hlt := hL.lt
      have hd16 : decide ((16 : Int) ≤ (u : Int)) = false := decide_eq_false (by omega)
      have HF : Hid (Digs (wr.setCell ⟨w.heap.size, i', none⟩ (.int .u8 ((Lt.hd u).toNat : Nat))) w.heap.size i' (Lt.hd u :: l) ∧ Below w.heap.size w (wr.setCell ⟨w.heap.size, i', none⟩ (.int .u8 ((Lt.hd u).toNat : Nat)))) := ⟨Digs.put ⟨ca, hL, hca, hcs⟩ (by omega) _, hI2.setCell (p := ⟨w.heap.size, i', none⟩) (Nat.le_refl _) _⟩
      obtain ⟨L, hL'⟩ : ∃ L, L = Lt.hd u :: l := ⟨_, rfl⟩
      have hlen : 65 - i' = L.length := by rw [hL', List.length_cons]; omega
      have HHex : Hid (Lt.hex n = L) := by show _ = _; rw [hI0, Lt.hex_small hu16, hL']; rfl
      rw [← hL'] at HF
      have hi65 : (i' : Int) < 65 := by omega
      have hu16' : (u : Int) < 16 := by omega
      clear HI hI0 hL hI2 hcs hL' hlim h16 hca
      go_upto_region 16 with fail
      clear hv huS hsz
      have HM : Hid (∀ (i : Nat) (h : i < 16), ((⟨#[48, 49, 50, 51, 52, 53, 54, 55, 56, 57, 97, 98, 99, 100, 101, 102, 103, 104, 105, 106, 107, 108, 109, 110, 111, 112, 113, 114, 115, 116, 117, 118, 119, 120, 121, 122]⟩ : ByteArray)[i]'(Nat.lt_trans h (by decide))).toNat = (Lt.hd i).toNat) := fun _ h => Lt.digS_at h
      generalize hS : (⟨#[48, 49, 50, 51, 52, 53, 54, 55, 56, 57, 97, 98, 99, 100, 101, 102, 103, 104, 105, 106, 107, 108, 109, 110, 111, 112, 113, 114, 115, 116, 117, 118, 119, 120, 121, 122]⟩ : ByteArray) = S2
      have hsz2 : S2.size = 36 := by rw [← hS]; rfl
      have huS2 : u < S2.size := by omega
      have hv2 : S2[u].toNat = (Lt.hd u).toNat := by
        subst hS
        exact HM.out u hu16
      have hsl : ∀ W, (Instr.sliceAt 94 (.pointer (some ⟨w.heap.size, 0, none⟩)) (some (.int .i64 (i' : Int))) none none).run Tryd.prog W = .ok (.slice (some ⟨w.heap.size, i', none⟩) L.length L.length) W := fun W => by
        rw [Lt.slice65 W w.heap.size i' (by omega), hlen]
      have hconv : (convert 46 9 (.slice (some ⟨w.heap.size, i', none⟩) L.length L.length)).run Tryd.prog (wr.setCell ⟨w.heap.size, i', none⟩ (.int .u8 ((Lt.hd u).toNat : Nat))) = .ok (.string ⟨L.toArray⟩) (wr.setCell ⟨w.heap.size, i', none⟩ (.int .u8 ((Lt.hd u).toNat : Nat))) := by
        refine run_convert_bytes_back _ 46 9 5 ⟨w.heap.size, i', none⟩ L.length L Tryd.underlying46 Tryd.underlying5 Tryd.underlying9 fun j hj => ?_
        obtain ⟨cb, hLb, _, hcb⟩ := HF.out.1
        rw [addr_add, hLb.cell]
        exact hcb j L[j] (List.getElem?_eq_getElem hj)
      have HBF := Lib.hid HF.out.2
      have HHx := Lib.hid HHex.out
      clear hS HM HS hlen HF HHex
      go_wp2
      go_ret2
      exact ⟨by rw [HHx.out]; rfl, HBF.out⟩
theorem kformat7 (n : Nat) (w : World) (hn : n < 1048576) (hG : Gl w) :
    Calls Tryd.prog 27 #[.int .i64 (n : Nat), .int .i64 16] w fun e w' => e = .returned (.string ⟨(Lt.hex n).toArray⟩) ∧ Below w.heap.size w w' := by
  have hn' : (n : Int) < 1048576 := by omega
  have hn0 : (0 : Int) ≤ (n : Int) := by omega
  have hneg : decide ((n : Int) < 0) = false := decide_eq_false (by omega)
  have HB := Lib.hid (kbits7 n w hn hG)
  clear hn hG
  have HI : Calls Tryd.prog 40 #[.int .i64 (n : Nat), .int .i64 16] w fun e w' => e = .returned (.string ⟨(Lt.hex n).toArray⟩) ∧ Below w.heap.size w w' := by
    go_enter Tryd.func40, Tryd.ntmps40
    go_wp2_with (go_at_call 52; refine HB.out.mono ?_; rintro e w1 ⟨rfl, b1⟩)
    go_ret
    exact ⟨rfl, b1⟩
  have HII := Lib.hid HI
  clear HI
  go_enter Tryd.func27, Tryd.ntmps27
  go_wp2_with (go_at_call 40; refine HII.out.mono ?_; rintro e w1 ⟨rfl, b1⟩)
  go_ret
  exact ⟨rfl, b1⟩
end Go.Proofs.YtmdjgjcneegiiaaDoor
