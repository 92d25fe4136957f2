/- What the proofs of this claim use, text by text. -/
import Derived.Test.YtcgaeknikfaghaaGreatDoorQC28
import Derived.Test.YtcgaeknikfaghaaGreatDoorRows
import Derived.Stop.LaidErr
import Derived.Lib.LaidTab
import Derived.Shelf.Vars
set_option linter.unusedSimpArgs false
set_option linter.unusedVariables false
set_option maxRecDepth 100000
set_option maxHeartbeats 25600000
namespace Go.Proofs.YtcgaeknikfaghaaGreatDoor
open Go.RowKit
theorem Lt.num_parse (l : List UInt8) : Lt.num l = (Lt.parse l).bind fun n => if n ≤ 196607 then some n else none := by
  unfold Lt.num Lt.parse
  split <;> rfl
theorem Lt.parse_lt {l : List UInt8} {n : Nat} (h5 : l.length ≤ 5) (h : Lt.parse l = some n) : n < 1048576 := by
  unfold Lt.parse at h
  split at h
  · cases h
  · have h1 := Lt.val_le l 0 n h
    have h2 : 16 ^ l.length ≤ 16 ^ 5 := Nat.pow_le_pow_right (by decide) h5
    omega
def FirstSaid (c : UInt8) (r : List UInt8) (e : Ending) : Prop := ∃ v k : Nat, e = .returned (.tuple #[.int .i64 (v : Nat), .int .i64 (k : Nat)]) ∧ 0 < k ∧ k ≤ r.length + 1 ∧ Lt.one (c :: r) = (v, (c :: r).drop k)
theorem kfirst7 (s : ByteArray) (c : UInt8) (r : List UInt8) (hl : s.data.toList = c :: r) (w : World) (hs : s.size ≤ 100000000) (hG : Gl w) :
    Calls Tryz.prog 204 #[.string s] w fun e w' => FirstSaid c r e ∧ Below w.heap.size w w' := by
  have HD := Lib.hid (kdigits7 s c r hl w hs hG)
  have HGl := Lib.hid hG
  have hlen : s.size = r.length + 1 := by rw [← Lt.len_bytes, hl]; rfl
  have hs0 : 0 < s.size := by omega
  have hc0 : s[0] = c := by
    have := Lt.drop_at s hs0
    rw [List.drop_zero, hl] at this
    injection this with this _
    exact this.symm
  obtain ⟨Post, hPost⟩ : ∃ Post : Ending → World → Prop, Post = fun e w' => FirstSaid c r e ∧ Below w.heap.size w w' := ⟨_, rfl⟩
  rw [← hPost]
  have HPlain : Hid (Lt.one (c :: r) = (c.toNat, r) → ∀ w', Below w.heap.size w w' → Post (.returned (.tuple #[.int .i64 (s[0].toNat : Nat), .int .i64 1])) w') := fun h w' hb => by
    rw [hPost, hc0]
    exact ⟨⟨c.toNat, 1, rfl, by decide, by omega, h⟩, hb⟩
  have HOk : Hid (∀ v k : Nat, 0 < k → k ≤ r.length + 1 → Lt.one (c :: r) = (v, (c :: r).drop k) → ∀ w', Below w.heap.size w w' → Post (.returned (.tuple #[.int .i64 (v : Nat), .int .i64 (k : Nat)])) w') := fun v k h1 h2 h3 w' hb => by
    rw [hPost]
    exact ⟨⟨v, k, rfl, h1, h2, h3⟩, hb⟩
  have hwr : wrap64 (s[0].toNat : Int) = (s[0].toNat : Int) := by
    have := s[0].toNat_lt
    unfold wrap64
    omega
  have hs0' : (0 : Int) < (s.size : Int) := by omega
  clear hPost hG hl hc0
  go_enter Tryz.func204, Tryz.ntmps204
  go_wp2_with fail
  refine HD.out.mono ?_
  rintro e w1 ⟨⟨T, k, rfl, hd⟩, hb⟩
  rcases hd with ⟨rfl, ho⟩ | ⟨hk0, hkl, hT, ho⟩
  · have HR := Lib.hid (HPlain.out ho w1 hb)
    clear ho hb HD HGl HPlain HOk hlen
    go_wp2
    all_goals
      first | exact HR.out | (rw [hwr]; exact HR.out) | exact bodyPost_ret (by simp [results, Tryz.results204, go_sem]) rfl HR.out | (rw [hwr]; exact bodyPost_ret (by simp [results, Tryz.results204, go_sem]) rfl HR.out)
  · rw [Lt.len_bytes] at hT
    have HP := Lib.hid (kParseUint7 T w1 hT (HGl.out.below hb))
    have hk0' : (0 : Int) < (k : Int) := by omega
    have HO := Lib.hid ho
    have HB := Lib.hid hb
    have HT : Hid (T.data.toList.length ≤ 5) := by
      show _ ≤ _
      rw [Lt.len_bytes]
      exact hT
    clear ho hb HD HGl hlen hT
    go_wp2_with fail
    refine HP.out.mono ?_
    rintro e w2 ⟨⟨n, v, rfl, hv⟩, hb2⟩
    have HB2 := Lib.hid (HB.out.trans (hb2.mono HB.out.size))
    rcases hv with ⟨rfl, hp⟩ | ⟨⟨t, x, rfl⟩, hp, rfl⟩
    · have hn : n < 1048576 := Lt.parse_lt HT.out hp
      have HPt := Lib.hid (kpoint7 n w2)
      by_cases hle : n ≤ 196607
      · have hpt : Lt.pt (n : Int) = true := decide_eq_true ⟨by omega, by omega⟩
        rw [hpt] at HPt
        have HR := Lib.hid (HOk.out n k hk0 hkl (by rw [HO.out, Lt.num_parse, hp, Option.bind_some, if_pos hle]; rfl) w2 HB2.out)
        have hn' : (n : Int) < 1048576 := by omega
        clear hp hpt hle hkl hk0 HP HPlain HOk hb2 hn
        go_wp2_with (go_at_call 203; refine HPt.out.mono ?_; rintro e w3 ⟨rfl, rfl⟩)
        first | exact HR.out | exact bodyPost_ret (by simp [results, Tryz.results204, go_sem]) rfl HR.out
      · have hpt : Lt.pt (n : Int) = false := decide_eq_false (by omega)
        rw [hpt] at HPt
        have HR := Lib.hid (HPlain.out (by rw [HO.out, Lt.num_parse, hp, Option.bind_some, if_neg hle]; rfl) w2 HB2.out)
        have hn' : (n : Int) < 1048576 := by omega
        clear hp hpt hle hkl hk0 HP HPlain HOk hb2 hn
        go_wp2_with (go_at_call 203; refine HPt.out.mono ?_; rintro e w3 ⟨rfl, rfl⟩)
        all_goals
          first | exact HR.out | (rw [hwr]; exact HR.out) | exact bodyPost_ret (by simp [results, Tryz.results204, go_sem]) rfl HR.out | (rw [hwr]; exact bodyPost_ret (by simp [results, Tryz.results204, go_sem]) rfl HR.out)
    · have HR := Lib.hid (HPlain.out (by rw [HO.out, Lt.num_parse, hp]; rfl) w2 HB2.out)
      clear hp hkl hk0 HP HPlain HOk hb2
      go_wp2
      all_goals
        first | exact HR.out | (rw [hwr]; exact HR.out) | exact bodyPost_ret (by simp [results, Tryz.results204, go_sem]) rfl HR.out | (rw [hwr]; exact bodyPost_ret (by simp [results, Tryz.results204, go_sem]) rfl HR.out)
def strLen : Value → Nat
  | .string T => T.size
  | _ => 0
theorem laid_mem {P : Program} {x : String × DataW Unit} : ∀ {l : List (String × DataW Unit)} {W : World}, laidMet P l W → x ∈ l → ∃ r, laidMet P (x :: r) W
  | [], _, _, h => absurd h List.not_mem_nil
  | y :: l, W, h, hx => by
    rcases List.mem_cons.1 hx with rfl | hx
    · exact ⟨l, h⟩
    · exact laid_mem h.tail hx
theorem star_err : "*" ++ "errors.errorString" = "*errors.errorString" := by decide
theorem row_errStr (u : TypeId) (h : Tryz.prog.typeName? 3 u = some "*errors.errorString") : u = 309 :=
  typeName_ptr_named (nm := "errors.errorString") (by rw [star_err]; kernel_rfl) (by kernel_rfl) (by decide) u (by rw [star_err]; exact h)
theorem Gl.of_laid {l : List (String × DataW Unit)} {W : World} (h : laidMet Tryz.prog l W) (h1 : ("strconv.ErrSyntax", Rows.laid_strconv_ErrSyntax) ∈ l) (h2 : ("math/bits.deBruijn64tab", Rows.laid_math_bits_deBruijn64tab) ∈ l)
    (hm : ∃ m, W.cell? ⟨1, 0, none⟩ = some (.int .i64 m)) : Gl W := by
  obtain ⟨r1, k1⟩ := laid_mem h h1
  obtain ⟨r2, k2⟩ := laid_mem h h2
  refine ⟨?_, ?_, hm⟩
  · obtain ⟨a, s, hv, _⟩ := laid_sentinel (P := Tryz.prog) (g := 4) (ti := 151) (tp := 309) (te := 311) (ts := 9) k1 (by kernel_rfl) (by kernel_rfl) Tryz.underlying151 row_errStr Tryz.underlying309 Tryz.underlying311 rfl rfl Tryz.underlying9 (by kernel_rfl) (by kernel_rfl)
    exact ⟨_, World.var?_cell (by kernel_rfl) hv 0, .inr ⟨_, _, rfl⟩⟩
  · have k := Lib.tabIs_of_head (P := Tryz.prog) (g := 8) (t := 315) (e := 5) (n := 64) (k := .u8) (by kernel_rfl) (by kernel_rfl) (by kernel_rfl) Tryz.underlying5 (by kernel_rfl) (by kernel_rfl) (show laidMet Tryz.prog (("math/bits.deBruijn64tab", Lib.tabData .u8 [0, 1, 56, 2, 57, 49, 28, 3, 61, 58, 42, 50, 38, 29, 17, 4, 62, 47, 59, 36, 45, 43, 51, 22, 53, 39, 33, 30, 24, 18, 12, 5, 63, 55, 48, 27, 60, 41, 37, 16, 46, 35, 44, 21, 52, 32, 23, 11, 54, 26, 40, 15, 34, 20, 31, 10, 25, 14, 19, 9, 13, 8, 7, 6]) :: r2) W from k2)
    exact k.cell (by kernel_rfl) 15 (by decide)
end Go.Proofs.YtcgaeknikfaghaaGreatDoor
