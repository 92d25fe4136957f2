/- The code's pieces: upTo, wrong; their four cells in a room; Simple; digits. -/
import Derived.Test.YtpjdfogieiokkaaDoorK2
import Derived.Test.YtpjdfogieiokkaaDoorR8
namespace Go.Proofs.YtpjdfogieiokkaaDoor
open Go.RowKit Go.Shelf

/-- a piece's four cells -/
abbrev ZP : Array Value := #[.int .i64 0, .string ⟨#[]⟩, .int .i64 0, .int .i64 0]
abbrev piece (k : Int) (T : ByteArray) (n e : Int) : Value := .agg #[.int .i64 k, .string T, .int .i64 n, .int .i64 e]
abbrev set4 (w : World) (R : Nat) (x y z u : Value) : World := (((w.setCell ⟨R, 0, none⟩ x).setCell ⟨R, 1, none⟩ y).setCell ⟨R, 2, none⟩ z).setCell ⟨R, 3, none⟩ u
theorem pc_cells {w : World} {R : Nat} {v0 v1 v2 v3 : Value} (h : Lies w R 64 #[v0, v1, v2, v3]) (x y z u : Value) :
    Lies (set4 w R x y z u) R 64 #[x, y, z, u] ∧ (set4 w R x y z u).cell? ⟨R, 0, none⟩ = some x ∧ (set4 w R x y z u).cell? ⟨R, 1, none⟩ = some y ∧ (set4 w R x y z u).cell? ⟨R, 2, none⟩ = some z ∧ (set4 w R x y z u).cell? ⟨R, 3, none⟩ = some u := by
  have l : Lies (set4 w R x y z u) R 64 #[x, y, z, u] := by simpa using (((h.put 0 x).put 1 y).put 2 z).put 3 u
  exact ⟨l, by simpa using l.cell 0, by simpa using l.cell 1, by simpa using l.cell 2, by simpa using l.cell 3⟩
theorem pc_below {w0 w : World} (h : Below w0.heap.size w0 w) {R : Nat} (hR : w0.heap.size ≤ R) (x y z u : Value) : Below w0.heap.size w0 (set4 w R x y z u) :=
  h.trans (((((Turn.refl (fun i => i = R) w).put (p := ⟨R, 0, none⟩) (.inl rfl) x).put (p := ⟨R, 1, none⟩) (.inl rfl) y).put (p := ⟨R, 2, none⟩) (.inl rfl) z).put (p := ⟨R, 3, none⟩) (.inl rfl) u |>.below h.size fun i e => by rw [e]; exact hR)
theorem pc_room {W w4 : World} {R : Nat} (b4 : Below W.heap.size W w4) (hl : Lies W R 64 ZP) :
    R < w4.heap.size ∧ w4.cell? ⟨R, 0, none⟩ = some (.int .i64 0) ∧ w4.cell? ⟨R, 1, none⟩ = some (.string ⟨#[]⟩) ∧ w4.cell? ⟨R, 2, none⟩ = some (.int .i64 0) ∧ w4.cell? ⟨R, 3, none⟩ = some (.int .i64 0) ∧
    w4.frozen? ⟨R, 0, none⟩ = false ∧ w4.frozen? ⟨R, 1, none⟩ = false ∧ w4.frozen? ⟨R, 2, none⟩ = false ∧ w4.frozen? ⟨R, 3, none⟩ = false ∧ Hid (Lies w4 R 64 ZP) := by
  have h := (Turn.of_below (F := fun _ => False) b4).lies hl id
  exact ⟨h.lt, by simpa using h.cell 0, by simpa using h.cell 1, by simpa using h.cell 2, by simpa using h.cell 3, h.free 0, h.free 1, h.free 2, h.free 3, h⟩

theorem kupTo (s : ByteArray) (n : Nat) (k : Int) (w : World) (hn : n ≤ s.size) :
    Calls Tryd.prog 48 #[.string s, .int .i64 (n : Nat), .int .i64 k] w fun e w' => e = .returned (piece k (s.extract 0 n) (n : Nat) 0) ∧ Below w.heap.size w w' := by
  have hsl := slice_to s n hn
  go_enter Tryd.func48, Tryd.ntmps48
  go_wp2
  exact bodyPost_ret (v := piece k (s.extract 0 n) (n : Nat) 0) (by simp [results, Tryd.results48, go_sem]) rfl ⟨rfl, (Below.refl _ w).alloc (Nat.le_refl _) _⟩
theorem kwrong (e n : Int) (w : World) :
    Calls Tryd.prog 56 #[.int .i64 e, .int .i64 n] w fun r w' => r = .returned (piece 0 ⟨#[]⟩ n e) ∧ Below w.heap.size w w' := by
  go_enter Tryd.func56, Tryd.ntmps56
  go_wp2
  exact bodyPost_ret (v := piece 0 ⟨#[]⟩ n e) (by simp [results, Tryd.results56, go_sem]) rfl ⟨rfl, (Below.refl _ w).alloc (Nat.le_refl _) _⟩

theorem all_take_len (p : UInt8 → Bool) (l : List UInt8) : ((l.takeWhile p).length = l.length) = (l.all p = true) := by
  apply propext
  constructor
  · intro h
    have := congrArg List.length (Lx.take_drop p l)
    rw [List.length_append] at this
    have h0 : l.dropWhile p = [] := List.eq_nil_of_length_eq_zero (by omega)
    have h1 := Lx.take_drop p l
    rw [h0, List.append_nil] at h1
    rw [← h1]
    exact Lx.take_all p l
  · intro h
    rw [(Lx.all_take p l h).1]
/-- span is all, or not -/
theorem span_all (p : UInt8 → Bool) (s : ByteArray) {b : Bool} (hb : s.data.toList.all p = b) : (((s.data.toList.takeWhile p).length : Int) == (s.size : Int)) = b := by
  have h := all_take_len p s.data.toList
  rw [len_bytes, hb] at h
  cases b with
  | true => exact beq_iff_eq.2 (by rw [h.mpr rfl])
  | false => exact beq_eq_false_iff_ne.2 fun e => by have := h.mp (by omega); cases this

theorem ksimple (s : ByteArray) (w : World) (hs : s.size ≤ maxLen) :
    Calls Tryd.prog 83 #[.string s] w fun e w' => e = .returned (.bool (Lx.simple s.data.toList)) ∧ ∃ q, w' = w.drewN q := by
  have hs0 := hs
  unfold maxLen at hs
  by_cases h0 : s.size = 0
  · obtain ⟨e1, e2⟩ := nil_bytes h0
    rw [e1]
    clear e1
    show Calls _ _ _ _ fun e w' => e = .returned (.bool false) ∧ ∃ q, w' = w.drewN q
    go_enter Tryd.func83, Tryd.ntmps83
    go_wp2
    go_ret
    exact ⟨rfl, 0, rfl⟩
  have hpos : 0 < s.size := by omega
  obtain ⟨f1, f2, f3⟩ := some_bytes hpos
  have f4 : (s.toList != []) = true := by rw [bne, f3]; rfl
  have hw := rune_c s[0]
  obtain ⟨d, hd⟩ : ∃ d, Lx.digit s[0] = d := ⟨_, rfl⟩
  obtain ⟨a, ha⟩ : ∃ a, s.data.toList.all Lx.name = a := ⟨_, rfl⟩
  have hX : Lx.simple s.data.toList = (!d && a) := by
    have := drop_at s hpos
    rw [List.drop_zero] at this
    rw [Lx.simple, f1, ha, ← hd, this]
    rfl
  rw [hX]
  have HD := Lib.hid fun W => kdigit s[0] W
  rw [hd] at HD
  have HS := Lib.hid fun W => kspan _ enter_named _ knamed s W hs0
  have hb := span_all Lx.name s ha
  obtain ⟨n, hn⟩ : ∃ n, (s.data.toList.takeWhile Lx.name).length = n := ⟨_, rfl⟩
  rw [hn] at HS hb
  clear hX hd ha hn f1 h0
  cases a <;> cases d
  all_goals
    go_enter Tryd.func83, Tryd.ntmps83
    go_wp2_with (first
      | (go_at_call 45; refine (HS.out _).mono ?_; rintro e w1 ⟨rfl, rfl⟩)
      | (go_at_call 53; refine (HD.out _).mono ?_; rintro e w1 ⟨rfl, rfl⟩))
    go_ret
    exact ⟨rfl, 0, rfl⟩

theorem kdigits (c : UInt8) (s : ByteArray) (w : World) (hs : s.size ≤ maxLen) :
    Calls Tryd.prog 74 #[.int .u8 (c.toNat : Nat), .string s] w fun e w' => e = .returned (.bool ((decide (c.toNat = 120) && s.data.toList.all Lx.hex) || (decide (c.toNat = 98) && s.data.toList.all Lx.bit))) ∧ w' = w := by
  by_cases h1 : c.toNat = 120
  · obtain ⟨a, ha⟩ : ∃ a, s.data.toList.all Lx.hex = a := ⟨_, rfl⟩
    have HS := Lib.hid fun W => kspan _ enter_hex _ khex s W hs
    have hb := span_all Lx.hex s ha
    obtain ⟨n, hn⟩ : ∃ n, (s.data.toList.takeWhile Lx.hex).length = n := ⟨_, rfl⟩
    rw [hn] at HS hb
    rw [ha, h1]
    clear ha hn
    go_enter Tryd.func74, Tryd.ntmps74
    go_wp2_with (go_at_call 45; refine (HS.out _).mono ?_; rintro e w1 ⟨rfl, rfl⟩)
    go_ret
    exact ⟨by simp, rfl⟩
  by_cases h2 : c.toNat = 98
  · obtain ⟨a, ha⟩ : ∃ a, s.data.toList.all Lx.bit = a := ⟨_, rfl⟩
    have HS := Lib.hid fun W => kspan _ enter_bit _ kbit s W hs
    have hb := span_all Lx.bit s ha
    obtain ⟨n, hn⟩ : ∃ n, (s.data.toList.takeWhile Lx.bit).length = n := ⟨_, rfl⟩
    rw [hn] at HS hb
    rw [ha, h2]
    clear ha hn h1
    go_enter Tryd.func74, Tryd.ntmps74
    go_wp2_with (go_at_call 45; refine (HS.out _).mono ?_; rintro e w1 ⟨rfl, rfl⟩)
    go_ret
    exact ⟨by simp, rfl⟩
  have b1 : ((c.toNat : Int) == 120) = false := beq_eq_false_iff_ne.2 (by omega)
  have b2 : ((c.toNat : Int) == 98) = false := beq_eq_false_iff_ne.2 (by omega)
  rw [decide_eq_false h1, decide_eq_false h2]
  clear h1 h2
  go_enter Tryd.func74, Tryd.ntmps74
  go_wp2
  go_ret
  exact ⟨rfl, rfl⟩
end Go.Proofs.YtpjdfogieiokkaaDoor
