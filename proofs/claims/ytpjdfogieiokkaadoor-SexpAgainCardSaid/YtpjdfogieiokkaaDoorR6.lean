/- The reference of scripts: one. -/
import Derived.Test.YtpjdfogieiokkaaDoorR5
namespace Go.Proofs.YtpjdfogieiokkaaDoor
open Go.RowKit

theorem slice_both (s : ByteArray) (a b : Nat) (hb : b ≤ s.size) (ha : a ≤ b) (w : World) : (Instr.slice 9 (.string s) (some (.int .i64 (a : Int))) (some (.int .i64 (b : Int))) none).run Tryd.prog w = .ok (.string (s.extract a b)) w := by
  rw [run_slice_string_if _ _ _ _ _ _ _ Tryd.underlying9, if_pos (by omega), if_pos (by omega)]
  rfl
theorem below_alloc2 (w : World) (x y : Obj) : Below w.heap.size w ((w.alloc x).alloc y) := ((Below.refl _ w).alloc (Nat.le_refl _) x).alloc (by simp) y

/-- a token's three cells -/
abbrev ZT : Array Value := #[.int .i64 0, .string ⟨#[]⟩, .int .i64 0]
abbrev set3 (w : World) (R : Nat) (x y z : Value) : World := ((w.setCell ⟨R, 0, none⟩ x).setCell ⟨R, 1, none⟩ y).setCell ⟨R, 2, none⟩ z
theorem tok_cells {w : World} {R : Nat} {v0 v1 v2 : Value} (h : Lies w R 31 #[v0, v1, v2]) (x y z : Value) :
    Lies (set3 w R x y z) R 31 #[x, y, z] ∧ (set3 w R x y z).cell? ⟨R, 0, none⟩ = some x ∧ (set3 w R x y z).cell? ⟨R, 1, none⟩ = some y ∧ (set3 w R x y z).cell? ⟨R, 2, none⟩ = some z := by
  have l : Lies (set3 w R x y z) R 31 #[x, y, z] := by simpa using ((h.put 0 x).put 1 y).put 2 z
  exact ⟨l, by simpa using l.cell 0, by simpa using l.cell 1, by simpa using l.cell 2⟩
theorem tok_below {w0 w : World} (h : Below w0.heap.size w0 w) {R : Nat} (hR : w0.heap.size ≤ R) (x y z : Value) : Below w0.heap.size w0 (set3 w R x y z) :=
  h.trans ((((Turn.refl (fun i => i = R) w).put (p := ⟨R, 0, none⟩) (.inl rfl) x).put (p := ⟨R, 1, none⟩) (.inl rfl) y).put (p := ⟨R, 2, none⟩) (.inl rfl) z |>.below h.size fun i e => by rw [e]; exact hR)
theorem tok_room {W w4 : World} {R : Nat} (b4 : Below W.heap.size W w4) (hl : Lies W R 31 ZT) :
    R < w4.heap.size ∧ w4.cell? ⟨R, 0, none⟩ = some (.int .i64 0) ∧ w4.cell? ⟨R, 1, none⟩ = some (.string ⟨#[]⟩) ∧ w4.cell? ⟨R, 2, none⟩ = some (.int .i64 0) ∧
    w4.frozen? ⟨R, 0, none⟩ = false ∧ w4.frozen? ⟨R, 1, none⟩ = false ∧ w4.frozen? ⟨R, 2, none⟩ = false ∧ Hid (Lies w4 R 31 ZT) := by
  have h := (Turn.of_below (F := fun _ => False) b4).lies hl id
  exact ⟨h.lt, by simpa using h.cell 0, by simpa using h.cell 1, by simpa using h.cell 2, h.free 0, h.free 1, h.free 2, h⟩

/-- what one answers -/
structure OSaid (s : ByteArray) (a : Nat) (x : Int × List UInt8 × Int × List UInt8) (w : World) (e : Ending) (w' : World) : Prop where
  below : Below w.heap.size w w'
  ok : x.2.2.1 = 0 → ∃ (T : ByteArray) (b : Nat), e = .returned (.tuple #[.agg #[.int .i64 x.1, .string T, .int .i64 (a : Nat)], .int .i64 (b : Nat), .int .i64 0, .int .i64 0]) ∧ T.data.toList = x.2.1 ∧ a < b ∧ b ≤ s.size ∧ s.data.toList.drop b = x.2.2.2
  bad : x.2.2.1 ≠ 0 → ∃ p : Nat, e = .returned (.tuple #[.agg #[.int .i64 0, .string ⟨#[]⟩, .int .i64 0], .int .i64 0, .int .i64 x.2.2.1, .int .i64 (p : Nat)]) ∧ a ≤ p ∧ p < s.size ∧ s.data.toList.drop p = x.2.2.2

/-- the bytes from a place to where names end -/
theorem text_of (s : ByteArray) (a k : Nat) (ha : a < s.size) (h1 : a + 1 ≤ k) (h2 : k ≤ s.size) (h3 : s.data.toList.drop k = (s.data.toList.drop (a + 1)).dropWhile Lx.name) :
    (s.extract a k).data.toList = s[a] :: (s.data.toList.drop (a + 1)).takeWhile Lx.name := by
  have h := Lx.take_drop Lx.name (s.data.toList.drop (a + 1))
  rw [(cut_bytes s a k h2 (by omega)).1, drop_at s ha, show k - a = (k - (a + 1)) + 1 by omega, List.take_succ_cons]
  congr 1
  rw [← h3] at h
  have hl := congrArg List.length h
  rw [List.length_append, List.length_drop, List.length_drop] at hl
  have hsz : s.data.toList.length = s.size := by rw [Array.length_toList]; rfl
  rw [hsz] at hl
  have : ((s.data.toList.drop (a + 1)).takeWhile Lx.name).length = k - (a + 1) := by omega
  rw [← this]
  have h' := congrArg (List.take ((s.data.toList.drop (a + 1)).takeWhile Lx.name).length) h
  rw [List.take_left] at h'
  exact h'.symm

theorem rone_open (s : ByteArray) (a : Nat) (w : World) (hs : s.size ≤ 1000000) (ha : a < s.size) (hc : s[a].toNat = 40 ∨ s[a].toNat = 41) :
    Calls Tryd.prog 38 #[.string s, .int .i64 (a : Nat)] w (OSaid s a (Lx.one (s.data.toList.drop a)) w) := by
  have HN := Lib.hid fun W => rnames s (a + 1) W (by unfold maxLen; omega) (by omega)
  have HSL := fun k h1 h2 => slice_both s a k h1 h2
  have hwi : IntKind.i64.wrap ((a : Int) + 1) = ((a + 1 : Nat) : Int) := IntWalk.i64_in _ (by omega)
  have hX : Lx.one (s.data.toList.drop a) = (if s[a].toNat = 40 then 1 else 2, [s[a]], 0, s.data.toList.drop (a + 1)) := by
    rw [drop_at s ha]
    rcases hc with h | h <;> simp [Lx.one, h]
  rw [hX]
  clear hX
  rcases hc with h | h
  · have b1 : ((s[a].toNat : Int) == 40) = true := beq_iff_eq.2 (by omega)
    have hT : Hid ((⟨#[40]⟩ : ByteArray).data.toList = [s[a]]) := by
      show [(40 : UInt8)] = _
      rw [Lx.byte_eq h]; rfl
    have hk : (if s[a].toNat = 40 then (1 : Int) else 2) = 1 := by rw [if_pos h]
    rw [hk]
    clear h hk
    go_enter Tryd.func38, Tryd.ntmps38
    go_wp2_with (go_at_call 58; refine (HN.out _).mono ?_; rintro e w2 ⟨k, rfl, rfl, h1, h2, _⟩; have hsl := HSL k h2 (by omega))
    exact bodyPost_ret (v := .tuple #[.agg #[.int .i64 1, .string ⟨#[40]⟩, .int .i64 (a : Nat)], .int .i64 ((a + 1 : Nat) : Int), .int .i64 0, .int .i64 0]) (by simp [results, Tryd.results38, go_sem]) rfl ⟨below_alloc2 _ _ _, fun _ => ⟨_, a + 1, rfl, hT.out, by omega, by omega, rfl⟩, fun h => absurd rfl h⟩
  · have b1 : ((s[a].toNat : Int) == 40) = false := beq_eq_false_iff_ne.2 (by omega)
    have b2 : ((s[a].toNat : Int) == 41) = true := beq_iff_eq.2 (by omega)
    have hT : Hid ((⟨#[41]⟩ : ByteArray).data.toList = [s[a]]) := by
      show [(41 : UInt8)] = _
      rw [Lx.byte_eq h]; rfl
    have hk : (if s[a].toNat = 40 then (1 : Int) else 2) = 2 := by rw [if_neg (by omega)]
    rw [hk]
    clear h hk
    go_enter Tryd.func38, Tryd.ntmps38
    go_wp2_with (go_at_call 58; refine (HN.out _).mono ?_; rintro e w2 ⟨k, rfl, rfl, h1, h2, _⟩; have hsl := HSL k h2 (by omega))
    exact bodyPost_ret (v := .tuple #[.agg #[.int .i64 2, .string ⟨#[41]⟩, .int .i64 (a : Nat)], .int .i64 ((a + 1 : Nat) : Int), .int .i64 0, .int .i64 0]) (by simp [results, Tryd.results38, go_sem]) rfl ⟨below_alloc2 _ _ _, fun _ => ⟨_, a + 1, rfl, hT.out, by omega, by omega, rfl⟩, fun h => absurd rfl h⟩
end Go.Proofs.YtpjdfogieiokkaaDoor
