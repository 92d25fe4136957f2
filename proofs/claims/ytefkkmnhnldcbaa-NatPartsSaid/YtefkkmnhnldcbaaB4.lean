/- nat: isText: what it answers. -/
import Derived.Test.YtefkkmnhnldcbaaA4
import Derived.Test.YtefkkmnhnldcbaaMathT
namespace Go.Proofs.Ytefkkmnhnldcbaa
open Go.RowKit

/-- the texts that are parsed -/
def isT (l : List UInt8) : Bool := !l.isEmpty && decide (l.length ≤ 2000) && !(decide (l.getD 0 0 = 48) && decide (l ≠ [48])) && l.all fun c => decide (48 ≤ c.toNat) && decide (c.toNat ≤ 57)

theorem lenL (s : ByteArray) : s.data.toList.length = s.size := by rw [Array.length_toList]; rfl
theorem getL {s : ByteArray} {i : Nat} (h : i < s.size) : s.data.toList.getD i 0 = s[i] := by
  have h' : i < s.data.size := h
  rw [List.getD_eq_getElem?_getD, Array.getElem?_toList, Array.getElem?_eq_getElem h']
  rfl
theorem allL {s : ByteArray} {p : UInt8 → Bool} : (s.data.toList.all p = true) ↔ ∀ i (h : i < s.size), p s[i] = true := by
  rw [List.all_eq_true]
  constructor
  · intro h i hi
    have h' : i < s.data.size := hi
    have hm : s.data[i] ∈ s.data.toList := Array.getElem_mem_toList h'
    exact h _ hm
  · intro h x hx
    obtain ⟨i, hi, rfl⟩ := List.getElem_of_mem hx
    exact h i (by simpa using hi)

theorem isText_any (s : ByteArray) (w : World) (hs : s.size ≤ maxLen) :
    Calls Try.prog 51 #[.string s] w fun e w' => e = .returned (.bool (isT s.data.toList)) ∧ w = w' := by
  unfold maxLen at hs
  have hlen := lenL s
  have htl : s.toList = s.data.toList := by rw [ByteArray.toList_eq]
  by_cases h0 : s.size = 0
  · have hnil : s.data.toList = [] := List.eq_nil_of_length_eq_zero (by omega)
    have e : isT s.data.toList = false := by simp [isT, hnil]
    have hl : s.toList = [] := by rw [htl, hnil]
    rw [e]
    clear hnil htl e h0 hlen
    go_enter Try.func51, Try.ntmps51
    go_wp2
    go_ret
    exact ⟨rfl, rfl⟩
  have hl : s.toList.isEmpty = false := by
    rw [htl]; cases h : s.data.toList with
    | nil => rw [h] at hlen; simp at hlen; omega
    | cons _ _ => rfl
  have hl2 : s.data.toList.isEmpty = false := by rw [← htl]; exact hl
  by_cases h1 : 2000 < s.size
  · have e : isT s.data.toList = false := by simp [isT, hlen]; intros; omega
    rw [e]
    clear htl e hlen hl2
    go_enter Try.func51, Try.ntmps51
    go_wp2
    go_ret
    exact ⟨rfl, rfl⟩
  have hp : 0 < s.size := by omega
  by_cases h2 : s[0] = 48 ∧ s.data.toList ≠ [48]
  · have e : isT s.data.toList = false := by
      unfold isT
      rw [getL hp, decide_eq_true h2.1, decide_eq_true h2.2]
      simp
    have hc : ((s[0].toNat : Int) == 48) = true := by rw [h2.1]; rfl
    have hq : (s.toList == [48]) = false := by rw [htl]; simpa using h2.2
    rw [e]
    clear htl e hlen hl2 h2
    go_enter Try.func51, Try.ntmps51
    go_wp2
    go_ret
    exact ⟨rfl, rfl⟩
  have hall : isT s.data.toList = s.data.toList.all fun c => decide (48 ≤ c.toNat) && decide (c.toNat ≤ 57) := by
    unfold isT
    rw [hl2, decide_eq_true (show s.data.toList.length ≤ 2000 by omega), getL hp]
    have : (decide (s[0] = 48) && decide (s.data.toList ≠ [48])) = false := by
      rw [Bool.and_eq_false_iff]
      by_cases a : s[0] = 48
      · right
        rw [decide_eq_false_iff_not]
        intro b
        exact h2 ⟨a, b⟩
      · left; exact decide_eq_false a
    rw [this]
    simp
  obtain ⟨R, HR⟩ : ∃ R, Hid (isT s.data.toList = R) := ⟨_, rfl⟩
  have HA : Hid (R = s.data.toList.all fun c => decide (48 ≤ c.toNat) && decide (c.toNat ≤ 57)) := by rw [← HR.out]; exact hall
  have HL := Lib.hid hlen
  rw [HR.out]
  have htest : (s[0].toNat : Int) == 48 → (s.toList == [48]) = true := by
    intro a
    have a' : s[0] = 48 := by
      have h1 : (s[0].toNat : Int) = 48 := by simpa using a
      have this : s[0].toNat = (48 : UInt8).toNat := by
        have : (48 : UInt8).toNat = 48 := rfl
        omega
      exact UInt8.toNat_inj.1 this
    rw [htl]
    by_cases b : s.data.toList = [48]
    · rw [b]; rfl
    · exact absurd ⟨a', b⟩ h2
  have main : ∀ (_ : True), Calls Try.prog 51 #[.string s] w fun e w' => e = .returned (.bool R) ∧ w = w' := by
    intro _
    clear hall htl hl2 h2 hlen
    have hb2 : decide ((2000 : Int) < (s.size : Int)) = false := by simp; omega
    have hfalse : Hid (∀ k (h : k < s.size), (s[k].toNat < 48 ∨ 57 < s[k].toNat) → R = false) := by
      intro k hk hc
      rw [HA.out]
      cases h : s.data.toList.all fun c => decide (48 ≤ c.toNat) && decide (c.toNat ≤ 57) with
      | false => rfl
      | true =>
        have := allL.1 h k hk
        simp at this
        omega
    have htrue : Hid ((∀ k (h : k < s.size), 48 ≤ s[k].toNat ∧ s[k].toNat ≤ 57) → R = true) := by
      intro hk
      rw [HA.out, allL]
      intro i hi
      have := hk i hi
      simp; omega
    rcases (show (((s[0].toNat : Int) == 48) = true ∧ (s.toList == [48]) = true) ∨ ((s[0].toNat : Int) == 48) = false from by
      cases h : ((s[0].toNat : Int) == 48) with
      | false => exact .inr rfl
      | true => exact .inl ⟨rfl, htest h⟩) with ⟨h3, hq⟩ | h3
    all_goals
      clear htest
      go_enter Try.func51, Try.ntmps51
      go_wp2_with fail
      go_loop [22] (fun iv => ∃ k : Nat, k ≤ s.size ∧ iv = .int .i64 k ∧ Hid (∀ j (h : j < s.size), j < k → 48 ≤ s[j].toNat ∧ s[j].toNat ≤ 57)) (fun iv => s.size - (intOf iv).toNat)
      case atStart => exact ⟨0, Nat.zero_le _, rfl, fun j h hj => by omega⟩
      case round =>
        obtain ⟨k, hk, rfl, HK⟩ := hrel
        by_cases hlt : k < s.size
        · by_cases hc1 : (s[k].toNat : Int) < 48
          · have hf := Lib.hid (hfalse.out k hlt (by omega))
            go_wp2_with fail
            go_ret
            rw [hf.out]
            exact ⟨rfl, rfl⟩
          · by_cases hc2 : 57 < (s[k].toNat : Int)
            · have hf := Lib.hid (hfalse.out k hlt (by omega))
              go_wp2_with fail
              go_ret
              rw [hf.out]
              exact ⟨rfl, rfl⟩
            · go_wp2_with fail
              go_round
              case rel => exact ⟨k + 1, by omega, by go_num, fun j h hj => by
                by_cases e : j = k
                · subst e; omega
                · exact HK.out j h (by omega)⟩
              case measure => simp [intOf]; omega
        · have ht := Lib.hid (htrue.out fun j h => HK.out j h (by omega))
          go_wp2_with fail
          go_ret
          rw [ht.out]
          exact ⟨rfl, rfl⟩
  exact main trivial
end Go.Proofs.Ytefkkmnhnldcbaa
