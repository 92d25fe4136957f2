/- nat: Parse of a number's digits: what it answers. -/
import Derived.Test.YtefkkmnhnldcbaaB5
import Derived.Test.YtefkkmnhnldcbaaA2
import Derived.Test.YtefkkmnhnldcbaaC1
namespace Go.Proofs.Ytefkkmnhnldcbaa
open Go.RowKit

theorem isT_parts {l : List UInt8} : isT l = true ↔ l ≠ [] ∧ l.length ≤ 2000 ∧ (l = [48] ∨ l.getD 0 0 ≠ 48) ∧ T.AllD l := by
  unfold isT T.AllD
  simp only [Bool.and_eq_true, Bool.not_eq_true', decide_eq_true_eq, List.all_eq_true, Bool.and_eq_false_iff, decide_eq_false_iff_not, List.isEmpty_eq_false_iff]
  constructor
  · rintro ⟨⟨⟨h1, h2⟩, h3⟩, h4⟩
    refine ⟨h1, h2, ?_, h4⟩
    rcases h3 with h3 | h3
    · exact .inr h3
    · exact .inl (Decidable.not_not.1 h3)
  · rintro ⟨h1, h2, h3, h4⟩
    refine ⟨⟨⟨h1, h2⟩, ?_⟩, h4⟩
    rcases h3 with h3 | h3
    · exact .inr (fun h => h h3)
    · exact .inl h3

/-- Parse's answer: a number, and no error -/
def Parsed (W : World) (N : Nat) (e : Ending) (w' : World) : Prop := ∃ v, e = .returned (.tuple #[v, .int .i64 0]) ∧ Num w' v N ∧ Below W.heap.size W w'

set_option maxHeartbeats 1000000 in
theorem parse_good (s : ByteArray) (w : World) (hs : s.size ≤ maxLen) (h : isT s.data.toList = true) :
    Calls Try.prog 32 #[.string s] w (Parsed w (T.dv s.data.toList)) := by
  obtain ⟨h1, h2, _, hall⟩ := isT_parts.1 h
  have hlen := lenL s
  rw [hlen] at h2
  have hpos : 0 < s.size := by
    rcases Nat.eq_zero_or_pos s.size with e | e
    · rw [e] at hlen; exact absurd (List.eq_nil_of_length_eq_zero hlen) h1
    · exact e
  have HT := Lib.hid (isText_any s w hs)
  rw [h] at HT
  have HD : Hid (∀ i (hi : i < s.size), 48 ≤ s[i].toNat ∧ s[i].toNat ≤ 57) := fun i hi => by
    rw [← getL hi]
    refine hall _ ?_
    rw [List.getD_eq_getElem?_getD, List.getElem?_eq_getElem (by rw [hlen]; exact hi)]
    exact List.getElem_mem _
  obtain ⟨S, HS⟩ : ∃ S, Hid (s.data.toList = S) := ⟨_, rfl⟩
  have HG : Hid (∀ i (hi : i < s.size), S.getD i 0 = s[i]) := fun i hi => by rw [← HS.out]; exact getL hi
  have HL : Hid (S.length = s.size) := by rw [← HS.out]; exact hlen
  have HA : Hid (T.AllD S) := by rw [← HS.out]; exact hall
  rw [HS.out]
  clear hall h1 h hlen
  obtain ⟨m, Hm⟩ : ∃ m, Hid (s.size / 9 + 1 = m) := ⟨_, rfl⟩
  have hm : m ≤ 300 := by have := Hm.out; omega
  have hdm : (s.size : Int) / 9 + 1 = (m : Int) := by have := Hm.out; omega
  have hmk := make_any m (by omega)
  go_enter Try.func32, Try.ntmps32
  go_wp2_with fail
  refine HT.out.mono ?_
  rintro e w1 ⟨rfl, rfl⟩
  go_wp2_with fail
  have hrow := Row.zeros_ w m
  have hb0 : Below w.heap.size w (w.alloc (.cells (zeros m) 43)) := (Below.refl _ _).alloc (Nat.le_refl _) _
  go_loopw [5, 6, 18] (fun sv cv iv wr => ∃ (i sc ch : Nat) (L : List Nat), i ≤ s.size ∧ sc ≤ 100000000 ∧ ch ≤ 100000000 ∧ iv = .int .i64 i ∧ sv = .int .u64 sc ∧ cv = .int .u64 ch ∧ Row wr w.heap.size L ∧ T.Parsing S L m i sc ch ∧ (i = s.size → sc = 1 ∧ ch = 0) ∧ Below w.heap.size w wr) (fun _ _ iv _ => s.size - (intOf iv).toNat)
  case atStart => exact ⟨0, 1, 0, _, by omega, by omega, by omega, rfl, rfl, rfl, hrow, T.Parsing.start S m, fun _ => ⟨rfl, rfl⟩, hb0⟩
  case round =>
    obtain ⟨i, sc, ch, L, hi, hsc, hch, rfl, rfl, rfl, hrow, hp, hend, hbel⟩ := hrel
    have HE := Lib.hid hend
    clear hend
    by_cases hlt : i < s.size
    · obtain ⟨d, Hd⟩ : ∃ d, Hid (s[i].toNat - 48 = d) := ⟨s[i].toNat - 48, rfl⟩
      have hc := HD.out i hlt
      have hd9 : d ≤ 9 := by have := Hd.out; omega
      have HD2 : Hid (d = (S.getD i 0).toNat - 48) := by rw [HG.out i hlt]; exact Hd.out.symm
      have hde : (s[i].toNat : Int) - 48 = (d : Int) := by have := Hd.out; omega
      obtain ⟨hs1, hs2⟩ := hp.small
      have hchl := hp.lt
      obtain ⟨k, hk⟩ : ∃ k, Hid (sc * 10 = k) := ⟨_, rfl⟩
      obtain ⟨mo, hmo⟩ : ∃ mo, Hid (ch * 10 + d = mo) := ⟨_, rfl⟩
      have hke : (sc : Int) * 10 = (k : Int) := by have := hk.out; omega
      have hmoe : (ch : Int) * 10 + (d : Int) = (mo : Int) := by have := hmo.out; omega
      have hk9 : k ≤ 1000000000 := by have := hk.out; omega
      have hmk' : mo ≤ k := by have := hk.out; have := hmo.out; omega
      have hflush : Hid (∀ (L' : List Nat) (c : Nat), L'.length = m → M.Fit L' → M.val L' + M.BB ^ m * c = M.val L * k + mo → T.Parsing S L' m (i + 1) 1 0) := by
        intro L' c q1 q2 q3
        rw [← hk.out, ← hmo.out] at q3
        exact hp.flush (by rw [HL.out]; exact hlt) HD2.out hd9 HA.out (by rw [HL.out]; exact Hm.out.symm) q1 q2 q3
      have HTP := Lib.hid (timesPlus_any w.heap.size m m k mo L wr hrow hp.fit hp.len (by omega) hk9 hmk')
      by_cases hA : sc = 100000000 ∨ i + 1 = s.size
      · rcases (show ((k : Int) == 1000000000) = true ∨ ((k : Int) == 1000000000) = false ∧ ((i : Int) == (s.size : Int) - 1) = true from by
          have := hk.out
          rcases hs2 with e | e
          · left; simp; omega
          · right; constructor
            · simp; omega
            · rcases hA with e2 | e2
              · omega
              · simp; omega) with hb1 | ⟨hb1, hb2⟩
        all_goals
          clear hA hs2
          go_wp2_with fail
          refine HTP.out.mono ?_
          rintro e w2 ⟨L', c, rfl, r2, g2, l2, f2, v2⟩
          have hp2 := hflush.out L' c l2 f2 v2
          have hbel2 := hbel.grown g2 hbel.size (by intro q hq; injection hq with hq; omega)
          clear v2 l2 g2
          go_wp2_with fail
          go_roundw
          case rel => exact ⟨i + 1, 1, 0, L', by omega, by omega, by omega, by go_num, rfl, rfl, r2, hp2, fun _ => ⟨rfl, rfl⟩, hbel2⟩
          case measure => simp [intOf]; omega
      · have hs3 : sc ≤ 10000000 := by omega
        have hb1 : ((k : Int) == 1000000000) = false := by have := hk.out; simp; omega
        have hb2 : ((i : Int) == (s.size : Int) - 1) = false := by simp; omega
        have hp2 := hp.keep (by rw [HL.out]; exact hlt) HD2.out hd9 hs3
        rw [hk.out, hmo.out] at hp2
        have hi2 : ¬ i + 1 = s.size := fun e => hA (.inr e)
        have HI2 := Lib.hid hi2
        have hk8 : k ≤ 100000000 := by have := hk.out; omega
        clear hA hs2 hi2
        go_wp2_with fail
        go_roundw
        case rel => exact ⟨i + 1, k, mo, L, by omega, by omega, by omega, by go_num, rfl, rfl, hrow, hp2, fun e => absurd e HI2.out, hbel⟩
        case measure => simp [intOf]; omega
    · obtain rfl : i = s.size := by omega
      obtain ⟨rfl, rfl⟩ := HE.out rfl
      have hv : Hid (M.val L = T.dv S) := by
        have := hp.sum
        rw [Nat.mul_one, Nat.add_zero, List.take_of_length_le (by rw [HL.out]; exact Nat.le_refl _)] at this
        exact this
      have hlm := hp.len
      have HT2 := Lib.hid (trim_any (some ⟨w.heap.size, 0, none⟩) m m L wr (hrow.lims hp.fit hlm) (Nat.le_refl _) (by unfold maxLen; omega))
      clear hlm
      go_wp2_with fail
      refine HT2.out.mono ?_
      rintro e w2 hT
      obtain ⟨A3, n3, c3, rfl, t1, t2, t3, t4, t5, t6, rfl⟩ := hT
      have T2 := Lib.hid t2
      have T3 := Lib.hid (t3.trans hv.out)
      clear t2 t3
      go_wp2_with fail
      go_ret2
      exact ⟨_, rfl, ⟨A3, n3, c3, _, rfl, t1, T2.out, T3.out, t5, by unfold maxLen; omega⟩, hbel⟩
end Go.Proofs.Ytefkkmnhnldcbaa
