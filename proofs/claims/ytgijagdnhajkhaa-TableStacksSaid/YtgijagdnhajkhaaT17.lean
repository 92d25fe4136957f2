/- Lists without repeats; TableCuts. -/
import Derived.Test.YtgijagdnhajkhaaT16
namespace Go.Proofs.Ytgijagdnhajkhaa
open Go.RowKit

/-- a key added to a list, if it is not there -/
def addk {α : Type} [BEq α] [LawfulBEq α] (ks : List α) (x : α) : List α := if x ∈ ks then ks else ks ++ [x]
/-- the keys of a list, each once, in the order in which they come -/
def ded {α : Type} [BEq α] [LawfulBEq α] (l : List α) : List α := l.foldl addk []
theorem ded_snoc {α : Type} [BEq α] [LawfulBEq α] (l : List α) (x : α) : ded (l ++ [x]) = addk (ded l) x := by simp [ded, List.foldl_append]
theorem mem_addk {α : Type} [BEq α] [LawfulBEq α] {ks : List α} {x y : α} : y ∈ addk ks x ↔ y ∈ ks ∨ y = x := by
  unfold addk
  split
  · constructor
    · exact .inl
    · rintro (h | rfl)
      · exact h
      · assumption
  · simp
theorem addk_length {α : Type} [BEq α] [LawfulBEq α] (ks : List α) (x : α) : (addk ks x).length ≤ ks.length + 1 := by
  unfold addk
  split
  · omega
  · simp
theorem mem_fold {α : Type} [BEq α] [LawfulBEq α] (y : α) : ∀ (l ks : List α), y ∈ l.foldl addk ks ↔ y ∈ ks ∨ y ∈ l
  | [], ks => by simp
  | x :: l, ks => by rw [List.foldl_cons, mem_fold y l, mem_addk, List.mem_cons, or_assoc]
theorem mem_ded {α : Type} [BEq α] [LawfulBEq α] (l : List α) (y : α) : y ∈ ded l ↔ y ∈ l := by rw [ded, mem_fold]; simp
theorem fold_length {α : Type} [BEq α] [LawfulBEq α] : ∀ (l ks : List α), (l.foldl addk ks).length ≤ ks.length + l.length
  | [], ks => by simp
  | x :: l, ks => by
    have h1 := fold_length l (addk ks x)
    have h2 := addk_length ks x
    rw [List.foldl_cons, List.length_cons]
    omega
theorem ded_length {α : Type} [BEq α] [LawfulBEq α] (l : List α) : (ded l).length ≤ l.length := by
  have := fold_length l []
  simpa [ded] using this
theorem take_one {α : Type} {l : List α} {i : Nat} {x : α} (h : l[i]? = some x) : l.take (i + 1) = l.take i ++ [x] := by
  obtain ⟨hi, e⟩ := List.getElem?_eq_some_iff.1 h
  rw [List.take_succ_eq_append_getElem hi, e]

/-- Add, whether the key is there or not -/
theorem OwnTi.addk {w0 w : World} {tb : Nat} {ks : List Int} (x : Int) (hok : (Lit.int .i64 x).wf = true) (hl : ks.length < 1000000) (h : OwnTi w0 w tb ks) :
    Calls Try.prog 31 #[.pointer (some ⟨tb, 0, none⟩), .int .i64 x] w fun e w' => ∃ (n : Int) (b : Bool), e = .returned (.tuple #[.int .i64 n, .bool b]) ∧ OwnTi w0 w' tb (Proofs.Ytgijagdnhajkhaa.addk ks x) := by
  by_cases hx : x ∈ ks
  · rw [Proofs.Ytgijagdnhajkhaa.addk, if_pos hx]
    exact (h.old x hx).mono fun _ _ ⟨e, q⟩ => ⟨_, _, e, q⟩
  · rw [Proofs.Ytgijagdnhajkhaa.addk, if_neg hx]
    exact (h.add x hx hok hl).mono fun _ _ ⟨e, q⟩ => ⟨_, _, e, q⟩

/-- what a list of numbers holds at a place, in a later world -/
theorem ArgI.cell {w W : World} {A : Option Addr} {n c i : Nat} {zs : List Int} (h : ArgI w A n c zs) (hb : Below w.heap.size w W) (hi : i < n) :
    ∃ b off x, A = some ⟨b, off, none⟩ ∧ b < W.heap.size ∧ zs[i]? = some x ∧ (Lit.int .i64 x).wf = true ∧ W.cell? ⟨b, off + i, none⟩ = some (.int .i64 x) := by
  obtain ⟨b, off, e, _, hlt, hc⟩ := h.1.at_ (by omega)
  have hl := h.1.len
  rw [List.length_map] at hl
  have hg : zs[i]? = some (zs[i]'(by omega)) := List.getElem?_eq_getElem (by omega)
  exact ⟨b, off, _, e, Nat.lt_of_lt_of_le hlt hb.size, hg, h.2 _ (List.getElem_mem _), (hb.cell (p := ⟨b, off + i, none⟩) hlt).trans (hc i _ (by rw [List.getElem?_map, hg]; rfl))⟩
theorem ArgI.len {w : World} {A : Option Addr} {n c : Nat} {zs : List Int} (h : ArgI w A n c zs) : zs.length = n := by
  have hl := h.1.len
  rwa [List.length_map] at hl

set_option maxRecDepth 100000 in
set_option maxHeartbeats 6400000 in
theorem tableCuts_walk (A : Option Addr) (n c : Nat) (zs : List Int) (z k : Int) (w : World) (h : ArgI w A n c zs) (hk : (Lit.int .i64 k).wf = true) :
    Calls Try.prog 6 #[.slice A n c, .int .i64 z, .int .i64 k] w fun e w' => e = .returned (.bool true) ∧ Below w.heap.size w w' := by
  have HA := Lib.hid (awake3 w)
  have HG := Lib.hid h
  have HZ := Lib.hid h.len
  have HK := Lib.hid hk
  clear h hk
  by_cases hn : 200 < n
  · have hn' : (200 : Int) < (n : Int) := by omega
    go_enter Try.func6, Try.ntmps6
    go_wp2_with (go_at_call 9; refine HA.out.mono ?_; rintro e w1 ⟨rfl, b1⟩)
    go_ret
    exact ⟨rfl, b1⟩
  · have hn' : ¬ (200 : Int) < (n : Int) := by omega
    have hdn : decide (200 < n) = false := decide_eq_false hn
    go_enter Try.func6, Try.ntmps6
    go_wp2_with (go_at_call 9; refine HA.out.mono ?_; rintro e w1 ⟨rfl, b1⟩; have HN := Lib.hid (OwnTi.new b1); clear b1)
    go_loopw [9] (fun iv wr => ∃ i : Nat, i ≤ n ∧ iv = .int .i64 (i : Nat) ∧ OwnTi w wr w1.heap.size (ded (zs.take i))) (fun iv _ => n - (intOf iv).toNat)
    case atStart => exact ⟨0, Nat.zero_le _, rfl, HN.out⟩
    case round =>
      obtain ⟨i, hi, rfl, ho⟩ := hrel
      by_cases hlt : i < n
      · obtain ⟨b, off, x, rfl, hb, hx, hwx, hc⟩ := HG.out.cell ho.below hlt
        have HX := Lib.hid (take_one hx)
        have HC := Lib.hid (ho.addk x hwx (by have := ded_length (zs.take i); rw [List.length_take] at this; omega))
        clear ho hx hwx
        go_wp2_with (go_at_call 31; refine HC.out.mono ?_; rintro e w2 ⟨m, bb, rfl, q⟩; have Q := Lib.hid q; clear q; go_frame)
        go_roundw
        case rel => exact ⟨i + 1, by omega, by go_num, by rw [HX.out, ded_snoc]; exact Q.out⟩
        case measure => simp [intOf]; omega
      · obtain rfl : i = n := by omega
        rw [List.take_of_length_le (by rw [HZ.out]; exact Nat.le_refl _)] at ho
        have hql : (ded zs).length ≤ i := by have := ded_length zs; rw [HZ.out] at this; exact this
        obtain ⟨ks, HKS⟩ : ∃ ks, Hid (ks = ded zs) := ⟨_, rfl⟩
        rw [← HKS.out] at ho hql
        have HO := Lib.hid ho
        obtain ⟨q, HQ⟩ : ∃ q, Hid (q = ks.length) := ⟨_, rfl⟩
        rw [← HQ.out] at hql
        have HL := Lib.hid fun (W : World) (r : OwnTi w W w1.heap.size ks) => r.len
        rw [← HQ.out] at HL
        obtain ⟨tz, HT⟩ : ∃ t : Nat, Hid (z.toNat = t) := ⟨_, rfl⟩
        obtain ⟨r, HR⟩ : ∃ r, Hid (r = (ks.take tz).length) := ⟨_, rfl⟩
        have hr : r = min tz q := by rw [HR.out, List.length_take, HQ.out]
        have HL2 := Lib.hid fun (W : World) (r : OwnTi w W w1.heap.size (ks.take tz)) => r.len
        rw [← HR.out] at HL2
        have HCut := Lib.hid fun (W : World) (r : OwnTi w W w1.heap.size ks) => r.cut z tz HT.out
        have htz := HT.out
        clear ho
        by_cases hm : k ∈ ks
        · obtain ⟨a, HAI⟩ : ∃ a : Nat, Hid (a = ks.idxOf k) := ⟨_, rfl⟩
          have hap : (0 : Int) ≤ (a : Int) := by omega
          have haq : a < q := by rw [HAI.out, HQ.out]; exact idx_lt hm
          have HF := Lib.hid fun (W : World) (r : OwnTi w W w1.heap.size ks) => r.find k (a : Int) true ⟨decide_eq_true hm, by rw [if_pos hm, HAI.out]⟩ HK.out
          by_cases hat : (a : Int) < z
          · have hm2 : k ∈ ks.take tz := (mem_take_iff hm).2 (by rw [← HAI.out]; omega)
            have HF2 := Lib.hid fun (W : World) (r : OwnTi w W w1.heap.size (ks.take tz)) => r.find k (a : Int) true ⟨decide_eq_true hm2, by rw [if_pos hm2, HAI.out, idx_take hm2]⟩ HK.out
            have HAd : Hid (∀ W, OwnTi w W w1.heap.size (ks.take tz) → Calls Try.prog 31 #[.pointer (some ⟨w1.heap.size, 0, none⟩), .int .i64 k] W fun e w' => e = .returned (.tuple #[.int .i64 (a : Nat), .bool false]) ∧ OwnTi w w' w1.heap.size (ks.take tz)) := fun W r => by
              have := r.old k hm2
              rw [idx_take hm2, ← HAI.out] at this
              exact this
            have hz0 : ¬ z < 0 := by omega
            have hz1 : (0 : Int) ≤ z := by omega
            by_cases hzq : z < (q : Int)
            · have hr1 : ((r : Int) != z) = false := by simp; omega
              have hr2 : ((r : Int) == z) = true := by simp; omega
              have hzq2 : ¬ (q : Int) ≤ z := by omega
              clear hr htz hm hm2
              go_wp2_with fail
              refine (HF.out _ HO.out).mono ?_
              rintro e w3 ⟨rfl, q3⟩
              have Q3 := Lib.hid q3
              clear q3
              go_wp2_with fail
              refine (HL.out _ Q3.out).mono ?_
              rintro e w3' ⟨rfl, rfl⟩
              go_wp2_with fail
              refine (HCut.out _ Q3.out).mono ?_
              rintro e w4 ⟨rfl, q4⟩
              have Q4 := Lib.hid q4
              clear q4 Q3
              go_wp2_with fail
              refine (HF2.out _ Q4.out).mono ?_
              rintro e w5 ⟨rfl, q5⟩
              have Q5 := Lib.hid q5
              clear q5 Q4
              go_wp2_with fail
              refine (HL2.out _ Q5.out).mono ?_
              rintro e w5' ⟨rfl, rfl⟩
              go_wp2_with fail
              refine (HAd.out _ Q5.out).mono ?_
              rintro e w6 ⟨rfl, q6⟩
              have Q6 := Lib.hid q6.below
              clear q6 Q5
              go_wp2_with fail
              go_ret
              exact ⟨rfl, Q6.out⟩
            · have hr1 : ((r : Int) != (q : Int)) = false := by simp; omega
              have hr2 : (r != q) = false := by simp; omega
              have hzq2 : (q : Int) ≤ z := by omega
              clear hr htz hm hm2
              go_wp2_with fail
              refine (HF.out _ HO.out).mono ?_
              rintro e w3 ⟨rfl, q3⟩
              have Q3 := Lib.hid q3
              clear q3
              go_wp2_with fail
              refine (HL.out _ Q3.out).mono ?_
              rintro e w3' ⟨rfl, rfl⟩
              go_wp2_with fail
              refine (HCut.out _ Q3.out).mono ?_
              rintro e w4 ⟨rfl, q4⟩
              have Q4 := Lib.hid q4
              clear q4 Q3
              go_wp2_with fail
              refine (HF2.out _ Q4.out).mono ?_
              rintro e w5 ⟨rfl, q5⟩
              have Q5 := Lib.hid q5
              clear q5 Q4
              go_wp2_with fail
              refine (HL2.out _ Q5.out).mono ?_
              rintro e w5' ⟨rfl, rfl⟩
              go_wp2_with fail
              refine (HAd.out _ Q5.out).mono ?_
              rintro e w6 ⟨rfl, q6⟩
              have Q6 := Lib.hid q6.below
              clear q6 Q5
              go_wp2_with fail
              go_ret
              exact ⟨rfl, Q6.out⟩
          · have hm2 : k ∉ ks.take tz := fun e => hat (by have := (mem_take_iff hm).1 e; rw [← HAI.out] at this; omega)
            have HF2 := Lib.hid fun (W : World) (r : OwnTi w W w1.heap.size (ks.take tz)) => r.find k 0 false ⟨decide_eq_false hm2, by rw [if_neg hm2]⟩ HK.out
            have HAd := Lib.hid fun (W : World) (rr : OwnTi w W w1.heap.size (ks.take tz)) => rr.add k hm2 HK.out (by rw [← HR.out]; omega)
            rw [← HR.out] at HAd
            have hzq : z < (q : Int) := by omega
            by_cases hz0 : z < 0
            · have hr1 : ((r : Int) != 0) = false := by simp; omega
              have hr2 : ((r : Int) == 0) = true := by simp; omega
              have hr3 : (r != 0) = false := by simp; omega
              have hzn : ¬ (0 : Int) ≤ z := by omega
              have hzq2 : ¬ (q : Int) ≤ z := by omega
              clear hr htz hm hm2
              go_wp2_with fail
              refine (HF.out _ HO.out).mono ?_
              rintro e w3 ⟨rfl, q3⟩
              have Q3 := Lib.hid q3
              clear q3
              go_wp2_with fail
              refine (HL.out _ Q3.out).mono ?_
              rintro e w3' ⟨rfl, rfl⟩
              go_wp2_with fail
              refine (HCut.out _ Q3.out).mono ?_
              rintro e w4 ⟨rfl, q4⟩
              have Q4 := Lib.hid q4
              clear q4 Q3
              go_wp2_with fail
              refine (HF2.out _ Q4.out).mono ?_
              rintro e w5 ⟨rfl, q5⟩
              have Q5 := Lib.hid q5
              clear q5 Q4
              go_wp2_with fail
              refine (HL2.out _ Q5.out).mono ?_
              rintro e w5' ⟨rfl, rfl⟩
              go_wp2_with fail
              refine (HAd.out _ Q5.out).mono ?_
              rintro e w6 ⟨rfl, q6⟩
              have Q6 := Lib.hid q6.below
              clear q6 Q5
              go_wp2_with fail
              go_ret
              exact ⟨rfl, Q6.out⟩
            · have hz1 : (0 : Int) ≤ z := by omega
              have hr1 : ((r : Int) != z) = false := by simp; omega
              have hr2 : ((r : Int) == z) = true := by simp; omega
              have hzq2 : ¬ (q : Int) ≤ z := by omega
              clear hr htz hm hm2
              go_wp2_with fail
              refine (HF.out _ HO.out).mono ?_
              rintro e w3 ⟨rfl, q3⟩
              have Q3 := Lib.hid q3
              clear q3
              go_wp2_with fail
              refine (HL.out _ Q3.out).mono ?_
              rintro e w3' ⟨rfl, rfl⟩
              go_wp2_with fail
              refine (HCut.out _ Q3.out).mono ?_
              rintro e w4 ⟨rfl, q4⟩
              have Q4 := Lib.hid q4
              clear q4 Q3
              go_wp2_with fail
              refine (HF2.out _ Q4.out).mono ?_
              rintro e w5 ⟨rfl, q5⟩
              have Q5 := Lib.hid q5
              clear q5 Q4
              go_wp2_with fail
              refine (HL2.out _ Q5.out).mono ?_
              rintro e w5' ⟨rfl, rfl⟩
              go_wp2_with fail
              refine (HAd.out _ Q5.out).mono ?_
              rintro e w6 ⟨rfl, q6⟩
              have Q6 := Lib.hid q6.below
              clear q6 Q5
              go_wp2_with fail
              go_ret
              exact ⟨rfl, Q6.out⟩
        · have hm2 : k ∉ ks.take tz := fun e => hm (List.mem_of_mem_take e)
          have HF := Lib.hid fun (W : World) (r : OwnTi w W w1.heap.size ks) => r.find k 0 false ⟨decide_eq_false hm, by rw [if_neg hm]⟩ HK.out
          have HF2 := Lib.hid fun (W : World) (r : OwnTi w W w1.heap.size (ks.take tz)) => r.find k 0 false ⟨decide_eq_false hm2, by rw [if_neg hm2]⟩ HK.out
          have HAd := Lib.hid fun (W : World) (rr : OwnTi w W w1.heap.size (ks.take tz)) => rr.add k hm2 HK.out (by rw [← HR.out]; omega)
          rw [← HR.out] at HAd
          by_cases hz0 : z < 0
          · have hr1 : ((r : Int) != 0) = false := by simp; omega
            have hr2 : ((r : Int) == 0) = true := by simp; omega
            have hr3 : (r != 0) = false := by simp; omega
            have hzn : ¬ (0 : Int) ≤ z := by omega
            have hzq2 : ¬ (q : Int) ≤ z := by omega
            clear hr htz hm hm2
            go_wp2_with fail
            refine (HF.out _ HO.out).mono ?_
            rintro e w3 ⟨rfl, q3⟩
            have Q3 := Lib.hid q3
            clear q3
            go_wp2_with fail
            refine (HL.out _ Q3.out).mono ?_
            rintro e w3' ⟨rfl, rfl⟩
            go_wp2_with fail
            refine (HCut.out _ Q3.out).mono ?_
            rintro e w4 ⟨rfl, q4⟩
            have Q4 := Lib.hid q4
            clear q4 Q3
            go_wp2_with fail
            refine (HF2.out _ Q4.out).mono ?_
            rintro e w5 ⟨rfl, q5⟩
            have Q5 := Lib.hid q5
            clear q5 Q4
            go_wp2_with fail
            refine (HL2.out _ Q5.out).mono ?_
            rintro e w5' ⟨rfl, rfl⟩
            go_wp2_with fail
            refine (HAd.out _ Q5.out).mono ?_
            rintro e w6 ⟨rfl, q6⟩
            have Q6 := Lib.hid q6.below
            clear q6 Q5
            go_wp2_with fail
            go_ret
            exact ⟨rfl, Q6.out⟩
          · have hz1 : (0 : Int) ≤ z := by omega
            by_cases hzq : z < (q : Int)
            · have hr1 : ((r : Int) != z) = false := by simp; omega
              have hr2 : ((r : Int) == z) = true := by simp; omega
              have hzq2 : ¬ (q : Int) ≤ z := by omega
              clear hr htz hm hm2
              go_wp2_with fail
              refine (HF.out _ HO.out).mono ?_
              rintro e w3 ⟨rfl, q3⟩
              have Q3 := Lib.hid q3
              clear q3
              go_wp2_with fail
              refine (HL.out _ Q3.out).mono ?_
              rintro e w3' ⟨rfl, rfl⟩
              go_wp2_with fail
              refine (HCut.out _ Q3.out).mono ?_
              rintro e w4 ⟨rfl, q4⟩
              have Q4 := Lib.hid q4
              clear q4 Q3
              go_wp2_with fail
              refine (HF2.out _ Q4.out).mono ?_
              rintro e w5 ⟨rfl, q5⟩
              have Q5 := Lib.hid q5
              clear q5 Q4
              go_wp2_with fail
              refine (HL2.out _ Q5.out).mono ?_
              rintro e w5' ⟨rfl, rfl⟩
              go_wp2_with fail
              refine (HAd.out _ Q5.out).mono ?_
              rintro e w6 ⟨rfl, q6⟩
              have Q6 := Lib.hid q6.below
              clear q6 Q5
              go_wp2_with fail
              go_ret
              exact ⟨rfl, Q6.out⟩
            · have hr1 : ((r : Int) != (q : Int)) = false := by simp; omega
              have hr2 : (r != q) = false := by simp; omega
              have hzq2 : (q : Int) ≤ z := by omega
              clear hr htz hm hm2
              go_wp2_with fail
              refine (HF.out _ HO.out).mono ?_
              rintro e w3 ⟨rfl, q3⟩
              have Q3 := Lib.hid q3
              clear q3
              go_wp2_with fail
              refine (HL.out _ Q3.out).mono ?_
              rintro e w3' ⟨rfl, rfl⟩
              go_wp2_with fail
              refine (HCut.out _ Q3.out).mono ?_
              rintro e w4 ⟨rfl, q4⟩
              have Q4 := Lib.hid q4
              clear q4 Q3
              go_wp2_with fail
              refine (HF2.out _ Q4.out).mono ?_
              rintro e w5 ⟨rfl, q5⟩
              have Q5 := Lib.hid q5
              clear q5 Q4
              go_wp2_with fail
              refine (HL2.out _ Q5.out).mono ?_
              rintro e w5' ⟨rfl, rfl⟩
              go_wp2_with fail
              refine (HAd.out _ Q5.out).mono ?_
              rintro e w6 ⟨rfl, q6⟩
              have Q6 := Lib.hid q6.below
              clear q6 Q5
              go_wp2_with fail
              go_ret
              exact ⟨rfl, Q6.out⟩
end Go.Proofs.Ytgijagdnhajkhaa
