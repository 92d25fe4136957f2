/- The reference's table of operations, letters, sorts, numbers. -/
import Derived.Test.YtkooconjkimgoaaDoorN4
namespace Go.Proofs.YtkooconjkimgoaaDoor
open Go.RowKit

def Tm.wantB (op : Int) : ByteArray := match Tm.asks op with
  | none => ⟨#[]⟩
  | some (w, more, _) => ⟨((w ++ if more = true then [43] else []).map UInt8.ofNat).toArray⟩
def Tm.ownB (op : Int) : ByteArray := match Tm.asks op with
  | none => ⟨#[]⟩
  | some (_, _, o) => ⟨#[UInt8.ofNat o]⟩
theorem Tm.asks_none {op : Int} (h : ¬ (6 ≤ op ∧ op ≤ 30)) : Tm.asks op = none := by
  unfold Tm.asks
  repeat (rw [if_neg (by omega)])
theorem asks_step9 {w : World} (op : Int) (x y : ByteArray) (e1 : Tm.wantB op = x) (e2 : Tm.ownB op = y) (h : Calls Tryd.prog 16 #[.int .i64 op] w fun e w' => e = .returned (.tuple #[.string x, .string y]) ∧ w' = w) :
    Calls Tryd.prog 16 #[.int .i64 op] w fun e w' => e = .returned (.tuple #[.string (Tm.wantB op), .string (Tm.ownB op)]) ∧ w' = w := by
  rw [e1, e2]
  exact h
set_option maxRecDepth 100000 in
set_option maxHeartbeats 3200000 in
theorem rasks9 (op : Int) (w : World) : Calls Tryd.prog 16 #[.int .i64 op] w fun e w' => e = .returned (.tuple #[.string (Tm.wantB op), .string (Tm.ownB op)]) ∧ w' = w := by
  by_cases h : 6 ≤ op ∧ op ≤ 30
  · have : op = 6 ∨ op = 7 ∨ op = 8 ∨ op = 9 ∨ op = 10 ∨ op = 11 ∨ op = 12 ∨ op = 13 ∨ op = 14 ∨ op = 15 ∨ op = 16 ∨ op = 17 ∨ op = 18 ∨ op = 19 ∨ op = 20 ∨ op = 21 ∨ op = 22 ∨ op = 23 ∨ op = 24 ∨ op = 25 ∨ op = 26 ∨ op = 27 ∨ op = 28 ∨ op = 29 ∨ op = 30 := by omega
    rcases this with rfl | rfl | rfl | rfl | rfl | rfl | rfl | rfl | rfl | rfl | rfl | rfl | rfl | rfl | rfl | rfl | rfl | rfl | rfl | rfl | rfl | rfl | rfl | rfl | rfl
    · exact asks_step9 6 ⟨#[66]⟩ ⟨#[66]⟩ (by kernel_rfl) (by kernel_rfl) (by
        go_enter Tryd.func16, Tryd.ntmps16
        go_wp2
        first | exact ⟨rfl, rfl⟩ | exact bodyPost_ret (by simp [results, Tryd.results16, go_sem]) rfl ⟨rfl, rfl⟩)
    · exact asks_step9 7 ⟨#[66, 66, 43]⟩ ⟨#[66]⟩ (by kernel_rfl) (by kernel_rfl) (by
        go_enter Tryd.func16, Tryd.ntmps16
        go_wp2
        first | exact ⟨rfl, rfl⟩ | exact bodyPost_ret (by simp [results, Tryd.results16, go_sem]) rfl ⟨rfl, rfl⟩)
    · exact asks_step9 8 ⟨#[66, 66, 43]⟩ ⟨#[66]⟩ (by kernel_rfl) (by kernel_rfl) (by
        go_enter Tryd.func16, Tryd.ntmps16
        go_wp2
        first | exact ⟨rfl, rfl⟩ | exact bodyPost_ret (by simp [results, Tryd.results16, go_sem]) rfl ⟨rfl, rfl⟩)
    · exact asks_step9 9 ⟨#[66, 66, 43]⟩ ⟨#[66]⟩ (by kernel_rfl) (by kernel_rfl) (by
        go_enter Tryd.func16, Tryd.ntmps16
        go_wp2
        first | exact ⟨rfl, rfl⟩ | exact bodyPost_ret (by simp [results, Tryd.results16, go_sem]) rfl ⟨rfl, rfl⟩)
    · exact asks_step9 10 ⟨#[66, 66, 43]⟩ ⟨#[66]⟩ (by kernel_rfl) (by kernel_rfl) (by
        go_enter Tryd.func16, Tryd.ntmps16
        go_wp2
        first | exact ⟨rfl, rfl⟩ | exact bodyPost_ret (by simp [results, Tryd.results16, go_sem]) rfl ⟨rfl, rfl⟩)
    · exact asks_step9 11 ⟨#[97, 61, 43]⟩ ⟨#[66]⟩ (by kernel_rfl) (by kernel_rfl) (by
        go_enter Tryd.func16, Tryd.ntmps16
        go_wp2
        first | exact ⟨rfl, rfl⟩ | exact bodyPost_ret (by simp [results, Tryd.results16, go_sem]) rfl ⟨rfl, rfl⟩)
    · exact asks_step9 12 ⟨#[97, 61, 43]⟩ ⟨#[66]⟩ (by kernel_rfl) (by kernel_rfl) (by
        go_enter Tryd.func16, Tryd.ntmps16
        go_wp2
        first | exact ⟨rfl, rfl⟩ | exact bodyPost_ret (by simp [results, Tryd.results16, go_sem]) rfl ⟨rfl, rfl⟩)
    · exact asks_step9 13 ⟨#[66, 97, 61]⟩ ⟨#[61]⟩ (by kernel_rfl) (by kernel_rfl) (by
        go_enter Tryd.func16, Tryd.ntmps16
        go_wp2
        first | exact ⟨rfl, rfl⟩ | exact bodyPost_ret (by simp [results, Tryd.results16, go_sem]) rfl ⟨rfl, rfl⟩)
    · exact asks_step9 14 ⟨#[73]⟩ ⟨#[73]⟩ (by kernel_rfl) (by kernel_rfl) (by
        go_enter Tryd.func16, Tryd.ntmps16
        go_wp2
        first | exact ⟨rfl, rfl⟩ | exact bodyPost_ret (by simp [results, Tryd.results16, go_sem]) rfl ⟨rfl, rfl⟩)
    · exact asks_step9 15 ⟨#[73, 73, 43]⟩ ⟨#[73]⟩ (by kernel_rfl) (by kernel_rfl) (by
        go_enter Tryd.func16, Tryd.ntmps16
        go_wp2
        first | exact ⟨rfl, rfl⟩ | exact bodyPost_ret (by simp [results, Tryd.results16, go_sem]) rfl ⟨rfl, rfl⟩)
    · exact asks_step9 16 ⟨#[73, 73, 43]⟩ ⟨#[73]⟩ (by kernel_rfl) (by kernel_rfl) (by
        go_enter Tryd.func16, Tryd.ntmps16
        go_wp2
        first | exact ⟨rfl, rfl⟩ | exact bodyPost_ret (by simp [results, Tryd.results16, go_sem]) rfl ⟨rfl, rfl⟩)
    · exact asks_step9 17 ⟨#[73, 73, 43]⟩ ⟨#[73]⟩ (by kernel_rfl) (by kernel_rfl) (by
        go_enter Tryd.func16, Tryd.ntmps16
        go_wp2
        first | exact ⟨rfl, rfl⟩ | exact bodyPost_ret (by simp [results, Tryd.results16, go_sem]) rfl ⟨rfl, rfl⟩)
    · exact asks_step9 18 ⟨#[73, 73, 43]⟩ ⟨#[66]⟩ (by kernel_rfl) (by kernel_rfl) (by
        go_enter Tryd.func16, Tryd.ntmps16
        go_wp2
        first | exact ⟨rfl, rfl⟩ | exact bodyPost_ret (by simp [results, Tryd.results16, go_sem]) rfl ⟨rfl, rfl⟩)
    · exact asks_step9 19 ⟨#[73, 73, 43]⟩ ⟨#[66]⟩ (by kernel_rfl) (by kernel_rfl) (by
        go_enter Tryd.func16, Tryd.ntmps16
        go_wp2
        first | exact ⟨rfl, rfl⟩ | exact bodyPost_ret (by simp [results, Tryd.results16, go_sem]) rfl ⟨rfl, rfl⟩)
    · exact asks_step9 20 ⟨#[73, 73, 43]⟩ ⟨#[66]⟩ (by kernel_rfl) (by kernel_rfl) (by
        go_enter Tryd.func16, Tryd.ntmps16
        go_wp2
        first | exact ⟨rfl, rfl⟩ | exact bodyPost_ret (by simp [results, Tryd.results16, go_sem]) rfl ⟨rfl, rfl⟩)
    · exact asks_step9 21 ⟨#[73, 73, 43]⟩ ⟨#[66]⟩ (by kernel_rfl) (by kernel_rfl) (by
        go_enter Tryd.func16, Tryd.ntmps16
        go_wp2
        first | exact ⟨rfl, rfl⟩ | exact bodyPost_ret (by simp [results, Tryd.results16, go_sem]) rfl ⟨rfl, rfl⟩)
    · exact asks_step9 22 ⟨#[83, 83, 43]⟩ ⟨#[83]⟩ (by kernel_rfl) (by kernel_rfl) (by
        go_enter Tryd.func16, Tryd.ntmps16
        go_wp2
        first | exact ⟨rfl, rfl⟩ | exact bodyPost_ret (by simp [results, Tryd.results16, go_sem]) rfl ⟨rfl, rfl⟩)
    · exact asks_step9 23 ⟨#[83]⟩ ⟨#[73]⟩ (by kernel_rfl) (by kernel_rfl) (by
        go_enter Tryd.func16, Tryd.ntmps16
        go_wp2
        first | exact ⟨rfl, rfl⟩ | exact bodyPost_ret (by simp [results, Tryd.results16, go_sem]) rfl ⟨rfl, rfl⟩)
    · exact asks_step9 24 ⟨#[83, 73]⟩ ⟨#[83]⟩ (by kernel_rfl) (by kernel_rfl) (by
        go_enter Tryd.func16, Tryd.ntmps16
        go_wp2
        first | exact ⟨rfl, rfl⟩ | exact bodyPost_ret (by simp [results, Tryd.results16, go_sem]) rfl ⟨rfl, rfl⟩)
    · exact asks_step9 25 ⟨#[83, 73, 73]⟩ ⟨#[83]⟩ (by kernel_rfl) (by kernel_rfl) (by
        go_enter Tryd.func16, Tryd.ntmps16
        go_wp2
        first | exact ⟨rfl, rfl⟩ | exact bodyPost_ret (by simp [results, Tryd.results16, go_sem]) rfl ⟨rfl, rfl⟩)
    · exact asks_step9 26 ⟨#[83, 83]⟩ ⟨#[66]⟩ (by kernel_rfl) (by kernel_rfl) (by
        go_enter Tryd.func16, Tryd.ntmps16
        go_wp2
        first | exact ⟨rfl, rfl⟩ | exact bodyPost_ret (by simp [results, Tryd.results16, go_sem]) rfl ⟨rfl, rfl⟩)
    · exact asks_step9 27 ⟨#[83, 83]⟩ ⟨#[66]⟩ (by kernel_rfl) (by kernel_rfl) (by
        go_enter Tryd.func16, Tryd.ntmps16
        go_wp2
        first | exact ⟨rfl, rfl⟩ | exact bodyPost_ret (by simp [results, Tryd.results16, go_sem]) rfl ⟨rfl, rfl⟩)
    · exact asks_step9 28 ⟨#[83, 83]⟩ ⟨#[66]⟩ (by kernel_rfl) (by kernel_rfl) (by
        go_enter Tryd.func16, Tryd.ntmps16
        go_wp2
        first | exact ⟨rfl, rfl⟩ | exact bodyPost_ret (by simp [results, Tryd.results16, go_sem]) rfl ⟨rfl, rfl⟩)
    · exact asks_step9 29 ⟨#[83, 83, 73]⟩ ⟨#[73]⟩ (by kernel_rfl) (by kernel_rfl) (by
        go_enter Tryd.func16, Tryd.ntmps16
        go_wp2
        first | exact ⟨rfl, rfl⟩ | exact bodyPost_ret (by simp [results, Tryd.results16, go_sem]) rfl ⟨rfl, rfl⟩)
    · exact asks_step9 30 ⟨#[83, 83, 83]⟩ ⟨#[83]⟩ (by kernel_rfl) (by kernel_rfl) (by
        go_enter Tryd.func16, Tryd.ntmps16
        go_wp2
        first | exact ⟨rfl, rfl⟩ | exact bodyPost_ret (by simp [results, Tryd.results16, go_sem]) rfl ⟨rfl, rfl⟩)
  · have e1 : Tm.wantB op = ⟨#[]⟩ := by unfold Tm.wantB; rw [Tm.asks_none h]
    have e2 : Tm.ownB op = ⟨#[]⟩ := by unfold Tm.ownB; rw [Tm.asks_none h]
    rw [e1, e2]
    have d6 : (op == 6) = false := beq_eq_false_iff_ne.2 (by omega)
    have d7 : (op == 7) = false := beq_eq_false_iff_ne.2 (by omega)
    have d8 : (op == 8) = false := beq_eq_false_iff_ne.2 (by omega)
    have d9 : (op == 9) = false := beq_eq_false_iff_ne.2 (by omega)
    have d10 : (op == 10) = false := beq_eq_false_iff_ne.2 (by omega)
    have d11 : (op == 11) = false := beq_eq_false_iff_ne.2 (by omega)
    have d12 : (op == 12) = false := beq_eq_false_iff_ne.2 (by omega)
    have d13 : (op == 13) = false := beq_eq_false_iff_ne.2 (by omega)
    have d14 : (op == 14) = false := beq_eq_false_iff_ne.2 (by omega)
    have d15 : (op == 15) = false := beq_eq_false_iff_ne.2 (by omega)
    have d16 : (op == 16) = false := beq_eq_false_iff_ne.2 (by omega)
    have d17 : (op == 17) = false := beq_eq_false_iff_ne.2 (by omega)
    have d18 : (op == 18) = false := beq_eq_false_iff_ne.2 (by omega)
    have d19 : (op == 19) = false := beq_eq_false_iff_ne.2 (by omega)
    have d20 : (op == 20) = false := beq_eq_false_iff_ne.2 (by omega)
    have d21 : (op == 21) = false := beq_eq_false_iff_ne.2 (by omega)
    have d22 : (op == 22) = false := beq_eq_false_iff_ne.2 (by omega)
    have d23 : (op == 23) = false := beq_eq_false_iff_ne.2 (by omega)
    have d24 : (op == 24) = false := beq_eq_false_iff_ne.2 (by omega)
    have d25 : (op == 25) = false := beq_eq_false_iff_ne.2 (by omega)
    have d26 : (op == 26) = false := beq_eq_false_iff_ne.2 (by omega)
    have d27 : (op == 27) = false := beq_eq_false_iff_ne.2 (by omega)
    have d28 : (op == 28) = false := beq_eq_false_iff_ne.2 (by omega)
    have d29 : (op == 29) = false := beq_eq_false_iff_ne.2 (by omega)
    have d30 : (op == 30) = false := beq_eq_false_iff_ne.2 (by omega)
    clear h
    go_enter Tryd.func16, Tryd.ntmps16
    go_wp2
    first | exact ⟨rfl, rfl⟩ | exact bodyPost_ret (by simp [results, Tryd.results16, go_sem]) rfl ⟨rfl, rfl⟩
theorem rletter9 (s : Int) (h1 : 1 ≤ s) (h3 : s ≤ 3) (w : World) : Calls Tryd.prog 47 #[.int .i64 s] w fun e w' => e = .returned (.int .u8 (Tm.letter s : Nat)) ∧ w' = w := by
  have : s = 1 ∨ s = 2 ∨ s = 3 := by omega
  rcases this with rfl | rfl | rfl
  all_goals
    go_enter Tryd.func47, Tryd.ntmps47
    go_wp2
    go_ret
    exact ⟨rfl, rfl⟩
theorem rsortOf9 (c : Nat) (w : World) : Calls Tryd.prog 49 #[.int .u8 (c : Int)] w fun e w' => e = .returned (.int .i64 (Tm.sortOf c)) ∧ w' = w := by
  unfold Tm.sortOf
  by_cases h1 : c = 66
  · subst h1
    go_enter Tryd.func49, Tryd.ntmps49
    go_wp2
    go_ret
    exact ⟨rfl, rfl⟩
  have d1 : ((c : Int) == 66) = false := beq_eq_false_iff_ne.2 (by omega)
  rw [if_neg h1]
  by_cases h2 : c = 73
  · subst h2
    go_enter Tryd.func49, Tryd.ntmps49
    go_wp2
    go_ret
    exact ⟨rfl, rfl⟩
  have d2 : ((c : Int) == 73) = false := beq_eq_false_iff_ne.2 (by omega)
  rw [if_neg h2]
  clear h1 h2
  go_enter Tryd.func49, Tryd.ntmps49
  go_wp2
  go_ret
  exact ⟨rfl, rfl⟩

set_option maxRecDepth 100000 in
set_option maxHeartbeats 3200000 in
theorem rnumber9 (w : World) (A : Option Addr) (n c : Nat) (l : List Nd) {G : Nat → Prop} (h : NodS w G A n c l) (hl : Tm.Inv l) (p : Nat) (hp : p < n) :
    Calls Tryd.prog 48 #[.slice A n c, .int .i64 (p : Int)] w fun e w' => e = .returned (.bool (Tm.isNum l p)) ∧ Below w.heap.size w w' := by
  obtain ⟨b, off, x, P, rfl, hx, hb, hP, hc⟩ := h.get hp
  have hop : Tm.opAt l (p : Int) = x.op := by unfold Tm.opAt; rw [Int.toNat_natCast, hx]; rfl
  have hq : ((l[(p : Int).toNat]?.map (·.a)).getD []) = x.a := by rw [Int.toNat_natCast, hx]; rfl
  obtain ⟨g0, g1, g2, g3, g4, g5, g6⟩ := hc w (Below.refl _ _)
  have hpn : (p : Int) < (n : Int) := by omega
  have hp0 : (0 : Int) ≤ (p : Int) := by omega
  have bl : Below w.heap.size w (w.alloc (.cells (P.cells x) 47)) := (Below.refl _ w).alloc (Nat.le_refl _) _
  by_cases e4 : x.op = 4
  · have d4 : (x.op == 4) = true := beq_iff_eq.2 e4
    have hr : Tm.isNum l (p : Int) = true := by unfold Tm.isNum; rw [hop, decide_eq_true e4]; rfl
    rw [hr]
    clear hr e4 hop hq h hl hP hc hx
    go_enter Tryd.func48, Tryd.ntmps48
    go_wp2
    go_ret
    exact ⟨rfl, bl⟩
  have d4 : (x.op == 4) = false := beq_eq_false_iff_ne.2 e4
  by_cases e14 : x.op = 14
  · have d14 : (x.op == 14) = true := beq_iff_eq.2 e14
    obtain ⟨q, a, ha⟩ : ∃ q a, x.a = q :: a := by
      cases e : x.a with
      | nil => exact absurd e (hl.neg x (List.mem_of_getElem? hx) e14)
      | cons q a => exact ⟨q, a, rfl⟩
    have hqp := hl.part _ x hx q (by rw [ha]; simp)
    obtain ⟨r, rfl⟩ : ∃ r : Nat, q = (r : Int) := ⟨q.toNat, by omega⟩
    obtain ⟨bA, oA, eA, hbA, hcA⟩ := hP.a.at_ (by have := hP.a.len; rw [ha] at this; simp at this; omega)
    have hnA : (0 : Int) < (P.n : Int) := by have := hP.a.len; rw [ha] at this; simp at this; omega
    have gA := hcA 0 (r : Int) (by rw [ha]; rfl)
    rw [Nat.add_zero] at gA
    obtain ⟨b', off', y, R, e', hy, hb', _, hc'⟩ := h.get (i := r) (by omega)
    obtain ⟨rfl, rfl⟩ : b = b' ∧ off = off' := by
      injection e' with e'
      injection e' with e1 e2
      exact ⟨e1, e2⟩
    have k0 := (hc' w (Below.refl _ _)).1
    have hrn : (r : Int) < (n : Int) := by omega
    have hr0 : (0 : Int) ≤ (r : Int) := by omega
    have hr : Tm.isNum l (p : Int) = (y.op == 4) := by
      unfold Tm.isNum
      rw [hop, hq, ha, List.headD_cons, decide_eq_false e4, decide_eq_true e14, Bool.false_or, Bool.true_and]
      have : Tm.opAt l (r : Int) = y.op := by unfold Tm.opAt; rw [Int.toNat_natCast, hy]; rfl
      rw [this]
      rfl
    rw [hr]
    rw [eA] at g2
    have blA : Below w.heap.size w (w.alloc (.cells #[.int .i64 x.op, .int .i64 x.sort, .slice (some ⟨bA, oA, none⟩) P.n P.c, .string x.name, .bool P.g, .slice P.B P.m P.d, .slice P.C P.p P.f] 47)) := (Below.refl _ w).alloc (Nat.le_refl _) _
    clear bl eA
    have hbA' : ¬ bA = w.heap.size := by omega
    have hb'' : ¬ b = w.heap.size := by omega
    obtain ⟨s, hs⟩ : ∃ s, (y.op == 4) = s := ⟨_, rfl⟩
    rw [hs]
    clear hr e4 e14 hop hq h hl hP hc hx ha hqp hcA hc' hy e' hb'
    go_enter Tryd.func48, Tryd.ntmps48
    go_wp2
    go_ret
    exact ⟨rfl, blA⟩
  · have d14 : (x.op == 14) = false := beq_eq_false_iff_ne.2 e14
    have hr : Tm.isNum l (p : Int) = false := by unfold Tm.isNum; rw [hop, decide_eq_false e4, decide_eq_false e14]; rfl
    rw [hr]
    clear hr e4 e14 hop hq h hl hP hc hx
    go_enter Tryd.func48, Tryd.ntmps48
    go_wp2
    go_ret
    exact ⟨rfl, bl⟩
end Go.Proofs.YtkooconjkimgoaaDoor
