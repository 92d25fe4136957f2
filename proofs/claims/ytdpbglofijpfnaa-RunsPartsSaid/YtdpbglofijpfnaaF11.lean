/- Texts as the laws meet them. -/
import Derived.Test.YtdpbglofijpfnaaF10
import Derived.Test.YtdpbglofijpfnaaJ14
namespace Go.Proofs.Ytdpbglofijpfnaa
open Go.RowKit

/-- a text of not too many runs -/
structure Txt (w : World) (A : Option Addr) (n : Nat) (R : List (Int × Int)) : Prop where
  runs : RunS w A n R
  few : n ≤ 2000
  wf : ∀ x ∈ R, (Lit.int .i64 x.1).wf = true ∧ (Lit.int .i64 x.2).wf = true
theorem Txt.below {w w' : World} {A : Option Addr} {n : Nat} {R : List (Int × Int)} (h : Txt w A n R) (hb : Below w.heap.size w w') : Txt w' A n R := ⟨h.runs.below hb, h.few, h.wf⟩
theorem Tx.May.wf {R : List (Int × Int)} (h : Tx.May R) : ∀ x ∈ R, (Lit.int .i64 x.1).wf = true ∧ (Lit.int .i64 x.2).wf = true := fun x hx => by
  have h1 := h.own.pos x hx
  have h2 := Lt.total_le hx fun y hy => (h.own.pos y hy).2
  have h3 := h.most
  exact ⟨wf_pt h1.1, WalkArith.wf_i64 (by omega)⟩
theorem Txt.may {w : World} {A : Option Addr} {n : Nat} {R : List (Int × Int)} (h : RunS w A n R) (hm : Tx.May R) (hn : n ≤ 2000) : Txt w A n R := ⟨h, hn, hm.wf⟩
theorem Txt.nil (w : World) (A : Option Addr) : Txt w A 0 [] := ⟨RunS.nil w A, Nat.zero_le _, fun _ hx => absurd hx List.not_mem_nil⟩
theorem RunS.lit (w : World) (R : List (Int × Int)) : RunS (w.alloc (.cells (rcells R).toArray 38)) (some ⟨w.heap.size, 0, none⟩) R.length R := by
  have l := Lies.new w 38 (rcells R).toArray
  refine ⟨rfl, fun _ => ⟨w.heap.size, 0, rfl, l.lt, fun i x hx => ?_⟩⟩
  obtain ⟨h1, h2⟩ := rs_get R i x hx
  rw [Nat.zero_add, l.cell, l.cell]
  exact ⟨by simpa using h1, by simpa using h2⟩
/-- what Replace answers, in a row of its own -/
def RepOwn (w : World) (s t u : List (Int × Int)) (e : Ending) (w' : World) : Prop := (∃ (A : Option Addr) (c : Nat) (x : Int × List (Int × Int)), e = .returned (.tuple #[.slice A x.2.length c, .int .i64 x.1]) ∧ OwnR w' w.heap.size A c x.2 ∧ Tx.RepIs s t u x) ∧ Below w.heap.size w w'
theorem Tx.subR_len {R : List (Int × Int)} (i n : Int) : (Tx.subR R i n).length ≤ R.length := by
  by_cases h : Tx.May R
  · exact (Tx.subR_is h i n).2.2
  · unfold Tx.subR
    rw [if_neg (by rw [Tx.mayB_false h]; decide)]
    exact Nat.zero_le _
theorem Tx.subR_wf {R : List (Int × Int)} (i n : Int) : Tx.May (Tx.subR R i n) := by
  by_cases h : Tx.May R
  · exact (Tx.subR_is h i n).1
  · unfold Tx.subR
    rw [if_neg (by rw [Tx.mayB_false h]; decide)]
    exact Tx.May.nil
theorem Sml.of {w : World} {A : Option Addr} {n : Nat} {R : List (Int × Int)} (h : RunS w A n R) (hn : n ≤ 300) (hl : Tx.lenI R ≤ 300) : Sml w A n R :=
  ⟨h, by omega, fun hm => by rw [Tx.lenI_may hm] at hl; omega⟩

set_option maxRecDepth 100000 in
theorem ksmall8 (w : World) (A : Option Addr) (n c : Nat) (R : List (Int × Int)) (B : Option Addr) (m d : Nat) (S : List (Int × Int)) (C : Option Addr) (p f : Nat) (T : List (Int × Int)) (h : RunS w A n R) (h' : RunS w B m S) (h'' : RunS w C p T) :
    Calls Try.prog 11 #[.slice A n c, .slice B m d, .slice C p f] w fun e w' => (∃ b : Bool, e = .returned (.bool b) ∧ (b = true → (n ≤ 300 ∧ Tx.lenI R ≤ 300) ∧ (m ≤ 300 ∧ Tx.lenI S ≤ 300) ∧ (p ≤ 300 ∧ Tx.lenI T ≤ 300))) ∧ Below w.heap.size w w' := by
  have H1 := Lib.hid (rsmall8 w A n c R 300 h)
  have H2 := Lib.hid fun W (hW : Below w.heap.size w W) => rsmall8 W B m d S 300 (h'.below hW)
  have H3 := Lib.hid fun W (hW : Below w.heap.size w W) => rsmall8 W C p f T 300 (h''.below hW)
  obtain ⟨x, hx⟩ : ∃ b, (decide ((n : Int) ≤ 300) && decide (Tx.lenI R ≤ 300)) = b := ⟨_, rfl⟩
  obtain ⟨y, hy⟩ : ∃ b, (decide ((m : Int) ≤ 300) && decide (Tx.lenI S ≤ 300)) = b := ⟨_, rfl⟩
  obtain ⟨z, hz⟩ : ∃ b, (decide ((p : Int) ≤ 300) && decide (Tx.lenI T ≤ 300)) = b := ⟨_, rfl⟩
  rw [hx] at H1
  rw [hy] at H2
  rw [hz] at H3
  have HE : Hid ((x && y && z) = true → (n ≤ 300 ∧ Tx.lenI R ≤ 300) ∧ (m ≤ 300 ∧ Tx.lenI S ≤ 300) ∧ (p ≤ 300 ∧ Tx.lenI T ≤ 300)) := fun h => by
    rw [Bool.and_eq_true, Bool.and_eq_true] at h
    obtain ⟨⟨e1, e2⟩, e3⟩ := h
    rw [e1, Bool.and_eq_true] at hx
    rw [e2, Bool.and_eq_true] at hy
    rw [e3, Bool.and_eq_true] at hz
    have q1 := of_decide_eq_true hx.1
    have q2 := of_decide_eq_true hy.1
    have q3 := of_decide_eq_true hz.1
    exact ⟨⟨by omega, of_decide_eq_true hx.2⟩, ⟨by omega, of_decide_eq_true hy.2⟩, ⟨by omega, of_decide_eq_true hz.2⟩⟩
  clear h h' h'' hx hy hz
  go_enter Try.func11, Try.ntmps11
  go_wp2_with fail
  refine H1.out.mono ?_
  rintro e w1 ⟨rfl, b1⟩
  have B1 := Lib.hid b1
  clear b1 H1
  go_wp2_with fail
  refine (H2.out _ B1.out).mono ?_
  rintro e w2 ⟨rfl, b2⟩
  have B2 := Lib.hid (B1.out.trans (b2.mono B1.out.size))
  clear b2 H2
  go_wp2_with fail
  refine (H3.out _ B2.out).mono ?_
  rintro e w3 ⟨rfl, b3⟩
  have B3 := Lib.hid (B2.out.trans (b3.mono B2.out.size))
  clear b3 H3
  cases x <;> cases y <;> cases z
  all_goals
    go_wp2
    go_ret
    exact ⟨⟨_, rfl, fun h => HE.out (by first | rfl | cases h)⟩, B3.out⟩
end Go.Proofs.Ytdpbglofijpfnaa
