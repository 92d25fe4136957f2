/- Stage 3's awake: the chapter's examples. -/
import Derived.Test.YtgijagdnhajkhaaT13
namespace Go.Proofs.Ytgijagdnhajkhaa
open Go.RowKit

theorem idx_two {x y : ByteArray} : [x, y].idxOf x = 0 := by rw [List.idxOf_cons_self]

set_option maxRecDepth 100000 in
set_option maxHeartbeats 1600000 in
theorem awake3 (w : World) :
    Calls Try.prog 9 #[] w fun e w' => e = .returned (.bool true) ∧ Below w.heap.size w w' := by
  have hab : (⟨#[98]⟩ : ByteArray) ∉ [(⟨#[97]⟩ : ByteArray)] := by decide
  have hca : (⟨#[99]⟩ : ByteArray) ∉ [(⟨#[97]⟩ : ByteArray)] := by decide
  have hs : ∀ x : UInt8, (⟨#[x]⟩ : ByteArray).size ≤ maxLen := fun x => by show 1 ≤ maxLen; unfold maxLen; omega
  have C1 := Lib.hid fun (W : World) (q : OwnTs w W w.heap.size []) => q.add ⟨#[97]⟩ List.not_mem_nil (hs _) (by simp)
  have C2 := Lib.hid fun (W : World) (q : OwnTs w W w.heap.size [⟨#[97]⟩]) => q.add ⟨#[98]⟩ hab (hs _) (by simp)
  have C3 : Hid (∀ W : World, OwnTs w W w.heap.size [⟨#[97]⟩, ⟨#[98]⟩] → Calls Try.prog 12 #[.pointer (some ⟨w.heap.size, 0, none⟩), .string ⟨#[97]⟩] W fun e w' => e = .returned (.tuple #[.int .i64 0, .bool false]) ∧ OwnTs w w' w.heap.size [⟨#[97]⟩, ⟨#[98]⟩]) := fun W q => by
    have := q.old ⟨#[97]⟩ (by simp)
    rw [idx_two] at this
    exact this
  have C4 := Lib.hid fun (W : World) (q : OwnTs w W w.heap.size [⟨#[97]⟩, ⟨#[98]⟩]) => q.cut 1 1 rfl
  have C5 := Lib.hid fun (W : World) (q : OwnTs w W w.heap.size [⟨#[97]⟩]) => q.add ⟨#[99]⟩ hca (hs _) (by simp)
  have HN : Hid (OwnTs w (w.alloc (.cells #[.map none, .slice none 0 0] 28)) w.heap.size []) := OwnTs.new (Below.refl _ _)
  have HK := Lib.hid fun (W : World) (ks : List ByteArray) (q : OwnTs w W w.heap.size ks) => OwnK.new q.below
  have K1 := Lib.hid fun (W : World) (sb : Nat) (q : OwnK w W sb [] []) => q.push 1 (by simp)
  have K2 := Lib.hid fun (W : World) (sb : Nat) (q : OwnK w W sb [] [1]) => q.mark (by simp)
  have K3 := Lib.hid fun (W : World) (sb : Nat) (q : OwnK w W sb [[1]] []) => q.push 2 (by simp)
  have K4 := Lib.hid fun (W : World) (sb : Nat) (q : OwnK w W sb [[1]] [2]) => OwnK.pop (top := []) q
  have K5 := Lib.hid fun (W : World) (sb : Nat) (q : OwnK w W sb [[1]] []) => q.pop0
  have K6 := Lib.hid fun (W : World) (sb : Nat) (q : OwnK w W sb [[1]] []) => OwnK.back (d := []) q
  have K7 := Lib.hid fun (W : World) (sb : Nat) (q : OwnK w W sb [] [1]) => q.all
  clear hab hca hs
  go_enter Try.func9, Try.ntmps9
  go_wp2_with fail
  refine (C1.out _ HN.out).mono ?_
  rintro e w1 ⟨rfl, q1⟩
  have Q1 := Lib.hid q1
  clear q1 HN
  go_wp2_with fail
  refine (C2.out _ Q1.out).mono ?_
  rintro e w2 ⟨rfl, q2⟩
  have Q2 := Lib.hid q2
  clear q2 Q1
  go_wp2_with fail
  refine (C3.out _ Q2.out).mono ?_
  rintro e w3 ⟨rfl, q3⟩
  have Q3 := Lib.hid q3
  clear q3 Q2
  go_wp2_with fail
  refine (C4.out _ Q3.out).mono ?_
  rintro e w4 ⟨rfl, q4⟩
  have Q4 := Lib.hid q4
  clear q4 Q3
  go_wp2_with fail
  refine (C5.out _ Q4.out).mono ?_
  rintro e w5 ⟨rfl, q5⟩
  have Q5 := Lib.hid (HK.out _ _ q5)
  clear q5 Q4
  go_wp2_with fail
  refine (K1.out _ _ Q5.out).mono ?_
  rintro e w6 ⟨rfl, q6⟩
  have Q6 := Lib.hid q6
  clear q6 Q5
  go_wp2_with fail
  refine (K2.out _ _ Q6.out).mono ?_
  rintro e w7 ⟨rfl, q7⟩
  have Q7 := Lib.hid q7
  clear q7 Q6
  go_wp2_with fail
  refine (K3.out _ _ Q7.out).mono ?_
  rintro e w8 ⟨rfl, q8⟩
  have Q8 := Lib.hid q8
  clear q8 Q7
  go_wp2_with fail
  refine (K4.out _ _ Q8.out).mono ?_
  rintro e w9 ⟨rfl, q9⟩
  have Q9 := Lib.hid q9
  clear q9 Q8
  go_wp2_with fail
  refine (K5.out _ _ Q9.out).mono ?_
  rintro e w10 ⟨rfl, q10⟩
  have Q10 := Lib.hid q10
  clear q10 Q9
  go_wp2_with fail
  refine (K6.out _ _ Q10.out).mono ?_
  rintro e w11 ⟨rfl, q11⟩
  have Q11 := Lib.hid q11
  clear q11 Q10
  go_wp2_with fail
  refine (K7.out _ _ Q11.out).mono ?_
  rintro e w12 ⟨A, c, rfl, _, q12⟩
  have Q12 := Lib.hid q12.below
  clear q12 Q11
  go_wp2_with fail
  go_ret
  exact ⟨rfl, Q12.out⟩
end Go.Proofs.Ytgijagdnhajkhaa
