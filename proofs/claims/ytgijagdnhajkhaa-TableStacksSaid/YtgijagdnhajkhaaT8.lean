/- A stack's calls: Push, Mark. -/
import Derived.Test.YtgijagdnhajkhaaT7
import Derived.OwnWalk
namespace Go.Proofs.Ytgijagdnhajkhaa
open Go.RowKit

/-- a stack one of whose rows has turned: what lay apart lies so still -/
theorem stk_push {w w2 : World} {F : Nat → Prop} {sb : Nat} {d : List (List Int)} {top : List Int} {x : Int} {A B A2 : Option Addr} {n c m e c2 : Nat} {ty : TypeId}
    (h1 : Lies w sb 46 #[.slice A n c, .slice B m e]) (hn : n = (d.flatten ++ top).length) (hm : m = d.length) (h2 : w.ownsRow 0 3 1 (.slice A n c) n (i64s (d.flatten ++ top))) (h3 : w.ownsRow 0 3 1 (.slice B m e) m (nats (marksOf d)))
    (h4 : ∀ g, (Value.slice A n c).ownBlock = some g → F g) (h5 : ∀ g, (Value.slice B m e).ownBlock = some g → F g) (h6 : ∀ g, (Value.slice A n c).ownBlock = some g → (Value.slice B m e).ownBlock ≠ some g)
    (inn : F sb) (lt : ∀ i, F i → i < w.heap.size) (few : (d.flatten ++ top).length < 1000000) (few' : d.length ≤ 1000000)
    (g1 : (w.alloc (.cells #[.int .i64 x] ty)).grownBy w2 (Value.slice A n c).ownBlock) (o1 : w2.ownsRow 0 3 1 (.slice A2 (n + 1) c2) (n + 1) (i64s (d.flatten ++ top) ++ [.int .i64 x]))
    (hv : (Value.slice A2 (n + 1) c2).ownBlock = (Value.slice A n c).ownBlock ∨ (Value.slice A2 (n + 1) c2).ownBlock = some (w.alloc (.cells #[.int .i64 x] ty)).heap.size) :
    LeftK w F sb d (top ++ [x]) (w2.setCell ⟨sb, 0, none⟩ (.slice A2 (n + 1) c2)) := by
  have hne : ∀ g, (Value.slice A n c).ownBlock = some g → g ≠ sb := fun g hg e => own_not_lies h2 h1 (by decide) (e ▸ hg)
  have hne' : ∀ g, (Value.slice B m e).ownBlock = some g → g ≠ sb := fun g hg e => own_not_lies h3 h1 (by decide) (e ▸ hg)
  have ha : (w.alloc (.cells #[.int .i64 x] ty)).heap.size = w.heap.size + 1 := by simp
  have t1 : Turn F w (w.alloc (.cells #[.int .i64 x] ty)) := (Turn.refl _ _).alloc _
  have t2 : Turn F w w2 := t1.trans (G := F) (Turn.of_grown g1 (fun g e _ => h4 g e)) (fun i hi => .inl hi)
  have t3 : Turn F w (w2.setCell ⟨sb, 0, none⟩ (.slice A2 (n + 1) c2)) := t2.put (p := ⟨sb, 0, none⟩) (.inl inn) _
  have hs3 : (w2.setCell ⟨sb, 0, none⟩ (.slice A2 (n + 1) c2)).heap.size = w2.heap.size := by simp [World.setCell]
  have l1 := ((Turn.refl (fun _ => False) w).alloc (.cells #[.int .i64 x] ty)).lies h1 id
  have l2 := (Turn.of_grown (F := fun i => i ≠ sb) g1 (fun g e _ => hne g e)).lies l1 (fun e => e rfl)
  have l3 : Lies (w2.setCell ⟨sb, 0, none⟩ (.slice A2 (n + 1) c2)) sb 46 #[.slice A2 (n + 1) c2, .slice B m e] := l2.put 0 _
  have tp : Turn (fun i => i = sb) w2 (w2.setCell ⟨sb, 0, none⟩ (.slice A2 (n + 1) c2)) := (Turn.refl (fun i => i = sb) w2).put (p := ⟨sb, 0, none⟩) (.inl rfl) _
  have hv2 : ∀ g, (Value.slice A2 (n + 1) c2).ownBlock = some g → F g ∨ g = w.heap.size + 1 := fun g hg => by
    rcases hv with q | q
    · exact .inl (h4 g (q ▸ hg))
    · rw [q, ha] at hg
      exact .inr (Option.some.inj hg).symm
  have hlsb := h1.lt
  have o2 := tp.own o1 (fun g hg => by
    rcases hv with q | q
    · exact hne g (q ▸ hg)
    · rw [q, ha] at hg
      have := Option.some.inj hg
      omega)
  have u1 := ((Turn.refl (fun _ => False) w).alloc (.cells #[.int .i64 x] ty)).own h3 (fun _ _ => id)
  have u2 := (Turn.of_grown (F := fun i => ∀ g, (Value.slice B m e).ownBlock = some g → i ≠ g) g1 (fun g q _ g' q' e => by subst e; exact h6 g q q')).own u1 (fun g hg e => e g hg rfl)
  have u3 := tp.own u2 (fun g hg => hne' g hg)
  refine ⟨fun i => F i ∨ (i = w.heap.size + 1 ∧ i < w2.heap.size), ⟨⟨A2, n + 1, c2, B, m, e, l3, ?_, hm, ?_, u3, fun g hg => ?_, fun g hg => .inl (h5 g hg), fun g hg => ?_⟩, .inl inn, fun i hi => ?_, ?_, few'⟩, t3, fun i hi => .inl hi, fun i hi => hi.imp id (fun e => by omega)⟩
  · simp only [List.length_append, List.length_singleton] at hn ⊢
    omega
  · rw [← List.append_assoc]
    simpa using o2
  · rcases hv2 g hg with q | q
    · exact .inl q
    · exact .inr ⟨q, by have := (o2.lt g hg).2; omega⟩
  · rcases hv with q | q
    · exact h6 g (q ▸ hg)
    · rw [q, ha] at hg
      intro hB
      have := lt g (h5 g hB)
      have := Option.some.inj hg
      omega
  · rcases hi with hi | hi
    · exact Nat.lt_of_lt_of_le (lt i hi) t3.size
    · omega
  · simp only [List.length_append, List.length_singleton] at few ⊢
    omega

theorem push_any (w : World) (F : Nat → Prop) (sb : Nat) (d : List (List Int)) (top : List Int) (x : Int) (hl : (d.flatten ++ top).length < 1000000) (h : Stk w F sb d top) :
    Calls Try.prog 19 #[.pointer (some ⟨sb, 0, none⟩), .int .i64 x] w fun e w' => e = .returned (.tuple #[]) ∧ LeftK w F sb d (top ++ [x]) w' := by
  obtain ⟨⟨A, n, c, B, m, e, h1, hn, hm, h2, h3, h4, h5, h6⟩, inn, lt, few, few'⟩ := h
  obtain ⟨i0, hi, hz0, hz1, hz2⟩ := info_parts infoi
  have hlt := h1.lt
  have c0 := h1.cell 0
  simp at c0
  have HB := Lib.hid fun (w2 : World) (A2 : Option Addr) (c2 : Nat) q1 q2 q3 => stk_push (x := x) (w2 := w2) (A2 := A2) (c2 := c2) (ty := 3) h1 hn hm h2 h3 h4 h5 h6 inn lt hl few' q1 q2 q3
  have HA : Hid (∀ w2, (w.alloc (.cells #[.int .i64 x] 3)).grownBy w2 (Value.slice A n c).ownBlock → sb < w2.heap.size ∧ w2.cell? ⟨sb, 0, none⟩ = some (.slice A n c) ∧ w2.frozen? ⟨sb, 0, none⟩ = false) := fun w2 g1 => by
    have l1 := ((Turn.refl (fun _ => False) w).alloc (.cells #[.int .i64 x] 3)).lies h1 id
    have l2 := (Turn.of_grown (F := fun i => i ≠ sb) g1 (fun g q _ e => own_not_lies h2 h1 (by decide) (e ▸ q))).lies l1 (fun e => e rfl)
    exact ⟨l2.lt, by rw [l2.cell 0]; rfl, l2.free 0⟩
  have H2 := Lib.hid h2
  obtain ⟨L, HL⟩ : ∃ L : List Value, Hid (L = i64s (d.flatten ++ top)) := ⟨_, rfl⟩
  rw [← HL.out] at HB H2
  have hmx : n + 1 ≤ maxLen := by unfold maxLen; omega
  have hbt : (n + 1) * 8 ≤ 140737488355328 := by omega
  clear h1 h2 h3 h4 h5 h6 inn lt few few' hl hn hm
  go_enter Try.func19, Try.ntmps19
  go_wp2_with (at_builtin; refine append_row _ rfl _ _ 44 rfl 0 3 i0 (.int .i64 0) 8 Try.underlying44 hi hz0 hz1 hz2 rfl _ n L rfl (H2.out.alloc _) ⟨w.heap.size, 0, none⟩ 1 1 [.int .i64 x] rfl rfl (cell_one_new _ _ _) (fun u hu => by simp at hu; subst hu; rfl) hmx hbt (Nat.zero_le _) ?_; intro A2 c2 w2 o2 g2 a2; obtain ⟨z2, y2, f2⟩ := HA.out w2 g2; have O2 := Lib.hid o2; have A2' := Lib.hid a2; clear o2 a2)
  go_end0
  exact ⟨rfl, HB.out w2 A2 c2 g2 O2.out A2'.out⟩

theorem stk_mark {w w2 : World} {F : Nat → Prop} {sb : Nat} {d : List (List Int)} {top : List Int} {A B B2 : Option Addr} {n c m e e2 : Nat} {ty : TypeId}
    (h1 : Lies w sb 46 #[.slice A n c, .slice B m e]) (hn : n = (d.flatten ++ top).length) (hm : m = d.length) (h2 : w.ownsRow 0 3 1 (.slice A n c) n (i64s (d.flatten ++ top))) (h3 : w.ownsRow 0 3 1 (.slice B m e) m (nats (marksOf d)))
    (h4 : ∀ g, (Value.slice A n c).ownBlock = some g → F g) (h5 : ∀ g, (Value.slice B m e).ownBlock = some g → F g) (h6 : ∀ g, (Value.slice A n c).ownBlock = some g → (Value.slice B m e).ownBlock ≠ some g)
    (inn : F sb) (lt : ∀ i, F i → i < w.heap.size) (few : (d.flatten ++ top).length ≤ 1000000) (few' : d.length < 1000000)
    (g1 : (w.alloc (.cells #[.int .i64 (n : Int)] ty)).grownBy w2 (Value.slice B m e).ownBlock) (o1 : w2.ownsRow 0 3 1 (.slice B2 (m + 1) e2) (m + 1) (nats (marksOf d) ++ [.int .i64 (n : Int)]))
    (hv : (Value.slice B2 (m + 1) e2).ownBlock = (Value.slice B m e).ownBlock ∨ (Value.slice B2 (m + 1) e2).ownBlock = some (w.alloc (.cells #[.int .i64 (n : Int)] ty)).heap.size) :
    LeftK w F sb (d ++ [top]) [] (w2.setCell ⟨sb, 1, none⟩ (.slice B2 (m + 1) e2)) := by
  have hne : ∀ g, (Value.slice B m e).ownBlock = some g → g ≠ sb := fun g hg e => own_not_lies h3 h1 (by decide) (e ▸ hg)
  have hne' : ∀ g, (Value.slice A n c).ownBlock = some g → g ≠ sb := fun g hg e => own_not_lies h2 h1 (by decide) (e ▸ hg)
  have ha : (w.alloc (.cells #[.int .i64 (n : Int)] ty)).heap.size = w.heap.size + 1 := by simp
  have t1 : Turn F w (w.alloc (.cells #[.int .i64 (n : Int)] ty)) := (Turn.refl _ _).alloc _
  have t2 : Turn F w w2 := t1.trans (G := F) (Turn.of_grown g1 (fun g e _ => h5 g e)) (fun i hi => .inl hi)
  have t3 : Turn F w (w2.setCell ⟨sb, 1, none⟩ (.slice B2 (m + 1) e2)) := t2.put (p := ⟨sb, 1, none⟩) (.inl inn) _
  have hs3 : (w2.setCell ⟨sb, 1, none⟩ (.slice B2 (m + 1) e2)).heap.size = w2.heap.size := by simp [World.setCell]
  have l1 := ((Turn.refl (fun _ => False) w).alloc (.cells #[.int .i64 (n : Int)] ty)).lies h1 id
  have l2 := (Turn.of_grown (F := fun i => i ≠ sb) g1 (fun g e _ => hne g e)).lies l1 (fun e => e rfl)
  have l3 : Lies (w2.setCell ⟨sb, 1, none⟩ (.slice B2 (m + 1) e2)) sb 46 #[.slice A n c, .slice B2 (m + 1) e2] := l2.put 1 _
  have tp : Turn (fun i => i = sb) w2 (w2.setCell ⟨sb, 1, none⟩ (.slice B2 (m + 1) e2)) := (Turn.refl (fun i => i = sb) w2).put (p := ⟨sb, 1, none⟩) (.inl rfl) _
  have hlsb := h1.lt
  have o2 := tp.own o1 (fun g hg => by
    rcases hv with q | q
    · exact hne g (q ▸ hg)
    · rw [q, ha] at hg
      have := Option.some.inj hg
      omega)
  have u1 := ((Turn.refl (fun _ => False) w).alloc (.cells #[.int .i64 (n : Int)] ty)).own h2 (fun _ _ => id)
  have u2 := (Turn.of_grown (F := fun i => ∀ g, (Value.slice A n c).ownBlock = some g → i ≠ g) g1 (fun g q _ g' q' e => by subst e; exact h6 g q' q)).own u1 (fun g hg e => e g hg rfl)
  have u3 := tp.own u2 (fun g hg => hne' g hg)
  have hfl : (d ++ [top]).flatten ++ [] = d.flatten ++ top := by simp
  refine ⟨fun i => F i ∨ (i = w.heap.size + 1 ∧ i < w2.heap.size), ⟨⟨A, n, c, B2, m + 1, e2, l3, by rw [hfl]; exact hn, by simp [hm], by rw [hfl]; exact u3, ?_, fun g hg => .inl (h4 g hg), fun g hg => ?_, fun g hg => ?_⟩, .inl inn, fun i hi => ?_, by rw [hfl]; exact few, by simp; omega⟩, t3, fun i hi => .inl hi, fun i hi => hi.imp id (fun e => by omega)⟩
  · have e1 : (d ++ [top]).flatten.length = n := by rw [hn]; simp
    rw [marksOf_snoc, e1]
    simpa [nats] using o2
  · rcases hv with q | q
    · exact .inl (h5 g (q ▸ hg))
    · have := (o2.lt g hg).2
      rw [q, ha] at hg
      exact .inr ⟨(Option.some.inj hg).symm, by omega⟩
  · intro hB
    rcases hv with q | q
    · exact h6 g hg (q ▸ hB)
    · rw [q, ha] at hB
      have := lt g (h4 g hg)
      have := Option.some.inj hB
      omega
  · rcases hi with hi | hi
    · exact Nat.lt_of_lt_of_le (lt i hi) t3.size
    · omega

theorem mark_any (w : World) (F : Nat → Prop) (sb : Nat) (d : List (List Int)) (top : List Int) (hl : d.length < 1000000) (h : Stk w F sb d top) :
    Calls Try.prog 23 #[.pointer (some ⟨sb, 0, none⟩)] w fun e w' => e = .returned (.tuple #[]) ∧ LeftK w F sb (d ++ [top]) [] w' := by
  obtain ⟨⟨A, n, c, B, m, e, h1, hn, hm, h2, h3, h4, h5, h6⟩, inn, lt, few, few'⟩ := h
  obtain ⟨i0, hi, hz0, hz1, hz2⟩ := info_parts infoi
  have hlt := h1.lt
  have c0 := h1.cell 0
  have c1 := h1.cell 1
  simp at c0 c1
  have HB : Hid (∀ (w2 : World) (B2 : Option Addr) (e2 : Nat), (w.drew.alloc (.cells #[.int .i64 (n : Int)] 3)).grownBy w2 (Value.slice B m e).ownBlock → w2.ownsRow 0 3 1 (.slice B2 (m + 1) e2) (m + 1) (nats (marksOf d) ++ [.int .i64 (n : Int)]) →
      ((Value.slice B2 (m + 1) e2).ownBlock = (Value.slice B m e).ownBlock ∨ (Value.slice B2 (m + 1) e2).ownBlock = some (w.drew.alloc (.cells #[.int .i64 (n : Int)] 3)).heap.size) → LeftK w F sb (d ++ [top]) [] (w2.setCell ⟨sb, 1, none⟩ (.slice B2 (m + 1) e2))) := fun w2 B2 e2 q1 q2 q3 =>
    (stk_mark (w := w.drew) (w2 := w2) (B2 := B2) (e2 := e2) (ty := 3) h1 hn hm h2 h3 h4 h5 h6 inn lt few hl q1 q2 q3).after ((Turn.refl F w).drew) (fun _ e => e) (fun _ e => .inl e)
  have HA : Hid (∀ w2, (w.drew.alloc (.cells #[.int .i64 (n : Int)] 3)).grownBy w2 (Value.slice B m e).ownBlock → sb < w2.heap.size ∧ w2.cell? ⟨sb, 1, none⟩ = some (.slice B m e) ∧ w2.frozen? ⟨sb, 1, none⟩ = false) := fun w2 g1 => by
    have l1 := ((Turn.refl (fun _ => False) w.drew).alloc (.cells #[.int .i64 (n : Int)] 3)).lies h1 id
    have l2 := (Turn.of_grown (F := fun i => i ≠ sb) g1 (fun g q _ e => own_not_lies h3 h1 (by decide) (e ▸ q))).lies l1 (fun e => e rfl)
    exact ⟨l2.lt, by rw [l2.cell 1]; rfl, l2.free 1⟩
  have H3 : Hid (w.drew.ownsRow 0 3 1 (.slice B m e) m (nats (marksOf d))) := h3
  obtain ⟨L, HL⟩ : ∃ L : List Value, Hid (L = nats (marksOf d)) := ⟨_, rfl⟩
  rw [← HL.out] at HB H3
  have hmx : m + 1 ≤ maxLen := by unfold maxLen; omega
  have hbt : (m + 1) * 8 ≤ 140737488355328 := by omega
  clear h1 h2 h3 h4 h5 h6 inn lt few few' hl hn hm
  go_enter Try.func23, Try.ntmps23
  go_wp2
  go_region_law (refine step_append_row rfl (.tmp 8) (.tmp 14) 44 rfl 0 3 i0 (.int .i64 0) 8 Try.underlying44 hi hz0 hz1 hz2 rfl (.slice B m e) m L (by simp [Act.eval]) (H3.out.alloc _) ⟨w.heap.size, 0, none⟩ 1 1 [.int .i64 (n : Int)] (by simp [Act.eval]) rfl (cell_one_new _ _ _) (fun u hu => by simp at hu; subst hu; rfl) hmx hbt (Nat.zero_le _) ?_; intro B2 e2 w2 o2 g2 a2; obtain ⟨z2, y2, f2⟩ := HA.out w2 g2; have O2 := Lib.hid o2; have A2' := Lib.hid a2; clear o2 a2)
  all_goals (go_end0; exact ⟨rfl, HB.out w2 B2 e2 g2 O2.out A2'.out⟩)
end Go.Proofs.Ytgijagdnhajkhaa
