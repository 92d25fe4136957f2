/- What a table is in memory; same, which tells that a thing is like itself. -/
import Derived.Test.YtgijagdnhajkhaaRows
import Derived.Test.YtgijagdnhajkhaaT0
import Derived.WalkSpells
import Derived.WalkLawsBesides
import Derived.Defers
import Derived.Recover
import Derived.Lib.SlicesS
import Derived.Maps.OwnOps
namespace Go.Proofs.Ytgijagdnhajkhaa
open Go.RowKit

instance bytesLaw : LawfulBEq ByteArray where
  eq_of_beq := by
    intro a b h
    have h' : (a.data == b.data) = true := h
    have := eq_of_beq h'
    cases a
    cases b
    simp_all
  rfl := by
    intro a
    show (a.data == a.data) = true
    simp
theorem zeroInt (w : World) : (zeroValue 3).run Try.prog w = .ok (.int .i64 0) w := by kernel_rfl
theorem wf_nat {n : Nat} (h : n ≤ 1000000) : (Lit.int .i64 (n : Int)).wf = true := WalkArith.wf_i64 (by omega)

theorem idles (p : Addr) (w : World) :
    CallsD Try.prog 44 #[.pointer (some p)] .returning w fun e u' w' => e = .returned (.tuple #[]) ∧ u' = .returning ∧ w' = w := by
  refine callsD_of_wpS Try.func44 rfl fun c₀ cs hu => ?_
  apply wpS_seq
  apply wpS_region
  simp [wpOpsS, go_sem, recoverD, hu, Try.ntmps44, Exit.thenS]
  refine wpS_cond (t := false) (by simp [Act.eval, Array.replicate]) ?_
  simp only [Bool.false_eq_true, if_false]
  refine wpS_of_wp (wp_skip ?_)
  cases c₀
  simp_all [bodyPostS, results, Try.results44]

theorem sames (x : ByteArray) (w : World) :
    Calls Try.prog 36 #[(.string x), (.string x)] w fun e w' => e = .returned (.bool true) ∧ Below w.heap.size w w' := by
  have hmf : ∀ (fn : Fn) (first cap : Array Value) (w : World), (Instr.makeFunc fn first cap).run Try.prog w = .ok (.func fn first cap) w := fun _ _ _ _ => rfl
  go_enter_defers Try.func36, Try.ntmps36
  go_wp2
  refine leaves_cons (f := 44) (args := #[.pointer (some ⟨w.heap.size, 0, none⟩)]) (by simp) (by simp [go_sem]) ?_
  refine (idles ⟨w.heap.size, 0, none⟩ _).mono ?_
  rintro e u' w'' ⟨rfl, rfl, rfl⟩
  simp [Leaves, settle, results, Try.results36, go_sem]
  exact (Below.refl _ _).alloc (Nat.le_refl _) _

/-- the map D tells each key of the list its place -/
structure Tellss (D : DataW Unit) (ks : List ByteArray) : Prop where
  has : ∀ x : ByteArray, x.size ≤ maxLen → Maps.has D (Lit.string x.data.toList) = decide (x ∈ ks)
  at_ : ∀ x : ByteArray, x ∈ ks → D.atKey (Lit.string x.data.toList) (.lit (.int .i64 0)) = .lit (.int .i64 (ks.idxOf x : Nat))
  size : Maps.size D = ks.length

/-- the cell of a table that notes the numbers: nil, or a map of its own -/
def Notess (w : World) (F : Nat → Prop) (m : Value) (ks : List ByteArray) : Prop :=
  (m = .map none ∧ ks = []) ∨ ∃ b D, m = .map (some b) ∧ F b ∧ w.ownsMap Try.prog 9 (plainElem Try.prog 3) b ks.length D ∧ Tellss D ks

/-- a table of the keys ks lies in block tb; what it reaches lies in blocks of F -/
structure Tabs (w : World) (F : Nat → Prop) (tb : Nat) (ks : List ByteArray) : Prop where
  lies : ∃ m v, Lies w tb 28 #[m, v] ∧ w.ownsRow 0 9 1 v ks.length (ks.map fun x => (.string x)) ∧ (∀ g, v.ownBlock = some g → F g) ∧ Notess w F m ks
  nd : ks.Nodup
  ok : ∀ x ∈ ks, x.size ≤ maxLen
  inn : F tb
  lt : ∀ i, F i → i < w.heap.size
  few : ks.length ≤ 1000000

theorem Notess.turn {w w' : World} {F G : Nat → Prop} {m : Value} {ks : List ByteArray} (h : Notess w F m ks) (ht : Turn G w w') (hG : ∀ i, F i → ¬ G i) : Notess w' F m ks := by
  rcases h with h | ⟨b, D, rfl, hF, ho, ht'⟩
  · exact .inl h
  · exact .inr ⟨b, D, rfl, hF, ht.map ho (hG b hF), ht'⟩
theorem Tabs.turn {w w' : World} {F G : Nat → Prop} {tb : Nat} {ks : List ByteArray} (h : Tabs w F tb ks) (ht : Turn G w w') (hG : ∀ i, F i → ¬ G i) : Tabs w' F tb ks := by
  obtain ⟨⟨m, v, h1, h2, h3, h4⟩, nd, ok, inn, lt, few⟩ := h
  exact ⟨⟨m, v, ht.lies h1 (hG tb inn), ht.own h2 (fun g hg => hG g (h3 g hg)), h3, h4.turn ht hG⟩, nd, ok, inn, fun i hi => Nat.lt_of_lt_of_le (lt i hi) ht.size, few⟩
theorem Tabs.below {w w' : World} {F : Nat → Prop} {tb : Nat} {ks : List ByteArray} (h : Tabs w F tb ks) (hb : Below w.heap.size w w') : Tabs w' F tb ks :=
  h.turn (G := fun _ => False) (Turn.of_below hb) (fun _ _ e => e)
/-- a new table: nothing is in it -/
theorem Tabs.new (w : World) : Tabs (w.alloc (.cells #[.map none, .slice none 0 0] 28)) (fun i => i = w.heap.size) w.heap.size [] :=
  ⟨⟨_, _, Lies.new _ _ _, World.ownsRow_nil _ _ _ _, (fun g hg => by cases hg), .inl ⟨rfl, rfl⟩⟩, List.nodup_nil, fun _ h => absurd h List.not_mem_nil, rfl, fun i hi => by subst hi; simp, by simp⟩

theorem laws : Maps.Keyed Try.prog 9 := Maps.string_keyed Try.underlying9
theorem lens (w : World) (F : Nat → Prop) (tb : Nat) (ks : List ByteArray) (h : Tabs w F tb ks) :
    Calls Try.prog 16 #[.pointer (some ⟨tb, 0, none⟩)] w fun e w' => e = .returned (.int .i64 (ks.length : Nat)) ∧ w' = w := by
  obtain ⟨⟨m, v, h1, h2, h3, h4⟩, nd, ok, inn, lt, few⟩ := h
  have hlt := h1.lt
  have c1 := h1.cell 1
  obtain ⟨A, c, rfl⟩ : ∃ A c, v = .slice A ks.length c := by
    rcases h2.2 with ⟨rfl, h0⟩ | ⟨g, cap, cur, rfl, _⟩
    · exact ⟨none, 0, by rw [h0]⟩
    · exact ⟨_, _, rfl⟩
  obtain ⟨n, hn⟩ : ∃ n, n = ks.length := ⟨_, rfl⟩
  rw [← hn] at c1 ⊢
  clear h2 h4 h1 h3 ok nd hn few lt
  simp at c1
  go_enter Try.func16, Try.ntmps16
  go_wp2
  go_ret
  exact ⟨rfl, rfl⟩

theorem idlei (p : Addr) (w : World) :
    CallsD Try.prog 45 #[.pointer (some p)] .returning w fun e u' w' => e = .returned (.tuple #[]) ∧ u' = .returning ∧ w' = w := by
  refine callsD_of_wpS Try.func45 rfl fun c₀ cs hu => ?_
  apply wpS_seq
  apply wpS_region
  simp [wpOpsS, go_sem, recoverD, hu, Try.ntmps45, Exit.thenS]
  refine wpS_cond (t := false) (by simp [Act.eval, Array.replicate]) ?_
  simp only [Bool.false_eq_true, if_false]
  refine wpS_of_wp (wp_skip ?_)
  cases c₀
  simp_all [bodyPostS, results, Try.results45]

theorem samei (x : Int) (w : World) :
    Calls Try.prog 42 #[(.int .i64 x), (.int .i64 x)] w fun e w' => e = .returned (.bool true) ∧ Below w.heap.size w w' := by
  have hmf : ∀ (fn : Fn) (first cap : Array Value) (w : World), (Instr.makeFunc fn first cap).run Try.prog w = .ok (.func fn first cap) w := fun _ _ _ _ => rfl
  go_enter_defers Try.func42, Try.ntmps42
  go_wp2
  refine leaves_cons (f := 45) (args := #[.pointer (some ⟨w.heap.size, 0, none⟩)]) (by simp) (by simp [go_sem]) ?_
  refine (idlei ⟨w.heap.size, 0, none⟩ _).mono ?_
  rintro e u' w'' ⟨rfl, rfl, rfl⟩
  simp [Leaves, settle, results, Try.results42, go_sem]
  exact (Below.refl _ _).alloc (Nat.le_refl _) _

/-- the map D tells each key of the list its place -/
structure Tellsi (D : DataW Unit) (ks : List Int) : Prop where
  has : ∀ x : Int, (Lit.int .i64 x).wf = true → Maps.has D (Lit.int .i64 x) = decide (x ∈ ks)
  at_ : ∀ x : Int, x ∈ ks → D.atKey (Lit.int .i64 x) (.lit (.int .i64 0)) = .lit (.int .i64 (ks.idxOf x : Nat))
  size : Maps.size D = ks.length

/-- the cell of a table that notes the numbers: nil, or a map of its own -/
def Notesi (w : World) (F : Nat → Prop) (m : Value) (ks : List Int) : Prop :=
  (m = .map none ∧ ks = []) ∨ ∃ b D, m = .map (some b) ∧ F b ∧ w.ownsMap Try.prog 3 (plainElem Try.prog 3) b ks.length D ∧ Tellsi D ks

/-- a table of the keys ks lies in block tb; what it reaches lies in blocks of F -/
structure Tabi (w : World) (F : Nat → Prop) (tb : Nat) (ks : List Int) : Prop where
  lies : ∃ m v, Lies w tb 67 #[m, v] ∧ w.ownsRow 0 3 1 v ks.length (ks.map fun x => (.int .i64 x)) ∧ (∀ g, v.ownBlock = some g → F g) ∧ Notesi w F m ks
  nd : ks.Nodup
  ok : ∀ x ∈ ks, (Lit.int .i64 x).wf = true
  inn : F tb
  lt : ∀ i, F i → i < w.heap.size
  few : ks.length ≤ 1000000

theorem Notesi.turn {w w' : World} {F G : Nat → Prop} {m : Value} {ks : List Int} (h : Notesi w F m ks) (ht : Turn G w w') (hG : ∀ i, F i → ¬ G i) : Notesi w' F m ks := by
  rcases h with h | ⟨b, D, rfl, hF, ho, ht'⟩
  · exact .inl h
  · exact .inr ⟨b, D, rfl, hF, ht.map ho (hG b hF), ht'⟩
theorem Tabi.turn {w w' : World} {F G : Nat → Prop} {tb : Nat} {ks : List Int} (h : Tabi w F tb ks) (ht : Turn G w w') (hG : ∀ i, F i → ¬ G i) : Tabi w' F tb ks := by
  obtain ⟨⟨m, v, h1, h2, h3, h4⟩, nd, ok, inn, lt, few⟩ := h
  exact ⟨⟨m, v, ht.lies h1 (hG tb inn), ht.own h2 (fun g hg => hG g (h3 g hg)), h3, h4.turn ht hG⟩, nd, ok, inn, fun i hi => Nat.lt_of_lt_of_le (lt i hi) ht.size, few⟩
theorem Tabi.below {w w' : World} {F : Nat → Prop} {tb : Nat} {ks : List Int} (h : Tabi w F tb ks) (hb : Below w.heap.size w w') : Tabi w' F tb ks :=
  h.turn (G := fun _ => False) (Turn.of_below hb) (fun _ _ e => e)
/-- a new table: nothing is in it -/
theorem Tabi.new (w : World) : Tabi (w.alloc (.cells #[.map none, .slice none 0 0] 67)) (fun i => i = w.heap.size) w.heap.size [] :=
  ⟨⟨_, _, Lies.new _ _ _, World.ownsRow_nil _ _ _ _, (fun g hg => by cases hg), .inl ⟨rfl, rfl⟩⟩, List.nodup_nil, fun _ h => absurd h List.not_mem_nil, rfl, fun i hi => by subst hi; simp, by simp⟩

theorem lawi : Maps.Keyed Try.prog 3 := Maps.int_keyed Try.underlying3
theorem leni (w : World) (F : Nat → Prop) (tb : Nat) (ks : List Int) (h : Tabi w F tb ks) :
    Calls Try.prog 34 #[.pointer (some ⟨tb, 0, none⟩)] w fun e w' => e = .returned (.int .i64 (ks.length : Nat)) ∧ w' = w := by
  obtain ⟨⟨m, v, h1, h2, h3, h4⟩, nd, ok, inn, lt, few⟩ := h
  have hlt := h1.lt
  have c1 := h1.cell 1
  obtain ⟨A, c, rfl⟩ : ∃ A c, v = .slice A ks.length c := by
    rcases h2.2 with ⟨rfl, h0⟩ | ⟨g, cap, cur, rfl, _⟩
    · exact ⟨none, 0, by rw [h0]⟩
    · exact ⟨_, _, rfl⟩
  obtain ⟨n, hn⟩ : ∃ n, n = ks.length := ⟨_, rfl⟩
  rw [← hn] at c1 ⊢
  clear h2 h4 h1 h3 ok nd hn few lt
  simp at c1
  go_enter Try.func34, Try.ntmps34
  go_wp2
  go_ret
  exact ⟨rfl, rfl⟩
end Go.Proofs.Ytgijagdnhajkhaa
