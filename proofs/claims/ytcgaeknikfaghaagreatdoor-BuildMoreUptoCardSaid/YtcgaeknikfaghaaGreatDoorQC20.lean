/- What the proofs of this claim use, text by text. -/
import Derived.Test.YtcgaeknikfaghaaGreatDoorQC14
import Derived.Test.YtcgaeknikfaghaaGreatDoorQC16
import Derived.Maps.OwnRows
import Derived.Test.YtcgaeknikfaghaaGreatDoorQC19
import Derived.Deep.Slices
set_option linter.unusedSimpArgs false
set_option linter.unusedVariables false
set_option maxRecDepth 100000
set_option maxHeartbeats 25600000
namespace Go.Proofs.YtcgaeknikfaghaaGreatDoor
open Go.RowKit
theorem lawS : Maps.Keyed Tryz.prog 9 := Maps.string_keyed Tryz.underlying9
abbrev slit (s : ByteArray) : Lit := .string s.data.toList
theorem slit_inj {s t : ByteArray} (h : slit s = slit t) : s = t := by
  injection h with h
  exact ByteArray.ext (Array.toList_inj.1 h)
def TellS (D : DataW Unit) (g : ByteArray → Option Int) : Prop :=
  ∀ s : ByteArray, s.size ≤ maxLen → (g s = none → Maps.has D (slit s) = false) ∧ ∀ i, g s = some i → Maps.has D (slit s) = true ∧ D.atKey (slit s) (.lit (.int .i64 0)) = .lit (.int .i64 i)
theorem TellS.none_ : TellS (.map []) (fun _ => none) := fun _ _ => ⟨fun _ => rfl, fun _ e => by cases e⟩
theorem TellS.put {D : DataW Unit} {g : ByteArray → Option Int} (h : TellS D g) (ht : Maps.Tidy D) (s : ByteArray) (v : Int) : TellS (D.put (slit s) (.lit (.int .i64 v))) (fun t => if t = s then some v else g t) := fun t ht2 => by
  have hkl : WideAt.IsKeyLit (slit s) := by trivial
  by_cases e : t = s
  · subst e
    refine ⟨fun h0 => by simp at h0, fun i hi => ?_⟩
    obtain rfl : v = i := by simpa using hi
    exact ⟨by rw [Maps.has_put_same ht.isMap hkl], by rw [Maps.atKey_put_same ht.isMap hkl]⟩
  · have hne : slit t ≠ slit s := fun e2 => e (slit_inj e2)
    obtain ⟨h1, h2⟩ := h t ht2
    refine ⟨fun h0 => ?_, fun i hi => ?_⟩
    · rw [Maps.has_put_other hne]; exact h1 (by simpa [e] using h0)
    · obtain ⟨k1, k2⟩ := h2 i (by simpa [e] using hi)
      exact ⟨by rw [Maps.has_put_other hne]; exact k1, by rw [Maps.atKey_put_other hne]; exact k2⟩
theorem TellS.congr {D : DataW Unit} {g g' : ByteArray → Option Int} (h : TellS D g) (e : ∀ s, g s = g' s) : TellS D g' := by
  have : g = g' := funext e
  rw [← this]
  exact h
theorem lookS {w : World} {b q : Nat} {D : DataW Unit} {g : ByteArray → Option Int} (ho : w.ownsMap Tryz.prog 9 (plainElem Tryz.prog 3) b q D) (ht : TellS D g) (s : ByteArray) (hs : s.size ≤ maxLen) :
    (Instr.lookup 98 (.map (some b)) (.string s) true).run Tryz.prog w = .ok (.tuple #[.int .i64 ((g s).getD 0), .bool (g s).isSome]) w := by
  obtain ⟨v, ps, hrun, hv⟩ := ho.look_ok lawS Tryz.underlying98 (zeroInt w) (plainElem_int Tryz.underlying3 (by decide)) (WideMaps.keyOf_string_mk (P := Tryz.prog) Tryz.underlying9 hs)
  obtain ⟨c, rfl, h1, _⟩ := plainElem_int_inv Tryz.underlying3 hv
  have h2 := congrArg Prod.fst h1
  simp only at h2
  obtain ⟨t1, t2⟩ := ht s hs
  cases hg : g s with
  | none =>
    have e := t1 hg
    rw [Maps.atKey_of_not_has e] at h2
    rw [hrun, e, ← lit_i64 h2]
    rfl
  | some i =>
    obtain ⟨e1, e2⟩ := t2 i hg
    rw [e2] at h2
    rw [hrun, e1, ← lit_i64 h2]
    rfl
theorem lookS_nil (w : World) (s : ByteArray) (hs : s.size ≤ maxLen) :
    (Instr.lookup 98 (.map none) (.string s) true).run Tryz.prog w = .ok (.tuple #[.int .i64 0, .bool false]) w := by
  have := Maps.look_nil (w := w) (P := Tryz.prog) true lawS Tryz.underlying98 (zeroInt w) (WideMaps.keyOf_string_mk (P := Tryz.prog) Tryz.underlying9 hs)
  simpa using this
structure DcP where
  A : Option Addr
  c : Nat
  B : Option Addr
  d : Nat
abbrev dcells (P : DcP) (d : Dc) : List Value := [.string d.name, .int .i64 d.sort, .bool d.mac, .slice P.A d.par.length P.c, .bool d.body.list, .int .i64 d.body.k, .string d.body.T, .int .i64 d.body.ta, .int .i64 d.body.at_, .slice P.B d.body.L.length P.d]
theorem TreeL.turn9 {F G G' : Nat → Prop} {w w' : World} {A : Option Addr} {l : List Sx} (h : TreeL w (fun b _ => G b) A l) (ht : Turn F w w') (hG : ∀ k, k < w.heap.size → G k → ¬ F k ∧ G' k) : TreeL w' (fun b _ => G' b) A l :=
  h.imp ht.size (fun b off hlt hg j _ => ht.cell (p := ⟨b, off + j, none⟩) hlt (hG b hlt hg).1) fun _ _ hlt hg => (hG _ hlt hg).2
structure ParS (w : World) (G : Nat → Prop) (A : Option Addr) (l : List (ByteArray × Int)) : Prop where
  at_ : 0 < l.length → ∃ b off, A = some ⟨b, off, none⟩ ∧ G b ∧ b < w.heap.size ∧ ∀ (i : Nat) p, l[i]? = some p → w.cell? ⟨b, off + i * 2, none⟩ = some (.string p.1) ∧ w.cell? ⟨b, off + i * 2 + 1, none⟩ = some (.int .i64 p.2)
theorem ParS.turn {F G G' : Nat → Prop} {w w' : World} {A : Option Addr} {l : List (ByteArray × Int)} (h : ParS w G A l) (ht : Turn F w w') (hG : ∀ k, k < w.heap.size → G k → ¬ F k ∧ G' k) : ParS w' G' A l :=
  ⟨fun hn => by
    obtain ⟨b, off, e, hg, hlt, hc⟩ := h.at_ hn
    obtain ⟨hF, hg'⟩ := hG b hlt hg
    exact ⟨b, off, e, hg', Nat.lt_of_lt_of_le hlt ht.size, fun i p hp => ⟨(ht.cell (p := ⟨b, off + i * 2, none⟩) hlt hF).trans (hc i p hp).1, (ht.cell (p := ⟨b, off + i * 2 + 1, none⟩) hlt hF).trans (hc i p hp).2⟩⟩⟩
structure DcAs (w : World) (G : Nat → Prop) (P : DcP) (d : Dc) : Prop where
  par : ParS w G P.A d.par
  body : STree w (fun b _ => G b) d.body P.B P.d
theorem DcAs.turn {F G G' : Nat → Prop} {w w' : World} {P : DcP} {d : Dc} (h : DcAs w G P d) (ht : Turn F w w') (hG : ∀ k, k < w.heap.size → G k → ¬ F k ∧ G' k) : DcAs w' G' P d := ⟨h.par.turn ht hG, h.body.le, h.body.tree.turn9 ht hG⟩
structure DcS (w : World) (G : Nat → Prop) (A : Option Addr) (n c : Nat) (L : List (DcP × Dc)) : Prop where
  len : L.length = n
  nil : A = none → n = 0 ∧ c = 0
  at_ : 0 < n → ∃ b off, A = some ⟨b, off, none⟩ ∧ G b ∧ b < w.heap.size ∧ ∀ (i : Nat) q, L[i]? = some q → (∀ j u, (dcells q.1 q.2)[j]? = some u → w.cell? ⟨b, off + i * 10 + j, none⟩ = some u) ∧ DcAs w G q.1 q.2
theorem DcS.turn {F G G' : Nat → Prop} {w w' : World} {A : Option Addr} {n c : Nat} {L : List (DcP × Dc)} (h : DcS w G A n c L) (ht : Turn F w w') (hG : ∀ k, k < w.heap.size → G k → ¬ F k ∧ G' k) : DcS w' G' A n c L :=
  ⟨h.len, h.nil, fun hn => by
    obtain ⟨b, off, e, hg, hlt, hc⟩ := h.at_ hn
    obtain ⟨hF, hg'⟩ := hG b hlt hg
    exact ⟨b, off, e, hg', Nat.lt_of_lt_of_le hlt ht.size, fun i q hq => ⟨fun j u hu => (ht.cell (p := ⟨b, off + i * 10 + j, none⟩) hlt hF).trans ((hc i q hq).1 j u hu), (hc i q hq).2.turn ht hG⟩⟩⟩
theorem DcS.get {w : World} {G : Nat → Prop} {A : Option Addr} {n c i : Nat} {L : List (DcP × Dc)} (h : DcS w G A n c L) (hi : i < n) :
    ∃ b off P d, A = some ⟨b, off, none⟩ ∧ b < w.heap.size ∧ L[i]? = some (P, d) ∧ (L.map (·.2))[i]? = some d ∧ DcAs w G P d ∧ ∀ w', Turn (fun k => ¬ G k) w w' → b < w'.heap.size ∧ ∀ j u, (dcells P d)[j]? = some u → w'.cell? ⟨b, off + i * 10 + j, none⟩ = some u := by
  obtain ⟨b, off, e, hg, hlt, hc⟩ := h.at_ (by omega)
  obtain ⟨q, hq⟩ : ∃ q, L[i]? = some q := ⟨_, List.getElem?_eq_getElem (by rw [h.len]; exact hi)⟩
  exact ⟨b, off, q.1, q.2, e, hlt, hq, by rw [List.getElem?_map, hq]; rfl, (hc i q hq).2, fun w' hw => ⟨Nat.lt_of_lt_of_le hlt hw.size, fun j u hu => (hw.cell (p := ⟨b, off + i * 10 + j, none⟩) hlt fun e => e hg).trans ((hc i q hq).1 j u hu)⟩⟩
def Mk.spell (j : Nat) (A : List Int) : List UInt8 := Lib.itoa (j : Int) ++ A.flatMap fun z => 32 :: Lib.itoa z
abbrev Mk.key (j : Nat) (A : List Int) : ByteArray := ⟨(Mk.spell j A).toArray⟩
theorem itoa_blank (z : Int) : (32 : UInt8) ∉ Lib.itoa z := by
  intro h
  unfold Lib.itoa at h
  split at h
  · rcases List.mem_cons.1 h with h | h
    · exact absurd h (by decide)
    · exact absurd (dec_digit _ _ h).1 (by decide)
  · exact absurd (dec_digit _ _ h).1 (by decide)
theorem blank_split : ∀ {a b c d : List UInt8}, (32 : UInt8) ∉ a → (32 : UInt8) ∉ c → (b = [] ∨ b.head? = some 32) → (d = [] ∨ d.head? = some 32) → a ++ b = c ++ d → a = c ∧ b = d
  | [], b, [], d, _, _, _, _, h => ⟨rfl, h⟩
  | [], b, y :: c, d, _, hc, hb, _, h => by
    exfalso
    rw [List.nil_append] at h
    rcases hb with rfl | hb
    · cases h
    · rw [h] at hb
      have : y = 32 := by simpa using hb
      exact hc (by rw [this]; exact List.mem_cons_self)
  | x :: a, b, [], d, ha, _, _, hd, h => by
    exfalso
    rw [List.nil_append] at h
    rcases hd with rfl | hd
    · cases h
    · rw [← h] at hd
      have : x = 32 := by simpa using hd
      exact ha (by rw [this]; exact List.mem_cons_self)
  | x :: a, b, y :: c, d, ha, hc, hb, hd, h => by
    injection h with h1 h2
    obtain ⟨e1, e2⟩ := blank_split (fun m => ha (List.mem_cons_of_mem _ m)) (fun m => hc (List.mem_cons_of_mem _ m)) hb hd h2
    exact ⟨by rw [h1, e1], e2⟩
theorem blank_tail (A : List Int) : (A.flatMap fun z => (32 : UInt8) :: Lib.itoa z) = [] ∨ (A.flatMap fun z => (32 : UInt8) :: Lib.itoa z).head? = some 32 := by
  cases A with
  | nil => exact .inl rfl
  | cons z A => exact .inr rfl
theorem tails_inj : ∀ {A B : List Int}, (A.flatMap fun z => (32 : UInt8) :: Lib.itoa z) = (B.flatMap fun z => (32 : UInt8) :: Lib.itoa z) → A = B
  | [], [], _ => rfl
  | [], z :: B, h => by cases h
  | z :: A, [], h => by cases h
  | z :: A, y :: B, h => by
    rw [List.flatMap_cons, List.flatMap_cons, List.cons_append, List.cons_append] at h
    injection h with _ h
    obtain ⟨e1, e2⟩ := blank_split (itoa_blank z) (itoa_blank y) (blank_tail A) (blank_tail B) h
    rw [itoa_inj e1, tails_inj e2]
theorem Mk.spell_inj {j k : Nat} {A B : List Int} (h : Mk.spell j A = Mk.spell k B) : j = k ∧ A = B := by
  obtain ⟨e1, e2⟩ := blank_split (itoa_blank _) (itoa_blank _) (blank_tail A) (blank_tail B) h
  exact ⟨by have := itoa_inj e1; omega, tails_inj e2⟩
theorem Mk.key_inj {j k : Nat} {A B : List Int} (h : Mk.key j A = Mk.key k B) : j = k ∧ A = B := Mk.spell_inj (by
  have := congrArg (fun s : ByteArray => s.data.toList) h
  simpa using this)
def TellM (D : DataW Unit) (m : List (Nat × List Int × Int)) : Prop :=
  ∀ (j : Nat) (A : List Int), (Mk.hit m j A = none → Maps.has D (slit (Mk.key j A)) = false) ∧ ∀ i, Mk.hit m j A = some i → Maps.has D (slit (Mk.key j A)) = true ∧ D.atKey (slit (Mk.key j A)) (.lit (.int .i64 0)) = .lit (.int .i64 i)
theorem TellM.none_ : TellM (.map []) [] := fun _ _ => ⟨fun _ => rfl, fun _ e => by cases e⟩
theorem Mk.hit_cons (j k : Nat) (A B : List Int) (id : Int) (m : List (Nat × List Int × Int)) : Mk.hit ((j, A, id) :: m) k B = if j = k ∧ A = B then some id else Mk.hit m k B := by
  unfold Mk.hit
  rw [List.find?_cons]
  by_cases e : j = k ∧ A = B
  · rw [if_pos e, decide_eq_true (show (j, A, id).1 = k ∧ (j, A, id).2.1 = B from e)]; rfl
  · rw [if_neg e, decide_eq_false (show ¬ ((j, A, id).1 = k ∧ (j, A, id).2.1 = B) from e)]
theorem Mk.hit_filter {j k : Nat} {A B : List Int} (m : List (Nat × List Int × Int)) (h : ¬ (j = k ∧ A = B)) : Mk.hit (m.filter fun q => !decide (q.1 = j ∧ q.2.1 = A)) k B = Mk.hit m k B := by
  induction m with
  | nil => rfl
  | cons q m ih =>
    obtain ⟨a, b, c⟩ := q
    rw [Mk.hit_cons]
    by_cases e : a = j ∧ b = A
    · obtain ⟨rfl, rfl⟩ := e
      rw [List.filter_cons_of_neg (by simp), ih, if_neg h]
    · rw [List.filter_cons_of_pos (by rw [Bool.not_eq_true', decide_eq_false_iff_not]; exact e), Mk.hit_cons, ih]
theorem Mk.hit_put (j k : Nat) (A B : List Int) (id : Int) (m : List (Nat × List Int × Int)) : Mk.hit (Mk.put m j A id) k B = if j = k ∧ A = B then some id else Mk.hit m k B := by
  unfold Mk.put
  rw [Mk.hit_cons]
  by_cases e : j = k ∧ A = B
  · rw [if_pos e, if_pos e]
  · rw [if_neg e, if_neg e, Mk.hit_filter m e]
theorem TellM.put {D : DataW Unit} {m : List (Nat × List Int × Int)} (h : TellM D m) (ht : Maps.Tidy D) (j : Nat) (A : List Int) (id : Int) : TellM (D.put (slit (Mk.key j A)) (.lit (.int .i64 id))) (Mk.put m j A id) := fun k B => by
  have hkl : WideAt.IsKeyLit (slit (Mk.key j A)) := by trivial
  rw [Mk.hit_put]
  by_cases e : j = k ∧ A = B
  · obtain ⟨rfl, rfl⟩ := e
    rw [if_pos ⟨rfl, rfl⟩]
    refine ⟨fun h0 => (by cases h0), fun i hi => ?_⟩
    obtain rfl := Option.some.inj hi
    exact ⟨by rw [Maps.has_put_same ht.isMap hkl], by rw [Maps.atKey_put_same ht.isMap hkl]⟩
  · have hne : slit (Mk.key k B) ≠ slit (Mk.key j A) := fun e2 => e (by have := Mk.key_inj (slit_inj e2); exact ⟨this.1.symm, this.2.symm⟩)
    rw [if_neg e]
    obtain ⟨h1, h2⟩ := h k B
    exact ⟨fun h0 => by rw [Maps.has_put_other hne]; exact h1 h0, fun i hi => ⟨by rw [Maps.has_put_other hne]; exact (h2 i hi).1, by rw [Maps.atKey_put_other hne]; exact (h2 i hi).2⟩⟩
def Mk.Keys (m : List (Nat × List Int × Int)) : Prop := (m.map fun q => (q.1, q.2.1)).Nodup
theorem Mk.Keys.put {m : List (Nat × List Int × Int)} (h : Mk.Keys m) (j : Nat) (A : List Int) (id : Int) : Mk.Keys (Mk.put m j A id) := by
  unfold Mk.Keys Mk.put
  rw [List.map_cons, List.nodup_cons]
  refine ⟨fun hm => ?_, ?_⟩
  · obtain ⟨q, hq, e⟩ := List.mem_map.1 hm
    have := (List.mem_filter.1 hq).2
    injection e with e1 e2
    simp at this
    exact this.elim (fun f => f e1) fun f => f e2
  · exact List.Nodup.sublist (List.Sublist.map _ List.filter_sublist) h
theorem Mk.put_len {m : List (Nat × List Int × Int)} (h : Mk.Keys m) (j : Nat) (A : List Int) (id : Int) : (Mk.put m j A id).length = if (Mk.hit m j A).isSome = true then m.length else m.length + 1 := by
  unfold Mk.put
  rw [List.length_cons]
  induction m with
  | nil => rfl
  | cons q m ih =>
    obtain ⟨a, b, c⟩ := q
    unfold Mk.Keys at h
    rw [List.map_cons, List.nodup_cons] at h
    have ih := ih h.2
    rw [Mk.hit_cons]
    by_cases e : a = j ∧ b = A
    · obtain ⟨rfl, rfl⟩ := e
      rw [List.filter_cons_of_neg (by simp), if_pos (show a = a ∧ b = b from ⟨rfl, rfl⟩)]
      have hno : Mk.hit m a b = none := by
        cases hh : Mk.hit m a b with
        | none => rfl
        | some i => exact absurd (List.mem_map.2 ⟨_, Mk.hit_mem hh, rfl⟩) h.1
      rw [hno] at ih
      simp at ih ⊢
      omega
    · rw [List.filter_cons_of_pos (by rw [Bool.not_eq_true', decide_eq_false_iff_not]; exact e), if_neg e, List.length_cons, ih]
      split <;> simp
structure MadeM (w : World) (b : Nat) (m : List (Nat × List Int × Int)) : Prop where
  own : ∃ D, w.ownsMap Tryz.prog 9 (plainElem (H := Unit) Tryz.prog 3) b m.length D ∧ TellM D m ∧ Maps.size D = m.length
  keys : Mk.Keys m
theorem MadeM.turn {F : Nat → Prop} {w w' : World} {b : Nat} {m : List (Nat × List Int × Int)} (h : MadeM w b m) (ht : Turn F w w') (hb : ¬ F b) : MadeM w' b m := by
  obtain ⟨⟨D, h1, h2⟩, h3⟩ := h
  exact ⟨⟨D, ht.map h1 hb, h2⟩, h3⟩
theorem Mk.size_key {j : Nat} {A : List Int} (hj : j ≤ 1000) (hA : ∀ z ∈ A, (Lit.int .i64 z).wf = true) (hl : A.length ≤ 1000) : (Mk.key j A).size ≤ 30000 := by
  show (Mk.spell j A).toArray.size ≤ _
  rw [List.size_toArray]
  unfold Mk.spell
  rw [List.length_append]
  have h1 := Lib.itoa_length_le (j : Int) (by omega) (by omega)
  have h2 : ∀ B : List Int, (∀ z ∈ B, (Lit.int .i64 z).wf = true) → (B.flatMap fun z => (32 : UInt8) :: Lib.itoa z).length ≤ B.length * 22 := fun B => by
    induction B with
    | nil => intro _; simp
    | cons z B ih =>
      intro hB
      have h3 := ih fun y hy => hB y (List.mem_cons_of_mem _ hy)
      have hw := bounds_i64 (hB z List.mem_cons_self)
      have h4 := Lib.itoa_length_le z hw.1 hw.2
      rw [List.flatMap_cons, List.length_append, List.length_cons, List.length_cons]
      omega
  have := h2 A hA
  omega
theorem MadeM.look {w : World} {b : Nat} {m : List (Nat × List Int × Int)} (h : MadeM w b m) {j : Nat} {A : List Int} (hs : (Mk.key j A).size ≤ maxLen) :
    (Instr.lookup 98 (.map (some b)) (.string (Mk.key j A)) true).run Tryz.prog w = .ok (.tuple #[.int .i64 ((Mk.hit m j A).getD 0), .bool (Mk.hit m j A).isSome]) w := by
  obtain ⟨⟨D, ho, ht, _⟩, _⟩ := h
  obtain ⟨v, ps, hrun, hv⟩ := ho.look_ok lawS Tryz.underlying98 (zeroInt w) (plainElem_int Tryz.underlying3 (by decide)) (WideMaps.keyOf_string_mk (P := Tryz.prog) Tryz.underlying9 hs)
  obtain ⟨c, rfl, h1, _⟩ := plainElem_int_inv Tryz.underlying3 hv
  have h2 := congrArg Prod.fst h1
  simp only at h2
  obtain ⟨t1, t2⟩ := ht j A
  cases hg : Mk.hit m j A with
  | none =>
    have e := t1 hg
    rw [Maps.atKey_of_not_has e] at h2
    rw [hrun, e, ← lit_i64 h2]
    rfl
  | some i =>
    obtain ⟨e1, e2⟩ := t2 i hg
    rw [e2] at h2
    rw [hrun, e1, ← lit_i64 h2]
    rfl
end Go.Proofs.YtcgaeknikfaghaaGreatDoor
namespace Go.Proofs.YtcgaeknikfaghaaGreatDoor
open Go.RowKit Go.ChangeShapes Go.WideShapes Go.Deep
theorem size_list (T : ByteArray) : T.size = T.data.toList.length := by rw [Array.length_toList]; rfl
theorem param_cells {H : Type} {enc : TypeId × Value → H} {W : World} {fuel : Nat} {cs : List Value} {y : DataW H × List MemPlace} (h : DataW.trod enc Tryz.prog W 0 (fun _ => true) true fuel 94 cs = some y) :
    ∃ p : ByteArray × Int, cs = [.string p.1, .int .i64 p.2] ∧ p.1.size ≤ Rows.uptoBulk y.1 := by
  obtain ⟨xs, k, _, hy, hlen, hxl, hf⟩ := DataW.trod_struct Tryz.underlying94 h
  rw [show Tryz.prog.cellsOf 94 = 2 by kernel_rfl] at hlen
  match xs, hxl, cs, hlen with
  | [y0, y1], _, [v0, v1], _ =>
    have e0 : DataW.trod enc Tryz.prog W 0 (fun _ => true) true k 9 [v0] = some y0 := hf 0 _ rfl
    have e1 : DataW.trod enc Tryz.prog W 0 (fun _ => true) true k 3 [v1] = some y1 := hf 1 _ rfl
    obtain ⟨s, hs, hy0, _⟩ := DataW.trod_string Tryz.underlying9 e0
    obtain ⟨z, hz, _⟩ := DataW.trod_int Tryz.underlying3 e1
    injection hs with hs
    injection hz with hz
    subst hs hz
    refine ⟨(s, z), rfl, ?_⟩
    have := size_list s
    rw [hy]
    simp only [Rows.uptoBulk, Rows.uptoBulkAll, List.map_cons, List.map_nil, hy0]
    omega
theorem open_params {H : Type} {enc : TypeId × Value → H} {W : World} {fuel : Nat} {v : Value} {y : DataW H × List MemPlace} (h : DataW.trod enc Tryz.prog W 0 (fun _ => true) true fuel 54 [v] = some y) :
    ∃ A c l, v = .slice A l.length c ∧ ParS W (fun _ => True) A l ∧ ∀ p ∈ l, p.1.size ≤ Rows.uptoBulk y.1 := by
  rcases DataW.trod_slice Tryz.underlying54 h with ⟨hcs, _⟩ | ⟨a, len, cap, elems, rest, n2, hn2, hcs, h3, _, hl, hm, hel, hi, _, _⟩
  · injection hcs with hcs
    subst hcs
    exact ⟨none, 0, [], rfl, ⟨fun hn => absurd hn (by decide)⟩, fun _ hp => (List.not_mem_nil hp).elim⟩
  · injection hcs with hcs
    subst hcs
    have each : ∀ i, i < len → ∃ p : ByteArray × Int, W.cell? (a.add (i * 2)) = some (.string p.1) ∧ W.cell? ((a.add (i * 2)).add 1) = some (.int .i64 p.2) ∧ p.1.size ≤ Rows.uptoBulk y.1 := fun i hlt => by
      have hii := hi i hlt
      rw [show Tryz.prog.cellsOf 94 = 2 by kernel_rfl] at hii
      obtain ⟨q, hq⟩ : ∃ q, elems[i]? = some q := ⟨_, List.getElem?_eq_getElem (by omega)⟩
      rw [hq] at hii
      obtain ⟨cs', h1, h2⟩ := Option.bind_eq_some_iff.1 hii
      obtain ⟨p, rfl, hp⟩ := param_cells h2
      obtain ⟨_, _, hcell⟩ := World.cells?_some h1
      have g0 := hcell 0 (by omega)
      have g1 := hcell 1 (by omega)
      refine ⟨p, by simpa [Addr.add] using g0, by simpa using g1, Nat.le_trans hp ?_⟩
      rw [h3]
      simp only [Rows.uptoBulk]
      have := bulk_le (List.mem_map_of_mem (f := (·.1)) (List.mem_of_getElem? hq))
      omega
    haveI : Inhabited (ByteArray × Int) := ⟨(ByteArray.empty, 0)⟩
    obtain ⟨q, hq⟩ := choose_lt each
    refine ⟨some a, cap, (List.range len).map q, by simp, ⟨fun hn => ?_⟩, fun p hp => ?_⟩
    · have hn0 : 0 < len := by simpa using hn
      have hc0 := (hq 0 hn0).1
      obtain ⟨b, off, spot⟩ := a
      have hspot : spot = none := by simpa [Addr.add] using World.cell?_spot hc0
      subst hspot
      have hb : b < W.heap.size := by
        have := World.block_lt_of_cell? W _ hc0
        simpa [Addr.add] using this
      refine ⟨b, off, rfl, trivial, hb, fun i o ho => ?_⟩
      obtain ⟨hil, rfl⟩ := get_range ho
      obtain ⟨k1, k2, _⟩ := hq i hil
      rw [addr_add] at k1
      rw [addr_add, addr_add] at k2
      exact ⟨k1, k2⟩
    · obtain ⟨i, hir, rfl⟩ := List.mem_map.1 hp
      exact (hq i (List.mem_range.1 hir)).2.2
structure DcB (B : Nat) (d : Dc) : Prop where
  name : d.name.size ≤ B
  par : ∀ p ∈ d.par, p.1.size ≤ B
  size : d.body.size ≤ B
  wide : d.body.wide ≤ B
theorem decl_cells {H : Type} {enc : TypeId × Value → H} {W : World} {fuel : Nat} {cs : List Value} {y : DataW H × List MemPlace} (h : DataW.trod enc Tryz.prog W 0 (fun _ => true) true fuel 56 cs = some y) :
    ∃ (P : DcP) (d : Dc), cs = dcells P d ∧ DcAs W (fun _ => True) P d ∧ DcB (Rows.uptoBulk y.1) d := by
  obtain ⟨xs, k, _, hy, hlen, hxl, hf⟩ := DataW.trod_struct Tryz.underlying56 h
  rw [show Tryz.prog.cellsOf 56 = 10 by kernel_rfl] at hlen
  match xs, hxl, cs, hlen with
  | [y0, y1, y2, y3, y4], _, [v0, v1, v2, v3, v4, v5, v6, v7, v8, v9], _ =>
    have e0 : DataW.trod enc Tryz.prog W 0 (fun _ => true) true k 9 [v0] = some y0 := hf 0 _ rfl
    have e1 : DataW.trod enc Tryz.prog W 0 (fun _ => true) true k 3 [v1] = some y1 := hf 1 _ rfl
    have e2 : DataW.trod enc Tryz.prog W 0 (fun _ => true) true k 4 [v2] = some y2 := hf 2 _ rfl
    have e3 : DataW.trod enc Tryz.prog W 0 (fun _ => true) true k 54 [v3] = some y3 := hf 3 _ rfl
    have e4 : DataW.trod enc Tryz.prog W 0 (fun _ => true) true k 27 [v4, v5, v6, v7, v8, v9] = some y4 := hf 4 _ rfl
    obtain ⟨s, hs, hy0, _⟩ := DataW.trod_string Tryz.underlying9 e0
    obtain ⟨z, hz, _⟩ := DataW.trod_int Tryz.underlying3 e1
    obtain ⟨b, hb, _⟩ := DataW.trod_bool Tryz.underlying4 e2
    obtain ⟨A, c, l, hA, hl, hlp⟩ := open_params e3
    obtain ⟨x, B, d, hB, hT, hs1, hs2⟩ := open_sx k k _ _ (Nat.le_refl _) e4
    injection hs with hs
    injection hz with hz
    injection hb with hb
    subst hs hz hb hA
    injection hB with b0 hB
    injection hB with b1 hB
    injection hB with b2 hB
    injection hB with b3 hB
    injection hB with b4 hB
    injection hB with b5 _
    subst b0 b1 b2 b3 b4 b5
    have hbk : Rows.uptoBulk y.1 = Rows.uptoBulk y0.1 + (Rows.uptoBulk y1.1 + (Rows.uptoBulk y2.1 + (Rows.uptoBulk y3.1 + (Rows.uptoBulk y4.1 + 0)))) + 1 := by
      rw [hy]
      simp only [Rows.uptoBulk, Rows.uptoBulkAll, List.map_cons, List.map_nil]
    have hsz := size_list s
    have hb0 : Rows.uptoBulk y0.1 = s.data.toList.length + 1 := by rw [hy0]; rfl
    exact ⟨⟨A, c, B, d⟩, ⟨s, z, b, l, x⟩, rfl, ⟨hl, ⟨hT.le, hT.tree.mono fun _ _ _ _ => trivial⟩⟩, ⟨by simp only; omega, fun p hp => by have := hlp p hp; omega, by simp only; omega, by simp only; omega⟩⟩
theorem open_decls {H : Type} {enc : TypeId × Value → H} {W : World} {fuel : Nat} {v : Value} {y : DataW H × List MemPlace} (h : DataW.trod enc Tryz.prog W 0 (fun _ => true) true fuel 22 [v] = some y) :
    ∃ A n c L, v = .slice A n c ∧ DcS W (fun _ => True) A n c L ∧ n ≤ c ∧ c ≤ maxLen ∧ n ≤ Rows.uptoBulk y.1 ∧ ∀ q ∈ L, DcB (Rows.uptoBulk y.1) q.2 := by
  rcases DataW.trod_slice Tryz.underlying22 h with ⟨hcs, _⟩ | ⟨a, len, cap, elems, rest, n2, hn2, hcs, h3, _, hl, hm, hel, hi, _, _⟩
  · injection hcs with hcs
    subst hcs
    exact ⟨none, 0, 0, [], rfl, ⟨rfl, fun _ => ⟨rfl, rfl⟩, fun hn => absurd hn (by decide)⟩, Nat.le_refl _, Nat.zero_le _, Nat.zero_le _, fun _ hp => (List.not_mem_nil hp).elim⟩
  · injection hcs with hcs
    subst hcs
    have each : ∀ i, i < len → ∃ q : DcP × Dc, (∀ j u, (dcells q.1 q.2)[j]? = some u → W.cell? ((a.add (i * 10)).add j) = some u) ∧ DcAs W (fun _ => True) q.1 q.2 ∧ DcB (Rows.uptoBulk y.1) q.2 := fun i hlt => by
      have hii := hi i hlt
      rw [show Tryz.prog.cellsOf 56 = 10 by kernel_rfl] at hii
      obtain ⟨q, hq⟩ : ∃ q, elems[i]? = some q := ⟨_, List.getElem?_eq_getElem (by omega)⟩
      rw [hq] at hii
      obtain ⟨cs', h1, h2⟩ := Option.bind_eq_some_iff.1 hii
      obtain ⟨P, d, rfl, hd, hb⟩ := decl_cells h2
      obtain ⟨_, _, hcell⟩ := World.cells?_some h1
      have hle : Rows.uptoBulk q.1 ≤ Rows.uptoBulk y.1 := by
        rw [h3]
        simp only [Rows.uptoBulk]
        have := bulk_le (List.mem_map_of_mem (f := (·.1)) (List.mem_of_getElem? hq))
        omega
      refine ⟨(P, d), fun j u hu => ?_, hd, ⟨Nat.le_trans hb.name hle, fun p hp => Nat.le_trans (hb.par p hp) hle, Nat.le_trans hb.size hle, Nat.le_trans hb.wide hle⟩⟩
      have hj : j < 10 := (List.getElem?_eq_some_iff.1 hu).1
      rw [hcell j hj]
      exact hu
    haveI : Inhabited (DcP × Dc) := ⟨(⟨none, 0, none, 0⟩, ⟨ByteArray.empty, 0, false, [], Sx.zero⟩)⟩
    obtain ⟨q, hq⟩ := choose_lt each
    refine ⟨some a, len, cap, (List.range len).map q, rfl, ⟨by simp, (fun e => by cases e), fun hn => ?_⟩, hl, hm, ?_, fun p hp => ?_⟩
    · have hc0 := (hq 0 hn).1 0 _ rfl
      obtain ⟨b, off, spot⟩ := a
      have hspot : spot = none := by simpa [Addr.add] using World.cell?_spot hc0
      subst hspot
      have hb : b < W.heap.size := by
        have := World.block_lt_of_cell? W _ hc0
        simpa [Addr.add] using this
      refine ⟨b, off, rfl, trivial, hb, fun i o ho => ?_⟩
      obtain ⟨hil, rfl⟩ := get_range ho
      refine ⟨fun j u hu => ?_, (hq i hil).2.1⟩
      have := (hq i hil).1 j u hu
      rw [addr_add, addr_add] at this
      exact this
    · have hlb : ∀ l : List (DataW H), l.length ≤ Rows.uptoBulkAll l := fun l => by
        induction l with
        | nil => exact Nat.le_refl _
        | cons d l ih =>
          have : 1 ≤ Rows.uptoBulk d := by
            cases d with
            | lit x => cases x <;> simp [Rows.uptoBulk]
            | _ => simp [Rows.uptoBulk]
          rw [Rows.uptoBulkAll, List.length_cons]
          omega
      have := hlb (elems.map (·.1))
      rw [List.length_map] at this
      rw [h3]
      simp only [Rows.uptoBulk]
      omega
    · obtain ⟨i, hir, rfl⟩ := List.mem_map.1 hp
      exact (hq i (List.mem_range.1 hir)).2.2
end Go.Proofs.YtcgaeknikfaghaaGreatDoor
namespace Go.Proofs.YtcgaeknikfaghaaGreatDoor
open Go.RowKit
def Bd.sizes (D : List Dc) : Nat := (D.map (·.body.size)).sum
def Bd.macs (D : List Dc) : Nat := (D.filter (·.mac)).length
structure Bd.Few (D : List Dc) (x : Sx) : Prop where
  n : D.length ≤ 60
  size : x.size ≤ 600
  dep : Sx.dep 65 x ≤ 64
  par : ∀ d ∈ D, d.par.length ≤ 3
  deps : ∀ d ∈ D, Sx.dep 65 d.body ≤ 64
  sizes : Bd.sizes D ≤ 600
  macs : Bd.macs D ≤ 8
def FewSaid (D : List Dc) (x : Sx) (e : Ending) : Prop := ∃ b, e = .returned (.bool b) ∧ (b = true → Bd.Few D x)
theorem Bd.sizes_take {D : List Dc} {i : Nat} {d : Dc} (h : D[i]? = some d) : Bd.sizes (D.take (i + 1)) = Bd.sizes (D.take i) + d.body.size := by
  unfold Bd.sizes
  rw [take_one h, List.map_append, List.sum_append]
  simp
theorem Bd.macs_take {D : List Dc} {i : Nat} {d : Dc} (h : D[i]? = some d) : Bd.macs (D.take (i + 1)) = Bd.macs (D.take i) + if d.mac = true then 1 else 0 := by
  unfold Bd.macs
  rw [take_one h, List.filter_append, List.length_append]
  cases hm : d.mac <;> simp [hm]
theorem kfew10 (w : World) (A : Option Addr) (n c : Nat) (L : List (DcP × Dc)) (x : Sx) (xA : Option Addr) (xc : Nat) {G : Nat → Prop} (h : DcS w G A n c L) (hx : STree w AnyP x xA xc) (hn : n ≤ 1000000000) (hxs : x.size ≤ 1000000000) (hL : ∀ q ∈ L, q.2.body.size ≤ 1000000000) :
    Calls Tryz.prog 11 #[.slice A n c, sval x xA xc] w fun e w' => FewSaid (L.map (·.2)) x e ∧ Below w.heap.size w w' := by
  obtain ⟨W0, hW0⟩ : ∃ W0, w.alloc (sbox x xA xc) = W0 := ⟨_, rfl⟩
  have hB0 : Below w.heap.size w W0 := by rw [← hW0]; exact (Below.refl _ w).alloc (Nat.le_refl _) _
  have hbx : SAt W0 w.heap.size 0 x xA xc := by rw [← hW0]; exact sbox_at w x xA xc
  have HSz := Lib.hid (rsize x.size x xA xc W0 (Nat.le_refl _) hxs (hx.kept hB0))
  have HDp := Lib.hid fun W (hW : Below W0.heap.size W0 W) => rDepth x xA xc W ((hx.kept hB0).kept hW)
  have HCx : Hid (∀ W, Below W0.heap.size W0 W → SAt W w.heap.size 0 x xA xc ∧ Below w.heap.size w W) := fun W hW => ⟨hbx.below hW, hB0.trans (hW.mono hB0.size)⟩
  have HC : Hid (∀ i, i < n → ∃ b off P d, A = some ⟨b, off, none⟩ ∧ (L.map (·.2))[i]? = some d ∧ STree w AnyP d.body P.B P.d ∧ d.body.size ≤ 1000000000 ∧ ∀ W, Below w.heap.size w W → b < W.heap.size ∧ ∀ j u, (dcells P d)[j]? = some u → W.cell? ⟨b, off + i * 10 + j, none⟩ = some u) := fun i hi => by
    obtain ⟨b, off, P, d, e, _, hLi, hD, hda, hc⟩ := h.get hi
    exact ⟨b, off, P, d, e, hD, ⟨hda.body.le, hda.body.tree.mono fun _ _ _ _ => trivial⟩, hL _ (List.mem_of_getElem? hLi), fun W hW => hc W (Turn.of_below hW)⟩
  have HLen : Hid ((L.map (·.2)).length = n) := by show _ = _; rw [List.length_map, h.len]
  obtain ⟨D, hD⟩ : ∃ D, L.map (·.2) = D := ⟨_, rfl⟩
  rw [hD] at HC HLen ⊢
  obtain ⟨X, hX⟩ : ∃ X, x.size = X := ⟨_, rfl⟩
  obtain ⟨dx, hdx⟩ : ∃ dx, Sx.dep 65 x = dx := ⟨_, rfl⟩
  have HX := Lib.hid (And.intro hX hdx)
  rw [hX] at HSz
  rw [hdx] at HDp
  obtain ⟨_, a0, a1, a2, a3, a4, a5⟩ := hbx
  simp only [Nat.zero_add] at a0 a1 a2 a3 a4 a5
  obtain ⟨xn, hxn⟩ : ∃ xn, x.L.length = xn := ⟨_, rfl⟩
  unfold sval at HSz HDp ⊢
  rw [hxn] at HSz HDp a5 ⊢
  have hW0' : w.alloc (.cells #[.bool x.list, .int .i64 x.k, .string x.T, .int .i64 x.ta, .int .i64 x.at_, .slice xA xn xc] 27) = W0 := by rw [← hW0, ← hxn]
  have HXn := Lib.hid hxn
  clear h hx hxs hL hD hX hdx hW0 hxn hB0
  by_cases h60 : 60 < n
  · have d1 : decide ((60 : Int) < (n : Int)) = true := decide_eq_true (by omega)
    have HE := Lib.hid (HCx.out W0 (Below.refl _ _)).2
    clear HSz HDp HC HLen HX h60
    go_enter Tryz.func11, Tryz.ntmps11
    go_wp2
    go_ret
    exact ⟨⟨false, rfl, fun e => by cases e⟩, HE.out⟩
  have d1 : decide ((60 : Int) < (n : Int)) = false := decide_eq_false (by omega)
  have HN : Hid (n ≤ 60) := by show n ≤ 60; omega
  clear h60 hn
  go_enter Tryz.func11, Tryz.ntmps11
  go_wp2_with fail
  refine HSz.out.mono ?_
  rintro e w2 ⟨⟨z, rfl, z1, z2, z3⟩, b2⟩
  by_cases hz : 600 < z
  · have d2 : decide ((600 : Int) < (z : Int)) = true := decide_eq_true (by omega)
    have HE := Lib.hid (HCx.out w2 b2).2
    obtain ⟨_, c0, c1, c2, c3, c4, c5⟩ := (HCx.out w2 b2).1
    simp only [Nat.zero_add] at c0 c1 c2 c3 c4 c5
    rw [HXn.out] at c5
    clear HSz HDp HC HLen HX z1 z2 z3 b2 hz HCx a0 a1 a2 a3 a4 a5 hW0'
    go_wp2
    go_ret
    exact ⟨⟨false, rfl, fun e => by cases e⟩, HE.out⟩
  have d2 : decide ((600 : Int) < (z : Int)) = false := decide_eq_false (by omega)
  have HZ : Hid (X ≤ 600) := by show X ≤ 600; omega
  obtain ⟨_, c0, c1, c2, c3, c4, c5⟩ := (HCx.out w2 b2).1
  simp only [Nat.zero_add] at c0 c1 c2 c3 c4 c5
  rw [HXn.out] at c5
  have HD2 := Lib.hid (HDp.out w2 b2)
  have HB2 := Lib.hid b2
  clear HSz HDp z1 z2 z3 b2 hz a0 a1 a2 a3 a4 a5 hW0'
  go_wp2_with fail
  refine HD2.out.mono ?_
  rintro e w3 ⟨rfl, b3⟩
  have HB3 := Lib.hid (HCx.out w3 (HB2.out.trans (b3.mono HB2.out.size))).2
  clear HD2 b3 c0 c1 c2 c3 c4 c5 HB2 HCx HXn
  by_cases h64 : 64 < dx
  · have d3 : decide ((64 : Int) < (dx : Int)) = true := decide_eq_true (by omega)
    clear HC HLen HX h64
    go_wp2
    go_ret
    exact ⟨⟨false, rfl, fun e => by cases e⟩, HB3.out⟩
  have d3 : decide ((64 : Int) < (dx : Int)) = false := decide_eq_false (by omega)
  have HDx : Hid (dx ≤ 64) := by show dx ≤ 64; omega
  clear h64
  go_wp2
  go_loopw [5, 6, 7] (fun zv fv iv wr => ∃ i z f : Nat, i ≤ n ∧ z ≤ 600 ∧ f ≤ 8 ∧ iv = .int .i64 (i : Nat) ∧ zv = .int .i64 (z : Nat) ∧ fv = .int .i64 (f : Nat) ∧ Hid (Below w.heap.size w wr ∧ z = Bd.sizes (D.take i) ∧ f = Bd.macs (D.take i) ∧ ∀ (j : Nat) d, j < i → D[j]? = some d → d.par.length ≤ 3 ∧ Sx.dep 65 d.body ≤ 64)) (fun _ _ iv _ => n - (intOf iv).toNat)
  case atStart => exact ⟨0, 0, 0, Nat.zero_le _, Nat.zero_le _, Nat.zero_le _, rfl, rfl, rfl, HB3.out, rfl, rfl, fun _ _ h => absurd h (Nat.not_lt_zero _)⟩
  case round =>
    obtain ⟨i, z, f, hi, hz, hf, rfl, rfl, rfl, HI⟩ := hrel
    by_cases hlt : i < n
    · obtain ⟨b, off, P, d, rfl, hd, hT, hs, hc⟩ := HC.out i hlt
      obtain ⟨hblt, hcc⟩ := hc wr HI.out.1
      have HCC : Hid (∀ W, Below wr.heap.size wr W → Below w.heap.size w W ∧ b < W.heap.size ∧ W.cell? ⟨b, off + i * 10 + 2, none⟩ = some (.bool d.mac) ∧ W.cell? ⟨b, off + i * 10 + 3, none⟩ = some (.slice P.A d.par.length P.c) ∧ W.cell? ⟨b, off + i * 10 + 4, none⟩ = some (.bool d.body.list) ∧ W.cell? ⟨b, off + i * 10 + 5, none⟩ = some (.int .i64 d.body.k) ∧ W.cell? ⟨b, off + i * 10 + 6, none⟩ = some (.string d.body.T) ∧ W.cell? ⟨b, off + i * 10 + 7, none⟩ = some (.int .i64 d.body.ta) ∧ W.cell? ⟨b, off + i * 10 + 8, none⟩ = some (.int .i64 d.body.at_) ∧ W.cell? ⟨b, off + i * 10 + 9, none⟩ = some (.slice P.B d.body.L.length P.d)) := fun W hW => by
        have hw := HI.out.1.trans (hW.mono HI.out.1.size)
        obtain ⟨q1, q2⟩ := hc W hw
        exact ⟨hw, q1, q2 2 _ rfl, q2 3 _ rfl, q2 4 _ rfl, q2 5 _ rfl, q2 6 _ rfl, q2 7 _ rfl, q2 8 _ rfl, q2 9 _ rfl⟩
      have HSd := Lib.hid (rsize d.body.size d.body P.B P.d wr (Nat.le_refl _) hs (hT.kept HI.out.1))
      have HDd := Lib.hid fun W (hW : Below wr.heap.size wr W) => rDepth d.body P.B P.d W (hT.kept (HCC.out W hW).1)
      obtain ⟨sd, hsd⟩ : ∃ sd, d.body.size = sd := ⟨_, rfl⟩
      obtain ⟨dd, hdd⟩ : ∃ dd, Sx.dep 65 d.body = dd := ⟨_, rfl⟩
      obtain ⟨pn, hpn⟩ : ∃ pn, d.par.length = pn := ⟨_, rfl⟩
      obtain ⟨mac, hmac⟩ : ∃ mac, d.mac = mac := ⟨_, rfl⟩
      obtain ⟨xl, hxl⟩ : ∃ xl, d.body.list = xl := ⟨_, rfl⟩
      obtain ⟨xk, hxk⟩ : ∃ xk, d.body.k = xk := ⟨_, rfl⟩
      obtain ⟨xT, hxT⟩ : ∃ xT, d.body.T = xT := ⟨_, rfl⟩
      obtain ⟨xta, hxta⟩ : ∃ xta, d.body.ta = xta := ⟨_, rfl⟩
      obtain ⟨xa, hxa⟩ : ∃ xa, d.body.at_ = xa := ⟨_, rfl⟩
      obtain ⟨ln, hln⟩ : ∃ ln, d.body.L.length = ln := ⟨_, rfl⟩
      have HNext : Hid (pn ≤ 3 → dd ≤ 64 → ∀ (W : World) (z' f' : Nat), Below w.heap.size w W → z' = z + sd → f' = f + (if mac = true then 1 else 0) → Below w.heap.size w W ∧ z' = Bd.sizes (D.take (i + 1)) ∧ f' = Bd.macs (D.take (i + 1)) ∧ ∀ (j : Nat) d, j < i + 1 → D[j]? = some d → d.par.length ≤ 3 ∧ Sx.dep 65 d.body ≤ 64) := fun p1 p2 W z' f' hW e1 e2 => by
        obtain ⟨_, g1, g2, g3⟩ := HI.out
        refine ⟨hW, by rw [Bd.sizes_take hd, ← g1, hsd, e1], by rw [Bd.macs_take hd, ← g2, hmac, e2], fun j d' hj hd' => ?_⟩
        rcases Nat.lt_or_ge j i with e | e
        · exact g3 j d' e hd'
        · obtain rfl : j = i := by omega
          rw [hd] at hd'
          injection hd' with hd'
          rw [← hd', hpn, hdd]
          exact ⟨p1, p2⟩
      unfold sval at HSd HDd
      rw [hxl, hxk, hxT, hxta, hxa, hln] at HSd HDd
      rw [hsd] at HSd
      rw [hdd] at HDd
      rw [hmac, hpn, hxl, hxk, hxT, hxta, hxa, hln] at HCC
      obtain ⟨_, _, k2, k3, k4, k5, k6, k7, k8, k9⟩ := HCC.out wr (Below.refl _ _)
      have hlt' : (i : Int) < (n : Int) := by omega
      have hi0 : (0 : Int) ≤ (i : Int) := by omega
      rw [hsd] at hs
      clear hd hT hc hcc hsd hdd hpn hmac hxl hxk hxT hxta hxa hln HI HC
      go_wp2_with fail
      refine HSd.out.mono ?_
      rintro e w4 ⟨⟨v, rfl, v1, v2, v3⟩, b4⟩
      obtain ⟨q0, q1, q2, q3, q4, q5, q6, q7, q8, q9⟩ := HCC.out w4 b4
      have HB4 := Lib.hid b4
      have HD4 := Lib.hid (HDd.out w4 b4)
      have HV : Hid (v ≤ 600 → v = sd) := fun e => by omega
      have hv9 : v ≤ 2000000000 := by
        by_cases e : v ≤ 5000
        · omega
        · omega
      clear HSd HDd b4 v1 v2 v3 hs k2 k3 k4 k5 k6 k7 k8 k9 hblt
      obtain ⟨zz, hzz⟩ : ∃ zz, z + v = zz := ⟨_, rfl⟩
      have hzi : (z : Int) + (v : Int) = (zz : Int) := by omega
      have hzw : IntKind.i64.wrap ((z : Int) + (v : Int)) = (zz : Int) := by rw [hzi]; exact IntWalk.i64_in _ (by omega)
      obtain ⟨ff, hff⟩ : ∃ ff, f + 1 = ff := ⟨_, rfl⟩
      have hfi : (f : Int) + 1 = (ff : Int) := by omega
      have hfw : IntKind.i64.wrap ((f : Int) + 1) = (ff : Int) := by rw [hfi]; exact IntWalk.i64_in _ (by omega)
      have hiw : IntKind.i64.wrap ((i : Int) + 1) = (i : Int) + 1 := IntWalk.i64_in _ (by have := HN.out; omega)
      have HZF := Lib.hid (And.intro hzz hff)
      have hB4w := (HCC.out w4 HB4.out).1
      have HB4w := Lib.hid hB4w
      clear hzz hff hB4w
      by_cases p1 : 3 < pn
      · have e1 : decide ((3 : Int) < (pn : Int)) = true := decide_eq_true (by omega)
        clear HD4 HNext p1 HV HZF HCC
        cases mac
        all_goals
          go_wp2
          go_ret
          exact ⟨⟨false, rfl, fun e => by cases e⟩, HB4w.out⟩
      have e1 : decide ((3 : Int) < (pn : Int)) = false := decide_eq_false (by omega)
      have HP1 : Hid (pn ≤ 3) := by show pn ≤ 3; omega
      have HB5 : Hid (∀ w5, Below w4.heap.size w4 w5 → Below w.heap.size w w5) := fun w5 b5 => HB4w.out.trans (b5.mono HB4w.out.size)
      clear p1 HCC HB4
      by_cases p2 : 64 < dd
      · have e2 : decide ((64 : Int) < (dd : Int)) = true := decide_eq_true (by omega)
        clear HNext p2 HV HZF
        cases mac
        all_goals
          go_wp2_with fail
          refine HD4.out.mono ?_
          rintro e w5 ⟨rfl, b5⟩
          have HE := Lib.hid (HB5.out w5 b5)
          clear HD4 b5
          go_wp2
          go_ret
          exact ⟨⟨false, rfl, fun e => by cases e⟩, HE.out⟩
      have e2 : decide ((64 : Int) < (dd : Int)) = false := decide_eq_false (by omega)
      have HP2 : Hid (dd ≤ 64) := by show dd ≤ 64; omega
      clear p2
      by_cases p3 : 600 < zz
      · have e3 : decide ((600 : Int) < (zz : Int)) = true := decide_eq_true (by omega)
        clear HNext p3 HV HZF
        cases mac
        all_goals
          go_wp2_with fail
          refine HD4.out.mono ?_
          rintro e w5 ⟨rfl, b5⟩
          have HE := Lib.hid (HB5.out w5 b5)
          clear HD4 b5
          go_wp2
          go_ret
          exact ⟨⟨false, rfl, fun e => by cases e⟩, HE.out⟩
      have e3 : decide ((600 : Int) < (zz : Int)) = false := decide_eq_false (by omega)
      have hzz6 : zz ≤ 600 := by omega
      have HVV : Hid (zz = z + sd) := by
        have h1 := HZF.out.1
        have h2 := HV.out (by omega)
        show zz = z + sd
        omega
      have hff9 : ff ≤ 9 := by have := HZF.out.2; omega
      have HFF : Hid (ff = f + 1) := HZF.out.2.symm
      clear p3 HV HZF
      cases mac with
      | false =>
        have e4 : decide ((8 : Int) < (f : Int)) = false := decide_eq_false (by omega)
        go_wp2_with fail
        refine HD4.out.mono ?_
        rintro e w5 ⟨rfl, b5⟩
        have HE := Lib.hid (HNext.out HP1.out HP2.out w5 zz f (HB5.out w5 b5) HVV.out (by simp))
        clear HD4 b5 HNext
        go_wp2
        go_roundw
        case rel => exact ⟨i + 1, zz, f, by omega, hzz6, hf, by go_num, rfl, rfl, HE.out⟩
        case measure => simp [intOf]; omega
      | true =>
        by_cases p4 : 8 < ff
        · have e4 : decide ((8 : Int) < (ff : Int)) = true := decide_eq_true (by omega)
          clear HNext p4
          go_wp2_with fail
          refine HD4.out.mono ?_
          rintro e w5 ⟨rfl, b5⟩
          have HE := Lib.hid (HB5.out w5 b5)
          clear HD4 b5
          go_wp2
          go_ret
          exact ⟨⟨false, rfl, fun e => by cases e⟩, HE.out⟩
        · have e4 : decide ((8 : Int) < (ff : Int)) = false := decide_eq_false (by omega)
          have hf8 : ff ≤ 8 := by omega
          go_wp2_with fail
          refine HD4.out.mono ?_
          rintro e w5 ⟨rfl, b5⟩
          have HE := Lib.hid (HNext.out HP1.out HP2.out w5 zz ff (HB5.out w5 b5) HVV.out (by have := HFF.out; simp; omega))
          clear HD4 b5 HNext
          go_wp2
          go_roundw
          case rel => exact ⟨i + 1, zz, ff, by omega, hzz6, hf8, by go_num, rfl, rfl, HE.out⟩
          case measure => simp [intOf]; omega
    · obtain rfl : i = n := by omega
      have hlt' : ¬ (i : Int) < (i : Int) := by omega
      have HE : Hid (Bd.Few D x ∧ Below w.heap.size w wr) := by
        obtain ⟨g0, g1, g2, g3⟩ := HI.out
        have ht : D.take i = D := List.take_of_length_le (by rw [HLen.out]; exact Nat.le_refl _)
        rw [ht] at g1 g2
        have hall : ∀ d ∈ D, d.par.length ≤ 3 ∧ Sx.dep 65 d.body ≤ 64 := fun d hd => by
          obtain ⟨j, hj, e⟩ := List.getElem_of_mem hd
          exact g3 j d (by rw [← HLen.out]; exact hj) (by rw [List.getElem?_eq_getElem hj, e])
        exact ⟨⟨by rw [HLen.out]; exact HN.out, by rw [HX.out.1]; exact HZ.out, by rw [HX.out.2]; exact HDx.out, fun d hd => (hall d hd).1, fun d hd => (hall d hd).2, by omega, by omega⟩, g0⟩
      clear HI HC HLen HX
      go_wp2
      go_ret
      exact ⟨⟨true, rfl, fun _ => HE.out.1⟩, HE.out.2⟩
end Go.Proofs.YtcgaeknikfaghaaGreatDoor
