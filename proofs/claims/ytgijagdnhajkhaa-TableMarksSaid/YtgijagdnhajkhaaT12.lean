/- The reference's stacks: All, Pop. -/
import Derived.Test.YtgijagdnhajkhaaT11
namespace Go.Proofs.Ytgijagdnhajkhaa
open Go.RowKit

/-- All under way: i lists stand behind one another -/
def Gathered (w W0 : World) (ls : List (List Int)) (n i : Nat) (v : Value) (wr : World) : Prop :=
  i ≤ n ∧ ∃ A c, v = .slice A (ls.take i).flatten.length c ∧ wr.ownsRow (w.heap.size + 1) 3 1 v (ls.take i).flatten.length (i64s (ls.take i).flatten) ∧ Below (w.heap.size + 1) W0 wr

theorem all_ref (w : World) (G : Nat → Prop) (s : Value) (ls : List (List Int)) (hd : ls.length ≤ 100000) (hf : ls.flatten.length ≤ 1000000) (h : RS w G s ls) :
    Calls Try.prog 29 #[s] w fun e w' => ∃ v, e = .returned v ∧ Made w ls.flatten v w' := by
  obtain ⟨A, n, c, vs, rfl, hr, he⟩ := h
  have hln : ls.length = n := by have := hr.len; have := he.1; omega
  obtain ⟨i0, ji, jz0, jz1, jz2⟩ := info_parts infoi
  have HBX : Hid (∀ W, Below (w.heap.size + 1) (w.alloc (.cells #[.slice A n c] 49)) W → w.heap.size + 1 ≤ W.heap.size ∧ W.cell? ⟨w.heap.size, 0, none⟩ = some (.slice A n c)) := fun W q => by
    have h0 := (q.block _ (by omega)).trans (Lies.new w 49 #[.slice A n c])
    have := q.size
    exact ⟨by simp at this; exact this, (Lies.cell (cs := #[.slice A n c]) h0 0).trans rfl⟩
  have hB : ∀ W, Below (w.heap.size + 1) (w.alloc (.cells #[.slice A n c] 49)) W → Below w.heap.size w W := fun W q => ((Below.refl _ _).alloc (Nat.le_refl _) _).trans (q.mono (by omega))
  have HX : Hid (∀ W i, i < n → Below (w.heap.size + 1) (w.alloc (.cells #[.slice A n c] 49)) W → ∃ b off Ai ni ci, A = some ⟨b, off, none⟩ ∧ b < W.heap.size ∧ W.cell? ⟨b, off + i, none⟩ = some (.slice Ai ni ci) ∧ ∃ L, Hid (L = i64s (ls.getD i [])) ∧ Rd W G Ai ni ci L ∧ (∀ u ∈ L, u.oneCell' = true) ∧ Hid ((ls.take (i + 1)).flatten.length = (ls.take i).flatten.length + ni) ∧ (ls.take i).flatten.length + ni ≤ 1000000 ∧ Hid (i64s (ls.take (i + 1)).flatten = i64s (ls.take i).flatten ++ L)) := fun W i hi q => by
    obtain ⟨b, off, e, _, hb, hc⟩ := hr.at_ (by omega)
    have hil : i < ls.length := by omega
    obtain ⟨u, h1, Ai, ni, ci, rfl, h2⟩ := he.2 i _ (List.getElem?_eq_getElem hil)
    have q' := hB W q
    have htk : ls.take (i + 1) = ls.take i ++ [ls[i]] := by rw [List.take_succ_eq_append_getElem hil]
    have hlen : ls[i].length = ni := by have := h2.len; rwa [List.length_map] at this
    have hgd : ls.getD i [] = ls[i] := by simp [List.getD_eq_getElem?_getD, List.getElem?_eq_getElem hil]
    have hle : (ls.take (i + 1)).flatten.length ≤ ls.flatten.length := by
      have e1 : ls.flatten = (ls.take (i + 1)).flatten ++ (ls.drop (i + 1)).flatten := by rw [← List.flatten_append, List.take_append_drop]
      rw [e1, List.length_append]
      omega
    have hl1 : (ls.take (i + 1)).flatten.length = (ls.take i).flatten.length + ni := by rw [htk, List.flatten_append, List.flatten_cons, List.flatten_nil, List.append_nil, List.length_append, hlen]
    refine ⟨b, off, Ai, ni, ci, e, Nat.lt_of_lt_of_le hb q'.size, (q'.cell (p := ⟨b, off + i, none⟩) hb).trans (hc i _ h1), i64s ls[i], ?_, h2.below q', i64s_one, hl1, by omega, ?_⟩
    · show _ = _
      rw [hgd]
    · show _ = _
      rw [htk, List.flatten_append, List.flatten_cons, List.flatten_nil, List.append_nil, i64s, List.map_append]
  have HFin : Hid (∀ v W, Gathered w (w.alloc (.cells #[.slice A n c] 49)) ls n n v W → Made w ls.flatten v W) := fun v W q => by
    obtain ⟨_, A', c', rfl, o, b⟩ := q
    rw [List.take_of_length_le (by omega)] at o ⊢
    exact ⟨(RI.of_own o).mono (fun b _ q => by omega), hB W b⟩
  have hnm : n ≤ 9223372036854775807 := by omega
  clear hr he hd hf hB hln
  go_enter Try.func29, Try.ntmps29
  go_wp2
  go_loopw [3, 4] (fun ov iv wr => ∃ i : Nat, iv = .int .i64 (i : Nat) ∧ Gathered w (w.alloc (.cells #[.slice A n c] 49)) ls n i ov wr) (fun _ iv _ => n - (intOf iv).toNat)
  case atStart => exact ⟨0, rfl, Nat.zero_le _, none, 0, rfl, World.ownsRow_nil _ _ _ _, Below.refl _ _⟩
  case round =>
    obtain ⟨i, rfl, hg⟩ := hrel
    have HG := Lib.hid hg
    obtain ⟨hi, A', c', rfl, ho, hb⟩ := hg
    obtain ⟨z0, y0⟩ := HBX.out wr hb
    by_cases hlt : i < n
    · obtain ⟨b, off, Ai, ni, ci, rfl, zb, yb, L, _, hL, hone, hn1, hn2, hL2⟩ := HX.out wr i hlt hb
      have HO := Lib.hid ho
      have HL := Lib.hid hL
      have H1 := Lib.hid hone
      obtain ⟨m, HM⟩ : ∃ m, Hid (m = (ls.take i).flatten.length) := ⟨_, rfl⟩
      rw [← HM.out] at HO hn2 hn1 ⊢
      obtain ⟨X, HX2⟩ : ∃ X, Hid (X = i64s (ls.take i).flatten) := ⟨_, rfl⟩
      rw [← HX2.out] at HO hL2
      have m1 : m + ni ≤ maxLen := by unfold maxLen; omega
      have m2 : (m + ni) * 8 ≤ 140737488355328 := by omega
      clear ho hL hone
      go_wp2_with (at_builtin; refine append_any _ rfl (.tmp 12) (.tmp 17) 44 rfl (w.heap.size + 1) 3 i0 (.int .i64 0) 8 Try.underlying44 ji jz0 jz1 jz2 rfl _ m X rfl HO.out G _ ni ci L rfl HL.out H1.out m1 m2 z0 ?_; intro A1 c1 w1 o1 g1 _; have O1 := Lib.hid o1; have b1 : Below (w.heap.size + 1) (w.alloc (.cells #[.slice (some ⟨b, off, none⟩) n c] 49)) w1 := hb.grown g1 z0 (fun k hk => (HO.out.lt k hk).1); clear o1; go_frame)
      go_roundw
      case rel => exact ⟨i + 1, by go_num, by omega, A1, c1, by rw [hn1.out], by rw [hn1.out, hL2.out]; exact O1.out, b1⟩
      case measure => simp [intOf]; omega
    · obtain rfl : i = n := by omega
      clear ho
      go_wp2
      go_ret
      exact ⟨_, rfl, HFin.out _ _ HG.out⟩

theorem pop_ref_none (w : World) (G : Nat → Prop) (s : Value) (d : List (List Int)) (hd : d.length ≤ 100000) (h : RS w G s (d ++ [[]])) :
    Calls Try.prog 22 #[s] w fun e w' => ∃ v, e = .returned (.tuple #[v, .int .i64 0, .bool false]) ∧ SGives w G (d ++ [[]]) v w' := by
  obtain ⟨A, n, c, vs, rfl, hr, he⟩ := h
  obtain ⟨vs', u, rfl, he', Al, nl, cl, rfl, hrl⟩ := he.split
  have hk : vs'.length = d.length := he'.1
  obtain ⟨k, hk0⟩ : ∃ k, k = d.length := ⟨_, rfl⟩
  obtain rfl : n = k + 1 := by have := hr.len; simp at this; omega
  obtain rfl : nl = 0 := by have := hrl.len; simpa using this.symm
  obtain ⟨b, off, rfl, _, hb, hc⟩ := hr.at_ (by omega)
  have hcl := hc k (.slice Al 0 cl) (by rw [List.getElem?_append_right (by omega)]; simp [hk, hk0])
  have hkm : k ≤ 100000 := by omega
  have HF : Hid (SGives w G (d ++ [[]]) (.agg #[.slice (some ⟨b, off, none⟩) (k + 1) c]) ((w.alloc (.cells #[.slice (some ⟨b, off, none⟩) (k + 1) c] 49)).alloc (.cells #[.slice (some ⟨b, off, none⟩) (k + 1) c] 49))) := by
    have ha : Below w.heap.size w ((w.alloc (.cells #[.slice (some ⟨b, off, none⟩) (k + 1) c] 49)).alloc (.cells #[.slice (some ⟨b, off, none⟩) (k + 1) c] 49)) := ((Below.refl _ _).alloc (Nat.le_refl _) _).alloc (by simp) _
    exact ⟨⟨_, k + 1, c, _, rfl, (hr.below ha).mono (fun _ _ q => .inl q), (he.turn (F := fun _ => False) (Turn.of_below ha) (fun _ _ _ e => e)).mono (fun _ _ q => .inl q)⟩, ha⟩
  clear hr he he' hrl hk hk0 hd hc
  go_enter Try.func22, Try.ntmps22
  go_wp2
  refine bodyPost_ret (v := .tuple #[.agg #[.slice (some ⟨b, off, none⟩) (k + 1) c], .int .i64 0, .bool false]) (by simp [results, Try.results22, go_sem]) rfl ⟨_, rfl, HF.out⟩

theorem Turn.at_ {F : Nat → Prop} {w w' : World} (h : Turn F w w') (b i : Nat) (hb : b < w.heap.size) (hF : ¬ F b) : w'.cell? ⟨b, i, none⟩ = w.cell? ⟨b, i, none⟩ := h.cell (p := ⟨b, i, none⟩) hb hF

/-- what Pop's region reads, and what it may change -/
abbrev Read3 (w : World) (b p g q : Nat) (x y z : Value) (W : World) : Prop :=
  W.cell? ⟨w.heap.size, 0, none⟩ = some x ∧ W.cell? ⟨b, p, none⟩ = some y ∧ W.cell? ⟨g, q, none⟩ = some z ∧ b < w.heap.size ∧ g < w.heap.size ∧ w.heap.size + 1 < W.heap.size
theorem Read3.alloc {w W : World} {b p g q : Nat} {x y z : Value} (h : Read3 w b p g q x y z W) (o : Obj) : Read3 w b p g q x y z (W.alloc o) := by
  obtain ⟨h1, h2, h3, h4, h5, h6⟩ := h
  have t := (Turn.refl (fun _ => False) W).alloc o
  exact ⟨(t.at_ w.heap.size 0 (by omega) id).trans h1, (t.at_ b p (by omega) id).trans h2, (t.at_ g q (by omega) id).trans h3, h4, h5, Nat.lt_of_lt_of_le h6 t.size⟩
theorem Read3.grown {w W W' : World} {b p g q : Nat} {x y z : Value} {row : Option Nat} (h : Read3 w b p g q x y z W) (hg : W.grownBy W' row) (hr : ∀ k, row = some k → w.heap.size + 2 ≤ k) : Read3 w b p g q x y z W' := by
  obtain ⟨h1, h2, h3, h4, h5, h6⟩ := h
  have t := Turn.of_grown (F := fun k => w.heap.size + 2 ≤ k) hg (fun k e _ => hr k e)
  exact ⟨(t.at_ w.heap.size 0 (by omega) (by omega)).trans h1, (t.at_ b p (by omega) (by omega)).trans h2, (t.at_ g q (by omega) (by omega)).trans h3, h4, h5, Nat.lt_of_lt_of_le h6 t.size⟩
theorem Read3.put {w W : World} {b p g q : Nat} {x y z : Value} (h : Read3 w b p g q x y z W) (u : Value) : Read3 w b p g q x y z (W.setCell ⟨w.heap.size + 1, 0, none⟩ u) := by
  obtain ⟨h1, h2, h3, h4, h5, h6⟩ := h
  have t : Turn (fun k => k = w.heap.size + 1) W (W.setCell ⟨w.heap.size + 1, 0, none⟩ u) := (Turn.refl (fun k => k = w.heap.size + 1) W).put (p := ⟨w.heap.size + 1, 0, none⟩) (.inl rfl) _
  exact ⟨(t.at_ w.heap.size 0 (by omega) (by omega)).trans h1, (t.at_ b p (by omega) (by omega)).trans h2, (t.at_ g q (by omega) (by omega)).trans h3, h4, h5, Nat.lt_of_lt_of_le h6 t.size⟩

set_option maxHeartbeats 1600000 in
theorem pop_ref_some (w : World) (G : Nat → Prop) (s : Value) (d : List (List Int)) (l : List Int) (x : Int) (hd : d.length ≤ 100000) (hl : l.length ≤ 100000) (h : RS w G s (d ++ [l ++ [x]])) :
    Calls Try.prog 22 #[s] w fun e w' => ∃ v, e = .returned (.tuple #[v, .int .i64 x, .bool true]) ∧ SGives w G (d ++ [l]) v w' := by
  obtain ⟨A, n, c, vs, rfl, hr, he⟩ := h
  obtain ⟨vs', u, rfl, he', Al, nl, cl, rfl, hrl⟩ := he.split
  have hk : vs'.length = d.length := he'.1
  obtain ⟨k, hk0⟩ : ∃ k, k = d.length := ⟨_, rfl⟩
  obtain rfl : n = k + 1 := by have := hr.len; simp at this; omega
  obtain ⟨m, hm0⟩ : ∃ m, m = l.length := ⟨_, rfl⟩
  obtain rfl : nl = m + 1 := by have := hrl.len; simp at this; omega
  obtain ⟨b, off, rfl, hbG, hb, hc⟩ := hr.at_ (by omega)
  have hcl := hc k (.slice Al (m + 1) cl) (by rw [List.getElem?_append_right (by omega)]; simp [hk, hk0])
  have hrt : Rd w G (some ⟨b, off, none⟩) k c vs' := by have := hr.take (k := k) (by omega); rwa [List.take_left' (by omega)] at this
  obtain ⟨g, og, rfl, _, hg, hcx0⟩ := hrl.at_ (by omega)
  have hcx := hcx0 m (.int .i64 x) (by rw [i64s, List.map_append, List.getElem?_append_right (by simp [hm0])]; simp [hm0])
  have hrl' : Rd w G (some ⟨g, og, none⟩) m cl (i64s l) := by
    have := hrl.take (k := m) (by omega)
    rwa [i64s, List.map_append, List.take_left' (by simp [hm0])] at this
  have hcc := hr.le
  have hcm := hr.cm
  have hcl1 := hrl.le
  have hcl2 := hrl.cm
  unfold maxLen at hcm hcl2
  have hkm : k ≤ 100000 := by omega
  have hmm : m ≤ 100000 := by omega
  have hmc : m ≤ cl := by omega
  obtain ⟨i1, hi, hz0, hz1, hz2⟩ := info_parts infoR
  have ha : Below w.heap.size w ((w.alloc (.cells #[.slice (some ⟨b, off, none⟩) (k + 1) c] 49)).alloc (.cells #[.slice none 0 0] 49)) := ((Below.refl _ _).alloc (Nat.le_refl _) _).alloc (by simp) _
  have HR1 := Lib.hid (hrt.below ha)
  have HCl : Hid (∀ W, Below w.heap.size w W → b < W.heap.size ∧ g < W.heap.size ∧ W.cell? ⟨b, off + k, none⟩ = some (.slice (some ⟨g, og, none⟩) (m + 1) cl) ∧ W.cell? ⟨g, og + m, none⟩ = some (.int .i64 x)) := fun W q =>
    ⟨Nat.lt_of_lt_of_le hb q.size, Nat.lt_of_lt_of_le hg q.size, (q.cell (p := ⟨b, off + k, none⟩) hb).trans hcl, (q.cell (p := ⟨g, og + m, none⟩) hg).trans hcx⟩
  have HO1 := Lib.hid he'.one
  have HEl := Lib.hid fun (W : World) (q : Below w.heap.size w W) => (he'.mono (G' := fun b => b < w.heap.size ∧ G b) (fun _ hb q => ⟨hb, q⟩)).turn (F := fun _ => False) (Turn.of_below q) (fun _ _ _ e => e)
  have HRl := Lib.hid fun (W : World) (q : Below w.heap.size w W) => (hrl'.mono (G' := fun b => b < w.heap.size ∧ G b) (fun _ hb q => ⟨hb, q⟩)).below q
  have m1 : 0 + k ≤ maxLen := by unfold maxLen; omega
  have m2 : (0 + k) * 24 ≤ 140737488355328 := by omega
  have m7 : k + 1 ≤ maxLen := by unfold maxLen; omega
  have m8 : (k + 1) * 24 ≤ 140737488355328 := by omega
  have hkc : k ≤ c := by omega
  have HF : Hid (∀ w4 A4 c4, Below (w.heap.size + 2) ((w.alloc (.cells #[.slice (some ⟨b, off, none⟩) (k + 1) c] 49)).alloc (.cells #[.slice none 0 0] 49)) w4 →
      w4.ownsRow (w.heap.size + 2) 44 1 (.slice A4 (k + 1) c4) (k + 1) (vs' ++ [.slice (some ⟨g, og, none⟩) m cl]) → SGives w G (d ++ [l]) (.agg #[.slice A4 (k + 1) c4]) (w4.setCell ⟨w.heap.size + 1, 0, none⟩ (.slice A4 (k + 1) c4))) := fun w4 A4 c4 b4 o4 =>
    room_end b4 (Rd.of_own o4) (((HEl.out w4 (boxes_below b4)).mono (fun _ _ q => .inl q)).snoc ⟨_, m, cl, rfl, (HRl.out w4 (boxes_below b4)).mono (fun _ _ q => .inl q)⟩)
  have HB0 := Lib.hid fun (W : World) (q : Below (w.heap.size + 2) ((w.alloc (.cells #[.slice (some ⟨b, off, none⟩) (k + 1) c] 49)).alloc (.cells #[.slice none 0 0] 49)) W) => boxes q
  have HBB := Lib.hid fun (W : World) (q : Below (w.heap.size + 2) ((w.alloc (.cells #[.slice (some ⟨b, off, none⟩) (k + 1) c] 49)).alloc (.cells #[.slice none 0 0] 49)) W) => boxes_below q
  have hs0 : ((w.alloc (.cells #[.slice (some ⟨b, off, none⟩) (k + 1) c] 49)).alloc (.cells #[.slice none 0 0] 49)).heap.size = w.heap.size + 2 := by simp
  have hle0 : w.heap.size + 2 ≤ ((w.alloc (.cells #[.slice (some ⟨b, off, none⟩) (k + 1) c] 49)).alloc (.cells #[.slice none 0 0] 49)).heap.size := Nat.le_of_eq hs0.symm
  have B0 : Below (w.heap.size + 2) ((w.alloc (.cells #[.slice (some ⟨b, off, none⟩) (k + 1) c] 49)).alloc (.cells #[.slice none 0 0] 49)) ((w.alloc (.cells #[.slice (some ⟨b, off, none⟩) (k + 1) c] 49)).alloc (.cells #[.slice none 0 0] 49)) := Below.refl _ _
  obtain ⟨x0, x1, x2, x3⟩ := HCl.out ((w.alloc (.cells #[.slice (some ⟨b, off, none⟩) (k + 1) c] 49)).alloc (.cells #[.slice none 0 0] 49)) ha
  have hm1 : ¬ ((m : Int) + 1 = 0) := by omega
  have hgw := hg
  have hbw := hb
  have hm2 : ((m : Int) + 1 == 0) = false := by simp; omega
  clear hr he he' hrl hrt hrl' hcl hc hb ha hk0 hk hbG hd hl hcc hs0 hcx hcx0 hg hm0
  go_enter Try.func22, Try.ntmps22
  go_wp2_with (at_builtin; refine append_any _ rfl (.const (.slice none 0 0)) (.tmp 24) 47 rfl (w.heap.size + 2) 44 i1 (.slice none 0 0) 24 Try.underlying47 hi hz0 hz1 hz2 rfl (.slice none 0 0) 0 [] rfl (World.ownsRow_nil _ _ _ _) G _ k c vs' rfl HR1.out HO1.out m1 m2 hle0 ?_; intro A1 c1 w1 o1 g1 _; simp only [Nat.zero_add, List.nil_append] at o1 ⊢; have O1 := Lib.hid o1; have b1 : Below (w.heap.size + 2) ((w.alloc (.cells #[.slice (some ⟨b, off, none⟩) (k + 1) c] 49)).alloc (.cells #[.slice none 0 0] 49)) w1 := B0.grown g1 hle0 (fun k hk => by cases hk); obtain ⟨s1, y1, r1, f1⟩ := HB0.out w1 b1; obtain ⟨t1, u1, v1, z1⟩ := HCl.out w1 (HBB.out w1 b1); clear o1)
  have p1 : w.heap.size < w1.heap.size := by omega
  have p2 : w.heap.size + 1 < w1.heap.size := by omega
  have hwp : IntKind.i64.wrap (m : Int) = m := IntWalk.i64_in _ (by omega)
  have hI1 : (k : Int) < (k : Int) + 1 := by omega
  have hI2 : (0 : Int) ≤ k := by omega
  have hI3 : (m : Int) < (m : Int) + 1 := by omega
  have hI4 : (0 : Int) ≤ m := by omega
  have O1d : Hid (w1.drew.ownsRow (w.heap.size + 2) 44 1 (.slice A1 k c1) k vs') := O1.out
  have b1d : Below (w.heap.size + 2) ((w.alloc (.cells #[.slice (some ⟨b, off, none⟩) (k + 1) c] 49)).alloc (.cells #[.slice none 0 0] 49)) w1.drew := b1.drew
  have HS : Hid (Read3 w b (off + k) g (og + m) (.slice (some ⟨b, off, none⟩) (k + 1) c) (.slice (some ⟨g, og, none⟩) (m + 1) cl) (.int .i64 x) w1.drew) := ⟨y1, v1, z1, hbw, hgw, p2⟩
  clear y1 v1 z1
  go_region_held3 (fun W' => W'.cell? ⟨w.heap.size, 0, none⟩ = some (.slice (some ⟨b, off, none⟩) (k + 1) c) ∧ W'.cell? ⟨b, off + k, none⟩ = some (.slice (some ⟨g, og, none⟩) (m + 1) cl) ∧ W'.cell? ⟨g, og + m, none⟩ = some (.int .i64 x) ∧ b < w.heap.size ∧ g < w.heap.size ∧ w.heap.size + 1 < W'.heap.size)
    (first | (with_reducible exact HS.out) | exact Read3.alloc (by assumption) _ | exact Read3.grown (by assumption) g4 (fun k hk => (O1.out.lt k hk).1) | exact Read3.put (by assumption) _)
    ((refine step_append_row rfl (.tmp 26) (.tmp 35) 47 (by rfl) (w.heap.size + 2) 44 i1 (.slice none 0 0) 24 Try.underlying47 hi hz0 hz1 hz2 rfl (.slice A1 k c1) k vs' (by rfl) (O1d.out.alloc _) ⟨w1.heap.size, 0, none⟩ 1 1 [.slice (some ⟨g, og, none⟩) m cl] (by rfl) rfl (cell_one_new _ _ _) (fun u hu => by simp at hu; subst hu; rfl) m7 m8 (Nat.le_trans s1 (by simp)) ?_; intro A4 c4 w4 o4 g4 _; have O4 := Lib.hid o4; have b4 : Below (w.heap.size + 2) ((w.alloc (.cells #[.slice (some ⟨b, off, none⟩) (k + 1) c] 49)).alloc (.cells #[.slice none 0 0] 49)) w4 := (b1d.alloc s1 _).grown g4 (Nat.le_trans s1 (by simp)) (fun k hk => (O1.out.lt k hk).1); obtain ⟨s4, y4, r4, f4⟩ := HB0.out w4 b4; clear o4))
  all_goals
    go_wp2_with fail
    refine bodyPost_ret (v := .tuple #[.agg #[.slice A4 (k + 1) c4], .int .i64 x, .bool true]) (by simp [results, Try.results22, go_sem, r4]) rfl ⟨_, rfl, HF.out w4 A4 c4 b4 O4.out⟩
end Go.Proofs.Ytgijagdnhajkhaa
