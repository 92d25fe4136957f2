/- The reference of scripts: one, whatever begins. -/
import Derived.Test.YtpjdfogieiokkaaDoorR7
namespace Go.Proofs.YtpjdfogieiokkaaDoor
open Go.RowKit

theorem Lx.quo_text (q : UInt8) : ∀ l : List UInt8, (Lx.quo q l).1.length ≤ l.length
  | [] => Nat.le_refl _
  | [c] => by
    unfold Lx.quo
    split
    · split <;> simp
    · simp
  | c :: d :: t => by
    have h1 := Lx.quo_text q t
    have h2 := Lx.quo_text q (d :: t)
    unfold Lx.quo
    split
    · split
      · split
        · simp only [List.length_cons]; omega
        · simp
      · simp only [List.length_cons] at h2 ⊢; omega
    · simp
set_option maxRecDepth 100000 in
set_option maxHeartbeats 1600000 in
theorem rone_quotes (s : ByteArray) (a : Nat) (w : World) (hs : s.size ≤ 1000000) (ha : a < s.size) (hq : s[a].toNat = 34 ∨ s[a].toNat = 124) :
    Calls Tryd.prog 38 #[.string s, .int .i64 (a : Nat)] w (OSaid s a (Lx.one (s.data.toList.drop a)) w) := by
  obtain ⟨k, h1, h2, h3, HN⟩ := names_k s (a + 1) hs (by omega)
  have hsl := slice_both s a k h2 (by omega)
  have hwi : IntKind.i64.wrap ((a : Int) + 1) = ((a + 1 : Nat) : Int) := IntWalk.i64_in _ (by omega)
  replace HN := Lib.hid HN
  have HQ := Lib.hid fun W => rquoted s a W hs ha hq
  have hD := drop_at s ha
  obtain ⟨X, hX⟩ : ∃ X, Lx.quo s[a] (s.data.toList.drop (a + 1)) = X := ⟨_, rfl⟩
  rw [hX] at HQ
  have hO : s[a].toNat = 124 ∨ s[a].toNat = 34 := hq.symm
  have b1 : ((s[a].toNat : Int) == 40) = false := beq_eq_false_iff_ne.2 (by omega)
  have b2 : ((s[a].toNat : Int) == 41) = false := beq_eq_false_iff_ne.2 (by omega)
  have n40 : s[a].toNat ≠ 40 := by omega
  have n41 : s[a].toNat ≠ 41 := by omega
  have HR := Lib.hid fun (w4 : World) (b4 : Below ((w.alloc (.cells ZT 31)).alloc (.cells ZT 31)).heap.size ((w.alloc (.cells ZT 31)).alloc (.cells ZT 31)) w4) =>
    tok_room (R := w.heap.size) b4 ((Below.heap_alloc _ _ _ (by simp)).trans (Lies.new w 31 ZT))
  have HR1 := Lib.hid fun (w4 : World) (b4 : Below ((w.alloc (.cells ZT 31)).alloc (.cells ZT 31)).heap.size ((w.alloc (.cells ZT 31)).alloc (.cells ZT 31)) w4) =>
    tok_room (R := w.heap.size + 1) b4 (by have := Lies.new (w.alloc (.cells ZT 31)) 31 ZT; simpa using this)
  have HB := Lib.hid fun (w4 : World) (b4 : Below ((w.alloc (.cells ZT 31)).alloc (.cells ZT 31)).heap.size ((w.alloc (.cells ZT 31)).alloc (.cells ZT 31)) w4) (x y z : Value) =>
    tok_below ((below_alloc2 w _ _).trans (b4.mono (by simp; omega))) (Nat.le_refl w.heap.size) x y z
  have hbq : ((s[a].toNat : Int) == 124) = true ∨ ((s[a].toNat : Int) == 124) = false ∧ ((s[a].toNat : Int) == 34) = true := by
    by_cases h : s[a].toNat = 124
    · exact .inl (beq_iff_eq.2 (by omega))
    · exact .inr ⟨beq_eq_false_iff_ne.2 (by omega), beq_iff_eq.2 (by omega)⟩
  rcases (hX ▸ Lx.quo_err s[a] (s.data.toList.drop (a + 1)) : X.2.1 = 0 ∨ X.2.1 = 50 ∨ X.2.1 = 51) with he | he | he
  · by_cases h34 : s[a].toNat = 34
    · have hY : Lx.one (s.data.toList.drop a) = (6, X.1, 0, X.2.2) := by
        rw [hD]
        simp only [Lx.one, hX, he, h34]
        simp
      rw [hY]
      have b3 : ((s[a].toNat : Int) == 124) = false := beq_eq_false_iff_ne.2 (by omega)
      have b4 : ((s[a].toNat : Int) == 34) = true := beq_iff_eq.2 (by omega)
      have HE := Lib.hid he
      clear hY hX he hq hO hD h3 h34 n40 n41 hbq
      go_enter Tryd.func38, Tryd.ntmps38
      go_wp2_with (first
        | (go_at_call 58; refine (HN.out _).mono ?_; rintro e w2 ⟨rfl, rfl⟩)
        | (go_at_call 59; refine (HQ.out _).mono ?_; rintro e w2 q; obtain ⟨j, rfl, hj1, hj2, hj3⟩ := q.ok HE.out; obtain ⟨z0, y0, y1, y2, f0, f1, f2, hl⟩ := HR.out _ q.below; have HBB := Lib.hid (HB.out _ q.below); have HJ := Lib.hid hj3; clear q hj3))
      obtain ⟨_, e0, e1, e2⟩ := tok_cells hl.out (.int .i64 6) (.string ⟨X.1.toArray⟩) (.int .i64 (a : Nat))
      exact bodyPost_ret (v := .tuple #[.agg #[.int .i64 6, .string ⟨X.1.toArray⟩, .int .i64 (a : Nat)], .int .i64 (j : Nat), .int .i64 0, .int .i64 0]) (by simp [results, Tryd.results38, go_sem, e0, e1, e2]) rfl ⟨HBB.out _ _ _, fun _ => ⟨_, j, rfl, rfl, hj1, hj2, HJ.out⟩, fun h => absurd rfl h⟩
    · have h124 : s[a].toNat = 124 := by omega
      have b3 : ((s[a].toNat : Int) == 124) = true := beq_iff_eq.2 (by omega)
      have b4 : ((s[a].toNat : Int) == 34) = false := beq_eq_false_iff_ne.2 (by omega)
      obtain ⟨z, hz⟩ : ∃ z, (X.1.any fun d => decide (d.toNat = 92)) = z := ⟨_, rfl⟩
      have hY : Lx.one (s.data.toList.drop a) = if z then (0, [], 8, s.data.toList.drop a) else (3, X.1, 0, X.2.2) := by
        rw [hD]
        simp only [Lx.one, hX, he, h124, hz]
        simp
      obtain ⟨Y, hYd⟩ : ∃ Y, Y = if z then ((0 : Int), ([] : List UInt8), (8 : Int), s.data.toList.drop a) else (3, X.1, 0, X.2.2) := ⟨_, rfl⟩
      rw [hY, ← hYd]
      have hxl : X.1.length ≤ 1000000 := by
        have h5 := Lx.quo_text s[a] (s.data.toList.drop (a + 1))
        rw [hX, List.length_drop, len_bytes] at h5
        omega
      have HY := Lib.hid hYd
      have HE := Lib.hid he
      have HZ := Lib.hid hz
      clear hY hX he hq hO hD h3 h34 n40 n41 hbq hz h124 hYd
      go_enter Tryd.func38, Tryd.ntmps38
      go_wp2_with (first
        | (go_at_call 58; refine (HN.out _).mono ?_; rintro e w2 ⟨rfl, rfl⟩)
        | (go_at_call 59; refine (HQ.out _).mono ?_; rintro e w2 q; obtain ⟨j, rfl, hj1, hj2, hj3⟩ := q.ok HE.out; obtain ⟨z0, y0, y1, y2, f0, f1, f2, hl⟩ := HR.out _ q.below; obtain ⟨z0', y0', y1', y2', _, _, _, _⟩ := HR1.out _ q.below; have HBB := Lib.hid (HB.out _ q.below); have HJ := Lib.hid hj3; clear q hj3))
      obtain ⟨V, hV⟩ : ∃ V : ByteArray, V = ⟨X.1.toArray⟩ := ⟨_, rfl⟩
      rw [← hV]
      have HVl : Hid (V.data.toList = X.1) := by show _ = _; rw [hV]
      have hVs : V.size ≤ 1000000 := by rw [← len_bytes, HVl.out]; exact hxl
      have HVr := Lib.hid hV
      rw [← HVl.out] at HZ
      clear hV hxl
      go_loopw [16] (fun iv wr => ∃ i : Nat, i ≤ V.size ∧ iv = .int .i64 (i : Nat) ∧ wr = w2 ∧ Hid ((V.data.toList.drop i).any (fun d => decide (d.toNat = 92)) = z)) (fun iv _ => V.size - (intOf iv).toNat)
      case atStart => exact ⟨0, by omega, rfl, rfl, HZ⟩
      case round =>
        clear HZ
        obtain ⟨i, hi, rfl, rfl, HI⟩ := hrel
        by_cases hlt : i < V.size
        · have HK := HI.out
          rw [drop_at V hlt, List.any_cons] at HK
          have hlt' : (i : Int) < (V.size : Int) := by omega
          clear HI
          by_cases h92 : V[i].toNat = 92
          · have c1 : ((V[i].toNat : Int) == 92) = true := beq_iff_eq.2 (by omega)
            obtain rfl : z = true := by rw [← HK, decide_eq_true h92]; rfl
            obtain rfl := HY.out
            clear HK h92
            go_wp2
            obtain ⟨_, e0, e1, e2⟩ := tok_cells hl.out (.int .i64 0) (.string ⟨#[]⟩) (.int .i64 0)
            exact bodyPost_ret (v := .tuple #[.agg #[.int .i64 0, .string ⟨#[]⟩, .int .i64 0], .int .i64 0, .int .i64 8, .int .i64 (a : Nat)]) (by simp [results, Tryd.results38, go_sem, e0, e1, e2]) rfl ⟨HBB.out _ _ _, fun h => absurd h (by simp), fun _ => ⟨a, rfl, by omega, ha, rfl⟩⟩
          · have c1 : ((V[i].toNat : Int) == 92) = false := beq_eq_false_iff_ne.2 (by omega)
            have HE2 : Hid ((V.data.toList.drop (i + 1)).any (fun d => decide (d.toNat = 92)) = z) := Lib.hid (by rw [decide_eq_false h92] at HK; simpa using HK)
            clear HK h92
            go_wp2
            go_roundw
            case rel => exact ⟨i + 1, by omega, by go_num, by trivial, HE2⟩
            case measure => simp [intOf]; omega
        · obtain rfl : i = V.size := by omega
          obtain rfl : z = false := by have := HI.out; rw [drop_end] at this; exact this.symm
          obtain rfl := HY.out
          clear HI
          go_wp2
          obtain ⟨_, e0, e1, e2⟩ := tok_cells hl.out (.int .i64 3) (.string V) (.int .i64 (a : Nat))
          exact bodyPost_ret (v := .tuple #[.agg #[.int .i64 3, .string V, .int .i64 (a : Nat)], .int .i64 (j : Nat), .int .i64 0, .int .i64 0]) (by simp [results, Tryd.results38, go_sem, e0, e1, e2]) rfl ⟨HBB.out _ _ _, fun _ => ⟨V, j, rfl, HVl.out, hj1, hj2, HJ.out⟩, fun h => absurd rfl h⟩
  · have hY : Lx.one (s.data.toList.drop a) = (0, [], 50, X.2.2) := by
      rw [hD]
      simp only [Lx.one, n40, n41, hO, hX, he]
      simp
    rw [hY]
    have HE := Lib.hid he
    clear hY hX he hq hO hD h3 n40 n41
    rcases hbq with b3 | ⟨b3, b4⟩
    all_goals
      go_enter Tryd.func38, Tryd.ntmps38
      go_wp2_with (first
        | (go_at_call 58; refine (HN.out _).mono ?_; rintro e w2 ⟨rfl, rfl⟩)
        | (go_at_call 59; refine (HQ.out _).mono ?_; rintro e w2 q; obtain ⟨j, rfl, hj1, hj2, hj3⟩ := q.bad HE.out; obtain ⟨z0, y0, y1, y2, f0, f1, f2, hl⟩ := HR.out _ q.below; obtain ⟨z0', y0', y1', y2', _, _, _, _⟩ := HR1.out _ q.below; have HBB := Lib.hid (HB.out _ q.below); have HJ := Lib.hid hj3; clear q hj3))
      obtain ⟨_, e0, e1, e2⟩ := tok_cells hl.out (.int .i64 0) (.string ⟨#[]⟩) (.int .i64 0)
      exact bodyPost_ret (v := .tuple #[.agg #[.int .i64 0, .string ⟨#[]⟩, .int .i64 0], .int .i64 0, .int .i64 50, .int .i64 (j : Nat)]) (by simp [results, Tryd.results38, go_sem, e0, e1, e2]) rfl ⟨HBB.out _ _ _, fun h => absurd h (by simp), fun _ => ⟨j, rfl, by omega, hj2, HJ.out⟩⟩
  · have hY : Lx.one (s.data.toList.drop a) = (0, [], 51, s.data.toList.drop a) := by
      rw [hD]
      simp only [Lx.one, n40, n41, hO, hX, he]
      simp
    rw [hY]
    have HE := Lib.hid he
    clear hY hX he hq hO hD h3 n40 n41
    rcases hbq with b3 | ⟨b3, b4⟩
    all_goals
      go_enter Tryd.func38, Tryd.ntmps38
      go_wp2_with (first
        | (go_at_call 58; refine (HN.out _).mono ?_; rintro e w2 ⟨rfl, rfl⟩)
        | (go_at_call 59; refine (HQ.out _).mono ?_; rintro e w2 q; obtain rfl := q.open_ HE.out; obtain ⟨z0, y0, y1, y2, f0, f1, f2, hl⟩ := HR.out _ q.below; obtain ⟨z0', y0', y1', y2', _, _, _, _⟩ := HR1.out _ q.below; have HBB := Lib.hid (HB.out _ q.below); clear q))
      obtain ⟨_, e0, e1, e2⟩ := tok_cells hl.out (.int .i64 0) (.string ⟨#[]⟩) (.int .i64 0)
      exact bodyPost_ret (v := .tuple #[.agg #[.int .i64 0, .string ⟨#[]⟩, .int .i64 0], .int .i64 0, .int .i64 51, .int .i64 (a : Nat)]) (by simp [results, Tryd.results38, go_sem, e0, e1, e2]) rfl ⟨HBB.out _ _ _, fun h => absurd h (by simp), fun _ => ⟨a, rfl, by omega, ha, rfl⟩⟩

/-- one, whatever begins there -/
theorem rone (s : ByteArray) (a : Nat) (w : World) (hs : s.size ≤ 1000000) (ha : a < s.size) :
    Calls Tryd.prog 38 #[.string s, .int .i64 (a : Nat)] w (OSaid s a (Lx.one (s.data.toList.drop a)) w) := by
  by_cases h1 : s[a].toNat = 40 ∨ s[a].toNat = 41
  · exact rone_open s a w hs ha h1
  by_cases h2 : s[a].toNat = 34 ∨ s[a].toNat = 124
  · exact rone_quotes s a w hs ha h2
  exact rone_names s a w hs ha (by omega) (by omega) (by omega) (by omega)
end Go.Proofs.YtpjdfogieiokkaaDoor
