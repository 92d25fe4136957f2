/- nat: Text's walk. -/
import Derived.Test.YtefkkmnhnldcbaaB2
namespace Go.Proofs.Ytefkkmnhnldcbaa
open Go.RowKit

set_option maxHeartbeats 2000000 in
theorem text_any (A : Option Addr) (n c : Nat) (l : List Nat) (w : World) (h : Lims w A n l) (hn : n ≤ c) (hc : c ≤ maxLen) (hs : n ≤ 1000000) :
    Calls Try.prog 34 #[.slice A n c] w (GivesText w (M.val l)) := by
  have hN : Hid (M.val l < M.BB ^ n) := by have := M.val_lt h.2.1; rw [h.1] at this; exact this
  have NA := Lib.hid (norm_row A n c l w h hn hc hs)
  generalize M.val l = N at *
  go_enter Try.func34, Try.ntmps34
  go_wp2_with fail
  refine NA.out.mono ?_
  rintro e w1 ⟨L, f1, t1, v1, s1, b1, h1⟩
  rcases h1 with ⟨rfl, rfl⟩ | ⟨rfl, hrow⟩
  · have hN0 : Hid (N = 0) := v1.symm
    clear v1
    go_wp2_with fail
    go_ret
    exact ⟨[48], rfl, .inl ⟨hN0.out, rfl⟩, b1⟩
  · by_cases hL : L = []
    · subst hL
      have hN0 : Hid (N = 0) := v1.symm
      clear v1
      have hz : ((([] : List Nat).length : Int) == 0) = true := rfl
      go_wp2_with fail
      go_ret
      exact ⟨[48], rfl, .inl ⟨hN0.out, rfl⟩, b1⟩
    have hpos : 0 < L.length := List.length_pos_iff.2 hL
    have hN1 : Hid (0 < N) := by rw [← v1]; exact t1.pos hL
    obtain ⟨n0, hn0⟩ : ∃ n0, Hid (L.length = n0) := ⟨_, rfl⟩
    rw [hn0.out] at hpos s1 ⊢
    have hz : ((n0 : Int) == 0) = false := by simp; omega
    obtain ⟨g, hg⟩ : ∃ g, Hid (w.heap.size = g) := ⟨_, rfl⟩
    rw [hg.out] at hrow ⊢
    obtain ⟨B, hB⟩ : ∃ B, Hid (w1.heap.size = B) := ⟨_, rfl⟩
    have hgB : g < B := by rw [← hB.out]; exact hrow.lt
    have V1 := Lib.hid v1
    have T1 := Lib.hid t1
    have N0 := Lib.hid (show ¬ L = [] from hL)
    clear v1 t1 hL
    go_wp2_with fail
    go_loopw [3, 4] (fun lv dv wr => ∃ (L' : List Nat) (n' c' : Nat) (A' : Option Addr) (ds : List Nat), lv = .slice A' n' c' ∧ n' ≤ n0 ∧ n' ≤ c' ∧ c' ≤ 1000000 ∧ (n' = 0 ∨ A' = some ⟨g, 0, none⟩) ∧
        Row wr g L' ∧ M.Fit L' ∧ L'.length = n0 ∧ M.Top (L'.take n') ∧ T.Texting ds (M.val (L'.take n')) N ∧ Own8 wr B dv (T.asc ds) ∧ Below g w wr ∧ B ≤ wr.heap.size ∧ ds.length ≤ 10 * n + 9)
      (fun _ dv _ => 10 * n + 10 - lenOf dv)
    case atStart => exact ⟨L, n0, n0, _, [], rfl, Nat.le_refl _, Nat.le_refl _, by omega, .inr rfl, hrow, f1, hn0.out, by rw [List.take_of_length_le (by have := hn0.out; omega)]; exact T1.out, by rw [List.take_of_length_le (by have := hn0.out; omega), V1.out]; exact T.Texting.start _, Own8.nil_ _ _, by have := hg.out; subst this; exact b1, by have := hB.out; omega, by simp⟩
    case round =>
      obtain ⟨L', n', c', A', ds, rfl, hn', hc', hc6, hA, hrow', hf, hl, htop, htx, hown, hbel, hBs, hdn⟩ := hrel
      have hOL := hown.length
      rw [T.asc_length] at hOL
      obtain ⟨Ad, cd, rfl⟩ := hOL
      obtain ⟨V, HV⟩ : ∃ V, Hid (M.val (L'.take n') = V) := ⟨_, rfl⟩
      rw [HV.out] at htx
      by_cases hn'0 : n' = 0
      · have hV0 : V = 0 := by rw [← HV.out, hn'0]; rfl
        rw [hV0] at htx
        clear hV0
        have hT0 : Hid (T.val ds = N) := by have := htx.sum; rw [Nat.mul_zero, Nat.add_zero] at this; exact this
        have hdl : 0 < ds.length := by
          rcases Nat.eq_zero_or_pos ds.length with e | e
          · have := List.eq_nil_of_length_eq_zero e
            have h1 := hT0.out
            have h2 := hN1.out
            rw [this] at h1
            simp [T.val] at h1
            omega
          · exact e
        obtain ⟨g', cg, hv', hBg, hcg, hcm, hby⟩ := hown.form (by rw [T.asc_length]; exact hdl)
        injection hv' with hv1 hv2 hv3
        subst hv1 hv3
        clear hv2
        rw [T.asc_length] at hcg
        go_wp2_with fail
        go_loop [6] (fun t => ∃ k : Nat, k ≤ ds.length ∧ t = .int .i64 k ∧ Hid (∀ q, k ≤ q → ds.getD q 0 = 0)) (fun t => (intOf t).toNat)
        case atStart => exact ⟨ds.length, Nat.le_refl _, rfl, fun q hq => T.getD_ge hq⟩
        case round =>
          obtain ⟨k, hk, rfl, HZ⟩ := hrel
          have hk0 : 0 < k := by
            rcases Nat.eq_zero_or_pos k with e | e
            · subst e
              have h1 := T.val_zeros ds 0 HZ.out
              have h2 := hN1.out
              rw [hT0.out] at h1
              simp [T.val] at h1
              omega
            · exact e
          obtain ⟨d, Hd⟩ : ∃ d, Hid (ds.getD (k - 1) 0 = d) := ⟨_, rfl⟩
          have hcell := hby.cell (j := k - 1) (by rw [T.asc_length]; omega)
          rw [T.asc_get (by omega), Hd.out] at hcell
          have hd9 : d ≤ 9 := by have := htx.fit (k - 1); rw [Hd.out, T.BB_eq] at this; omega
          obtain ⟨v, Hv⟩ : ∃ v, Hid (48 + d = v) := ⟨_, rfl⟩
          rw [Hv.out] at hcell
          by_cases hd0 : d = 0
          · have hvb : ((v : Int) == 48) = true := by rw [← Hv.out]; simp; omega
            go_wp2_with fail
            go_round
            case rel => exact ⟨k - 1, by omega, by go_num, fun q hq => by
              by_cases e : q = k - 1
              · subst e; rw [Hd.out, hd0]
              · exact HZ.out q (by omega)⟩
            case measure => simp [intOf]; omega
          · have hvb : ((v : Int) == 48) = false := by rw [← Hv.out]; simp; omega
            have htxt := htx.txt hk0 hk (by rw [Hd.out]; exact hd0) HZ.out
            rw [T.asc_take] at htxt
            have HTX := Lib.hid htxt
            have hbt := hby.take k
            have hbl : ((T.asc ds).take k).length = k := by rw [List.length_take, T.asc_length]; omega
            have HBL := Lib.hid hbl
            clear hd0 htxt hbl
            go_wp2_with fail
            refine (reverse_any g' k cd _ wr hbt HBL.out (by omega)).mono ?_
            rintro e w5 ⟨rfl, hb5, hg5⟩
            have hcv := conv8 (w := w5) (n := k) (c := cd) hb5 (by rw [List.length_reverse]; exact HBL.out.symm)
            have hb6 : Below w.heap.size w w5 := by
              rw [hg.out]
              exact hbel.grown hg5 (by omega) (by intro q hq; injection hq with hq; omega)
            go_wp2_with fail
            go_ret
            exact ⟨_, rfl, HTX.out, hb6⟩
      · have hA' : A' = some ⟨g, 0, none⟩ := by rcases hA with e | e; exact absurd e hn'0; exact e
        subst hA'
        have hlen := L'.length
        have hV : 0 < V := by rw [← HV.out]; exact htop.pos (by intro e; have := congrArg List.length e; rw [List.length_take, List.length_nil] at this; omega)
        have hsh : ds.length ≤ 10 * n := htx.short hV hN.out
        have hnp : 0 < n' := by omega
        obtain ⟨C, HC⟩ : ∃ C, Hid (V % 1000000000 = C) := ⟨_, rfl⟩
        have hC : C ≤ 999999999 := by have := HC.out; have := Nat.mod_lt V (show 1000000000 > 0 from by omega); omega
        have HD := Lib.hid (divideBy_any g n' c' 1000000000 L' wr hrow' hf (by omega) (by omega) (by omega) (by omega))
        have HX : Hid (∀ e w', Divided wr g n' 1000000000 L' e w' → ∃ L2 : List Nat, e = .returned (.int .u32 (C : Nat)) ∧ Row w' g L2 ∧ wr.grownBy w' (some g) ∧ L2.length = n0 ∧ M.Fit L2 ∧ M.val (L2.take n') = V / 1000000000) := by
          rintro e w' ⟨L2, q1, q2, q3, q4, q5, q6, _⟩
          rw [HV.out, HC.out] at q1
          rw [HV.out] at q6
          exact ⟨L2, q1, q2, q3, by omega, q5, q6⟩
        clear hn'0 hlen hV
        go_wp2_with fail
        refine HD.out.mono ?_
        intro e w2 hDv
        obtain ⟨L2, rfl, r2, g2, l2, f2, v2⟩ := HX.out e w2 hDv
        clear hDv HX HD
        have V2 := Lib.hid v2
        have L2l := Lib.hid l2
        clear v2 l2
        go_wp2_with fail
        refine (trim_at (some ⟨g, 0, none⟩) n' c' (L2.take n') w2 ((r2.lims f2 L2l.out).take hn') hc' (by unfold maxLen; omega)).mono ?_
        rintro e w3 ⟨⟨A3, n3, c3, rfl, k1, k2, k3, k4, k5, k6, rfl⟩, hat⟩
        have hn3 : n3 ≤ n' := by rw [List.length_take] at k4; omega
        have hA3 : n3 = 0 ∨ A3 = some ⟨g, 0, none⟩ := by
          rcases hat with e | ⟨n4, c4, _, e⟩
          · injection e with e; injection e with _ e _; exact .inl e
          · injection e with e; injection e with e _ _; exact .inr e
        have K3 : Hid (M.val (L2.take n3) = V / 1000000000) := by
          rw [List.take_take, Nat.min_eq_left hn3] at k3
          exact k3.trans V2.out
        have K2 : Hid (M.Top (L2.take n3)) := by
          rw [List.take_take, Nat.min_eq_left hn3] at k2
          exact k2
        clear hat k1 k2 k3 k4
        have hown2 := hown.kept g2 hgB
        have hbel2 : Below g w w2 := hbel.grown g2 (by omega) (by intro k hk; injection hk with hk; omega)
        have hBs2 : B ≤ w2.heap.size := Nat.le_trans hBs g2.size
        clear hown hbel g2 hrow' htop hf
        go_wp2_with fail
        go_loopw [4, 5, 19] (fun dv cv iv wi => ∃ (j cc : Nat) (es : List Nat), iv = .int .i64 j ∧ cv = .int .u32 cc ∧ j ≤ 9 ∧ cc ≤ 999999999 ∧ T.Chunk ds es C j cc ∧ Own8 wi B dv (T.asc es) ∧ Row wi g L2 ∧ Below g w wi ∧ B ≤ wi.heap.size)
          (fun _ _ iv _ => 9 - (intOf iv).toNat)
        case atStart => exact ⟨0, C, ds, rfl, rfl, by omega, hC, T.Chunk.start htx.fit (by omega), hown2, r2, hbel2, hBs2⟩
        case round =>
          obtain ⟨j, cc, es, rfl, rfl, hj, hcc, hch, hown3, hr3, hbel3, hBs3⟩ := hrel
          have hesl := hch.len
          have hesl2 : es.length ≤ 10 * n + 9 := by omega
          have ESL := Lib.hid hesl
          clear hesl
          by_cases hj9 : j < 9
          · have hd : ∀ W : World, (W.alloc (.cells #[.int .u8 (48 + (cc : Int) % 10)] 5)).cell? ⟨W.heap.size, 0, none⟩ = some (.int .u8 ((48 + cc % 10 : Nat) : Int)) := fun W => by
              rw [World.cell?_alloc_at _ _ _ _ rfl]
              simp
            have HDD := Lib.hid hd
            clear hd
            go_wp2_with (refine append8 rfl (.tmp 21) (.tmp 26) rfl rfl (hown3.alloc _) rfl (HDD.out _) (n := 10 * n + 9) (by rw [T.asc_length]; exact hesl2) (by omega) (by simp; omega) ?_; intro v4 w4 hown4 hg4)
            have hch' := hch.step hj9
            have hr4 := (hr3.alloc (.cells #[.int .u8 (48 + (cc : Int) % 10)] 5)).grown hg4 (hown3.own_ne hgB)
            have hbel4 := (hbel3.alloc (by omega) (.cells #[.int .u8 (48 + (cc : Int) % 10)] 5)).grown hg4 (by simp; omega) (hown3.own_ge (by omega))
            have hBs4 : B ≤ w4.heap.size := Nat.le_trans (by simp; omega) hg4.size
            rw [← T.asc_snoc] at hown4
            go_roundw
            case rel => exact ⟨j + 1, cc / 10, _, by go_num, by go_num, by omega, by omega, hch', hown4, hr4, hbel4, hBs4⟩
            case measure => simp [intOf]; omega
          · obtain rfl : j = 9 := by omega
            have htx' := htx.step (by rw [HC.out]; exact hch)
            rw [← K3.out] at htx'
            have hl3 := hown3.length
            rw [T.asc_length] at hl3
            obtain ⟨Ae, ce, rfl⟩ := hl3
            go_wp2_with fail
            go_roundw
            case rel => exact ⟨L2, n3, c3, A3, es, rfl, by omega, k5, by omega, hA3, hr3, f2, L2l.out, K2.out, htx', hown3, hbel3, hBs3, hesl2⟩
            case measure => simp only [lenOf]; have := ESL.out; simp; omega

end Go.Proofs.Ytefkkmnhnldcbaa
