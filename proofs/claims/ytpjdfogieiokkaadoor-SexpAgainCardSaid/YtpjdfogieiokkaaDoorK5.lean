/- The code's pieces: other. -/
import Derived.Test.YtpjdfogieiokkaaDoorK4
import Derived.Test.YtpjdfogieiokkaaDoorY6
import Derived.Test.YtpjdfogieiokkaaDoorShelf
import Derived.BigQuiet
namespace Go.Proofs.YtpjdfogieiokkaaDoor
open Go.RowKit Go.Shelf

set_option maxHeartbeats 1600000 in
theorem kother (s : ByteArray) (w : World) (hs : s.size ≤ 1000000) (h0 : 0 < s.size) (h35 : s[0].toNat = 35) :
    Calls Tryd.prog 52 #[.string s] w (PSaid s (Lx.one s.data.toList) w) := by
  obtain ⟨k, hk, hk1, hk2, HS⟩ := span_end _ enter_named _ knamed s 1 (by unfold maxLen; omega) h0
  replace HS := Lib.hid HS
  have hsl := slice_from s 1 (by omega)
  have HR := Lib.hid fun (w4 : World) (q : Nat) (b4 : Below ((w.alloc (.cells ZP 64)).drewN q).heap.size ((w.alloc (.cells ZP 64)).drewN q) w4) =>
    pc_store w (w4 := w4) ((Turn.none_ ((Turn.refl (fun _ => False) (w.alloc (.cells ZP 64))).drewN q) (fun _ => id)).trans b4)
  have HR0 := Lib.hid fun (w4 : World) b4 => pc_store w (w4 := w4) b4
  have hnd : Lx.digit s[0] = false := by simp [Lx.digit]; omega
  have hnn : Lx.name s[0] = false := by simp [Lx.name, hnd, Lx.marks, h35]
  obtain ⟨z, hz⟩ : ∃ z, Lx.other (s[0] :: (s.data.toList.drop 1).takeWhile Lx.name) = z := ⟨_, rfl⟩
  have hX : Lx.one s.data.toList = if z then ((8 : Int), s[0] :: (s.data.toList.drop 1).takeWhile Lx.name, (0 : Int), (s.data.toList.drop 1).dropWhile Lx.name) else (0, [], 8, s.data.toList) := by
    conv => lhs; rw [whole_head s h0]
    simp only [Lx.one, h35, hnd, hnn, hz]
    rw [← whole_head s h0]
    simp
  have hT := Lib.hid (text_of s 0 (1 + k) h0 (by omega) hk1 hk2)
  have HW := Lib.hid fun W => kwrong 8 0 W
  rw [hX]
  by_cases hk3 : k < 2
  · obtain rfl : z = false := by rw [← hz, Lx.other_short _ _ (by omega)]
    rw [if_neg (by decide)]
    obtain ⟨n, hn⟩ : ∃ n, 1 + k = n := ⟨_, rfl⟩
    have hki : (1 : Int) + (k : Int) = (n : Int) := by omega
    have hn3 : (n : Int) < 3 := by omega
    clear hX hz hk hk2 hnd hnn h35 hT HR0
    go_enter Tryd.func52, Tryd.ntmps52
    go_wp2_with (go_at_call 45; refine (HS.out _).mono ?_; rintro e w1 ⟨rfl, rfl⟩)
    go_quiet (fail)
    go_wp2_with (go_at_call 56; refine (HW.out _).mono ?_; rintro e w4 ⟨rfl, b4⟩; obtain ⟨z0, y0, y1, y2, y3, f0, f1, f2, f3, hl, hb⟩ := HR.out _ _ b4)
    obtain ⟨_, e0, e1, e2, e3⟩ := pc_cells hl.out (.int .i64 0) (.string ⟨#[]⟩) (.int .i64 0) (.int .i64 8)
    exact bodyPost_ret (v := piece 0 ⟨#[]⟩ 0 8) (by simp [results, Tryd.results52, go_sem, e0, e1, e2, e3]) rfl (PSaid.at_start (hb.out _ _ _ _) (by decide) h0)
  · obtain ⟨n, hn⟩ : ∃ n, 1 + k = n := ⟨_, rfl⟩
    rw [hn] at hk1 hk2 hT
    have h1 : 1 < s.size := by omega
    have h2n : 2 ≤ n := by omega
    have hn0 : 0 < n := by omega
    -- the second byte, and what stands behind it
    have e1 := drop_at s h1
    have hnm : Lx.name s[1] = true := by
      rw [hk, takeWhile_at _ s h1] at hk3
      by_cases h : Lx.name s[1] = true
      · exact h
      · rw [if_neg h] at hk3
        exact absurd (by decide) hk3
    have hy : (s.data.toList.drop 1).takeWhile Lx.name = s[1] :: (s.data.toList.drop 2).takeWhile Lx.name := by rw [takeWhile_at _ s h1, if_pos hnm]
    obtain ⟨c1, c2⟩ := cut_bytes s 2 n hk1 h2n
    have hyc : (s.extract 2 n).data.toList = (s.data.toList.drop 2).takeWhile Lx.name := by
      have hh := Lx.take_drop Lx.name (s.data.toList.drop 2)
      have hl : ((s.data.toList.drop 2).takeWhile Lx.name).length = n - 2 := by
        rw [hk, hy, List.length_cons] at hn
        omega
      rw [c1, ← hl]
      have h3 := congrArg (List.take ((s.data.toList.drop 2).takeWhile Lx.name).length) hh
      rw [List.take_left] at h3
      exact h3.symm
    have hyn : (s.data.toList.drop 2).takeWhile Lx.name ≠ [] := fun e => by
      rw [hk, hy, List.length_cons, e] at hk3
      exact hk3 (by decide)
    rw [hy, Lx.other_by _ _ _ hyn, ← hyc] at hz
    have HD := Lib.hid fun W => kdigits s[1] (s.extract 2 n) W (by unfold maxLen; omega)
    rw [hz] at HD
    have hki : (1 : Int) + (k : Int) = (n : Int) := by omega
    have hn3 : decide ((n : Int) < 3) = false := decide_eq_false (by omega)
    have h1' : (1 : Int) < (s.size : Int) := by omega
    have HU := Lib.hid fun W => kupTo s n 8 W hk1
    have H2 := Lib.hid hk2
    clear hX hz hk hk2 hnd hnn h35 hk3 e1 hnm hy c1 c2 hyc hyn hn HR0
    cases z with
    | true =>
      rw [if_pos rfl]
      go_enter Tryd.func52, Tryd.ntmps52
      go_wp2_with (go_at_call 45; refine (HS.out _).mono ?_; rintro e w1 ⟨rfl, rfl⟩)
      go_quiet ((go_at_call 74; (with_reducible exact Calls.quiet_of_same (HD.out _))))
      go_wp2_with (go_at_call 48; refine (HU.out _).mono ?_; rintro e w4 ⟨rfl, b4⟩; obtain ⟨z0, y0, y1, y2, y3, f0, f1, f2, f3, hl, hb⟩ := HR.out _ _ b4)
      obtain ⟨_, e0, e1, e2, e3⟩ := pc_cells hl.out (.int .i64 8) (.string (s.extract 0 n)) (.int .i64 (n : Nat)) (.int .i64 0)
      exact bodyPost_ret (v := piece 8 (s.extract 0 n) (n : Nat) 0) (by simp [results, Tryd.results52, go_sem, e0, e1, e2, e3]) rfl ⟨hb.out _ _ _ _, fun _ => ⟨_, n, rfl, hT.out, hn0, hk1, H2.out⟩, fun h => absurd rfl h⟩
    | false =>
      rw [if_neg (by decide)]
      go_enter Tryd.func52, Tryd.ntmps52
      go_wp2_with (go_at_call 45; refine (HS.out _).mono ?_; rintro e w1 ⟨rfl, rfl⟩)
      go_quiet ((go_at_call 74; (with_reducible exact Calls.quiet_of_same (HD.out _))))
      go_wp2_with (go_at_call 56; refine (HW.out _).mono ?_; rintro e w4 ⟨rfl, b4⟩; obtain ⟨z0, y0, y1, y2, y3, f0, f1, f2, f3, hl, hb⟩ := HR.out _ _ b4)
      obtain ⟨_, e0, e1, e2, e3⟩ := pc_cells hl.out (.int .i64 0) (.string ⟨#[]⟩) (.int .i64 0) (.int .i64 8)
      exact bodyPost_ret (v := piece 0 ⟨#[]⟩ 0 8) (by simp [results, Tryd.results52, go_sem, e0, e1, e2, e3]) rfl (PSaid.at_start (hb.out _ _ _ _) (by decide) h0)

end Go.Proofs.YtpjdfogieiokkaaDoor
