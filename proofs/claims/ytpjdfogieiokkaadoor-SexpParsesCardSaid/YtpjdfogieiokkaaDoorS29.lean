/- A list of tokens that came in; the law SexpParses. -/
import Derived.Test.YtpjdfogieiokkaaDoorS27
import Derived.Test.YtpjdfogieiokkaaDoorHD
import Derived.Deep.Slices
import Derived.Deep.Fields
import Derived.ChangeSame
namespace Go.Proofs.YtpjdfogieiokkaaDoor
open Go.RowKit Go.ChangeShapes Go.WideShapes Go.Deep

set_option maxRecDepth 100000 in
theorem open_toks6 {H : Type} {enc : TypeId × Value → H} {W : World} {fuel : Nat} {v : Value} {y : DataW H × List MemPlace} (h : DataW.trod enc Tryd.prog W 0 (fun _ => true) true fuel 22 [v] = some y) :
    ∃ A n c l, v = .slice A n c ∧ TokS W A n l ∧ n ≤ c := by
  rcases open_slice Tryd.underlying22 h with ⟨hcs, _⟩ | ⟨a, len, cap, m, n, D, Pl, hcs, _, hl, hm, hmm, _, hi⟩
  · injection hcs with hcs
    subst hcs
    exact ⟨none, 0, 0, [], rfl, ⟨rfl, fun hn => absurd hn (by omega)⟩, Nat.le_refl _⟩
  · injection hcs with hcs
    subst hcs
    have hm' : m = cap := by simpa using hmm
    have each : ∀ i, i < len → ∃ q : ITok, (W.cell? ((a.add (i * 3)).add 0) = some (.int .i64 q.1) ∧ W.cell? ((a.add (i * 3)).add 1) = some (.string q.2.1) ∧ W.cell? ((a.add (i * 3)).add 2) = some (.int .i64 q.2.2)) := by
      intro i hlt
      obtain ⟨cs', h1, h2⟩ := hi i (by omega)
      rw [show Tryd.prog.cellsOf 31 = 3 by kernel_rfl] at h1
      obtain ⟨_, hlen, hcell⟩ := World.cells?_some h1
      obtain ⟨xs, k, _, _, _, hxl, hf⟩ := DataW.trod_struct Tryd.underlying31 h2
      match xs, hxl, cs', hlen with
      | [y0, y1, y2], _, [v0, v1, v2], _ =>
        have g0 := hf 0 _ rfl
        have g1 := hf 1 _ rfl
        have g2 := hf 2 _ rfl
        have e0 : DataW.trod enc Tryd.prog W 0 (fun _ => true) true k 3 [v0] = some y0 := g0
        have e1 : DataW.trod enc Tryd.prog W 0 (fun _ => true) true k 9 [v1] = some y1 := g1
        have e2 : DataW.trod enc Tryd.prog W 0 (fun _ => true) true k 3 [v2] = some y2 := g2
        obtain ⟨z0, hz0, _⟩ := DataW.trod_int Tryd.underlying3 e0
        obtain ⟨z1, hz1, _, hz⟩ := DataW.trod_string Tryd.underlying9 e1
        obtain ⟨z2, hz2, _⟩ := DataW.trod_int Tryd.underlying3 e2
        injection hz0 with hz0
        injection hz1 with hz1
        injection hz2 with hz2
        subst hz0
        subst hz1
        subst hz2
        exact ⟨(z0, z1, z2), hcell 0 (by omega), hcell 1 (by omega), hcell 2 (by omega)⟩
    obtain ⟨q, hq⟩ := choose_lt each
    refine ⟨some a, len, cap, (List.range len).map q, rfl, ⟨by simp, fun hn => ?_⟩, by omega⟩
    have hc0 := (hq 0 hn).1
    obtain ⟨b, off, spot⟩ := a
    have hspot : spot = none := by simpa [Addr.add] using World.cell?_spot hc0
    subst hspot
    have hb : b < W.heap.size := by
      have := World.block_lt_of_cell? W _ hc0
      simpa [Addr.add] using this
    refine ⟨b, off, rfl, hb, fun i o ho => ?_⟩
    obtain ⟨hil, rfl⟩ := get_range ho
    have := hq i hil
    rw [addr_add, addr_add, addr_add, addr_add, Nat.add_zero] at this
    exact this

set_option maxRecDepth 100000 in
set_option maxHeartbeats 1600000 in
theorem sexpParses_walk (A : Option Addr) (n c : Nat) (l : List ITok) (z : Int) (w : World) (h : TokS w A n l) (hnc : n ≤ c) (hm : MaxL w) :
    Calls Tryd.prog 3 #[.slice A n c, .int .i64 z] w fun e w' => e = .returned (.bool true) ∧ Below w.heap.size w w' := by
  have HA := Lib.hid (kawake6 w hm)
  clear hm
  by_cases hl : 1000 < n
  · have hl' : (1000 : Int) < (n : Int) := by omega
    clear hl h hnc
    go_enter Tryd.func3, Tryd.ntmps3
    go_wp2_with (go_at_call 9; refine HA.out.mono ?_; rintro e w1 ⟨rfl, b1⟩)
    go_ret
    exact ⟨rfl, b1⟩
  have hl' : ¬ (1000 : Int) < (n : Int) := by omega
  have H1 := Lib.hid fun W (hW : Below w.heap.size w W) => kparse W A n c l z (h.below hW) (by omega) hnc
  have H2 := Lib.hid fun W (hW : Below w.heap.size w W) => rparse W A n c l z (h.below hW) (by omega)
  have HL : Hid (l.length ≤ 1000) := by show _ ≤ _; rw [h.len]; omega
  clear hl h hnc
  go_enter Tryd.func3, Tryd.ntmps3
  go_wp2_with fail
  refine HA.out.mono ?_
  rintro e w1 ⟨rfl, b1⟩
  have B1 := Lib.hid b1
  clear b1
  go_wp2_with fail
  refine (H1.out _ B1.out).mono ?_
  rintro e w2 ⟨⟨A2, c2, l2, rfl, hf2, o2, r2⟩, b2⟩
  obtain ⟨n2, hn2⟩ : ∃ n, l2.length = n := ⟨_, rfl⟩
  have i2 := o2.its hn2
  rw [hn2] at hf2 ⊢
  have B2 := Lib.hid (B1.out.trans (b2.mono B1.out.size))
  have Q2 := Lib.hid (And.intro i2 (And.intro r2 hf2))
  clear b2 i2 r2 o2 hn2 hf2
  go_wp2_with fail
  refine (H2.out _ B2.out).mono ?_
  rintro e w3 ⟨⟨A3, c3, l3, rfl, hf3, o3, r3⟩, b3⟩
  obtain ⟨n3, hn3⟩ : ∃ n, l3.length = n := ⟨_, rfl⟩
  have i3 := o3.its hn3
  rw [hn3]
  have hsame : sameI true (l2.map MItem.pure) (l3.map MItem.pure) = true := sameI_iff.2 (by rw [Says.uniq _ _ _ _ (Nat.le_refl _) Q2.out.2.1 r3])
  have HS := Lib.hid (ritems w3 A2 n2 c2 _ A3 n3 c3 _ true (Q2.out.1.kept b3) i3 (by have := Q2.out.2.2; have := HL.out; omega))
  rw [hsame] at HS
  have B3 := Lib.hid (B2.out.trans (b3.mono B2.out.size))
  clear b3 i3 r3 o3 hn3 hsame hf3 Q2
  go_wp2_with (go_at_call 10; refine HS.out.mono ?_; rintro e w4 ⟨rfl, b4⟩)
  go_ret
  exact ⟨rfl, B3.out.trans (b4.mono B3.out.size)⟩
end Go.Proofs.YtpjdfogieiokkaaDoor
