/- LexAgain: its walk. -/
import Derived.Test.YtgnonopkefbhoaaDoorK17
namespace Go.Proofs.YtgnonopkefbhoaaDoor
open Go.RowKit Go.Shelf

theorem Lx.dbl_least : ∀ l : List UInt8, l.length ≤ (Lx.dbl l).length
  | [] => Nat.le_refl _
  | c :: t => by
    have := Lx.dbl_least t
    rw [Lx.dbl_cons]
    split <;> · simp only [List.length_cons]; omega
theorem Lx.show_least (k : Int) (s : List UInt8) : s.length ≤ (Lx.show k s).length := by
  have := Lx.dbl_least s
  unfold Lx.show
  split
  · split
    · omega
    · simp; omega
  · split
    · simp; omega
    · omega
theorem keys_i (s : ByteArray) (l : List MTok) : (l.map toI).map ikey = (l.map (pureTok s)).map Lx.says := by
  rw [List.map_map, List.map_map]
  apply List.map_congr_left
  intro x _
  rfl
/-- what was cut may be written -/
theorem LSaid.again {s : ByteArray} {w w' : World} {A : Option Addr} {c : Nat} {l : List MTok} {E : Int} {p : Nat} (q : LSaid s w A c l E p w') (hs : s.size ≤ 4000) :
    (∀ x ∈ l.map toI, Lx.okShow x.1 x.2.1.data.toList = true) ∧ (Lx.joined 32 ((l.map toI).map ikey)).length ≤ 8000 ∧ ∀ x ∈ l.map toI, x.2.1.size ≤ 100000 := by
  obtain ⟨t1, _, _⟩ := q.toks (by omega)
  obtain ⟨h1, h2, _⟩ := Lx.again s.data.toList (by rw [len_bytes]; exact hs)
  rw [← t1, ← keys_i] at h1 h2
  have h3 : ∀ x ∈ l.map toI, Lx.okShow x.1 x.2.1.data.toList = true := fun x hx => h1 _ (List.mem_map_of_mem (f := ikey) hx)
  refine ⟨h3, h2, fun x hx => ?_⟩
  have h4 := (Lx.okShow_whole (h3 x hx)).2
  have h5 := Lx.show_least x.1 x.2.1.data.toList
  rw [len_bytes] at h5
  omega

set_option maxRecDepth 100000 in
set_option maxHeartbeats 3200000 in
theorem lexAgain_walk (s : ByteArray) (w : World) (hs : s.size ≤ maxLen) (hm : MaxL w) :
    Calls Tryd.prog 6 #[.string s] w fun e w' => e = .returned (.bool true) ∧ Below w.heap.size w w' := by
  have HA := Lib.hid (kawake w hm)
  have HM := Lib.hid hm
  unfold maxLen at hs
  clear hm
  by_cases hl : 4000 < s.size
  · have hl' : (4000 : Int) < (s.size : Int) := by omega
    clear hl
    go_enter Tryd.func6, Tryd.ntmps6
    go_wp2_with (go_at_call 9; refine HA.out.mono ?_; rintro e w1 ⟨rfl, b1⟩)
    go_ret
    exact ⟨rfl, b1⟩
  have hl' : ¬ (4000 : Int) < (s.size : Int) := by omega
  have hs4 : s.size ≤ 4000 := by omega
  have H1 := Lib.hid fun W hW => klex s W (by omega) hW
  have HS4 := Lib.hid hs4
  clear hl hs4
  go_enter Tryd.func6, Tryd.ntmps6
  go_wp2_with fail
  refine HA.out.mono ?_
  rintro e w1 ⟨rfl, b1⟩
  have B1 := Lib.hid b1
  have HM1 := Lib.hid (HM.out.below b1)
  clear b1
  go_wp2_with fail
  refine (H1.out _ HM1.out).mono ?_
  rintro e w2 ⟨A2, c2, l2, E2, p2, rfl, q2⟩
  have B2 := Lib.hid (B1.out.trans (q2.below.mono B1.out.size))
  have HM2 := Lib.hid (HM1.out.below q2.below)
  have T2 := Lib.hid q2.own.toks
  obtain ⟨g1, g2, g3⟩ := q2.again HS4.out
  have HF := Lib.hid q2.few
  have HJ := kjoined w2 A2 l2.length c2 (l2.map toI) 32 q2.own.toks (by have := q2.few; omega) g3 (by omega) HM2.out
  rw [show (((32 : UInt8).toNat : Nat) : Int) = 32 from rfl] at HJ
  replace HJ := Lib.hid HJ
  have G1 := Lib.hid g1
  have G2 := Lib.hid g2
  have HLI : Hid ((l2.map toI).length ≤ 4000) := by show _ ≤ _; rw [List.length_map]; exact HF.out
  obtain ⟨n2, hn2⟩ : ∃ n, l2.length = n := ⟨_, rfl⟩
  obtain ⟨li, hli⟩ : ∃ l, l2.map toI = l := ⟨_, rfl⟩
  rw [hli] at HJ T2 G1 G2 HLI
  rw [hn2] at HJ T2 HF ⊢
  clear q2 g1 g2 g3 hn2 hli
  go_wp2_with fail
  refine HJ.out.mono ?_
  rintro e w3 ⟨h, b3⟩
  have B3 := Lib.hid (B2.out.trans (b3.mono B2.out.size))
  have HM3 := Lib.hid (HM2.out.below b3)
  have T3 := Lib.hid (T2.out.below b3)
  clear b3
  rcases h with ⟨V, hok, rfl, hV⟩ | ⟨⟨x, hx, hno⟩, _⟩
  · have hVs : V.size ≤ 8000 := by rw [← len_bytes, hV]; exact G2.out
    have HK := Lib.hid fun W hW => klex V W (by omega) hW
    have HB := Lib.hid fun W W' A3 c3 l3 E3 p3 (q : LSaid V W A3 c3 l3 E3 p3 W') => q.back Lx.ends_32 (by decide) li hV hok HLI.out (by omega)
    clear hok hV hVs
    go_wp2_with fail
    refine (HK.out _ HM3.out).mono ?_
    rintro e w4 ⟨A4, c4, l4, E4, p4, rfl, q4⟩
    obtain ⟨hsame, rfl, rfl⟩ := HB.out _ _ _ _ _ _ _ q4
    have B4 := Lib.hid (B3.out.trans (q4.below.mono B3.out.size))
    have HS := Lib.hid (rsame w4 A2 n2 c2 li A4 l4.length c4 (l4.map toI) false (T3.out.below q4.below) q4.own.toks (by have := HF.out; omega))
    rw [hsame] at HS
    obtain ⟨n4, hn4⟩ : ∃ n, l4.length = n := ⟨_, rfl⟩
    rw [hn4] at HS ⊢
    clear q4 hsame hn4
    go_wp2_with (go_at_call 12; refine HS.out.mono ?_; rintro e w5 ⟨rfl, q, rfl⟩)
    go_ret
    exact ⟨rfl, B4.out.trans ((Turn.none_ ((Turn.refl (fun _ => False) _).drewN _) (fun _ => id)).mono B4.out.size)⟩
  · rw [G1.out x hx] at hno
    cases hno
end Go.Proofs.YtgnonopkefbhoaaDoor
