/- Texts replaced and joined. Nothing of the program's text. -/
import Derived.Test.YtdpbglofijpfnaaF9
namespace Go.Proofs.Ytdpbglofijpfnaa

theorem Tx.app_pts {l m : List Int} (hl : ∀ z ∈ l, Lt.pt z = true) (hm : ∀ z ∈ m, Lt.pt z = true) : ∀ z ∈ l ++ m, Lt.pt z = true := fun z hz => by
  rcases List.mem_append.1 hz with hz | hz
  · exact hl z hz
  · exact hm z hz
/-- two texts that are few runs, one behind the other -/
theorem Tx.con_few {a b : List (Int × Int)} (ha : Tx.May a) (hb : Tx.May b) (hf : a.length + b.length ≤ 65536) :
    (Lt.total a + Lt.total b ≤ 1099511627776 ∧ Tx.conI a b = (0, Lt.runs (Lt.expand a ++ Lt.expand b)) ∧ Tx.May (Lt.runs (Lt.expand a ++ Lt.expand b))) ∨ (1099511627776 < Lt.total a + Lt.total b ∧ Tx.conI a b = (2, [])) := by
  have hr := Tx.runs_both ha hb
  have l1 := ha.len.2
  have l2 := hb.len.2
  rw [Tx.conI_is ha hb]
  by_cases h : Lt.total a + Lt.total b ≤ 1099511627776
  · left
    rw [if_pos ⟨h, by omega⟩]
    exact ⟨h, rfl, Tx.may_runs (Tx.app_pts ha.own.pts hb.own.pts) (by rw [List.length_append]; omega) (by omega)⟩
  · right
    rw [if_neg (fun hh => h hh.1)]
    exact ⟨by omega, rfl⟩
/-- what Same answers -/
noncomputable def Tx.sameT (a b : List (Int × Int)) : Bool := Tx.mayB a && Tx.mayB b && sameR a b
theorem Tx.sameT_self {a : List (Int × Int)} (h : Tx.May a) : Tx.sameT a a = true := by unfold Tx.sameT; rw [Tx.mayB_true h, sameR, decide_eq_true rfl]; rfl
/-- what Contains answers -/
noncomputable def Tx.contB (s t : List (Int × Int)) : Bool := Tx.mayB s && Tx.mayB t && @decide (∃ j, Tx.Stands (Lt.expand s) (Lt.expand t) j) (Classical.propDecidable _)
theorem Tx.contB_true {s t : List (Int × Int)} (hs : Tx.May s) (ht : Tx.May t) {j : Nat} (h : Tx.Stands (Lt.expand s) (Lt.expand t) j) : Tx.contB s t = true := by
  unfold Tx.contB
  rw [Tx.mayB_true hs, Tx.mayB_true ht, @decide_eq_true _ (Classical.propDecidable _) ⟨j, h⟩]
  rfl
theorem Tx.contB_idx {s t : List (Int × Int)} {r : Int} (h : IdxSaid s t 0 r) : Tx.contB s t = decide (0 ≤ r) := by
  unfold Tx.contB
  rcases h with ⟨h1, rfl⟩ | ⟨hs, ht, ⟨h1, _⟩ | ⟨_, ⟨k, rfl, hk⟩ | ⟨rfl, hn⟩⟩⟩
  · by_cases hs : Tx.May s
    · rw [Tx.mayB_false fun ht => h1 ⟨hs, ht⟩, Bool.and_false, Bool.false_and]
      rfl
    · rw [Tx.mayB_false hs]
      rfl
  · omega
  · rw [Tx.mayB_true hs, Tx.mayB_true ht, @decide_eq_true _ (Classical.propDecidable _) ⟨k, hk.2.1⟩, decide_eq_true (by omega)]
    rfl
  · rw [Tx.mayB_true hs, Tx.mayB_true ht, @decide_eq_false _ (Classical.propDecidable _) (fun ⟨j, hj⟩ => hn j (Nat.zero_le _) hj)]
    rfl
/-- RunsReplaced: what stands in another one's place -/
theorem Tx.replaced {s t u : List (Int × Int)} (hs : Tx.May s) (ht : Tx.May t) (hu : Tx.May u) (l1 : s.length ≤ 300) (l3 : u.length ≤ 300) {k : Nat} (hk : Tx.First (Lt.expand s) (Lt.expand t) 0 k) {x : Int × List (Int × Int)} (hx : Tx.RepIs s t u x) :
    (x = (2, []) ∧ 1099511627776 < Lt.total s - Lt.total t + Lt.total u) ∨
    (∃ R, x = (0, R) ∧ Tx.May R ∧ R.length ≤ 900 ∧ Tx.lenI R = Lt.total s - Lt.total t + Lt.total u ∧
      ∀ y z, Tx.conI (Tx.subR s 0 k) u = (0, y) → Tx.conI y (Tx.subR s ((k : Int) + Lt.total t) (Lt.total s)) = (0, z) → R = z) := by
  have hle := hk.le
  have ts := hs.len.2
  have tt := ht.len.2
  have tu := hu.len.2
  obtain ⟨a1, a2, a3⟩ := Tx.subR_is hs 0 (k : Int)
  obtain ⟨b1, b2, b3⟩ := Tx.subR_is hs ((k : Int) + Lt.total t) (Lt.total s)
  have e1 : Tx.sub (Lt.expand s) 0 (k : Int) = (Lt.expand s).take k := by
    have := Tx.sub_nat (Lt.expand s) 0 k
    rw [List.drop_zero] at this
    exact this
  have e2 : Tx.sub (Lt.expand s) ((k : Int) + Lt.total t) (Lt.total s) = (Lt.expand s).drop (k + (Lt.expand t).length) := by
    rw [← ts, ← tt, show (k : Int) + ((Lt.expand t).length : Int) = ((k + (Lt.expand t).length : Nat) : Int) by omega, Tx.sub_nat, List.take_of_length_le (by rw [List.length_drop]; omega)]
  rw [e1] at a2
  rw [e2] at b2
  have hlenW : ((Lt.expand s).take k ++ Lt.expand u ++ (Lt.expand s).drop (k + (Lt.expand t).length)).length = (Lt.expand s).length - (Lt.expand t).length + (Lt.expand u).length := by
    rw [List.length_append, List.length_append, List.length_take, List.length_drop]
    omega
  have hruns : (Lt.runs ((Lt.expand s).take k ++ Lt.expand u ++ (Lt.expand s).drop (k + (Lt.expand t).length))).length ≤ 900 := by
    have q1 := Tx.runs_app _ ((Lt.expand s).take k ++ Lt.expand u) ((Lt.expand s).drop (k + (Lt.expand t).length)) rfl
    have q2 := Tx.runs_app _ ((Lt.expand s).take k) (Lt.expand u) rfl
    have q3 : (Lt.runs ((Lt.expand s).take k)).length ≤ 300 := by rw [← a2, a1.own.back]; omega
    have q4 : (Lt.runs ((Lt.expand s).drop (k + (Lt.expand t).length))).length ≤ 300 := by rw [← b2, b1.own.back]; omega
    rw [hu.own.back] at q2
    omega
  have hpts := Tx.app_pts (Tx.app_pts (l := (Lt.expand s).take k) (fun z hz => hs.own.pts z (List.mem_of_mem_take hz)) hu.own.pts) (m := (Lt.expand s).drop (k + (Lt.expand t).length)) (fun z hz => hs.own.pts z (List.mem_of_mem_drop hz))
  rcases hx with ⟨h1, _⟩ | ⟨_, ⟨j, hj, hxe⟩ | ⟨hn, _⟩⟩
  · exact absurd ⟨hs, ht, hu⟩ h1
  · obtain rfl := hk.uniq hj
    split at hxe
    · rename_i hfit
      right
      have hm := Tx.may_runs hpts (by rw [hlenW]; omega) (by omega)
      refine ⟨_, hxe, hm, hruns, ?_, fun y z hy hz => ?_⟩
      · rw [Tx.lenI_may hm, Tx.total_runs, hlenW]
        omega
      · have hy' : Tx.May y ∧ Lt.expand y = (Lt.expand s).take k ++ Lt.expand u := by
          rcases Tx.con_few a1 hu (by omega) with ⟨_, c2, c3⟩ | ⟨_, c2⟩
          · rw [c2] at hy
            injection hy with _ hy
            subst hy
            exact ⟨c3, by rw [Tx.expand_runs, a2]⟩
          · rw [c2] at hy
            injection hy with hy _
            cases hy
        have hyl : y.length ≤ 600 := by
          have := Tx.runs_both a1 hu
          rw [hy'.1.eq hy'.2, ← a2]
          omega
        rcases Tx.con_few hy'.1 b1 (by omega) with ⟨_, c2, c3⟩ | ⟨_, c2⟩
        · rw [c2] at hz
          injection hz with _ hz
          rw [← hz, hy'.2, b2]
        · rw [c2] at hz
          injection hz with hz _
          cases hz
    · rename_i hfit
      left
      refine ⟨hxe, ?_⟩
      rw [← ts, ← tt, ← tu]
      refine Int.not_le.1 fun h => hfit ⟨by omega, by omega⟩
  · exact absurd hk.2.1 (hn k)
/-- RunsJoins: what both say, begins with the one, ends with the other -/
theorem Tx.joins {a b : List (Int × Int)} (ha : Tx.May a) (hb : Tx.May b) {x : List (Int × Int)} (hx : Lt.expand x = Lt.expand a ++ Lt.expand b) (hm : Tx.May x) :
    Tx.prefB a x = true ∧ Tx.suffB b x = true ∧ Tx.contB x a = true ∧ Tx.lenI x = Lt.total a + Lt.total b := by
  have ta := ha.len.2
  have tb := hb.len.2
  have st1 : Tx.Stands (Lt.expand x) (Lt.expand a) 0 := by rw [hx]; exact ⟨Nat.zero_le _, List.prefix_append _ _⟩
  have st2 : Tx.Stands (Lt.expand x) (Lt.expand b) (Lt.expand a).length := by
    rw [hx]
    refine ⟨by rw [List.length_append]; omega, ?_⟩
    rw [List.drop_left]
    exact List.prefix_refl _
  refine ⟨?_, ?_, Tx.contB_true hm ha st1, ?_⟩
  · unfold Tx.prefB
    rw [Tx.mayB_true ha, Tx.mayB_true hm, Tx.standsB_true ⟨Int.le_refl _, st1⟩]
    rfl
  · unfold Tx.suffB
    have e : ((Lt.expand x).length : Int) - (Lt.expand b).length = ((Lt.expand a).length : Int) := by rw [hx, List.length_append]; omega
    rw [Tx.mayB_true hb, Tx.mayB_true hm, e, Tx.standsB_true ⟨by omega, by rw [Int.toNat_natCast]; exact st2⟩]
    rfl
  · rw [Tx.lenI_may hm, ← hm.len.2, hx, List.length_append]
    omega
/-- .. and it doesn't hang on how one puts brackets -/
theorem Tx.joins_assoc {a b c x y : List (Int × Int)} (ha : Tx.May a) (hc : Tx.May c) (hx : Tx.May x) (hy : Tx.May y) (ex : Lt.expand x = Lt.expand a ++ Lt.expand b) (ey : Lt.expand y = Lt.expand b ++ Lt.expand c) : Tx.conI x c = Tx.conI a y := by
  have t1 := ha.len.2
  have t2 := hc.len.2
  have t3 := hx.len.2
  have t4 := hy.len.2
  rw [ex, List.length_append] at t3
  rw [ey, List.length_append] at t4
  rw [Tx.conI_is hx hc, Tx.conI_is ha hy, ex, ey, List.append_assoc, show Lt.total x + Lt.total c = Lt.total a + Lt.total y by omega]
end Go.Proofs.Ytdpbglofijpfnaa
