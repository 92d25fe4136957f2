/- several texts in one. -/
import Derived.Test.YtiehkciofggonaaGE
import Derived.Test.YtiehkciofggonaaGM
import Derived.Test.YtiehkciofggonaaGA
/- nat: timesPlus, Parse: what each answers. -/
namespace Go.Proofs.Ytiehkciofggonaa
open Go.RowKit

/-- timesPlus' end -/
def Timesed (W : World) (g n k more : Nat) (L : List Nat) (e : Ending) (w' : World) : Prop :=
  ∃ (L' : List Nat) (c : Nat), e = .returned (.tuple #[]) ∧ Row w' g L' ∧ W.grownBy w' (some g) ∧ L'.length = n ∧ M.Fit L' ∧ M.val L' + M.BB ^ n * c = M.val L * k + more

theorem timesPlus_any (g n c k more : Nat) (L : List Nat) (w : World) (hrow : Row w g L) (hf : M.Fit L) (hn : L.length = n) (hc : n ≤ 1000000) (hk : k ≤ 1000000000) (hm : more ≤ k) :
    Calls Try.prog 76 #[.slice (some ⟨g, 0, none⟩) n c, .int .u64 k, .int .u64 more] w (Timesed w g n k more L) := by
  have HN := Lib.hid hn
  clear hn
  go_enter Try.func76, Try.ntmps76
  go_wp2_with fail
  go_loopw [6, 12] (fun cv iv wr => ∃ (i cy : Nat) (L' : List Nat), i ≤ n ∧ cy ≤ 1000000000 ∧ iv = .int .i64 i ∧ cv = .int .u64 cy ∧ Row wr g L' ∧ T.Times L L' n i k more cy ∧ w.grownBy wr (some g)) (fun _ iv _ => n - (intOf iv).toNat)
  case atStart => exact ⟨0, more, L, by omega, by omega, rfl, rfl, hrow, T.Times.start HN.out hf hm, World.grownBy.refl _ _⟩
  case round =>
    obtain ⟨i, cy, L', hi, hcy, rfl, rfl, hrow', ht, hgr⟩ := hrel
    by_cases hlt : i < n
    · obtain ⟨x, HX⟩ : ∃ x, Hid (x = L'.getD i 0) := ⟨_, rfl⟩
      have hx : x ≤ 4294967295 := by rw [HX.out]; exact fit_of ht.fit i
      have hcell : wr.cell? ⟨g, i, none⟩ = some (.int .u32 (x : Int)) := by rw [HX.out]; exact hrow'.cell (by rw [ht.len]; omega)
      have hfr := hrow'.frozen i
      obtain ⟨p, HP⟩ : ∃ p, Hid (x * k = p) := ⟨_, rfl⟩
      have hp : p ≤ 4294967295000000000 := by rw [← HP.out]; have := Nat.mul_le_mul hx hk; omega
      have hpe : (x : Int) * (k : Int) = (p : Int) := by rw [← HP.out]; rfl
      have ht' := ht.step (t := p + cy) hlt HX.out (by rw [HP.out])
      have hc2 := ht'.carry
      have HR : Hid (Row (wr.setCell ⟨g, i, none⟩ (.int .u32 (((p : Int) + cy) % 4294967296))) g (L'.set i ((p + cy) % M.BB))) := hrow'.set_' i _ (by rw [M.BB_eq]; omega)
      have HG : Hid (w.grownBy (wr.setCell ⟨g, i, none⟩ (.int .u32 (((p : Int) + cy) % 4294967296))) (some g)) := only_setCell hgr (p := ⟨g, i, none⟩) (.inl rfl) _
      have hcr : Hid ((((p + cy) / M.BB : Nat) : Int) = ((p : Int) + cy) / 4294967296) := by rw [M.BB_eq]; exact (show _ = _ from by omega)
      clear hrow' hgr ht
      go_wp2_with fail
      go_roundw
      case rel => exact ⟨i + 1, _, _, by omega, by omega, by go_num, by rw [hcr.out], HR.out, ht', HG.out⟩
      case measure => simp [intOf]; omega
    · obtain rfl : i = n := by omega
      have he := ht.end_ HN.out
      have HE := Lib.hid he
      clear he
      go_wp2_with fail
      go_end0
      exact ⟨L', cy, rfl, hrow', hgr, ht.len, ht.fit, HE.out⟩
end Go.Proofs.Ytiehkciofggonaa

/- the chapter's examples, which every statement asks first: they hold. -/
namespace Go.Proofs.Ytiehkciofggonaa
open Go.RowKit

theorem parse_bad (s : ByteArray) (w : World) (hs : s.size ≤ maxLen) (h : isT s.data.toList = false) :
    Calls Try.prog 52 #[.string s] w fun e w' => e = .returned (.tuple #[.slice none 0 0, .int .i64 8]) ∧ w = w' := by
  have HT := Lib.hid (isText_any s w hs)
  rw [h] at HT
  go_enter Try.func52, Try.ntmps52
  go_wp2_with fail
  refine HT.out.mono ?_
  rintro e w1 ⟨rfl, rfl⟩
  go_wp2_with fail
  go_ret2
  exact ⟨rfl, rfl⟩

/-- Same of a number and of what it ought to be -/
theorem same_num {B : Option Addr} {m d N : Nat} {v : Value} {l : List Nat} {w : World} (h : Num w v N) (hl : Lims w B m l) (hm : m ≤ maxLen) (t : M.Top l) (hv : M.val l = N) :
    ∃ A n c, v = .slice A n c ∧ Calls Try.prog 38 #[.slice A n c, .slice B m d] w fun e w' => e = .returned (.bool true) ∧ Below w.heap.size w w' := by
  obtain ⟨A, n, c, k, rfl, h1, h2, h3, h4, h5⟩ := h
  have e : k = l := M.uniq h1.2.1 hl.2.1 h2 t (h3.trans hv.symm)
  refine ⟨A, n, c, rfl, ?_⟩
  have := same_any A B n m c d k l w h1 hl (by omega) hm
  rw [decide_eq_true e] at this
  exact this.mono fun _ _ ⟨h1, j, h2⟩ => ⟨h1, by rw [h2]; exact below_drewN (Below.refl _ _) j⟩

theorem big_txt : T.Txt 4294967296 [52, 50, 57, 52, 57, 54, 55, 50, 57, 54] := by
  refine .inr ⟨[6, 9, 2, 7, 6, 9, 4, 9, 2, 4], ?_, ?_, by simp, by simp [T.val, T.BB_eq], rfl⟩
  · refine T.Fit.of_mem fun x hx => ?_
    rw [T.BB_eq]
    simp at hx
    omega
  · intro _
    simp

theorem lims_lit {w : World} {cs : Array Value} {l : List Nat} {n : Nat} (h : cs = (cellsOf l).toArray) (hf : ∀ x ∈ l, x ≤ 4294967295) (hn : l.length = n) :
    Lims (w.alloc (.cells cs 57)) (some ⟨w.heap.size, 0, none⟩) n l := by
  subst h
  exact Row.lims (heap_alloc_new w _) (M.Fit.of_mem fun x hx => by have := hf x hx; rw [M.BB_eq]; omega) hn
theorem lims_lit1 {w : World} {cs : Array Value} {l : List Nat} {n : Nat} {o : Obj} (h : cs = (cellsOf l).toArray) (hf : ∀ x ∈ l, x ≤ 4294967295) (hn : l.length = n) :
    Lims ((w.alloc (.cells cs 57)).alloc o) (some ⟨w.heap.size, 0, none⟩) n l := (lims_lit h hf hn).below ((Below.refl _ _).alloc (Nat.le_refl _) _)
theorem lims_lit2 {w : World} {cs : Array Value} {l : List Nat} {n : Nat} {o : Obj} (h : cs = (cellsOf l).toArray) (hf : ∀ x ∈ l, x ≤ 4294967295) (hn : l.length = n) :
    Lims ((w.alloc o).alloc (.cells cs 57)) (some ⟨w.heap.size + 1, 0, none⟩) n l := by
  have := lims_lit (w := w.alloc o) h hf hn
  simpa using this
theorem two_lit {w : World} {cs ds : Array Value} {k l : List Nat} {n m : Nat} (h : cs = (cellsOf k).toArray) (h' : ds = (cellsOf l).toArray) (hf : ∀ x ∈ k, x ≤ 4294967295) (hf' : ∀ x ∈ l, x ≤ 4294967295) (hn : k.length = n) (hm : l.length = m) (hn' : n ≤ 1000) (hm' : m ≤ 1000) :
    Two ((w.alloc (.cells cs 57)).alloc (.cells ds 57)) (some ⟨w.heap.size, 0, none⟩) (some ⟨w.heap.size + 1, 0, none⟩) n m n m k l :=
  ⟨lims_lit1 h hf hn, lims_lit2 h' hf' hm, Nat.le_refl _, Nat.le_refl _, by unfold maxLen; omega, by unfold maxLen; omega, by omega, by omega⟩
theorem below_two {w w' : World} {o p : Obj} (h : Below ((w.alloc o).alloc p).heap.size ((w.alloc o).alloc p) w') : Below w.heap.size w w' :=
  (((Below.refl _ _).alloc (Nat.le_refl _) _).alloc (by simp) _).trans (h.mono (by simp; omega))
theorem below_one {w w' : World} {o : Obj} (h : Below (w.alloc o).heap.size (w.alloc o) w') : Below w.heap.size w w' :=
  ((Below.refl _ _).alloc (Nat.le_refl _) _).trans (h.mono (by simp))
theorem below_one_drew (w : World) (o : Obj) (j : Nat) : Below w.heap.size w ((w.alloc o).drewN j) :=
  below_drewN ((Below.refl _ _).alloc (Nat.le_refl _) _) j

end Go.Proofs.Ytiehkciofggonaa

/- nat: Parse of a number's digits: what it answers. -/
namespace Go.Proofs.Ytiehkciofggonaa
open Go.RowKit

theorem isT_parts {l : List UInt8} : isT l = true ↔ l ≠ [] ∧ l.length ≤ 2000 ∧ (l = [48] ∨ l.getD 0 0 ≠ 48) ∧ T.AllD l := by
  unfold isT T.AllD
  simp only [Bool.and_eq_true, Bool.not_eq_true', decide_eq_true_eq, List.all_eq_true, Bool.and_eq_false_iff, decide_eq_false_iff_not, List.isEmpty_eq_false_iff]
  constructor
  · rintro ⟨⟨⟨h1, h2⟩, h3⟩, h4⟩
    refine ⟨h1, h2, ?_, h4⟩
    rcases h3 with h3 | h3
    · exact .inr h3
    · exact .inl (Decidable.not_not.1 h3)
  · rintro ⟨h1, h2, h3, h4⟩
    refine ⟨⟨⟨h1, h2⟩, ?_⟩, h4⟩
    rcases h3 with h3 | h3
    · exact .inr (fun h => h h3)
    · exact .inl h3

/-- Parse's answer: a number, and no error -/
def Parsed (W : World) (N : Nat) (e : Ending) (w' : World) : Prop := ∃ v, e = .returned (.tuple #[v, .int .i64 0]) ∧ Num w' v N ∧ Below W.heap.size W w'

set_option maxHeartbeats 1000000 in
theorem parse_good (s : ByteArray) (w : World) (hs : s.size ≤ maxLen) (h : isT s.data.toList = true) :
    Calls Try.prog 52 #[.string s] w (Parsed w (T.dv s.data.toList)) := by
  obtain ⟨h1, h2, _, hall⟩ := isT_parts.1 h
  have hlen := lenL s
  rw [hlen] at h2
  have hpos : 0 < s.size := by
    rcases Nat.eq_zero_or_pos s.size with e | e
    · rw [e] at hlen; exact absurd (List.eq_nil_of_length_eq_zero hlen) h1
    · exact e
  have HT := Lib.hid (isText_any s w hs)
  rw [h] at HT
  have HD : Hid (∀ i (hi : i < s.size), 48 ≤ s[i].toNat ∧ s[i].toNat ≤ 57) := fun i hi => by
    rw [← getL hi]
    refine hall _ ?_
    rw [List.getD_eq_getElem?_getD, List.getElem?_eq_getElem (by rw [hlen]; exact hi)]
    exact List.getElem_mem _
  obtain ⟨S, HS⟩ : ∃ S, Hid (s.data.toList = S) := ⟨_, rfl⟩
  have HG : Hid (∀ i (hi : i < s.size), S.getD i 0 = s[i]) := fun i hi => by rw [← HS.out]; exact getL hi
  have HL : Hid (S.length = s.size) := by rw [← HS.out]; exact hlen
  have HA : Hid (T.AllD S) := by rw [← HS.out]; exact hall
  rw [HS.out]
  clear hall h1 h hlen
  obtain ⟨m, Hm⟩ : ∃ m, Hid (s.size / 9 + 1 = m) := ⟨_, rfl⟩
  have hm : m ≤ 300 := by have := Hm.out; omega
  have hdm : (s.size : Int) / 9 + 1 = (m : Int) := by have := Hm.out; omega
  have hmk := make_any m (by omega)
  go_enter Try.func52, Try.ntmps52
  go_wp2_with fail
  refine HT.out.mono ?_
  rintro e w1 ⟨rfl, rfl⟩
  go_wp2_with fail
  have hrow := Row.zeros_ w m
  have hb0 : Below w.heap.size w (w.alloc (.cells (zeros m) 57)) := (Below.refl _ _).alloc (Nat.le_refl _) _
  go_loopw [5, 6, 18] (fun sv cv iv wr => ∃ (i sc ch : Nat) (L : List Nat), i ≤ s.size ∧ sc ≤ 100000000 ∧ ch ≤ 100000000 ∧ iv = .int .i64 i ∧ sv = .int .u64 sc ∧ cv = .int .u64 ch ∧ Row wr w.heap.size L ∧ T.Parsing S L m i sc ch ∧ (i = s.size → sc = 1 ∧ ch = 0) ∧ Below w.heap.size w wr) (fun _ _ iv _ => s.size - (intOf iv).toNat)
  case atStart => exact ⟨0, 1, 0, _, by omega, by omega, by omega, rfl, rfl, rfl, hrow, T.Parsing.start S m, fun _ => ⟨rfl, rfl⟩, hb0⟩
  case round =>
    obtain ⟨i, sc, ch, L, hi, hsc, hch, rfl, rfl, rfl, hrow, hp, hend, hbel⟩ := hrel
    have HE := Lib.hid hend
    clear hend
    by_cases hlt : i < s.size
    · obtain ⟨d, Hd⟩ : ∃ d, Hid (s[i].toNat - 48 = d) := ⟨s[i].toNat - 48, rfl⟩
      have hc := HD.out i hlt
      have hd9 : d ≤ 9 := by have := Hd.out; omega
      have HD2 : Hid (d = (S.getD i 0).toNat - 48) := by rw [HG.out i hlt]; exact Hd.out.symm
      have hde : (s[i].toNat : Int) - 48 = (d : Int) := by have := Hd.out; omega
      obtain ⟨hs1, hs2⟩ := hp.small
      have hchl := hp.lt
      obtain ⟨k, hk⟩ : ∃ k, Hid (sc * 10 = k) := ⟨_, rfl⟩
      obtain ⟨mo, hmo⟩ : ∃ mo, Hid (ch * 10 + d = mo) := ⟨_, rfl⟩
      have hke : (sc : Int) * 10 = (k : Int) := by have := hk.out; omega
      have hmoe : (ch : Int) * 10 + (d : Int) = (mo : Int) := by have := hmo.out; omega
      have hk9 : k ≤ 1000000000 := by have := hk.out; omega
      have hmk' : mo ≤ k := by have := hk.out; have := hmo.out; omega
      have hflush : Hid (∀ (L' : List Nat) (c : Nat), L'.length = m → M.Fit L' → M.val L' + M.BB ^ m * c = M.val L * k + mo → T.Parsing S L' m (i + 1) 1 0) := by
        intro L' c q1 q2 q3
        rw [← hk.out, ← hmo.out] at q3
        exact hp.flush (by rw [HL.out]; exact hlt) HD2.out hd9 HA.out (by rw [HL.out]; exact Hm.out.symm) q1 q2 q3
      have HTP := Lib.hid (timesPlus_any w.heap.size m m k mo L wr hrow hp.fit hp.len (by omega) hk9 hmk')
      by_cases hA : sc = 100000000 ∨ i + 1 = s.size
      · rcases (show ((k : Int) == 1000000000) = true ∨ ((k : Int) == 1000000000) = false ∧ ((i : Int) == (s.size : Int) - 1) = true from by
          have := hk.out
          rcases hs2 with e | e
          · left; simp; omega
          · right; constructor
            · simp; omega
            · rcases hA with e2 | e2
              · omega
              · simp; omega) with hb1 | ⟨hb1, hb2⟩
        all_goals
          clear hA hs2
          go_wp2_with fail
          refine HTP.out.mono ?_
          rintro e w2 ⟨L', c, rfl, r2, g2, l2, f2, v2⟩
          have hp2 := hflush.out L' c l2 f2 v2
          have hbel2 := hbel.grown g2 hbel.size (by intro q hq; injection hq with hq; omega)
          clear v2 l2 g2
          go_wp2_with fail
          go_roundw
          case rel => exact ⟨i + 1, 1, 0, L', by omega, by omega, by omega, by go_num, rfl, rfl, r2, hp2, fun _ => ⟨rfl, rfl⟩, hbel2⟩
          case measure => simp [intOf]; omega
      · have hs3 : sc ≤ 10000000 := by omega
        have hb1 : ((k : Int) == 1000000000) = false := by have := hk.out; simp; omega
        have hb2 : ((i : Int) == (s.size : Int) - 1) = false := by simp; omega
        have hp2 := hp.keep (by rw [HL.out]; exact hlt) HD2.out hd9 hs3
        rw [hk.out, hmo.out] at hp2
        have hi2 : ¬ i + 1 = s.size := fun e => hA (.inr e)
        have HI2 := Lib.hid hi2
        have hk8 : k ≤ 100000000 := by have := hk.out; omega
        clear hA hs2 hi2
        go_wp2_with fail
        go_roundw
        case rel => exact ⟨i + 1, k, mo, L, by omega, by omega, by omega, by go_num, rfl, rfl, hrow, hp2, fun e => absurd e HI2.out, hbel⟩
        case measure => simp [intOf]; omega
    · obtain rfl : i = s.size := by omega
      obtain ⟨rfl, rfl⟩ := HE.out rfl
      have hv : Hid (M.val L = T.dv S) := by
        have := hp.sum
        rw [Nat.mul_one, Nat.add_zero, List.take_of_length_le (by rw [HL.out]; exact Nat.le_refl _)] at this
        exact this
      have hlm := hp.len
      have HT2 := Lib.hid (trim_any (some ⟨w.heap.size, 0, none⟩) m m L wr (hrow.lims hp.fit hlm) (Nat.le_refl _) (by unfold maxLen; omega))
      clear hlm
      go_wp2_with fail
      refine HT2.out.mono ?_
      rintro e w2 hT
      obtain ⟨A3, n3, c3, rfl, t1, t2, t3, t4, t5, t6, rfl⟩ := hT
      have T2 := Lib.hid t2
      have T3 := Lib.hid (t3.trans hv.out)
      clear t2 t3
      go_wp2_with fail
      go_ret2
      exact ⟨_, rfl, ⟨A3, n3, c3, _, rfl, t1, T2.out, T3.out, t5, by unfold maxLen; omega⟩, hbel⟩
end Go.Proofs.Ytiehkciofggonaa
