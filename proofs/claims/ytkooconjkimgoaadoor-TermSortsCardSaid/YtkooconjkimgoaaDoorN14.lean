/- The law TermSorts. -/
import Derived.Test.YtkooconjkimgoaaDoorNKD
import Derived.Test.YtkooconjkimgoaaDoorN9
import Derived.Test.YtkooconjkimgoaaDoorN11
namespace Go.Proofs.YtkooconjkimgoaaDoor
open Go.RowKit

set_option maxRecDepth 100000 in
theorem ksorted9 (w : World) (b : Nat) (F : Nat → Prop) (l : List Nd) (h : Bk w b F l) (s : ByteArray) (sort : Int) (hln : l.length ≤ 30000) (hT : Pow9 w) :
    Calls Tryd.prog 14 #[.pointer (some ⟨b, 0, none⟩), .string s, .int .i64 sort] w fun e w' => e = .returned (.int .i64 (if (Tm.const l s sort).2.2 = 0 then (Tm.const l s sort).2.1 else -1)) ∧ ∃ F', Bk w' b F' (Tm.const l s sort).1 ∧ Turn F w w' ∧ ∀ k, F' k → F k ∨ w.heap.size ≤ k := by
  have HC := Lib.hid (kconst9 w b F l h s sort hln hT)
  generalize Tm.const l s sort = r at HC
  obtain ⟨l', id, e'⟩ := r
  by_cases he : e' = 0
  · subst he
    rw [if_pos rfl]
    clear h hT
    go_enter Tryd.func14, Tryd.ntmps14
    go_wp2_with fail
    refine HC.out.mono ?_
    rintro e w1 ⟨rfl, hq⟩
    have HQ := Lib.hid hq
    clear HC hq
    go_wp2
    go_ret
    exact ⟨rfl, HQ.out⟩
  · rw [if_neg he]
    have hne : (e' != 0) = true := bne_iff_ne.2 he
    clear h hT he
    go_enter Tryd.func14, Tryd.ntmps14
    go_wp2_with fail
    refine HC.out.mono ?_
    rintro e w1 ⟨rfl, hq⟩
    have HQ := Lib.hid hq
    clear HC hq
    go_wp2
    go_ret
    exact ⟨rfl, HQ.out⟩

theorem sameN_self9 (l : List Int) : sameN l l = true := by unfold sameN; exact decide_eq_true rfl
abbrev Tm.cst (s : Int) : Nd := ⟨1, s, [], ⟨#[99]⟩, 0, []⟩
/-- constants alone -/
def Tm.Flat (l : List Nd) : Prop := ∀ x ∈ l, x.op = 1 ∧ x.a = [] ∧ x.num = 0 ∧ x.str = []
theorem Tm.cst_bad {l : List Nd} {s : Int} (h : s < 1 ∨ 3 < s) : Tm.const l ⟨#[99]⟩ s = (l, 0, 1) := by
  unfold Tm.const
  rw [if_pos (by omega)]
theorem Tm.cst_good {l : List Nd} {s : Int} (h1 : 1 ≤ s) (h3 : s ≤ 3) (hl : Tm.Flat l) (hI : Tm.Inv l) (hn : l.length ≤ 100) :
    ∃ (l' : List Nd) (q : Nat), Tm.const l ⟨#[99]⟩ s = (l', (q : Int), 0) ∧ Tm.Flat l' ∧ Tm.Inv l' ∧ l'.length ≤ l.length + 1 ∧ l'[q]? = some (Tm.cst s) ∧ ∃ m, l' = l ++ m := by
  have hc : Tm.const l ⟨#[99]⟩ s = Tm.add l (Tm.cst s) := by
    unfold Tm.const
    rw [if_neg (by
      have : (⟨#[99]⟩ : ByteArray).size = 1 := rfl
      omega)]
  rw [hc]
  rcases Tm.add_ways l (Tm.cst s) with ⟨hx, e⟩ | ⟨_, hf, _⟩ | ⟨hx, _, e⟩
  · exact ⟨l, _, e, hl, hI, by omega, (Tm.idx_mem hx).1, [], by simp⟩
  · omega
  · refine ⟨l ++ [Tm.cst s], l.length, e, fun y hy => ?_, hI.snoc hx ⟨h1, h3⟩ (fun p hp => absurd hp List.not_mem_nil) (fun e => absurd e (by simp)), by simp, by simp, [Tm.cst s], rfl⟩
    rcases List.mem_append.1 hy with hy | hy
    · exact hl y hy
    · rw [List.mem_singleton.1 hy]
      exact ⟨rfl, rfl, rfl, rfl⟩
/-- beside a row that grows, a bank of constants lasts -/
theorem Bk.flat {G F : Nat → Prop} {w w' : World} {b : Nat} {l : List Nd} (h : Bk w b F l) (hl : Tm.Flat l) (hT : Turn G w w') (hG : ∀ k, F k → ¬ G k) : Bk w' b F l := by
  obtain ⟨⟨Ft, A, c, L, h1, h2, h3, h4, h5, h6⟩, hg⟩ := h
  have hL : L.length = l.length := by rw [← h5, List.length_map]
  refine ⟨⟨Ft, A, c, L, h1.turn hT (fun i hi => hG i ((h2 i).2 (.inl hi))), h2, h3, h4.turn9 hL hT (fun k hk => hG k ((h2 k).2 (.inr hk))), h5, fun q hq => ?_⟩, hg⟩
  have q1 := h6 q hq
  obtain ⟨_, ea, en, es⟩ := hl q.2 (by rw [← h5]; exact List.mem_map_of_mem hq)
  have n1 : q.1.n = 0 := by rw [← q1.a.len, ea]; rfl
  have n2 : q.1.m = 0 := by rw [← q1.num.1, en, Tm.limbs_zero]; rfl
  have n3 : q.1.p = 0 := by rw [← q1.str.len, es]; rfl
  refine ⟨⟨q1.a.len, fun hn => by omega⟩, ⟨q1.num.1, q1.num.2.1, fun hn => by omega⟩, ⟨q1.str.len, fun hn => by omega⟩, q1.neg, q1.cap, q1.few, q1.wfa, q1.wfs, q1.g⟩

set_option maxRecDepth 100000 in
set_option maxHeartbeats 4000000 in
theorem termSorts_walk (w : World) (op : Int) (A : Option Addr) (n c : Nat) (ss : List Int) (h : ArgI w A n c ss) (hT : Pow9 w) (hK : Ask9 w) :
    Calls Tryd.prog 6 #[.int .i64 op, .slice A n c] w fun e w' => e = .returned (.bool true) ∧ Below w.heap.size w w' := by
  have HA := Lib.hid (kawake9 w hT hK)
  have HTp := Lib.hid hT
  have HKp := Lib.hid hK
  have HS := Lib.hid (NumS.of_arg h)
  have HSl : Hid (ss.length = n) := (NumS.of_arg h).len
  clear h hT hK
  by_cases hn6 : 6 < n
  · have hn6' : (6 : Int) < (n : Int) := by omega
    clear hn6
    go_enter Tryd.func6, Tryd.ntmps6
    go_wp2_with fail
    refine HA.out.mono ?_
    rintro e w1 ⟨rfl, b1⟩
    have B1 := Lib.hid b1
    clear b1 HA
    go_wp2
    go_ret
    exact ⟨rfl, B1.out⟩
  have hn6' : ¬ (6 : Int) < (n : Int) := by omega
  go_enter Tryd.func6, Tryd.ntmps6
  go_wp2_with fail
  refine HA.out.mono ?_
  rintro e w1 ⟨rfl, b1⟩
  have bw0 := BW.new w w1 b1
  obtain ⟨W0, hW0⟩ : ∃ W0, w1.alloc (.cells Z9 32) = W0 := ⟨_, rfl⟩
  rw [hW0] at bw0
  have HB0 := Lib.hid bw0
  obtain ⟨bk, hbk⟩ : ∃ bk, w1.heap.size = bk := ⟨_, rfl⟩
  rw [hbk] at HB0
  obtain ⟨iI, iI1, iI2, iI3, iI4⟩ := info_parts infoI9
  clear bw0 b1 HA
  go_wp2
  go_loopw [7, 8] (fun av iv wr => ∃ (i d : Nat) (D : Option Addr), i ≤ n ∧ av = .slice D i d ∧ iv = .int .i64 (i : Nat) ∧ Hid (∃ (F : Nat → Prop) (l : List Nd) (al : List Int), BW w wr bk F l ∧ Tm.Flat l ∧ l.length ≤ i ∧ wr.ownsRow w.heap.size 3 1 (.slice D i d) i (i64s al) ∧ (∀ k, (Value.slice D i d).ownBlock = some k → ¬ F k) ∧ al.length = i ∧ (∀ (j : Nat) z, al[j]? = some z → ∃ q : Nat, z = (q : Int) ∧ q < l.length ∧ (l[q]?.map (·.sort)) = ss[j]?) ∧ ∀ (j : Nat) s, j < i → ss[j]? = some s → 1 ≤ s ∧ s ≤ 3)) (fun _ iv _ => n - (intOf iv).toNat)
  case atStart => exact ⟨0, 0, none, Nat.zero_le _, rfl, rfl, _, [], [], HB0.out, fun x hx => absurd hx List.not_mem_nil, Nat.zero_le _, World.ownsRow_nil _ _ _ _, (fun _ e => nomatch e), rfl, fun j z hz => by simp at hz, fun j s hj => absurd hj (Nat.not_lt_zero _)⟩
  case round =>
    obtain ⟨i, d, D, hi, rfl, rfl, HQ⟩ := hrel
    by_cases hlt : i < n
    · have hlt' : (i : Int) < (n : Int) := by omega
      have hi0 : (0 : Int) ≤ (i : Int) := by omega
      obtain ⟨F, l, al, hbw, hfl, hll, hown, hFo, hal, hat, hok⟩ := HQ.out
      obtain ⟨bA, oA, s, rfl, hs, _, _, hcs⟩ := HS.out.get hlt
      have cs := (hcs wr hbw.bel).2
      have hiw : IntKind.i64.wrap ((i : Int) + 1) = (i : Int) + 1 := IntWalk.i64_in _ (by omega)
      have HSo := Lib.hid (ksorted9 wr bk F l hbw.bk ⟨#[99]⟩ s (by omega) (HTp.out.on hbw.bel))
      by_cases hbad : s < 1 ∨ 3 < s
      · -- no constant
        rw [Tm.cst_bad hbad] at HSo
        have HBl : Hid (Below w.heap.size w wr ∧ ∀ k, F k → w.heap.size ≤ k) := ⟨hbw.bel, hbw.far⟩
        have HCs : Hid (∀ W, Below w.heap.size w W → W.cell? ⟨bA, oA + i, none⟩ = some (.int .i64 s)) := fun W hW => (hcs W hW).2
        clear hbw hfl hll hown hFo hal hat hok hs hcs HS HSl HTp HKp HQ
        go_wp2_with fail
        refine HSo.out.mono ?_
        rintro e w3 ⟨rfl, F3, k3, t3, f3⟩
        have hB3 := HBl.out.1.trans (t3.below HBl.out.1.size HBl.out.2)
        have cs3 := HCs.out w3 hB3
        have HB3 := Lib.hid hB3
        clear HSo k3 t3 f3 HBl HCs cs hB3
        by_cases hs1 : s < 1
        · clear hbad
          go_wp2
          go_ret
          exact ⟨rfl, HB3.out⟩
        · have hs3 : 3 < s := by omega
          have hs1' : 1 ≤ s := by omega
          clear hbad
          go_wp2
          go_ret
          exact ⟨rfl, HB3.out⟩
      · obtain ⟨l', q, hc, hfl', hI', hll', hq, m, hm⟩ := Tm.cst_good (l := l) (s := s) (by omega) (by omega) hfl hbw.inv (by omega)
        rw [hc] at HSo
        simp only [if_true] at HSo
        have hql : q < l'.length := (List.getElem?_eq_some_iff.1 hq).1
        have hq0 : (0 : Int) ≤ (q : Int) := by omega
        have hq0' : ¬ (q : Int) < 0 := by omega
        have hwl : w.heap.size ≤ wr.heap.size := hbw.bel.size
        -- what the round leaves, whatever row the list lies in
        have HV : Hid (∀ w3 F3 D' d' w4, Bk w3 bk F3 l' → Turn F wr w3 → (∀ k, F3 k → F k ∨ wr.heap.size ≤ k) → w4.ownsRow w.heap.size 3 1 (.slice D' (i + 1) d') (i + 1) (i64s al ++ [.int .i64 (q : Int)]) → (w3.alloc (.cells #[.int .i64 (q : Int)] 3)).grownBy w4 (Value.slice D i d).ownBlock → ((Value.slice D' (i + 1) d').ownBlock = (Value.slice D i d).ownBlock ∨ (Value.slice D' (i + 1) d').ownBlock = some (w3.alloc (.cells #[.int .i64 (q : Int)] 3)).heap.size) →
            ∃ (F : Nat → Prop) (l : List Nd) (al : List Int), BW w w4 bk F l ∧ Tm.Flat l ∧ l.length ≤ i + 1 ∧ w4.ownsRow w.heap.size 3 1 (.slice D' (i + 1) d') (i + 1) (i64s al) ∧ (∀ k, (Value.slice D' (i + 1) d').ownBlock = some k → ¬ F k) ∧ al.length = i + 1 ∧ (∀ (j : Nat) z, al[j]? = some z → ∃ q : Nat, z = (q : Int) ∧ q < l.length ∧ (l[q]?.map (·.sort)) = ss[j]?) ∧ ∀ (j : Nat) s, j < i + 1 → ss[j]? = some s → 1 ≤ s ∧ s ≤ 3) := fun w3 F3 D' d' w4 k3 t3 f3 o4 g4 v4 => by
          have b3 := hbw.next k3 hI' t3 f3
          have hgr : ∀ k, (Value.slice D i d).ownBlock = some k → k < wr.heap.size ∧ ¬ F3 k := fun k hk => by
            have h1 := (World.ownsRow.lt hown k hk).2
            exact ⟨h1, fun e => (f3 k e).elim (hFo k hk) (fun e2 => by omega)⟩
          have hlt3 := k3.lt
          have t4 : Turn (fun k => (Value.slice D i d).ownBlock = some k) w3 w4 := ((Turn.refl (fun k => (Value.slice D i d).ownBlock = some k) w3).alloc (.cells #[.int .i64 (q : Int)] 3)).trans (Turn.of_grown g4 (fun _ e _ => e)) (fun _ e => .inl e)
          have k4 := k3.flat hfl' t4 (fun k hk e => (hgr k e).2 hk)
          have hbel4 : Below w.heap.size w w4 := b3.bel.trans (t4.below b3.bel.size (fun k hk => (World.ownsRow.lt hown k hk).1))
          refine ⟨F3, l', al ++ [(q : Int)], ⟨k4, hI', b3.far, hbel4⟩, hfl', by omega, by
            have e4 : i64s (al ++ [(q : Int)]) = i64s al ++ [.int .i64 (q : Int)] := by unfold i64s; rw [List.map_append]; rfl
            rw [e4]
            exact o4, fun k hk e => ?_, by simp [hal], fun j z hz => ?_, fun j s' hj hs' => ?_⟩
          · rcases v4 with e2 | e2
            · rw [e2] at hk
              exact (hgr k hk).2 e
            · rw [e2] at hk
              have := Option.some.inj hk
              have := hlt3 k e
              simp at *
              omega
          · rcases Nat.lt_or_ge j i with e | e
            · rw [List.getElem?_append_left (by omega)] at hz
              obtain ⟨q', h1, h2, h3⟩ := hat j z hz
              refine ⟨q', h1, by rw [hm, List.length_append]; omega, ?_⟩
              rw [hm, List.getElem?_append_left h2]
              exact h3
            · have hj := (List.getElem?_eq_some_iff.1 hz).1
              simp [hal] at hj
              obtain rfl : j = i := by omega
              rw [List.getElem?_append_right (by omega), hal, Nat.sub_self] at hz
              obtain rfl : (q : Int) = z := by simpa using hz
              exact ⟨q, rfl, hql, by rw [hq, hs]; rfl⟩
          · rcases Nat.lt_or_ge j i with e | e
            · exact hok j s' e hs'
            · obtain rfl : j = i := by omega
              rw [hs] at hs'
              rw [← Option.some.inj hs']
              omega
        have HO : Hid (∀ w3, Turn F wr w3 → w3.ownsRow w.heap.size 3 1 (.slice D i d) i (i64s al)) := fun w3 t3 => t3.own hown hFo
        have HWl : Hid (w.heap.size ≤ wr.heap.size) := hwl
        have hmx : i + 1 ≤ maxLen := by unfold maxLen; omega
        have hbt : (i + 1) * 8 ≤ 140737488355328 := by omega
        obtain ⟨LV, hLV⟩ : ∃ LV, i64s al = LV := ⟨_, rfl⟩
        rw [hLV] at HV HO
        clear hbw hfl hll hown hFo hal hat hok hs hcs HS HSl HTp HKp HQ hc hfl' hI' hll' hq hm hql hLV hwl hbad
        go_wp2_with fail
        refine HSo.out.mono ?_
        rintro e w3 ⟨rfl, F3, k3, t3, f3⟩
        have O3 := Lib.hid (HO.out w3 t3)
        have hs3 : w.heap.size ≤ w3.heap.size := Nat.le_trans HWl.out t3.size
        have HV3 : Hid (∀ D' d' w4, w4.ownsRow w.heap.size 3 1 (.slice D' (i + 1) d') (i + 1) (LV ++ [.int .i64 (q : Int)]) → (w3.alloc (.cells #[.int .i64 (q : Int)] 3)).grownBy w4 (Value.slice D i d).ownBlock → ((Value.slice D' (i + 1) d').ownBlock = (Value.slice D i d).ownBlock ∨ (Value.slice D' (i + 1) d').ownBlock = some (w3.alloc (.cells #[.int .i64 (q : Int)] 3)).heap.size) → _) := fun D' d' w4 q1 q2 q3 => HV.out w3 F3 D' d' w4 k3 t3 f3 q1 q2 q3
        clear HSo k3 t3 f3 HV HO HWl cs
        go_wp2_with (at_builtin; refine append_row _ rfl (.tmp 56) (.tmp 58) 36 rfl w.heap.size 3 iI (.int .i64 0) 8 Tryd.underlying36 iI1 iI2 iI3 iI4 rfl (.slice D i d) i LV (by simp [Act.eval]) (O3.out.alloc _) ⟨w3.heap.size, 0, none⟩ 1 1 [.int .i64 (q : Int)] (by simp [Act.eval]) rfl (cell_one_new _ _ _) (fun u hu => by simp at hu; subst hu; rfl) hmx hbt (by simp; omega) ?_; intro D4 d4 w4 o4 g4 a4; refine Hid.out ?_)
        refine Lib.hid ?_
        have HV4 := Lib.hid (HV3.out D4 d4 w4 o4 g4 a4)
        clear HV3 o4 g4 a4 O3
        go_wp2
        go_roundw
        case rel => exact ⟨i + 1, d4, D4, by omega, by go_num, by go_num, HV4.out⟩
        case measure => simp [intOf]; omega
    · have him : i = n := by omega
      have hlt2 : ¬ (i : Int) < (n : Int) := by omega
      obtain ⟨F, l, al, hbw, hfl, hll, hown, hFo, hal, hat, hok⟩ := HQ.out
      obtain ⟨ln, hln⟩ : ∃ ln, l.length = ln := ⟨_, rfl⟩
      have hll' : ln ≤ 6 := by omega
      have HLn := Lib.hid (klen9 wr bk F l hbw.bk)
      rw [hln] at HLn
      have hgs : Gs (fun k => (Value.slice D i d).ownBlock = some k) D i := fun a ea _ => by
        rcases hown.2 with ⟨q, _⟩ | ⟨g, cap, cur, q1, _⟩
        · injection q with q _ _
          rw [ea] at q
          cases q
        · injection q1 with q1 _ _
          rw [ea] at q1
          rw [ea, Option.some.inj q1]
          rfl
      have hwa : ∀ z ∈ al, (Lit.int .i64 z).wf = true := fun z hz => by
        obtain ⟨j, hj⟩ := List.getElem?_of_mem hz
        obtain ⟨q, rfl, hq, _⟩ := hat j z hj
        exact wf_nat (by omega)
      have HApp : Hid (∀ w3, Below wr.heap.size wr w3 → Calls Tryd.prog 15 #[.pointer (some ⟨bk, 0, none⟩), .int .i64 op, .slice D i d] w3 fun e w' => BAns w3 bk F (Tm.app l op al) e w') := fun w3 b3 => by
        have hb3 := hbw.below b3
        exact kapp9 w3 bk F l hb3.bk hb3.inv op D i d al (G := fun k => (Value.slice D i d).ownBlock = some k) ((own_nums hown hal).below b3) hwa hgs hFo (by omega) (by omega) (HTp.out.on hb3.bel) (HKp.out.below hb3.bel)
      have HAs := Lib.hid fun W => rasks9 op W
      have HNum : Hid (∀ w3 w4, Below wr.heap.size wr w3 → Turn F w3 w4 → NumS w4 D i al) := fun w3 w4 b3 t4 => ((own_nums hown hal).below b3).turn t4 hgs hFo
      have HBel : Hid (∀ w3 w4, Below wr.heap.size wr w3 → Turn F w3 w4 → Below w.heap.size w w4) := fun w3 w4 b3 t4 => by
        have hb3 := hbw.below b3
        exact hb3.bel.trans (t4.below hb3.bel.size hb3.far)
      rcases Tm.app_new (l := l) (op := op) (a := al) (fun x hx => (hfl x hx).1) (by omega) with ⟨e, he, happ⟩ | ⟨wl, more, own, hask, hwl, hall, happ⟩
      · -- an error: nothing is new
        rw [happ] at HApp
        have hne : (e != 0) = true := bne_iff_ne.2 he
        obtain ⟨T, hT⟩ : ∃ T, Tm.wantB op = T := ⟨_, rfl⟩
        obtain ⟨O, hO⟩ : ∃ O, Tm.ownB op = O := ⟨_, rfl⟩
        rw [hT, hO] at HAs
        clear hbw hfl hll hown hFo hal hat hok hgs hwa happ he hT hO HNum HQ HS HSl HTp HKp HB0 hlt hi him hll'
        go_wp2_with fail
        refine HLn.out.mono ?_
        rintro x w3 ⟨rfl, b3⟩
        have HA3 := Lib.hid (HApp.out w3 b3)
        have HB3 := Lib.hid b3
        clear HLn HApp b3
        go_wp2_with fail
        refine HA3.out.mono ?_
        rintro x w4 ⟨rfl, F4, k4, t4, f4⟩
        have HL4 := Lib.hid (klen9 w4 bk F4 l k4)
        rw [hln] at HL4
        have HV4 := Lib.hid (HBel.out w3 w4 HB3.out t4)
        clear HA3 k4 t4 f4 HBel HB3
        go_wp2_with fail
        refine (HAs.out w4).mono ?_
        rintro x w5 ⟨rfl, rfl⟩
        clear HAs
        go_wp2_with fail
        refine HL4.out.mono ?_
        rintro x w6 ⟨rfl, b6⟩
        have HV := Lib.hid (HV4.out.trans (b6.mono HV4.out.size))
        clear HL4 HV4 b6
        go_wp2
        go_ret
        exact ⟨rfl, HV.out⟩
      · -- a new term
        obtain ⟨wq1, _, _, _⟩ := Tm.asks_form hask
        obtain ⟨eW, eO⟩ := Tm.wantB_some hask
        obtain ⟨T, hT⟩ : ∃ T, Tm.wantB op = T := ⟨_, rfl⟩
        obtain ⟨O, hO⟩ : ∃ O, Tm.ownB op = O := ⟨_, rfl⟩
        rw [hT] at eW HAs
        rw [hO] at eO HAs
        have hTe : T.toList.isEmpty = false := bytes_some (by
          rw [eW, Tm.bs_size, List.length_append]
          omega)
        have hn1 : 1 ≤ i := by omega
        obtain ⟨k, hk⟩ : ∃ k, i = k + 1 := ⟨i - 1, by omega⟩
        have hnk : (n : Int) - 1 = (k : Int) := by omega
        have hkn : (k : Int) < (n : Int) := by omega
        have hk0 : (0 : Int) ≤ (k : Int) := by omega
        obtain ⟨bA, oA, sl, rfl, hsl, _, _, hcs⟩ := HS.out.get (i := k) (by omega)
        obtain ⟨so, hso⟩ : ∃ so, Tm.own own (al.map (Tm.letAt l)) = so := ⟨_, rfl⟩
        have hnd : Tm.node op own l al = ⟨op, so, al, ByteArray.empty, 0, []⟩ := by unfold Tm.node; rw [hso]
        have hways := Tm.own_sort hask hbw.inv hall hwl
        rw [hso] at hways
        have hlast : own = 61 → so = sl := fun e61 => by
          rcases hways with ⟨e, _⟩ | ⟨e, _⟩ | ⟨e, _⟩ | ⟨_, p, x, hp, hx, hs⟩
          · omega
          · omega
          · omega
          · have hp' : al[k]? = some p := by
              rw [List.getLast?_eq_getElem?, hal, hk, Nat.add_sub_cancel] at hp
              exact hp
            obtain ⟨q, rfl, _, h3⟩ := hat k p hp'
            rw [Int.toNat_natCast] at hx
            rw [hx, hsl] at h3
            rw [hs]
            exact Option.some.inj h3
        have HOw : Hid ((own = 66 ∧ so = 1) ∨ (own = 73 ∧ so = 2) ∨ (own = 83 ∧ so = 3) ∨ (own = 61 ∧ so = sl)) := by
          rcases hways with e | e | e | ⟨e, _⟩
          · exact .inl e
          · exact .inr (.inl e)
          · exact .inr (.inr (.inl e))
          · exact .inr (.inr (.inr ⟨e, hlast e⟩))
        rw [hnd] at happ
        rw [happ] at HApp
        obtain ⟨nd, hndd⟩ : ∃ nd : Nd, (⟨op, so, al, ByteArray.empty, 0, []⟩ : Nd) = nd := ⟨_, rfl⟩
        rw [hln, hndd] at HApp
        have HCs : Hid (∀ W, Below w.heap.size w W → W.cell? ⟨bA, oA + k, none⟩ = some (.int .i64 sl)) := fun W hW => (hcs W hW).2
        have HGet : Hid ((l ++ [nd])[ln]? = some nd) := by
          show (l ++ [nd])[ln]? = some nd
          rw [← hln]
          simp
        have HLen : Hid ((l ++ [nd]).length = ln + 1) := by
          show (l ++ [nd]).length = ln + 1
          rw [List.length_append, hln]
          rfl
        have HNd := Lib.hid hndd
        have HEO := Lib.hid eO
        clear hbw hfl hll hown hFo hal hat hok hgs hwa happ hT hO HQ HS HSl HTp HKp HB0 hlt hi him wq1 eW eO hk hsl hcs hso hnd hways hlast hask hwl hall hndd
        go_wp2_with fail
        refine HLn.out.mono ?_
        rintro x w3 ⟨rfl, b3⟩
        have HA3 := Lib.hid (HApp.out w3 b3)
        have HB3 := Lib.hid b3
        clear HLn HApp b3
        go_wp2_with fail
        refine HA3.out.mono ?_
        rintro x w4 ⟨rfl, F4, k4, t4, f4⟩
        have HL4 := Lib.hid fun W (hW : Below w4.heap.size w4 W) => klen9 W bk F4 (l ++ [nd]) (k4.below hW)
        rw [HLen.out] at HL4
        have HAt := Lib.hid (kat9 w4 bk F4 (l ++ [nd]) ln nd k4 HGet.out)
        have HV4 := Lib.hid (HBel.out w3 w4 HB3.out t4)
        have HN4 := Lib.hid (HNum.out w3 w4 HB3.out t4)
        clear HA3 k4 t4 f4 HBel HB3 HNum HGet HLen
        go_wp2_with fail
        refine (HAs.out w4).mono ?_
        rintro x wA ⟨rfl, hwA⟩
        have hwB := hwA.symm
        clear hwA
        subst hwB
        clear HAs
        go_wp2_with fail
        refine HAt.out.mono ?_
        rintro x w5 ⟨⟨P, rfl, hP⟩, b5⟩
        obtain ⟨W6, hW6⟩ : ∃ W6, w5.alloc (.cells (P.cells nd) 47) = W6 := ⟨_, rfl⟩
        have hB6 : Below w4.heap.size w4 W6 := by rw [← hW6]; exact b5.alloc b5.size _
        have hL6 : Lies W6 w5.heap.size 47 (P.cells nd) := by rw [← hW6]; exact Lies.new w5 _ _
        have hP6 : NdAs W6 (fun _ => True) P nd := by rw [← hW6]; exact hP.below ((Below.refl _ w5).alloc (Nat.le_refl _) _)
        have hPa : NumS W6 P.A P.n al := by rw [← HNd.out] at hP6; exact hP6.a
        have HI := Lib.hid (rints W6 P.A P.n P.c al D i d al hPa (HN4.out.below hB6) (by have := hP6.few.1; omega))
        rw [sameN_self9] at HI
        have e0 : W6.cell? ⟨w5.heap.size, 0, none⟩ = some (.int .i64 op) := by rw [hL6.cell, ← HNd.out]; rfl
        have e1 : W6.cell? ⟨w5.heap.size, 1, none⟩ = some (.int .i64 so) := by rw [hL6.cell, ← HNd.out]; rfl
        have e2 : W6.cell? ⟨w5.heap.size, 2, none⟩ = some (.slice P.A P.n P.c) := by rw [hL6.cell]; rfl
        have HL6 := Lib.hid hL6
        have HB6 := Lib.hid hB6
        clear HAt HN4 hP b5 hB6 hL6 hP6 hPa
        go_wp2_with fail
        refine HI.out.mono ?_
        rintro x w7 ⟨rfl, b7⟩
        have hB7 := HB6.out.trans (b7.mono HB6.out.size)
        have hL7 := (b7.block _ HL6.out.lt).trans HL6.out
        have HL7 := Lib.hid (HL4.out w7 hB7)
        have HB7 := Lib.hid hB7
        have HLb := Lib.hid hL7
        have hlw : IntKind.i64.wrap ((ln : Int) + 1) = (ln : Int) + 1 := IntWalk.i64_in _ (by omega)
        clear HI HL4 HB6 HL6 b7 hB7 hL7 e0 e1 e2 hW6
        go_wp2_with fail
        refine HL7.out.mono ?_
        rintro x w8 ⟨rfl, b8⟩
        have hB8 := HB7.out.trans (b8.mono HB7.out.size)
        have hL8 : Lies w8 w5.heap.size 47 (P.cells nd) := (b8.block _ (Lies.lt (t := 47) HLb.out)).trans HLb.out
        have e0 : w8.cell? ⟨w5.heap.size, 0, none⟩ = some (.int .i64 op) := by rw [hL8.cell, ← HNd.out]; rfl
        have e1 : w8.cell? ⟨w5.heap.size, 1, none⟩ = some (.int .i64 so) := by rw [hL8.cell, ← HNd.out]; rfl
        have hB9 := HV4.out.trans (hB8.mono HV4.out.size)
        have ec := HCs.out w8 hB9
        have HV := Lib.hid hB9
        clear HL7 HB7 HLb b8 hB8 hL8 hB9 HCs HV4 HNd
        have hE := HEO.out
        rcases HOw.out with ⟨rfl, rfl⟩ | ⟨rfl, rfl⟩ | ⟨rfl, rfl⟩ | ⟨rfl, rfl⟩
        · have q1 : (O.toList == [66]) = true := by rw [hE, ByteArray.toList_eq]; decide
          clear hE HEO HOw
          go_wp2
          go_ret
          exact ⟨rfl, HV.out⟩
        · have q1 : (O.toList == [66]) = false := by rw [hE, ByteArray.toList_eq]; decide
          have q2 : (O.toList == [73]) = true := by rw [hE, ByteArray.toList_eq]; decide
          clear hE HEO HOw
          go_wp2
          go_ret
          exact ⟨rfl, HV.out⟩
        · have q1 : (O.toList == [66]) = false := by rw [hE, ByteArray.toList_eq]; decide
          have q2 : (O.toList == [73]) = false := by rw [hE, ByteArray.toList_eq]; decide
          have q3 : (O.toList == [83]) = true := by rw [hE, ByteArray.toList_eq]; decide
          clear hE HEO HOw
          go_wp2
          go_ret
          exact ⟨rfl, HV.out⟩
        · have q1 : (O.toList == [66]) = false := by rw [hE, ByteArray.toList_eq]; decide
          have q2 : (O.toList == [73]) = false := by rw [hE, ByteArray.toList_eq]; decide
          have q3 : (O.toList == [83]) = false := by rw [hE, ByteArray.toList_eq]; decide
          have q4 : (O.toList == [61]) = true := by rw [hE, ByteArray.toList_eq]; decide
          clear hE HEO HOw
          go_wp2
          go_ret
          exact ⟨rfl, HV.out⟩
end Go.Proofs.YtkooconjkimgoaaDoor
