/- TableDoes: any calls of a table answer what the document says. -/
import Derived.Test.YtgijagdnhajkhaaT17
namespace Go.Proofs.Ytgijagdnhajkhaa
open Go.RowKit

/-- a table of the keys ks, and a list of the reference's that reads as rs, apart from it -/
def Both (w0 w : World) (tb : Nat) (ks : List ByteArray) (A : Option Addr) (m c : Nat) (rs : List ByteArray) : Prop :=
  ∃ F : Nat → Prop, Tabs w F tb ks ∧ Rd w (fun b => ¬ F b) A m c (strs rs) ∧ Below w0.heap.size w0 w ∧ ∀ i, F i → w0.heap.size ≤ i
theorem Both.own {w0 w : World} {tb m c : Nat} {A : Option Addr} {ks rs : List ByteArray} (h : Both w0 w tb ks A m c rs) : OwnTs w0 w tb ks := by
  obtain ⟨F, h1, _, h3, h4⟩ := h
  exact ⟨F, h1, h3, h4⟩
theorem Both.len {w0 w : World} {tb m c : Nat} {A : Option Addr} {ks rs : List ByteArray} (h : Both w0 w tb ks A m c rs) : rs.length = m := by
  obtain ⟨F, _, h2, _⟩ := h
  have := h2.len
  rwa [List.length_map] at this
theorem Both.new {w0 w : World} (h : Below w0.heap.size w0 w) : Both w0 (w.alloc (.cells #[.map none, .slice none 0 0] 28)) w.heap.size [] none 0 0 [] :=
  ⟨_, Tabs.new w, Rd.nil_ _ _, h.alloc h.size _, fun i e => by rw [e]; exact h.size⟩
theorem Both.step {w0 w w' : World} {tb m c : Nat} {A : Option Addr} {ks rs : List ByteArray} (h : Both w0 w tb ks A m c rs) (hb : Below w.heap.size w w') : Both w0 w' tb ks A m c rs := by
  obtain ⟨F, h1, h2, h3, h4⟩ := h
  exact ⟨F, h1.below hb, h2.below hb, h3.trans (hb.mono h3.size), h4⟩
theorem Both.left {w0 w w' : World} {F : Nat → Prop} {tb m c : Nat} {A : Option Addr} {ks rs : List ByteArray} (h : Lefts w F tb ks w') (hr : Rd w (fun b => ¬ F b) A m c (strs rs)) (hb : Below w0.heap.size w0 w) (hF : ∀ i, F i → w0.heap.size ≤ i) : Both w0 w' tb ks A m c rs := by
  obtain ⟨F', h1, h2, h3, h4⟩ := h
  refine ⟨F', h1, ((hr.mono (G' := fun b => ¬ F b ∧ b < w.heap.size) (fun b hb q => ⟨q, hb⟩)).turn h2 (fun b _ q => q.1)).mono (fun b _ q e => (h4 b e).elim q.1 (fun e => by omega)), hb.trans (h2.below hb.size hF), fun i hi => (h4 i hi).elim (hF i) (fun e => Nat.le_trans hb.size e)⟩
/-- the reference answers another list: the table stays -/
theorem Both.gives {w0 w w' : World} {tb : Nat} {ks rs' : List ByteArray} {G : Nat → Prop} {v : Value} {F : Nat → Prop} (hG : G = fun b => ¬ F b) (h1 : Tabs w F tb ks) (h3 : Below w0.heap.size w0 w) (h4 : ∀ i, F i → w0.heap.size ≤ i) (q : RGives w G rs' v w') :
    ∃ A' c', v = .slice A' rs'.length c' ∧ Both w0 w' tb ks A' rs'.length c' rs' := by
  obtain ⟨⟨A', n', c', e, r⟩, b⟩ := q
  subst hG
  obtain rfl : n' = rs'.length := by have := r.len; rw [List.length_map] at this; exact this.symm
  refine ⟨A', c', e, F, h1.below b, r.mono (fun x _ q e => ?_), h3.trans (b.mono h3.size), h4⟩
  rcases q with q | q
  · exact q e
  · have := h1.lt x e
    omega
theorem Both.cutT {w0 w : World} {tb m c : Nat} {A : Option Addr} {ks rs : List ByteArray} (i : Int) (n : Nat) (hi : i.toNat = n) (h : Both w0 w tb ks A m c rs) :
    Calls Try.prog 10 #[.pointer (some ⟨tb, 0, none⟩), .int .i64 i] w fun e w' => e = .returned (.tuple #[]) ∧ Both w0 w' tb (ks.take n) A m c rs := by
  obtain ⟨F, h1, h2, h3, h4⟩ := h
  exact (cuts w F tb ks i n hi h1).mono fun _ _ ⟨e, q⟩ => ⟨e, Both.left q h2 h3 h4⟩
theorem Both.cutR {w0 w : World} {tb m c : Nat} {A : Option Addr} {ks rs : List ByteArray} (i : Int) (n : Nat) (hi : i.toNat = n) (hm : m ≤ 1000000) (h : Both w0 w tb ks A m c rs) :
    Calls Try.prog 11 #[.slice A m c, .int .i64 i] w fun e w' => ∃ A' c', e = .returned (.slice A' (rs.take n).length c') ∧ Both w0 w' tb ks A' (rs.take n).length c' (rs.take n) := by
  obtain ⟨F, h1, h2, h3, h4⟩ := h
  refine (cut_ref w _ A m c rs i n hi hm h2).mono fun _ _ ⟨v, e, q⟩ => ?_
  obtain ⟨A', c', e2, q'⟩ := Both.gives rfl h1 h3 h4 q
  exact ⟨A', c', by rw [e, e2], q'⟩
theorem Both.oldT {w0 w : World} {tb m c : Nat} {A : Option Addr} {ks rs : List ByteArray} (x : ByteArray) (hx : x ∈ ks) (h : Both w0 w tb ks A m c rs) :
    Calls Try.prog 12 #[.pointer (some ⟨tb, 0, none⟩), .string x] w fun e w' => e = .returned (.tuple #[.int .i64 (ks.idxOf x : Nat), .bool false]) ∧ Both w0 w' tb ks A m c rs := by
  have H := h
  obtain ⟨F, h1, h2, h3, h4⟩ := h
  exact (adds_old w F tb ks x hx h1).mono fun _ _ ⟨e, q⟩ => ⟨e, H.step q⟩
theorem Both.newT {w0 w : World} {tb m c : Nat} {A : Option Addr} {ks rs : List ByteArray} (x : ByteArray) (hx : x ∉ ks) (hok : x.size ≤ maxLen) (hl : ks.length < 1000000) (h : Both w0 w tb ks A m c rs) :
    Calls Try.prog 12 #[.pointer (some ⟨tb, 0, none⟩), .string x] w fun e w' => e = .returned (.tuple #[.int .i64 (ks.length : Nat), .bool true]) ∧ Both w0 w' tb (ks ++ [x]) A m c rs := by
  obtain ⟨F, h1, h2, h3, h4⟩ := h
  exact (adds_new w F tb ks x hx hok hl h1).mono fun _ _ ⟨e, q⟩ => ⟨e, Both.left q h2 h3 h4⟩
theorem Both.oldR {w0 w : World} {tb m c : Nat} {A : Option Addr} {ks rs : List ByteArray} (x : ByteArray) (hx : x ∈ rs) (h : Both w0 w tb ks A m c rs) :
    Calls Try.prog 13 #[.slice A m c, .string x] w fun e w' => e = .returned (.tuple #[.slice A m c, .int .i64 (rs.idxOf x : Nat), .bool false]) ∧ w' = w := by
  obtain ⟨F, h1, h2, h3, h4⟩ := h
  exact add_ref_old w _ A m c rs x hx h2
theorem Both.newR {w0 w : World} {tb m c : Nat} {A : Option Addr} {ks rs : List ByteArray} (x : ByteArray) (hx : x ∉ rs) (hm : m ≤ 1000000) (h : Both w0 w tb ks A m c rs) :
    Calls Try.prog 13 #[.slice A m c, .string x] w fun e w' => ∃ A' c', e = .returned (.tuple #[.slice A' (m + 1) c', .int .i64 (m : Nat), .bool true]) ∧ Both w0 w' tb ks A' (m + 1) c' (rs ++ [x]) := by
  have hl : (rs ++ [x]).length = m + 1 := by rw [List.length_append, h.len]; rfl
  obtain ⟨F, h1, h2, h3, h4⟩ := h
  refine (add_ref_new w _ A m c rs x hx hm h2).mono fun _ _ ⟨v, e, q⟩ => ?_
  obtain ⟨A', c', e2, q'⟩ := Both.gives rfl h1 h3 h4 q
  rw [hl] at e2 q'
  exact ⟨A', c', by rw [e, e2], q'⟩
theorem Both.findT {w0 w : World} {tb m c : Nat} {A : Option Addr} {ks rs : List ByteArray} (x : ByteArray) (i : Int) (b : Bool) (hb : Places ks x i b) (hx : x.size ≤ maxLen) (h : Both w0 w tb ks A m c rs) :
    Calls Try.prog 14 #[.pointer (some ⟨tb, 0, none⟩), .string x] w fun e w' => e = .returned (.tuple #[.int .i64 i, .bool b]) ∧ Both w0 w' tb ks A m c rs := by
  have H := h
  obtain ⟨F, h1, h2, h3, h4⟩ := h
  exact (finds w F tb ks x i b hb hx h1).mono fun _ _ ⟨e, q⟩ => ⟨e, H.step q⟩
theorem Both.findR {w0 w : World} {tb m c : Nat} {A : Option Addr} {ks rs : List ByteArray} (x : ByteArray) (i : Int) (hb : Where rs x i) (h : Both w0 w tb ks A m c rs) :
    Calls Try.prog 15 #[.slice A m c, .string x] w fun e w' => e = .returned (.int .i64 i) ∧ w' = w := by
  obtain ⟨F, h1, h2, h3, h4⟩ := h
  exact find_ref w _ A m c rs x i hb h2
theorem Both.get {w0 w : World} {tb m c : Nat} {A : Option Addr} {ks rs : List ByteArray} (h : Both w0 w tb ks A m c rs) {j : Nat} (hj : j < m) :
    ∃ b off y, A = some ⟨b, off, none⟩ ∧ b < w.heap.size ∧ rs[j]? = some y ∧ w.cell? ⟨b, off + j, none⟩ = some (.string y) := by
  have hl := h.len
  obtain ⟨F, _, h2, _⟩ := h
  obtain ⟨b, off, e, _, hb, hc⟩ := h2.at_ (by omega)
  have hg : rs[j]? = some (rs[j]'(by omega)) := List.getElem?_eq_getElem (by omega)
  exact ⟨b, off, _, e, hb, hg, hc j _ (by rw [List.getElem?_map, hg]; rfl)⟩

theorem ArgO.cell {w : World} {A : Option Addr} {n c i : Nat} {l : List (Bool × ByteArray × Int)} (h : ArgO w A n c l) (hi : i < n) :
    ∃ b off x y z, A = some ⟨b, off, none⟩ ∧ y.size ≤ maxLen ∧ ∀ W, Below w.heap.size w W → b < W.heap.size ∧ W.cell? ⟨b, off + i * 3, none⟩ = some (.bool x) ∧ W.cell? ⟨b, off + i * 3 + 1, none⟩ = some (.string y) ∧ W.cell? ⟨b, off + i * 3 + 2, none⟩ = some (.int .i64 z) := by
  obtain ⟨b, off, e, hlt, hc⟩ := h.at_ (by omega)
  have hl := h.len
  have hg : l[i]? = some (l[i]'(by omega)) := List.getElem?_eq_getElem (by omega)
  obtain ⟨h1, h2, h3⟩ := hc i _ hg
  exact ⟨b, off, l[i].1, l[i].2.1, l[i].2.2, e, h.ok _ (List.getElem_mem _), fun W hb => ⟨Nat.lt_of_lt_of_le hlt hb.size, (hb.cell (p := ⟨b, off + i * 3, none⟩) hlt).trans h1, (hb.cell (p := ⟨b, off + i * 3 + 1, none⟩) hlt).trans h2, (hb.cell (p := ⟨b, off + i * 3 + 2, none⟩) hlt).trans h3⟩⟩

set_option maxRecDepth 100000 in
set_option maxHeartbeats 12800000 in
theorem tableDoes_walk (A : Option Addr) (n c : Nat) (l : List (Bool × ByteArray × Int)) (k : ByteArray) (w : World) (h : ArgO w A n c l) (hk : k.size ≤ maxLen) :
    Calls Try.prog 3 #[.slice A n c, .string k] w fun e w' => e = .returned (.bool true) ∧ Below w.heap.size w w' := by
  have HA := Lib.hid (awake3 w)
  have HG := Lib.hid h
  have HK := Lib.hid hk
  clear h hk
  by_cases hn : 200 < n
  · have hn' : (200 : Int) < (n : Int) := by omega
    go_enter Try.func3, Try.ntmps3
    go_wp2_with (go_at_call 9; refine HA.out.mono ?_; rintro e w1 ⟨rfl, b1⟩)
    go_ret
    exact ⟨rfl, b1⟩
  · have hn' : ¬ (200 : Int) < (n : Int) := by omega
    have hdn : decide (200 < n) = false := decide_eq_false hn
    go_enter Try.func3, Try.ntmps3
    go_wp2_with (go_at_call 9; refine HA.out.mono ?_; rintro e w1 ⟨rfl, b1⟩; have HN := Lib.hid (Both.new b1); clear b1)
    go_loopw [7, 8] (fun rv iv wr => ∃ (i : Nat) (A1 : Option Addr) (m c1 : Nat) (ks : List ByteArray), i ≤ n ∧ m ≤ i ∧ iv = .int .i64 (i : Nat) ∧ rv = .slice A1 m c1 ∧ Both w wr w1.heap.size ks A1 m c1 ks) (fun _ iv _ => n - (intOf iv).toNat)
    case atStart => exact ⟨0, none, 0, 0, [], Nat.zero_le _, Nat.le_refl _, rfl, rfl, HN.out⟩
    case round =>
      obtain ⟨i, A1, m, c1, ks, hi, hmi, rfl, rfl, ho⟩ := hrel
      have hlen := ho.len
      by_cases hlt : i < n
      · obtain ⟨b, off, x, y, z, rfl, hy, hcell⟩ := HG.out.cell hlt
        have HC := Lib.hid hcell
        have HY := Lib.hid hy
        have HO := Lib.hid ho
        have HLn := Lib.hid hlen
        obtain ⟨z0, z1, z2, z3⟩ := hcell _ ho.own.below
        clear ho hcell hy hlen
        have hin : (i : Int) < (n : Int) := by omega
        have hi0 : (0 : Int) ≤ (i : Int) := by omega
        have hm1 : m ≤ 1000000 := by omega
        cases x with
        | true =>
          obtain ⟨t, HT⟩ : ∃ t, Hid (z.toNat = t) := ⟨_, rfl⟩
          obtain ⟨ks', HKS⟩ : ∃ ks', Hid (ks' = ks.take t) := ⟨_, rfl⟩
          obtain ⟨m', HM⟩ : ∃ m', Hid (m' = ks'.length) := ⟨_, rfl⟩
          have C1 := Lib.hid fun (W : World) (q : Both w W w1.heap.size ks A1 m c1 ks) => q.cutT z t HT.out
          have C2 := Lib.hid fun (W : World) (q : Both w W w1.heap.size ks' A1 m c1 ks) => q.cutR z t HT.out hm1
          rw [← HKS.out] at C1 C2
          rw [← HM.out] at C2
          have hmi' : m' ≤ i + 1 := by rw [HM.out, HKS.out, List.length_take, HLn.out]; omega
          go_wp2_with fail
          refine (C1.out _ HO.out).mono ?_
          rintro e w2 ⟨rfl, q2⟩
          have Q2 := Lib.hid q2
          obtain ⟨y0, y1, y2, y3⟩ := HC.out _ q2.own.below
          clear q2 HO z0 z1 z2 z3
          go_wp2_with fail
          refine (C2.out _ Q2.out).mono ?_
          rintro e w3 ⟨A2, c2, rfl, q3⟩
          have Q3 := Lib.hid q3
          clear q3 Q2
          by_cases hkm : k ∈ ks'
          · obtain ⟨p2, HP2⟩ : ∃ p2, Hid (p2 = ks'.idxOf k) := ⟨_, rfl⟩
            have F1 := Lib.hid fun (W : World) (q : Both w W w1.heap.size ks' A2 m' c2 ks') => q.findT k (ks'.idxOf k : Nat) true ⟨decide_eq_true hkm, by rw [if_pos hkm]⟩ HK.out
            have F2 := Lib.hid fun (W : World) (q : Both w W w1.heap.size ks' A2 m' c2 ks') => q.findR k (ks'.idxOf k : Nat) (by rw [Where, if_pos hkm])
            rw [← HP2.out] at F1 F2
            have hp0 : (0 : Int) ≤ (p2 : Int) := by omega
            have F3 := Lib.hid fun (W : World) (q : Both w W w1.heap.size ks' A2 m' c2 ks') => q.own.len
            rw [← HM.out] at F3
            clear hkm
            go_wp2_with fail
            refine (F1.out _ Q3.out).mono ?_
            rintro e w4 ⟨rfl, q4⟩
            have Q4 := Lib.hid q4
            clear q4
            go_wp2_with fail
            refine (F2.out _ Q4.out).mono ?_
            rintro e w5 ⟨rfl, rfl⟩
            go_wp2_with fail
            refine (F3.out _ Q4.out).mono ?_
            rintro e w6 ⟨rfl, rfl⟩
            go_wp2_with (go_frame)
            go_roundw
            case rel => exact ⟨i + 1, A2, m', c2, ks', by omega, hmi', by go_num, rfl, Q4.out⟩
            case measure => simp [intOf]; omega
          · have F1 := Lib.hid fun (W : World) (q : Both w W w1.heap.size ks' A2 m' c2 ks') => q.findT k 0 false ⟨decide_eq_false hkm, by rw [if_neg hkm]⟩ HK.out
            have F2 := Lib.hid fun (W : World) (q : Both w W w1.heap.size ks' A2 m' c2 ks') => q.findR k (-1) (by rw [Where, if_neg hkm])
            have F3 := Lib.hid fun (W : World) (q : Both w W w1.heap.size ks' A2 m' c2 ks') => q.own.len
            rw [← HM.out] at F3
            clear hkm
            go_wp2_with fail
            refine (F1.out _ Q3.out).mono ?_
            rintro e w4 ⟨rfl, q4⟩
            have Q4 := Lib.hid q4
            clear q4
            go_wp2_with fail
            refine (F2.out _ Q4.out).mono ?_
            rintro e w5 ⟨rfl, rfl⟩
            go_wp2_with fail
            refine (F3.out _ Q4.out).mono ?_
            rintro e w6 ⟨rfl, rfl⟩
            go_wp2_with (go_frame)
            go_roundw
            case rel => exact ⟨i + 1, A2, m', c2, ks', by omega, hmi', by go_num, rfl, Q4.out⟩
            case measure => simp [intOf]; omega
        | false =>
          by_cases hym : y ∈ ks
          · obtain ⟨p, HP⟩ : ∃ p, Hid (p = ks.idxOf y) := ⟨_, rfl⟩
            have C1 := Lib.hid fun (W : World) (q : Both w W w1.heap.size ks A1 m c1 ks) => q.oldT y hym
            have C2 := Lib.hid fun (W : World) (q : Both w W w1.heap.size ks A1 m c1 ks) => q.oldR y hym
            rw [← HP.out] at C1 C2
            have HM : Hid (m = ks.length) := HLn.out.symm
            have hmi' : m ≤ i + 1 := by omega
            clear hym
            go_wp2_with fail
            refine (C1.out _ HO.out).mono ?_
            rintro e w2 ⟨rfl, q2⟩
            have Q2 := Lib.hid q2
            obtain ⟨y0, y1, y2, y3⟩ := HC.out _ q2.own.below
            clear q2 HO z0 z1 z2 z3
            go_wp2_with fail
            refine (C2.out _ Q2.out).mono ?_
            rintro e w3 ⟨rfl, rfl⟩
            by_cases hkm : k ∈ ks
            · obtain ⟨p2, HP2⟩ : ∃ p2, Hid (p2 = ks.idxOf k) := ⟨_, rfl⟩
              have F1 := Lib.hid fun (W : World) (q : Both w W w1.heap.size ks A1 m c1 ks) => q.findT k (ks.idxOf k : Nat) true ⟨decide_eq_true hkm, by rw [if_pos hkm]⟩ HK.out
              have F2 := Lib.hid fun (W : World) (q : Both w W w1.heap.size ks A1 m c1 ks) => q.findR k (ks.idxOf k : Nat) (by rw [Where, if_pos hkm])
              rw [← HP2.out] at F1 F2
              have hp0 : (0 : Int) ≤ (p2 : Int) := by omega
              have F3 := Lib.hid fun (W : World) (q : Both w W w1.heap.size ks A1 m c1 ks) => q.own.len
              rw [← HM.out] at F3
              clear hkm
              go_wp2_with fail
              refine (F1.out _ Q2.out).mono ?_
              rintro e w4 ⟨rfl, q4⟩
              have Q4 := Lib.hid q4
              clear q4
              go_wp2_with fail
              refine (F2.out _ Q4.out).mono ?_
              rintro e w5 ⟨rfl, rfl⟩
              go_wp2_with fail
              refine (F3.out _ Q4.out).mono ?_
              rintro e w6 ⟨rfl, rfl⟩
              go_wp2_with (go_frame)
              go_roundw
              case rel => exact ⟨i + 1, A1, m, c1, ks, by omega, hmi', by go_num, rfl, Q4.out⟩
              case measure => simp [intOf]; omega
            · have F1 := Lib.hid fun (W : World) (q : Both w W w1.heap.size ks A1 m c1 ks) => q.findT k 0 false ⟨decide_eq_false hkm, by rw [if_neg hkm]⟩ HK.out
              have F2 := Lib.hid fun (W : World) (q : Both w W w1.heap.size ks A1 m c1 ks) => q.findR k (-1) (by rw [Where, if_neg hkm])
              have F3 := Lib.hid fun (W : World) (q : Both w W w1.heap.size ks A1 m c1 ks) => q.own.len
              rw [← HM.out] at F3
              clear hkm
              go_wp2_with fail
              refine (F1.out _ Q2.out).mono ?_
              rintro e w4 ⟨rfl, q4⟩
              have Q4 := Lib.hid q4
              clear q4
              go_wp2_with fail
              refine (F2.out _ Q4.out).mono ?_
              rintro e w5 ⟨rfl, rfl⟩
              go_wp2_with fail
              refine (F3.out _ Q4.out).mono ?_
              rintro e w6 ⟨rfl, rfl⟩
              go_wp2_with (go_frame)
              go_roundw
              case rel => exact ⟨i + 1, A1, m, c1, ks, by omega, hmi', by go_num, rfl, Q4.out⟩
              case measure => simp [intOf]; omega
          · obtain ⟨ks', HKS⟩ : ∃ ks', Hid (ks' = ks ++ [y]) := ⟨_, rfl⟩
            have C1 := Lib.hid fun (W : World) (q : Both w W w1.heap.size ks A1 m c1 ks) => q.newT y hym HY.out (by rw [HLn.out]; omega)
            have C2 := Lib.hid fun (W : World) (q : Both w W w1.heap.size ks' A1 m c1 ks) => q.newR y hym hm1
            rw [← HKS.out, HLn.out] at C1
            rw [← HKS.out] at C2
            have HM : Hid (m + 1 = ks'.length) := by show m + 1 = ks'.length; rw [HKS.out, List.length_append, HLn.out]; rfl
            have hmi' : m + 1 ≤ i + 1 := by omega
            clear hym
            go_wp2_with fail
            refine (C1.out _ HO.out).mono ?_
            rintro e w2 ⟨rfl, q2⟩
            have Q2 := Lib.hid q2
            obtain ⟨y0, y1, y2, y3⟩ := HC.out _ q2.own.below
            clear q2 HO z0 z1 z2 z3
            go_wp2_with fail
            refine (C2.out _ Q2.out).mono ?_
            rintro e w3 ⟨A2, c2, rfl, q3⟩
            have Q3 := Lib.hid q3
            clear q3 Q2
            by_cases hkm : k ∈ ks'
            · obtain ⟨p2, HP2⟩ : ∃ p2, Hid (p2 = ks'.idxOf k) := ⟨_, rfl⟩
              have F1 := Lib.hid fun (W : World) (q : Both w W w1.heap.size ks' A2 (m + 1) c2 ks') => q.findT k (ks'.idxOf k : Nat) true ⟨decide_eq_true hkm, by rw [if_pos hkm]⟩ HK.out
              have F2 := Lib.hid fun (W : World) (q : Both w W w1.heap.size ks' A2 (m + 1) c2 ks') => q.findR k (ks'.idxOf k : Nat) (by rw [Where, if_pos hkm])
              rw [← HP2.out] at F1 F2
              have hp0 : (0 : Int) ≤ (p2 : Int) := by omega
              have F3 := Lib.hid fun (W : World) (q : Both w W w1.heap.size ks' A2 (m + 1) c2 ks') => q.own.len
              rw [← HM.out] at F3
              clear hkm
              go_wp2_with fail
              refine (F1.out _ Q3.out).mono ?_
              rintro e w4 ⟨rfl, q4⟩
              have Q4 := Lib.hid q4
              clear q4
              go_wp2_with fail
              refine (F2.out _ Q4.out).mono ?_
              rintro e w5 ⟨rfl, rfl⟩
              go_wp2_with fail
              refine (F3.out _ Q4.out).mono ?_
              rintro e w6 ⟨rfl, rfl⟩
              go_wp2_with (go_frame)
              go_roundw
              case rel => exact ⟨i + 1, A2, (m + 1), c2, ks', by omega, hmi', by go_num, rfl, Q4.out⟩
              case measure => simp [intOf]; omega
            · have F1 := Lib.hid fun (W : World) (q : Both w W w1.heap.size ks' A2 (m + 1) c2 ks') => q.findT k 0 false ⟨decide_eq_false hkm, by rw [if_neg hkm]⟩ HK.out
              have F2 := Lib.hid fun (W : World) (q : Both w W w1.heap.size ks' A2 (m + 1) c2 ks') => q.findR k (-1) (by rw [Where, if_neg hkm])
              have F3 := Lib.hid fun (W : World) (q : Both w W w1.heap.size ks' A2 (m + 1) c2 ks') => q.own.len
              rw [← HM.out] at F3
              clear hkm
              go_wp2_with fail
              refine (F1.out _ Q3.out).mono ?_
              rintro e w4 ⟨rfl, q4⟩
              have Q4 := Lib.hid q4
              clear q4
              go_wp2_with fail
              refine (F2.out _ Q4.out).mono ?_
              rintro e w5 ⟨rfl, rfl⟩
              go_wp2_with fail
              refine (F3.out _ Q4.out).mono ?_
              rintro e w6 ⟨rfl, rfl⟩
              go_wp2_with (go_frame)
              go_roundw
              case rel => exact ⟨i + 1, A2, (m + 1), c2, ks', by omega, hmi', by go_num, rfl, Q4.out⟩
              case measure => simp [intOf]; omega
      · have hin : i = n := by omega
        subst hin
        have HO := Lib.hid ho
        have HLn := Lib.hid hlen
        have hm1 : m ≤ 1000000 := by omega
        clear ho hlen
        go_wp2_with fail
        go_loopw [17] (fun jv wr => ∃ j : Nat, j ≤ m ∧ jv = .int .i64 (j : Nat) ∧ Both w wr w1.heap.size ks A1 m c1 ks) (fun jv _ => m - (intOf jv).toNat)
        case atStart => exact ⟨0, Nat.zero_le _, rfl, HO.out⟩
        case round =>
          obtain ⟨j, hj, rfl, ho⟩ := hrel
          by_cases hlj : j < m
          · obtain ⟨b, off, y, rfl, hb, hy, hc⟩ := ho.get hlj
            have HH := Lib.hid (ho.own.hit j y hy)
            have HO2 := Lib.hid ho
            have hjm : (j : Int) < (m : Int) := by omega
            have hj0 : (0 : Int) ≤ (j : Int) := by omega
            clear ho hy
            go_wp2_with (go_at_call 17; refine HH.out.mono ?_; rintro e w5 ⟨rfl, rfl⟩)
            go_roundw
            case rel => exact ⟨j + 1, by omega, by go_num, HO2.out⟩
            case measure => simp [intOf]; omega
          · have hjm : j = m := by omega
            subst hjm
            have H1 := Lib.hid (ho.own.miss (j : Nat) (.inr (by rw [HLn.out]; exact Int.le_refl _)))
            have H2 := Lib.hid (ho.own.miss (-1) (.inl (by omega)))
            have HB := Lib.hid ho.own.below
            clear ho
            go_wp2_with fail
            refine H1.out.mono ?_
            rintro e w5 ⟨rfl, rfl⟩
            go_wp2_with fail
            refine H2.out.mono ?_
            rintro e w6 ⟨rfl, rfl⟩
            go_wp2_with fail
            go_ret
            exact ⟨rfl, HB.out⟩
end Go.Proofs.Ytgijagdnhajkhaa
