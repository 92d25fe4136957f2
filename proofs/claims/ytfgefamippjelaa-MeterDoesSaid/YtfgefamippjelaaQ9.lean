/- MeterDoes. -/
import Derived.Test.YtfgefamippjelaaQ8
import Derived.Deep.CutBlock
import Derived.Deep.DeepCutAuto
import Derived.Deep.LoopGhost
namespace Go.Proofs.Ytfgefamippjelaa
open Go.RowKit

/-- a meter, and the reference's in block q, which says bs, ss, os -/
structure Duo (w0 w : World) (g : Nat) (b s : Int) (o : Bool) (q : Nat) (s' : Int) (o' : Bool) : Prop where
  own : OwnM w0 w g b s o
  ref : Lies w q 27 #[.int .i64 b, .int .i64 s', .bool o']
  le : w0.heap.size ≤ q
  ne : q ≠ g
theorem Duo.step {w0 w w' : World} {g q : Nat} {b s s' : Int} {o o' : Bool} (h : Duo w0 w g b s o q s' o') (hb : Below w.heap.size w w') : Duo w0 w' g b s o q s' o' :=
  ⟨h.own.step hb, (Turn.of_below (F := fun _ => False) hb).lies h.ref id, h.le, h.ne⟩
theorem Duo.spend {w0 w : World} {g q : Nat} {b s s' t n : Int} {o o' a u : Bool} (h : Duo w0 w g b s o q s' o') (hr : mdoes b s n o = (a, t, u)) :
    Calls Try.prog 10 #[.pointer (some ⟨g, 0, none⟩), .int .i64 n] w fun e w' => e = .returned (.bool a) ∧ Duo w0 w' g b t u q s' o' :=
  (h.own.spend n t a u hr).mono fun _ _ ⟨e, k, ht⟩ => ⟨e, k, ht.lies h.ref h.ne, h.le, h.ne⟩
theorem Duo.cells {w0 w : World} {g q : Nat} {b s s' : Int} {o o' : Bool} (h : Duo w0 w g b s o q s' o') :
    q < w.heap.size ∧ w.cell? ⟨q, 0, none⟩ = some (.int .i64 b) ∧ w.cell? ⟨q, 1, none⟩ = some (.int .i64 s') ∧ w.cell? ⟨q, 2, none⟩ = some (.bool o') :=
  ⟨h.ref.lt, by simpa using h.ref.cell 0, by simpa using h.ref.cell 1, by simpa using h.ref.cell 2⟩

/-- a room for a Meter of the reference's -/
abbrev ZR : Array Value := #[.int .i64 0, .int .i64 0, .bool false]
theorem mroom3 {W w4 : World} {R : Nat} (b4 : Below W.heap.size W w4) (hl : Lies W R 27 ZR) :
    R < w4.heap.size ∧ w4.cell? ⟨R, 0, none⟩ = some (.int .i64 0) ∧ w4.cell? ⟨R, 1, none⟩ = some (.int .i64 0) ∧ w4.cell? ⟨R, 2, none⟩ = some (.bool false) ∧
    w4.frozen? ⟨R, 0, none⟩ = false ∧ w4.frozen? ⟨R, 1, none⟩ = false ∧ w4.frozen? ⟨R, 2, none⟩ = false ∧ Hid (Lies w4 R 27 ZR) := by
  have h := (Turn.of_below (F := fun _ => False) b4).lies hl id
  exact ⟨h.lt, by simpa using h.cell 0, by simpa using h.cell 1, by simpa using h.cell 2, h.free 0, h.free 1, h.free 2, h⟩

theorem Duo.behind {w0 W w4 : World} {g q : Nat} {b s s' : Int} {o o' : Bool} (C : Array Value) (h : Duo w0 W g b s o q s' o') (b4 : Below W.drew.heap.size W.drew w4) :
    Lies (w4.alloc (.cells C 27)) w4.heap.size 27 C ∧ Duo w0 (w4.alloc (.cells C 27)) g b s o q s' o' :=
  ⟨Lies.new _ _ _, ((h.step (Below.refl _ _).drew).step b4).step ((Below.refl _ _).alloc (Nat.le_refl _) _)⟩
theorem Duo.ahead {w0 W w4 : World} {g q : Nat} {b s s' : Int} {o o' : Bool} (x y z : Value) (h : Duo w0 W g b s o q s' o') (b4 : Below (W.alloc (.cells ZR 27)).drew.heap.size (W.alloc (.cells ZR 27)).drew w4) (rm : Lies w4 W.heap.size 27 ZR) :
    Lies (((w4.setCell ⟨W.heap.size, 0, none⟩ x).setCell ⟨W.heap.size, 1, none⟩ y).setCell ⟨W.heap.size, 2, none⟩ z) W.heap.size 27 #[x, y, z] ∧ Duo w0 (((w4.setCell ⟨W.heap.size, 0, none⟩ x).setCell ⟨W.heap.size, 1, none⟩ y).setCell ⟨W.heap.size, 2, none⟩ z) g b s o q s' o' := by
  have l := ((rm.put 0 x).put 1 y).put 2 z
  refine ⟨by simpa using l, h.step ?_⟩
  have t1 : Turn (fun i => i = W.heap.size) W w4 := (((Turn.refl _ W).alloc (.cells ZR 27)).drew).step b4
  have t2 := ((t1.put (p := ⟨W.heap.size, 0, none⟩) (.inl rfl) x).put (p := ⟨W.heap.size, 1, none⟩) (.inl rfl) y).put (p := ⟨W.heap.size, 2, none⟩) (.inl rfl) z
  exact t2.below (Nat.le_refl _) fun i e => by rw [e]; exact Nat.le_refl _

theorem Duo.put {w0 w : World} {g q : Nat} {b s s' t : Int} {o o' u : Bool} (h : Duo w0 w g b s o q s' o') :
    Duo w0 (((w.setCell ⟨q, 0, none⟩ (.int .i64 b)).setCell ⟨q, 1, none⟩ (.int .i64 t)).setCell ⟨q, 2, none⟩ (.bool u)) g b s o q t u := by
  have l := ((h.ref.put 0 (.int .i64 b)).put 1 (.int .i64 t)).put 2 (.bool u)
  have tt := (((Turn.refl (fun i => i = q) w).put (p := ⟨q, 0, none⟩) (.inl rfl) (.int .i64 b)).put (p := ⟨q, 1, none⟩) (.inl rfl) (.int .i64 t)).put (p := ⟨q, 2, none⟩) (.inl rfl) (.bool u)
  obtain ⟨⟨c, k1, k2, k3, k4, k5⟩, h2, h3, h4⟩ := h
  refine ⟨⟨c, k1.turn tt fun i e => ?_, k2, k3.trans (tt.below k3.size fun i e => by rw [e]; exact h3), k4, k5⟩, by simpa using l, h3, h4⟩
  subst e
  refine ⟨h4, fun e => ?_⟩
  have q1 := k1.shut _ e
  have q2 : w.heap[i]? = some (.cells _ _ (0, 0)) := h2
  rw [q1] at q2
  cases q2

theorem Duo.new {w0 w : World} {b : Int} (h : OwnM w0 (w.alloc (.cells #[.int .i64 b, .int .i64 0, .chan none] 36)) w.heap.size b 0 false) :
    Duo w0 ((w.alloc (.cells #[.int .i64 b, .int .i64 0, .chan none] 36)).alloc (.cells #[.int .i64 b, .int .i64 0, .bool false] 27)) w.heap.size b 0 false (w.heap.size + 1) 0 false := by
  have hs := h.below.size
  refine ⟨h.step ((Below.refl _ _).alloc (Nat.le_refl _) _), ?_, ?_, by omega⟩
  · have := Lies.new (w.alloc (.cells #[.int .i64 b, .int .i64 0, .chan none] 36)) 27 #[.int .i64 b, .int .i64 0, .bool false]
    simpa using this
  · simpa using hs

set_option maxRecDepth 100000 in
set_option maxHeartbeats 3200000 in
theorem meterDoes_walk (b : Int) (A : Option Addr) (n c : Nat) (zs : List Int) (w : World) (hb : (Lit.int .i64 b).wf = true) (h : ArgI w A n c zs) :
    Calls Try.prog 3 #[.int .i64 b, .slice A n c] w fun e w' => e = .returned (.bool true) ∧ Below w.heap.size w w' := by
  have HA := Lib.hid (awake4 w)
  have HG := Lib.hid h
  have HN := Lib.hid fun W (hW : Below w.heap.size w W) => OwnM.new (b := b) hW hb
  clear h hb
  by_cases hn : 300 < n
  · have hn' : (300 : Int) < (n : Int) := by omega
    go_enter Try.func3, Try.ntmps3
    go_wp2_with (first
      | (go_at_call 8; refine HA.out.mono ?_; rintro e w1 ⟨rfl, b1⟩; have Q := Lib.hid (HN.out _ b1).below; clear b1)
      | (go_at_call 9; refine (new_meter _ _).mono ?_; rintro e w2 ⟨rfl, rfl⟩))
    go_ret
    exact ⟨rfl, Q.out⟩
  · have hn' : ¬ (300 : Int) < (n : Int) := by omega
    have hdn : decide (300 < n) = false := decide_eq_false hn
    go_enter Try.func3, Try.ntmps3
    go_wp2_with (first
      | (go_at_call 8; refine HA.out.mono ?_; rintro e w1 ⟨rfl, b1⟩; have QN := Lib.hid (HN.out _ b1); clear b1)
      | (go_at_call 9; refine (new_meter _ _).mono ?_; rintro e w2 ⟨rfl, rfl⟩))
    have HD := Lib.hid (Duo.new QN.out)
    clear QN HN HA
    go_loopg [8] n (fun gk iv wr => ∃ i : Nat, i + gk = n ∧ iv = .int .i64 (i : Nat) ∧ ∃ s o, Duo w wr w1.heap.size b s o (w1.heap.size + 1) s o)
    case atStart => exact ⟨0, by omega, rfl, 0, false, HD.out⟩
    case round =>
      clear HD
      obtain ⟨i, hi, rfl, s, o, hq⟩ := hrel
      by_cases hlt : i < n
      · obtain ⟨bl, off, x, rfl, hx, hwx, hcell⟩ := HG.out.get hlt
        have HC := Lib.hid fun W (q : Below w.heap.size w W) => hcell W q
        obtain ⟨hbl, hc⟩ := hcell _ hq.own.below
        obtain ⟨a, t, o', hd⟩ : ∃ a t o', mdoes b s x o = (a, t, o') := ⟨_, _, _, rfl⟩
        have HS := Lib.hid (hq.spend hd)
        have HF := Lib.hid hq.own.fits
        have HR := Lib.hid fun W => ref_does b s x t o a o' W HF.out hd
        have hji : (i : Int) < (n : Int) := by omega
        have hj0 : (0 : Int) ≤ (i : Int) := by omega
        clear hx hwx hcell hq hd
        go_upto_region 10 with (go_at_call 10; refine HS.out.mono ?_; rintro e w2 ⟨rfl, q⟩; clear HS hbl hc; obtain ⟨zb, yc⟩ := HC.out _ q.own.below; obtain ⟨z0, z1, z2, z3⟩ := q.cells; have HQ := Lib.hid q; clear q)
        go_cut [10, 11] (fun p v W => ∃ R : Nat, p = .pointer (some ⟨R, 0, none⟩) ∧ v = .bool a ∧ Lies W R 27 #[.int .i64 b, .int .i64 t, .bool o'] ∧ Duo w W w1.heap.size b t o' (w1.heap.size + 1) s o)
        case first =>
          go_region_with (go_at_call 11; refine (HR.out _).mono ?_; rintro e w4 ⟨rfl, b4⟩; (first | (have rmx := mroom3 (R := w2.heap.size) b4 (Lies.new w2 _ _); obtain ⟨k0, k1, k2, k3, k4, k5, k6, rm⟩ := rmx) | skip))
          all_goals
            go_wp2_with fail
            go_meet
            first
            | exact ⟨_, rfl, rfl, HQ.out.behind _ b4⟩
            | exact ⟨_, rfl, rfl, HQ.out.ahead _ _ _ b4 rm.out⟩
        case rest =>
          obtain ⟨R, rfl, rfl, hl, hq⟩ := hcut
          have hlt := hl.lt
          have e0 := hl.cell 0
          have e1 := hl.cell 1
          have e2 := hl.cell 2
          simp at e0 e1 e2
          obtain ⟨z0, z1, z2, z3⟩ := hq.cells
          have f0 := hq.ref.free 0
          have f1 := hq.ref.free 1
          have f2 := hq.ref.free 2
          have HP := Lib.hid (hq.put (t := t) (u := o'))
          clear hl hq HR HF HC
          go_upto_region 12 with fail
          clear e0 e1 e2 z0 z1 z2 z3 f0 f1 f2 hlt
          have hp := HP.out
          clear HP
          generalize ((wc.setCell ⟨w1.heap.size + 1, 0, none⟩ (.int .i64 b)).setCell ⟨w1.heap.size + 1, 1, none⟩ (.int .i64 t)).setCell ⟨w1.heap.size + 1, 2, none⟩ (.bool o') = w5 at hp ⊢
          obtain ⟨z0, z1, z2, z3⟩ := hp.cells
          have HO := Lib.hid hp
          have HOn := Lib.hid fun k => hp.own.step (w' := w5.drewN k) (Turn.none_ ((Turn.refl (fun _ => False) _).drewN k) (fun _ => id))
          have HPn := Lib.hid fun k => hp.step (w' := w5.drewN k) (Turn.none_ ((Turn.refl (fun _ => False) _).drewN k) (fun _ => id))
          clear hp
          go_quiet (first | (go_at_call 12; exact Calls.quiet_of_same (HOn.out _).over) | (go_at_call 13; exact Calls.quiet_of_same (HOn.out _).spent))
          go_wp2_with fail
          go_roundg (gk - 1)
          case measure => omega
          case rel => exact ⟨i + 1, by omega, by go_num, t, o', HPn.out _⟩
      · have hjm : i = n := by omega
        subst hjm
        have HB := Lib.hid hq.own.below
        clear hq
        go_wp2_with fail
        go_ret
        exact ⟨rfl, HB.out⟩
end Go.Proofs.Ytfgefamippjelaa
