/- Bytes of one's own; the reference of scripts: quoted. -/
import Derived.Test.YtpjdfogieiokkaaDoorR4
import Derived.Laws.IdiomStrings
import Derived.Deep.QuietTactic
namespace Go.Proofs.YtpjdfogieiokkaaDoor
open Go.RowKit

abbrev u8s (l : List UInt8) : List Value := l.map fun c => .int .u8 (c.toNat : Int)
theorem infoY : (Tryd.prog.info? 5).map (fun i => (i.zero, i.size, i.bytes)) = some (some (.int .u8 0), 1, 1) := by kernel_rfl
/-- a row of bytes of one's own, from block B on -/
def OwnY (w : World) (B : Nat) (A : Option Addr) (c : Nat) (l : List UInt8) : Prop := w.ownsRow B 5 1 (.slice A l.length c) l.length (u8s l)
theorem OwnY.nil (w : World) (B : Nat) : OwnY w B none 0 [] := World.ownsRow_nil _ _ _ _
theorem appendY (w : World) {ops : Array Oper} {rest : List Oper} {o : Oper} {a : Act} {Q : Exit → Act → World → Prop} (hgd : o.guard = none) (s x : Operand)
    (ho : o.op = .call { callee := .builtin .append, args := #[s, x], argTypes := #[52, 52] }) (B : Nat) (A : Option Addr) (c : Nat) (l : List UInt8) (n : Nat) (hn : l.length = n) (d : UInt8) (z : Int) (hz : z = (d.toNat : Int))
    (hs : a.eval s = .slice A n c) (hown : OwnY w B A c l) (hx : a.eval x = .slice (some ⟨w.heap.size, 0, none⟩) 1 1) (hl : n ≤ 1000000000) (hB : B ≤ w.heap.size)
    (h : ∀ A' c' w', OwnY w' B A' c' (l ++ [d]) → w.grownBy w' (Value.slice A n c).ownBlock → wpList Tryd.prog ops Q rest (a.put o.dst (.slice A' (n + 1) c')) w') :
    wpList Tryd.prog ops Q (o :: rest) a (w.alloc (.cells #[.int .u8 z] 5)) := by
  subst hn
  subst hz
  obtain ⟨i0, hi, hz0, hz1, hz2⟩ := info_parts infoY
  refine append_row _ hgd s x 52 ho B 5 i0 (.int .u8 0) 1 Tryd.underlying52 hi hz0 hz1 hz2 rfl _ l.length (u8s l) hs (World.ownsRow.alloc hown _) ⟨w.heap.size, 0, none⟩ 1 1 [.int .u8 (d.toNat : Int)] hx rfl (cell_one_new _ _ _) (fun u hu => by simp at hu; subst hu; rfl) (by unfold maxLen; omega) (by omega) (by simp; omega) ?_
  intro A' c' w' o' g' _
  refine h A' c' w' ?_ ?_
  · unfold OwnY
    have e : u8s l ++ [.int .u8 (d.toNat : Int)] = u8s (l ++ [d]) := by simp
    rw [e] at o'
    rw [List.length_append]
    exact o'
  · refine ⟨g'.os, g'.tape, g'.output, Nat.le_trans (by simp) g'.size, fun k hk hne => (g'.block k (by simp; omega) hne).trans (Below.heap_alloc w _ k hk)⟩
set_option maxRecDepth 100000 in
theorem convY {w : World} {B : Nat} {A : Option Addr} {c : Nat} {l : List UInt8} (n : Nat) (hn : l.length = n) (h : OwnY w B A c l) :
    (convert 52 9 (.slice A n c)).run Tryd.prog w = .ok (.string ⟨l.toArray⟩) w := by
  subst hn
  rcases h.2 with ⟨e, h0⟩ | ⟨g, cap, cur, e, _⟩
  · injection e with e1 e2 e3
    subst e1
    subst e3
    obtain rfl : l = [] := List.eq_nil_of_length_eq_zero h0
    rw [run_convert_bytes_string w 52 9 5 _ _ _ Tryd.underlying52 Tryd.underlying5 Tryd.underlying9]
    rfl
  · injection e with e1 e2 e3
    subst e1
    exact run_convert_bytes_back w 52 9 5 ⟨g, 0, none⟩ c l Tryd.underlying52 Tryd.underlying5 Tryd.underlying9 fun j hj => by
      have := h.cells (g := g) rfl j (.int .u8 (l[j].toNat : Int)) (by rw [List.getElem?_map, List.getElem?_eq_getElem hj]; rfl)
      exact this

theorem Lx.quo_plain {q c : UInt8} (t : List UInt8) (hg : Lx.good c = true) (hc : c ≠ q) : Lx.quo q (c :: t) = (c :: (Lx.quo q t).1, (Lx.quo q t).2) := by
  cases t with
  | nil => simp [Lx.quo, hg, hc]
  | cons d t => rw [Lx.quo, if_pos hg, if_neg hc]
theorem Lx.quo_bad {q c : UInt8} (t : List UInt8) (hg : Lx.good c = false) : Lx.quo q (c :: t) = ([], 50, c :: t) := by
  cases t <;> simp [Lx.quo, hg]
theorem Lx.quo_last {q : UInt8} (t : List UInt8) (hg : Lx.good q = true) (h : ¬ (q.toNat = 34 ∧ ∃ u, t = q :: u)) : Lx.quo q (q :: t) = ([], 0, t) := by
  cases t with
  | nil => simp [Lx.quo, hg]
  | cons d t => rw [Lx.quo, if_pos hg, if_pos rfl, if_neg (fun e => h ⟨e.1, t, by rw [e.2]⟩)]
theorem Lx.quo_twice {q : UInt8} (t : List UInt8) (hg : Lx.good q = true) (h : q.toNat = 34) : Lx.quo q (q :: q :: t) = (q :: (Lx.quo q t).1, (Lx.quo q t).2) := by
  rw [Lx.quo, if_pos hg, if_pos rfl, if_pos ⟨h, rfl⟩]

/-- what quoted answers -/
structure QSaid (s : ByteArray) (a : Nat) (x : List UInt8 × Int × List UInt8) (w : World) (e : Ending) (w' : World) : Prop where
  below : Below w.heap.size w w'
  ok : x.2.1 = 0 → ∃ k : Nat, e = .returned (.tuple #[.string ⟨x.1.toArray⟩, .int .i64 (k : Nat), .int .i64 0, .int .i64 0]) ∧ a < k ∧ k ≤ s.size ∧ s.data.toList.drop k = x.2.2
  bad : x.2.1 = 50 → ∃ k : Nat, e = .returned (.tuple #[.string ⟨#[]⟩, .int .i64 0, .int .i64 50, .int .i64 (k : Nat)]) ∧ a < k ∧ k < s.size ∧ s.data.toList.drop k = x.2.2
  open_ : x.2.1 = 51 → e = .returned (.tuple #[.string ⟨#[]⟩, .int .i64 0, .int .i64 51, .int .i64 (a : Nat)])

set_option maxHeartbeats 1600000 in
theorem rquoted (s : ByteArray) (a : Nat) (w : World) (hs : s.size ≤ 1000000) (ha : a < s.size) (hq : s[a].toNat = 34 ∨ s[a].toNat = 124) :
    Calls Tryd.prog 59 #[.string s, .int .i64 (a : Nat)] w (QSaid s a (Lx.quo s[a] (s.data.toList.drop (a + 1))) w) := by
  obtain ⟨q, hqd⟩ : ∃ q, q = s[a] := ⟨_, rfl⟩
  rw [← hqd] at hq ⊢
  have hqg : Lx.good q = true := by
    rcases hq with h | h <;> simp [Lx.good, Lx.blank, h]
  have HQG := Lib.hid hqg
  obtain ⟨X, HX⟩ : ∃ X, Hid (Lx.quo q (s.data.toList.drop (a + 1)) = X) := ⟨_, rfl⟩
  rw [HX.out]
  have haq : ∀ h, s[a]'h = q := fun _ => hqd.symm
  clear hqd hqg
  go_enter Tryd.func59, Tryd.ntmps59
  go_wp2
  go_loopw [8, 9] (fun ov iv wr => ∃ (i : Nat) (A : Option Addr) (c m : Nat) (l : List UInt8), a < i ∧ i ≤ s.size ∧ m ≤ i ∧ iv = .int .i64 (i : Nat) ∧ ov = .slice A m c ∧ Below w.heap.size w wr ∧ Hid (OwnY wr w.heap.size A c l ∧ l.length = m ∧ X = (l ++ (Lx.quo q (s.data.toList.drop i)).1, (Lx.quo q (s.data.toList.drop i)).2))) (fun _ iv _ => s.size - (intOf iv).toNat)
  case atStart => exact ⟨a + 1, none, 0, 0, [], by omega, by omega, by omega, by go_num, rfl, by first | exact Below.refl _ _ | assumption, ⟨OwnY.nil _ _, rfl, by rw [HX.out]; rfl⟩⟩
  case round =>
    clear HX
    obtain ⟨i, A, c, m, l, hai, hi, hmi, rfl, rfl, hb, HI⟩ := hrel
    by_cases hlt : i < s.size
    · have HD := drop_at s hlt
      have HG := Lib.hid (rgood s[i] wr)
      obtain ⟨g, hg'⟩ : ∃ g, Lx.good s[i] = g := ⟨_, rfl⟩
      rw [hg'] at HG
      have hlt' : (i : Int) < (s.size : Int) := by omega
      have hal' : (a : Int) < (s.size : Int) := by omega
      obtain ⟨ho, hlm, hX⟩ := HI.out
      rw [HD] at hX
      cases g with
      | false =>
        rw [Lx.quo_bad _ hg'] at hX
        have HE : Hid (X.2.1 = 50 ∧ s.data.toList.drop i = X.2.2) := by
          show _ ∧ _
          rw [hX, HD]
          exact ⟨rfl, rfl⟩
        clear hX HD HI ho hlm hg'
        go_wp2_with (go_at_call 37; refine HG.out.mono ?_; rintro e w1 ⟨rfl, rfl⟩)
        exact bodyPost_ret (v := .tuple #[.string ⟨#[]⟩, .int .i64 0, .int .i64 50, .int .i64 (i : Nat)]) (by simp [results, Tryd.results59, go_sem]) rfl ⟨hb, fun h => (by rw [HE.out.1] at h; cases h), fun _ => ⟨i, rfl, hai, hlt, HE.out.2⟩, fun h => (by rw [HE.out.1] at h; cases h)⟩
      | true =>
        have HOn : Hid (∀ k, OwnY (wr.drewN k) w.heap.size A c l) := fun k => (Turn.drewN (Turn.refl (fun _ => False) wr) k).own ho (fun _ _ => id)
        have HBn : Hid (∀ k w2, (wr.drewN k).grownBy w2 (Value.slice A m c).ownBlock → Below w.heap.size w w2) := fun k w2 g2 => (hb.trans ((Turn.none_ ((Turn.refl (fun _ => False) wr).drewN k) (fun _ => id)).mono hb.size)).grown g2 hb.size (fun k hk => (ho.lt k (by rw [hlm]; exact hk)).1)
        have hbw : w.heap.size ≤ wr.heap.size := hb.size
        by_cases hc : s[i] = q
        · have hbn : ((s[i].toNat : Int) != (q.toNat : Int)) = false := by rw [hc]; simp
          have hdrop1 : 34 = q.toNat → ∀ h : i + 1 < s.size, s[i + 1].toNat = 34 → s.data.toList.drop (i + 1) = q :: s.data.toList.drop (i + 2) := fun h1 h h2 => by
            rw [drop_at s h]
            congr 1
            rw [Lx.byte_eq h2, Lx.byte_eq h1.symm]
          by_cases hd : q.toNat = 34 ∧ ∃ h : i + 1 < s.size, s[i + 1].toNat = 34
          · obtain ⟨h34, h1, h2⟩ := hd
            have b1 : ((q.toNat : Int) == 34) = true := beq_iff_eq.2 (by omega)
            have b2 : ((s[i + 1].toNat : Int) == 34) = true := beq_iff_eq.2 (by omega)
            have hi1 : (i : Int) + 1 < (s.size : Int) := by omega
            rw [hdrop1 h34.symm h1 h2, hc, Lx.quo_twice _ HQG.out h34] at hX
            have HO := Lib.hid ho
            have HL := Lib.hid hlm
            have HX := Lib.hid hX
            have hwi : IntKind.i64.wrap ((i : Int) + 1) = ((i + 1 : Nat) : Int) := IntWalk.i64_in _ (by omega)
            clear hX HD HI ho hlm hg' hc hdrop1 h2
            go_wp2_with (go_at_call 37; refine HG.out.mono ?_; rintro e w1 ⟨rfl, rfl⟩)
            go_quiet (fail)
            go_wp2_with (at_builtin; refine appendY _ rfl (.tmp 55) (.tmp 56) rfl w.heap.size A c l m HL.out q _ (by omega) rfl (HOn.out _) rfl (by omega) hbw ?_; intro A2 c2 w2 o2 g2; have O2 := Lib.hid o2; have B2 := Lib.hid (HBn.out _ _ g2); clear o2 g2)
            go_roundw
            case rel => exact ⟨i + 2, A2, c2, m + 1, l ++ [q], by omega, by omega, by omega, by go_num, rfl, B2.out, ⟨O2.out, by rw [List.length_append, HL.out]; rfl, by rw [HX.out]; simp⟩⟩
            case measure => simp [intOf]; omega
          · rw [hc, Lx.quo_last _ HQG.out (fun ⟨e1, u, e2⟩ => hd ⟨e1, by
              by_cases h : i + 1 < s.size
              · refine ⟨h, ?_⟩
                rw [drop_at s h] at e2
                injection e2 with e3 e4
                rw [e3, e1]
              · obtain e5 : i + 1 = s.size := by omega
                rw [e5, drop_end] at e2
                cases e2⟩)] at hX
            have HE : Hid (X.2.1 = 0 ∧ X.1 = l ∧ s.data.toList.drop (i + 1) = X.2.2) := by
              show _ ∧ _ ∧ _
              rw [hX]
              exact ⟨rfl, by simp, rfl⟩
            have HCV : ∀ k, (convert 52 9 (.slice A m c)).run Tryd.prog (wr.drewN k) = .ok (.string ⟨l.toArray⟩) (wr.drewN k) := fun k => convY m hlm (HOn.out k)
            have HBk : Hid (∀ k, Below w.heap.size w (wr.drewN k)) := fun k => hb.trans ((Turn.none_ ((Turn.refl (fun _ => False) wr).drewN k) (fun _ => id)).mono hb.size)
            have hwi : IntKind.i64.wrap ((i : Int) + 1) = ((i + 1 : Nat) : Int) := IntWalk.i64_in _ (by omega)
            have hw : ((q.toNat : Int) == 34) = false ∨ ((q.toNat : Int) == 34) = true ∧ (¬ (i : Int) + 1 < (s.size : Int) ∨ ∃ h : i + 1 < s.size, (i : Int) + 1 < (s.size : Int) ∧ ((s[i + 1].toNat : Int) == 34) = false) := by
              by_cases h34 : q.toNat = 34
              · refine .inr ⟨beq_iff_eq.2 (by omega), ?_⟩
                by_cases h : i + 1 < s.size
                · exact .inr ⟨h, by omega, beq_eq_false_iff_ne.2 fun e => hd ⟨h34, h, by omega⟩⟩
                · exact .inl (by omega)
              · exact .inl (beq_eq_false_iff_ne.2 (by omega))
            clear hX HD HI ho hlm hg' hc hdrop1 hd
            rcases hw with b1 | ⟨b1, b2 | ⟨h1, b2, b3⟩⟩
            all_goals
              go_wp2_with (go_at_call 37; refine HG.out.mono ?_; rintro e w1 ⟨rfl, rfl⟩)
              go_quiet (fail)
              go_wp2
              exact bodyPost_ret (v := .tuple #[.string ⟨l.toArray⟩, .int .i64 ((i + 1 : Nat) : Int), .int .i64 0, .int .i64 0]) (by simp [results, Tryd.results59, go_sem]) rfl ⟨HBk.out _, fun _ => ⟨i + 1, by rw [HE.out.2.1], by omega, by omega, HE.out.2.2⟩, fun h => (by rw [HE.out.1] at h; cases h), fun h => (by rw [HE.out.1] at h; cases h)⟩
        · have hbn : ((s[i].toNat : Int) != (q.toNat : Int)) = true := by
            rw [bne_iff_ne]
            intro e
            exact hc (UInt8.toNat_inj.1 (by omega))
          rw [Lx.quo_plain _ hg' hc] at hX
          have HO := Lib.hid ho
          have HL := Lib.hid hlm
          have HX := Lib.hid hX
          clear hX HD HI ho hlm hg' hc
          go_wp2_with (go_at_call 37; refine HG.out.mono ?_; rintro e w1 ⟨rfl, rfl⟩)
          go_quiet (fail)
          go_wp2_with (at_builtin; refine appendY _ rfl (.tmp 31) (.tmp 35) rfl w.heap.size A c l m HL.out s[i] _ rfl rfl (HOn.out _) rfl (by omega) hbw ?_; intro A2 c2 w2 o2 g2; have O2 := Lib.hid o2; have B2 := Lib.hid (HBn.out _ _ g2); clear o2 g2)
          go_roundw
          case rel => exact ⟨i + 1, A2, c2, m + 1, l ++ [s[i]], by omega, by omega, by omega, by go_num, rfl, B2.out, ⟨O2.out, by rw [List.length_append, HL.out]; rfl, by rw [HX.out]; simp⟩⟩
          case measure => simp [intOf]; omega
    · obtain rfl : i = s.size := by omega
      rw [drop_end] at HI
      have HE : Hid (X.2.1 = 51) := by
        show _ = _
        rw [HI.out.2.2]
        rfl
      clear HI
      go_wp2
      exact bodyPost_ret (v := .tuple #[.string ⟨#[]⟩, .int .i64 0, .int .i64 51, .int .i64 (a : Nat)]) (by simp [results, Tryd.results59, go_sem]) rfl ⟨hb, fun h => (by rw [HE.out] at h; cases h), fun h => (by rw [HE.out] at h; cases h), fun _ => rfl⟩
end Go.Proofs.YtpjdfogieiokkaaDoor
