/- the reference's Limbs, Norm, Of, Int: what each answers. -/
import Derived.Test.YtefkkmnhnldcbaaD2
import Derived.Test.YtefkkmnhnldcbaaA2
namespace Go.Proofs.Ytefkkmnhnldcbaa
open Go.RowKit

/-- v holds the limbs l, in a row of the call's own from block B on -/
def OwnU (w : World) (B : Nat) (v : Value) (l : List Nat) : Prop := w.ownsRow B 43 1 v l.length (cellsOf l)
theorem OwnU.nil_ (w : World) (B : Nat) : OwnU w B (.slice none 0 0) [] := World.ownsRow_nil w B _ _
theorem OwnU.lims {w : World} {B : Nat} {v : Value} {l : List Nat} (h : OwnU w B v l) (hf : M.Fit l) : ∃ A c, v = .slice A l.length c ∧ Lims w A l.length l ∧ l.length ≤ c ∧ c ≤ maxLen := by
  obtain ⟨h1, ⟨rfl, h2⟩ | ⟨g, cap, cur, rfl, hb, hh, hc, hm, hs, ht⟩⟩ := h
  · exact ⟨none, 0, by rw [h2], ⟨rfl, hf, fun h => by omega⟩, by omega, by omega⟩
  · have hlt : g < w.heap.size := by
      rcases Nat.lt_or_ge g w.heap.size with h | h
      · exact h
      · rw [Array.getElem?_eq_none h] at hh; cases hh
    refine ⟨_, cap, rfl, ⟨rfl, hf, fun _ => ⟨g, 0, rfl, hlt, fun j hj => ?_⟩⟩, hc, hm⟩
    rw [Nat.zero_add, cell_of_row w g j cur _ (0, 0) hh]
    have := congrArg (·[j]?) ht
    simp only [Nat.mul_one] at this
    rw [cellsOf_get hj, List.getElem?_take, if_pos hj] at this
    simpa using this
theorem OwnU.own_ge {w : World} {B : Nat} {v : Value} {l : List Nat} (h : OwnU w B v l) {b : Nat} (hb : b ≤ B) : ∀ k, v.ownBlock = some k → b ≤ k := fun k e => by
  have := (World.ownsRow.lt h k e).1
  omega
theorem OwnU.alloc {w : World} {B : Nat} {v : Value} {l : List Nat} (h : OwnU w B v l) (o : Obj) : OwnU (w.alloc o) B v l := World.ownsRow.alloc h o

/-- append of limbs -/
theorem appendU {w : World} {ops : Array Oper} {rest : List Oper} {o : Oper} {a : Act} {Q : Exit → Act → World → Prop} (hgd : o.guard = none) (s x : Operand)
    (ho : o.op = .call { callee := .builtin .append, args := #[s, x], argTypes := #[22, 22] })
    {B m c N : Nat} {A : Addr} {v : Value} {l k : List Nat} (hs : a.eval s = v) (hown : OwnU w B v l) (hx : a.eval x = .slice (some A) m c) (hk : Lims w (some A) m k)
    (hn : l.length + m ≤ N) (hN : N ≤ 1000000000) (hB : B ≤ w.heap.size)
    (h : ∀ v' w', OwnU w' B v' (l ++ k) → w.grownBy w' v.ownBlock → wpList Try.prog ops Q rest (a.put o.dst v') w') :
    wpList Try.prog ops Q (o :: rest) a w := by
  obtain ⟨i0, hi0, hz0, hz1, hz2⟩ := info_parts Try.info_u32
  obtain ⟨h1, h2, h3⟩ := hk
  refine wpList_append_own w hgd s x 22 ho B 43 i0 (.int .u32 0) 1 4 Try.underlying22 hi0 hz0 hz1 hz2 rfl (by omega) v l.length (cellsOf l) hs hown A m c (cellsOf k) hx (by rw [cellsOf_length, h1, Nat.mul_one]) ?_ cellsOf_one (by unfold maxLen; omega) (by omega) hB ?_
  · intro j u hu
    have hj : j < k.length := by
      rcases Nat.lt_or_ge j k.length with h1 | h1
      · exact h1
      · rw [List.getElem?_eq_none (by rw [cellsOf_length]; exact h1)] at hu; cases hu
    rw [cellsOf_get hj] at hu
    injection hu with hu
    subst hu
    obtain ⟨b, off, e, _, h6⟩ := h3 (by omega)
    injection e with e
    subst e
    have := h6 j (by omega)
    unfold Addr.add
    split <;> simp_all
  · intro v' w' g1 g2 _
    refine h v' w' ?_ g2
    have e : cellsOf l ++ cellsOf k = cellsOf (l ++ k) := by simp [cellsOf]
    rw [e] at g1
    unfold OwnU
    rw [List.length_append, h1]
    exact g1

set_option maxHeartbeats 1000000 in
theorem limbs_any (A : Option Addr) (n c : Nat) (l : List Bool) (w : World) (h : Bts w A n c l) (hs : n ≤ 30000000) :
    Calls Try.prog 37 #[.slice A n c] w (Gives w (Bt.val l)) := by
  obtain ⟨V, HV⟩ : ∃ V, Hid (Bt.val l = V) := ⟨_, rfl⟩
  have hVn : Hid (V < 2 ^ n) := by rw [← HV.out]; have := Bt.val_lt l; rw [h.1] at this; exact this
  rw [HV.out]
  have HT := Lib.hid (rtrim_any A n c l w h (by omega))
  rw [HV.out] at HT
  go_enter Try.func37, Try.ntmps37
  go_wp2_with fail
  refine HT.out.mono ?_
  rintro e w1 ⟨v1, rfl, ⟨A', n', c', bs, rfl, hbs, htop, hval⟩, hb1⟩
  have hn' : n' ≤ 30000000 := by
    have := Bt.len_le (k := n) htop (by rw [hval]; exact hVn.out)
    rw [hbs.1] at this
    omega
  have HTOP := Lib.hid htop
  have HVAL := Lib.hid hval
  clear htop hval
  go_wp2_with fail
  go_loopw [3, 4] (fun dv iv wr => ∃ (t : Nat) (out : List Nat), iv = .int .i64 ((32 * t : Nat) : Int) ∧ (t = 0 ∨ 32 * (t - 1) < n') ∧ Bt.Limbing bs out t ∧ OwnU wr w1.heap.size dv out ∧ Below w.heap.size w wr ∧ Below w1.heap.size w1 wr)
    (fun _ iv _ => n' + 32 - (intOf iv).toNat)
  case atStart => exact ⟨0, [], rfl, .inl rfl, Bt.Limbing.start bs, OwnU.nil_ _ _, hb1, Below.refl _ _⟩
  case round =>
    obtain ⟨t, out, rfl, ht, hlim, hown, hbel, hbel1⟩ := hrel
    have hol := hlim.len
    have HOL := Lib.hid hol
    clear hol
    have ht6 : t ≤ 1000000 := by omega
    obtain ⟨i, HI⟩ : ∃ i, Hid (32 * t = i) := ⟨_, rfl⟩
    rw [HI.out]
    have hi : i ≤ 32000000 := by have := HI.out; omega
    by_cases hlt : i < n'
    · obtain ⟨wo, rfl⟩ : ∃ wo : World, wo = wr := ⟨_, rfl⟩
      go_wp2_with fail
      go_loop [5, 6] (fun nv kv => ∃ r nn : Nat, r ≤ 32 ∧ nn ≤ 4294967295 ∧ kv = .int .i64 ((i : Int) + r - 1) ∧ nv = .int .u32 nn ∧ Hid (nn = Bt.val ((bs.drop (i + r)).take (32 - r)))) (fun _ kv => (intOf kv - i + 1).toNat)
      case atStart => exact ⟨32, 0, by omega, by omega, by go_num, rfl, rfl⟩
      case round =>
        obtain ⟨r, nn, hr, hnn, rfl, rfl, HN⟩ := hrel
        by_cases hr0 : 0 < r
        · obtain ⟨k, hk⟩ : ∃ k : Nat, Hid (i + r - 1 = k) := ⟨_, rfl⟩
          have he : (i : Int) + (r : Int) - 1 = (k : Int) := by have := hk.out; omega
          have hik : i ≤ k := by have := hk.out; omega
          have hkb : k ≤ 40000000 := by have := hk.out; omega
          have hnn2 : nn ≤ 2147483647 := by
            have h1 := Bt.val_piece_lt bs (i + r) (32 - r)
            rw [← HN.out] at h1
            have h2 : 2 ^ (32 - r) ≤ 2 ^ 31 := Nat.pow_le_pow_right (by omega) (by omega)
            omega
          obtain ⟨bb, HB⟩ : ∃ bb, Hid (bs.getD k false = bb) := ⟨_, rfl⟩
          have hstep : Hid (bb.toNat + 2 * nn = Bt.val ((bs.drop (i + (r - 1))).take (32 - (r - 1)))) := by
            have h1 := Bt.val_piece bs k (32 - r)
            have e1 : k + 1 = i + r := by have := hk.out; omega
            have e2 : i + (r - 1) = k := by have := hk.out; omega
            rw [e1, ← HN.out, HB.out] at h1
            rw [e2, show 32 - (r - 1) = 32 - r + 1 from by omega, h1]
            exact rfl
          by_cases hkn : k < n'
          · obtain ⟨b, off, rfl, hb, hcs⟩ := (hbs.below hbel1).at_ (by omega)
            obtain ⟨x, HX, hcell⟩ := hcs k hkn
            rw [HB.out] at HX
            obtain rfl : x = bb := HX.out
            clear hcs
            cases x
            · go_wp2_with fail
              go_round
              case rel => exact ⟨r - 1, 2 * nn, by omega, by omega, by go_num, by go_num, (show _ = _ from by simpa using hstep.out)⟩
              case measure => simp [intOf]; omega
            · go_wp2_with fail
              go_round
              case rel => exact ⟨r - 1, 1 + 2 * nn, by omega, by omega, by go_num, by go_num, (show _ = _ from by simpa using hstep.out)⟩
              case measure => simp [intOf]; omega
          · have hbf : bb = false := by rw [← HB.out]; exact Bt.getD_ge (by rw [hbs.1]; omega)
            subst hbf
            go_wp2_with fail
            go_round
            case rel => exact ⟨r - 1, 2 * nn, by omega, by omega, by go_num, by go_num, (show _ = _ from by simpa using hstep.out)⟩
            case measure => simp [intOf]; omega
        · obtain rfl : r = 0 := by omega
          have HN' : Hid (nn = Bt.val ((bs.drop (32 * t)).take 32)) := by rw [HI.out]; exact HN.out
          have hlim' := hlim.step HN'.out
          have hlu : ∀ W : World, Lims (W.alloc (.cells #[.int .u32 (nn : Int)] 43)) (some ⟨W.heap.size, 0, none⟩) 1 [nn] := fun W => lims_one W nn hnn
          have HLU := Lib.hid hlu
          clear hlu
          have hz : ((0 : Nat) : Int) = 0 := rfl
          have hlt' : (i : Int) + ((0 : Nat) : Int) - 1 < (i : Int) := by omega
          go_wp2_with (refine appendU rfl (.tmp 36) (.tmp 38) rfl (N := 1000001) rfl (hown.alloc _) rfl (HLU.out _) (by have := HOL.out; omega) (by omega) (by simp; have := hbel1.size; omega) ?_; intro v4 w4 ho4 hg4)
          have hbel4 := (hbel.alloc hbel.size (.cells #[.int .u32 (nn : Int)] 43)).grown hg4 (by simp; have := hbel.size; omega) (hown.own_ge hb1.size)
          have hbel14 := (hbel1.alloc hbel1.size (.cells #[.int .u32 (nn : Int)] 43)).grown hg4 (by simp; have := hbel1.size; omega) (hown.own_ge (Nat.le_refl _))
          go_roundw
          case rel => exact ⟨t + 1, _, by have := HI.out; go_num, .inr (by have := HI.out; omega), hlim', ho4, hbel4, hbel14⟩
          case measure => simp [intOf]; omega
    · obtain ⟨htp, hvl⟩ := hlim.end_ HTOP.out (by rw [hbs.1]; have := HI.out; omega) (by rw [hbs.1]; exact ht)
      have HTP := Lib.hid htp
      have HVL := Lib.hid (hvl.trans HVAL.out)
      have hfit := hlim.fit
      clear htp hvl
      obtain ⟨Ao, co, rfl, hlo, hlc, hcm⟩ := hown.lims hfit
      go_wp2_with fail
      go_ret
      exact ⟨_, rfl, ⟨Ao, _, co, out, rfl, hlo, HTP.out, HVL.out, hlc, hcm⟩, hbel⟩

theorem rnorm_any (A : Option Addr) (n c : Nat) (l : List Nat) (w : World) (h : Lims w A n l) (hs : n ≤ 900000) :
    Calls Try.prog 15 #[.slice A n c] w (Gives w (M.val l)) := by
  have hlt := M.val_lt h.2.1
  rw [h.1, Bt.pow_BB] at hlt
  have HLT := Lib.hid hlt
  clear hlt
  have HB := Lib.hid (bits_any A n c l w h (by omega))
  generalize M.val l = V at *
  go_enter Try.func15, Try.ntmps15
  go_wp2_with fail
  refine HB.out.mono ?_
  rintro e w1 ⟨v1, rfl, ⟨A', n', c', bs, rfl, hbs, htop, hval⟩, hb1⟩
  have hn' : n' ≤ 30000000 := by
    have := Bt.len_le (k := 32 * n) htop (by rw [hval]; exact HLT.out)
    rw [hbs.1] at this
    omega
  have HL := Lib.hid (limbs_any A' n' c' bs w1 hbs hn')
  rw [hval] at HL
  clear hval
  go_wp2_with fail
  refine HL.out.mono ?_
  rintro e w2 ⟨v, rfl, hv, hb2⟩
  go_wp2_with fail
  go_ret
  exact ⟨v, rfl, hv, hb1.trans (hb2.mono hb1.size)⟩

theorem rof_any (x : Nat) (w : World) (hx : x ≤ 18446744073709551615) :
    Calls Try.prog 29 #[.int .u64 x] w (Gives w x) := by
  have hv : M.val [x % 4294967296, x / 4294967296] = x := by simp [M.val, M.BB_eq]; omega
  have HT := Lib.hid (rnorm_any (some ⟨w.heap.size, 0, none⟩) 2 2 [x % 4294967296, x / 4294967296] _ (lims_two w (x % 4294967296) (x / 4294967296) (by omega) (by omega)) (by omega))
  rw [hv] at HT
  clear hv
  go_enter Try.func29, Try.ntmps29
  go_wp2_with fail
  refine HT.out.mono ?_
  rintro e w1 ⟨v, rfl, hv, hb⟩
  go_wp2_with fail
  go_ret
  exact ⟨v, rfl, hv, ((Below.refl _ _).alloc (Nat.le_refl _) _).trans (hb.mono (by simp))⟩

theorem rint_great (A : Option Addr) (n c : Nat) (l : List Nat) (w : World) (h : Lims w A n l) (hs : n ≤ 900000) (hv : 4611686018427387904 ≤ (M.val l : Int)) :
    Calls Try.prog 31 #[.slice A n c] w fun e w' => e = .returned (.tuple #[.int .i64 0, .bool false]) ∧ Below w.heap.size w w' := by
  have HB := Lib.hid (bits_any A n c l w h (by omega))
  have HV := Lib.hid hv
  clear hv
  generalize M.val l = V at *
  go_enter Try.func31, Try.ntmps31
  go_wp2_with fail
  refine HB.out.mono ?_
  rintro e w1 ⟨v1, rfl, ⟨A', n', c', bs, rfl, hbs, htop, hval⟩, hb1⟩
  have hn' : 62 < n' := by
    rcases Nat.lt_or_ge 62 n' with h1 | h1
    · exact h1
    · have := Bt.val_lt bs
      rw [hval, hbs.1] at this
      have h2 : 2 ^ n' ≤ 2 ^ 62 := Nat.pow_le_pow_right (by omega) h1
      have := HV.out
      omega
  clear hval htop HV
  go_wp2_with fail
  go_ret2
  exact ⟨rfl, hb1⟩

theorem rint_small (A : Option Addr) (n c : Nat) (l : List Nat) (w : World) (h : Lims w A n l) (hs : n ≤ 900000) (hv : (M.val l : Int) < 4611686018427387904) :
    Calls Try.prog 31 #[.slice A n c] w fun e w' => e = .returned (.tuple #[.int .i64 (M.val l : Nat), .bool true]) ∧ Below w.heap.size w w' := by
  have HB := Lib.hid (bits_any A n c l w h (by omega))
  have HV := Lib.hid hv
  clear hv
  generalize M.val l = V at *
  go_enter Try.func31, Try.ntmps31
  go_wp2_with fail
  refine HB.out.mono ?_
  rintro e w1 ⟨v1, rfl, ⟨A', n', c', bs, rfl, hbs, htop, hval⟩, hb1⟩
  have hn' : n' ≤ 62 := by
    have := Bt.len_le (k := 62) htop (by rw [hval]; have := HV.out; omega)
    rw [hbs.1] at this
    exact this
  have HVAL := Lib.hid hval
  clear hval htop HV
  go_wp2_with fail
  go_loop [5, 6] (fun nv iv => ∃ i nn : Nat, i ≤ n' ∧ iv = .int .i64 ((i : Int) - 1) ∧ nv = .int .i64 nn ∧ Hid (nn = Bt.val (bs.drop i))) (fun _ iv => (intOf iv + 1).toNat)
  case atStart => exact ⟨n', 0, by omega, by go_num, rfl, by rw [List.drop_of_length_le (by rw [hbs.1]; exact Nat.le_refl _)]; exact rfl⟩
  case round =>
    obtain ⟨i, nn, hi, rfl, rfl, HN⟩ := hrel
    by_cases h0 : 0 < i
    · obtain ⟨k, hk⟩ : ∃ k : Nat, Hid (i - 1 = k) := ⟨_, rfl⟩
      have he : (i : Int) - 1 = (k : Int) := by have := hk.out; omega
      have hkn : k < n' := by have := hk.out; omega
      obtain ⟨b, off, rfl, hb, hcs⟩ := hbs.at_ (by omega)
      obtain ⟨x, HX, hcell⟩ := hcs k hkn
      clear hcs
      have hdr : Hid (x.toNat + 2 * nn = Bt.val (bs.drop k)) := by
        rw [HX.out, Bt.getD_lt (by rw [hbs.1]; exact hkn), HN.out, List.drop_eq_getElem_cons (i := k) (by rw [hbs.1]; exact hkn), Bt.val_cons, show k + 1 = i from by have := hk.out; omega]
        exact rfl
      have hlt : Hid (x.toNat + 2 * nn < 2 ^ 62) := by
        rw [hdr.out]
        have h1 := Bt.val_lt (bs.drop k)
        have h2 : 2 ^ (bs.drop k).length ≤ 2 ^ 62 := Nat.pow_le_pow_right (by omega) (by rw [List.length_drop, hbs.1]; omega)
        exact Nat.lt_of_lt_of_le h1 h2
      have hw1 : IntKind.i64.wrap ((nn : Int) * 2) = (nn : Int) * 2 := IntWalk.i64_in _ (by have := hlt.out; omega)
      have hw2 : x = true → IntKind.i64.wrap ((nn : Int) * 2 + 1) = (nn : Int) * 2 + 1 := fun e => IntWalk.i64_in _ (by have := hlt.out; rw [e] at this; simp at this; omega)
      clear hlt
      cases x
      · clear hw2
        go_wp2_with fail
        go_round
        case rel => exact ⟨k, 2 * nn, by omega, by go_num, by go_num, (show _ = _ from by simpa using hdr.out)⟩
        case measure => simp [intOf]; omega
      · have hw2 := hw2 rfl
        go_wp2_with fail
        go_round
        case rel => exact ⟨k, 1 + 2 * nn, by omega, by go_num, by go_num, (show _ = _ from by simpa using hdr.out)⟩
        case measure => simp [intOf]; omega
    · obtain rfl : i = 0 := by omega
      have hV : Hid (nn = V) := by rw [HN.out, List.drop_zero, HVAL.out]; exact rfl
      have hz : ((0 : Nat) : Int) - 1 < 0 := by omega
      go_wp2_with fail
      go_ret2
      refine ⟨?_, hb1⟩
      rw [← hV.out]
      rfl
end Go.Proofs.Ytefkkmnhnldcbaa
