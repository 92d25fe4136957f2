/- The statements' own joined: tokens, written with blanks behind them. -/
import Derived.Test.YtgnonopkefbhoaaDoorK14
namespace Go.Proofs.YtgnonopkefbhoaaDoor
open Go.RowKit Go.Shelf

/-- what of a token is written -/
abbrev ikey (x : ITok) : Int × List UInt8 := (x.1, x.2.1.data.toList)
theorem Lx.joined_app (b : UInt8) : ∀ l m : List (Int × List UInt8), Lx.joined b (l ++ m) = Lx.joined b l ++ Lx.joined b m
  | [], m => rfl
  | x :: l, m => by rw [List.cons_append, Lx.joined, Lx.joined, Lx.joined_app b l m]; simp
theorem Lx.joined_one (b : UInt8) (x : Int × List UInt8) : Lx.joined b [x] = Lx.show x.1 x.2 ++ [b] := rfl
theorem convB (w : World) (b : UInt8) : (convert 48 9 (.slice (some ⟨w.heap.size, 0, none⟩) 1 1)).run Tryd.prog (w.alloc (.cells #[.int .u8 (b.toNat : Int)] 5)) = .ok (.string ⟨#[b]⟩) (w.alloc (.cells #[.int .u8 (b.toNat : Int)] 5)) :=
  run_convert_bytes_back _ 48 9 5 ⟨w.heap.size, 0, none⟩ 1 [b] Tryd.underlying48 Tryd.underlying5 Tryd.underlying9 fun j hj => by
    obtain rfl : j = 0 := by simp at hj; exact hj
    have l := Lies.new w 5 #[.int .u8 (b.toNat : Int)]
    rw [addr_add, Nat.zero_add, l.cell 0]
    rfl

set_option maxRecDepth 100000 in
set_option maxHeartbeats 3200000 in
theorem kjoined (w : World) (A : Option Addr) (n c : Nat) (l : List ITok) (b : UInt8) (h : TokS w A n l) (hn : n ≤ 100000) (ht : ∀ x ∈ l, x.2.1.size ≤ 100000) (hj : (Lx.joined b (l.map ikey)).length ≤ 1000000) (hm : MaxL w) :
    Calls Tryd.prog 17 #[.slice A n c, .int .u8 (b.toNat : Nat)] w fun e w' =>
      ((∃ V : ByteArray, (∀ x ∈ l, Lx.okShow x.1 x.2.1.data.toList = true) ∧ e = .returned (.tuple #[.string V, .bool true]) ∧ V.data.toList = Lx.joined b (l.map ikey)) ∨
        ((∃ x ∈ l, Lx.okShow x.1 x.2.1.data.toList = false) ∧ e = .returned (.tuple #[.string ⟨#[]⟩, .bool false]))) ∧ Below w.heap.size w w' := by
  obtain ⟨Post, hPost⟩ : ∃ Post : Ending → World → Prop, Post = fun e w' => ((∃ V : ByteArray, (∀ x ∈ l, Lx.okShow x.1 x.2.1.data.toList = true) ∧ e = .returned (.tuple #[.string V, .bool true]) ∧ V.data.toList = Lx.joined b (l.map ikey)) ∨
        ((∃ x ∈ l, Lx.okShow x.1 x.2.1.data.toList = false) ∧ e = .returned (.tuple #[.string ⟨#[]⟩, .bool false]))) ∧ Below w.heap.size w w' := ⟨_, rfl⟩
  rw [← hPost]
  have HPo := Lib.hid hPost
  have HH := Lib.hid h
  have HT := Lib.hid ht
  have HJ := Lib.hid hj
  have HM := Lib.hid hm
  clear hPost h ht hj hm
  go_enter Tryd.func17, Tryd.ntmps17
  go_wp2
  go_loopw [6, 7] (fun sv iv wr => ∃ (i : Nat) (V : ByteArray), i ≤ n ∧ iv = .int .i64 (i : Nat) ∧ sv = .string V ∧ Below w.heap.size w wr ∧
    Hid ((∀ x ∈ l.take i, Lx.okShow x.1 x.2.1.data.toList = true) ∧ V.data.toList = Lx.joined b ((l.take i).map ikey))) (fun _ iv _ => n - (intOf iv).toNat)
  case atStart => exact ⟨0, ⟨#[]⟩, Nat.zero_le _, rfl, rfl, by first | exact Below.refl _ _ | assumption, ⟨fun x hx => absurd hx (by simp), rfl⟩⟩
  case round =>
    obtain ⟨i, V, hi, rfl, rfl, hb, HI⟩ := hrel
    have HB := Lib.hid hb
    have HMr := Lib.hid (HM.out.below hb)
    clear hb
    by_cases hlt : i < n
    · obtain ⟨b', off, x, rfl, hx, hdr, hc⟩ := HH.out.get hlt
      obtain ⟨z0, z1, z2, z3⟩ := hc _ HB.out
      obtain ⟨xk, xt, xa⟩ := x
      have hxm : (xk, xt, xa) ∈ l := List.mem_of_getElem? hx
      have hxt : xt.size ≤ 100000 := HT.out _ hxm
      obtain ⟨ok, hok⟩ : ∃ o, Lx.okShow xk xt.data.toList = o := ⟨_, rfl⟩
      have HK := Lib.hid fun W hW => kshow xk xt xa W hxt hW
      rw [hok] at HK
      have hlt' : (i : Int) < (n : Int) := by omega
      have hi0 : (0 : Int) ≤ (i : Int) := by omega
      have htk : l.take (i + 1) = l.take i ++ [(xk, xt, xa)] := take_one hx
      have HXM := Lib.hid hxm
      have HOK := Lib.hid hok
      have HTK := Lib.hid htk
      clear hc hx hdr hxm hok htk
      go_wp2_with fail
      refine (HK.out _ HMr.out).mono ?_
      rintro e w2 ⟨h, b2⟩
      have B2 := Lib.hid (HB.out.trans (b2.mono HB.out.size))
      clear z0 z1 z2 z3 b2
      cases ok with
      | true =>
        first | rw [if_pos rfl] at h | rw [if_pos trivial] at h
        obtain ⟨U, rfl, hU⟩ := h
        have hV2 : Lx.joined b ((l.take (i + 1)).map ikey) = V.data.toList ++ (U.data.toList ++ [b]) := by
          rw [HTK.out, List.map_append, Lx.joined_app, ← HI.out.2, List.map_cons, List.map_nil, Lx.joined_one, hU]
        have hlen : V.size + U.size + 1 ≤ 1000000 := by
          have h1 := HJ.out
          have h2 : l.map ikey = (l.take (i + 1)).map ikey ++ (l.drop (i + 1)).map ikey := by rw [← List.map_append, List.take_append_drop]
          rw [h2, Lx.joined_app, hV2, List.length_append, List.length_append, List.length_append, len_bytes, len_bytes] at h1
          simp at h1
          omega
        have hadd : ∀ (a b : ByteArray) (W : World), a.size ≤ 8388608 → b.size ≤ 8388608 → (Op.stringOp .add a b).run Tryd.prog W = .ok (.string (a ++ b)) W := fun a b W ha hb => run_string_add W a b (by omega) (by omega)
        have a1 := fun W => hadd V U W (by omega) (by omega)
        obtain ⟨V1, hV1⟩ : ∃ X : ByteArray, V ++ U = X := ⟨_, rfl⟩
        obtain ⟨q1, q2⟩ := app_bytes V U
        rw [hV1] at a1 q1 q2
        have a2 := fun W => hadd V1 ⟨#[b]⟩ W (by omega) (by show 1 ≤ _; omega)
        obtain ⟨V3, hV3⟩ : ∃ X : ByteArray, V1 ++ ⟨#[b]⟩ = X := ⟨_, rfl⟩
        obtain ⟨q3, q4⟩ := app_bytes V1 ⟨#[b]⟩
        rw [hV3] at a2 q3 q4
        have HN : Hid ((∀ x ∈ l.take (i + 1), Lx.okShow x.1 x.2.1.data.toList = true) ∧ V3.data.toList = Lx.joined b ((l.take (i + 1)).map ikey)) := by
          refine ⟨fun x hx => ?_, by rw [hV2, q3, q1, List.append_assoc]⟩
          rw [HTK.out] at hx
          rcases List.mem_append.1 hx with hx | hx
          · exact HI.out.1 x hx
          · rw [List.mem_singleton.1 hx]
            exact HOK.out
        have hcv := convB w2 b
        clear hU hV2 hlen hadd hV1 hV3 q1 q2 q3 q4 HI HTK HXM HOK
        go_wp2
        go_roundw
        case rel => exact ⟨i + 1, V3, by omega, by go_num, rfl, B2.out.alloc (B2.out.size) _, HN⟩
        case measure => simp [intOf]; omega
      | false =>
        first | rw [if_neg (by decide)] at h | rw [if_neg (fun e => e)] at h
        subst h
        have HE : Hid (∃ x ∈ l, Lx.okShow x.1 x.2.1.data.toList = false) := ⟨_, HXM.out, HOK.out⟩
        clear HI HTK HXM HOK
        go_wp2
        rw [HPo.out]
        exact ⟨.inr ⟨HE.out, rfl⟩, B2.out⟩
    · obtain rfl : i = n := by omega
      have HE : Hid ((∀ x ∈ l, Lx.okShow x.1 x.2.1.data.toList = true) ∧ V.data.toList = Lx.joined b (l.map ikey)) := by
        have := HI.out
        rw [List.take_of_length_le (by rw [HH.out.len]; exact Nat.le_refl _)] at this
        exact this
      clear HI
      go_wp2
      rw [HPo.out]
      exact ⟨.inl ⟨V, HE.out.1, rfl, HE.out.2⟩, HB.out⟩
end Go.Proofs.YtgnonopkefbhoaaDoor
