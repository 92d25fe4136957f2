/- The reference's App. -/
import Derived.Test.YtkooconjkimgoaaDoorN5
namespace Go.Proofs.YtkooconjkimgoaaDoor
open Go.RowKit

def Tm.bs (L : List Nat) : ByteArray := ⟨(L.map UInt8.ofNat).toArray⟩
theorem Tm.bs_size (L : List Nat) : (Tm.bs L).size = L.length := by unfold Tm.bs; rw [ByteArray.size]; simp
theorem Tm.bs_get {L : List Nat} {k : Nat} (h : k < (Tm.bs L).size) (hL : ∀ c ∈ L, c < 256) : ((Tm.bs L)[k]'h).toNat = L.getD k 0 := by
  have hk : k < L.length := by rwa [Tm.bs_size] at h
  have e : (Tm.bs L)[k]'h = UInt8.ofNat (L[k]) := by
    show (Tm.bs L).data[k]'(by unfold Tm.bs; simpa using hk) = _
    simp [Tm.bs]
  rw [e, List.getD_eq_getElem?_getD, List.getElem?_eq_getElem hk, Option.getD_some]
  have := hL L[k] (List.getElem_mem hk)
  simp
  omega
theorem Tm.bs_cut (L : List Nat) (c : Nat) : (Tm.bs (L ++ [c])).extract 0 L.length = Tm.bs L := by
  refine ByteArray.ext ?_
  rw [ByteArray.data_extract]
  unfold Tm.bs
  rw [List.map_append]
  apply Array.toList_inj.1
  rw [Array.toList_extract]
  show List.take _ (List.drop 0 _) = _
  rw [List.drop_zero, Nat.sub_zero]
  exact List.take_left' (by rw [List.length_map])
theorem Tm.asks_form {op : Int} {w : List Nat} {more : Bool} {own : Nat} (h : Tm.asks op = some (w, more, own)) :
    1 ≤ w.length ∧ w.length ≤ 3 ∧ (∀ c ∈ w, c = 66 ∨ c = 73 ∨ c = 83 ∨ c = 97 ∨ c = 61) ∧ (own = 66 ∨ own = 73 ∨ own = 83 ∨ own = 61) := by
  have key : ∀ (x : List Nat × Bool × Nat), some x = some (w, more, own) → (1 ≤ x.1.length ∧ x.1.length ≤ 3 ∧ (∀ c ∈ x.1, c = 66 ∨ c = 73 ∨ c = 83 ∨ c = 97 ∨ c = 61) ∧ (x.2.2 = 66 ∨ x.2.2 = 73 ∨ x.2.2 = 83 ∨ x.2.2 = 61)) → 1 ≤ w.length ∧ w.length ≤ 3 ∧ (∀ c ∈ w, c = 66 ∨ c = 73 ∨ c = 83 ∨ c = 97 ∨ c = 61) ∧ (own = 66 ∨ own = 73 ∨ own = 83 ∨ own = 61) := fun x e hx => by
    obtain rfl := Option.some.inj e
    exact hx
  by_cases hr : 6 ≤ op ∧ op ≤ 30
  · have : op = 6 ∨ op = 7 ∨ op = 8 ∨ op = 9 ∨ op = 10 ∨ op = 11 ∨ op = 12 ∨ op = 13 ∨ op = 14 ∨ op = 15 ∨ op = 16 ∨ op = 17 ∨ op = 18 ∨ op = 19 ∨ op = 20 ∨ op = 21 ∨ op = 22 ∨ op = 23 ∨ op = 24 ∨ op = 25 ∨ op = 26 ∨ op = 27 ∨ op = 28 ∨ op = 29 ∨ op = 30 := by omega
    rcases this with rfl | rfl | rfl | rfl | rfl | rfl | rfl | rfl | rfl | rfl | rfl | rfl | rfl | rfl | rfl | rfl | rfl | rfl | rfl | rfl | rfl | rfl | rfl | rfl | rfl
    all_goals exact key _ h (by decide)
  · rw [Tm.asks_none hr] at h
    cases h
theorem Tm.wantB_some {op : Int} {w : List Nat} {more : Bool} {own : Nat} (h : Tm.asks op = some (w, more, own)) : Tm.wantB op = Tm.bs (w ++ if more = true then [43] else []) ∧ Tm.ownB op = Tm.bs [own] := by
  unfold Tm.wantB Tm.ownB
  rw [h]
  exact ⟨rfl, rfl⟩
theorem bytes_some {T : ByteArray} (h : 0 < T.size) : T.toList.isEmpty = false := by
  rw [ByteArray.toList_eq, List.isEmpty_eq_false_iff]
  intro e
  have := congrArg List.length e
  rw [Array.length_toList] at this
  have h2 : T.data.size = T.size := rfl
  have h3 : T.data.size = 0 := this
  omega
/-- a list of numbers that came in, copied -/
theorem copyN9 (w : World) {ops : Array Oper} {rest : List Oper} {o : Oper} {a : Act} {Q : Exit → Act → World → Prop} (hgd : o.guard = none) (x : Operand)
    (ho : o.op = .call { callee := .builtin .append, args := #[.const (.slice none 0 0), x], argTypes := #[36, 36] }) (A : Option Addr) (n c : Nat) (R : List Int)
    (hx : a.eval x = .slice A n c) (hr : NumS w A n R) (hA : A = none → n = 0 ∧ c = 0) (hn : n ≤ 1000000)
    (h : ∀ A' c' w', OwnN w' w.heap.size A' c' R → Below w.heap.size w w' → wpList Tryd.prog ops Q rest (a.put o.dst (.slice A' n c')) w') :
    wpList Tryd.prog ops Q (o :: rest) a w := by
  obtain ⟨i0, hi, hz0, hz1, hz2⟩ := info_parts infoJ
  cases A with
  | none =>
    obtain ⟨rfl, rfl⟩ := hA rfl
    obtain rfl : R = [] := List.eq_nil_of_length_eq_zero hr.len
    exact wpList_append_own_none hgd _ x 36 ho w.heap.size 3 i0 1 Tryd.underlying36 hi (.slice none 0 0) 0 [] rfl (World.ownsRow_nil _ _ _ _) hx (h none 0 w (OwnN.nil _ _) (Below.refl _ _))
  | some ad =>
    refine wpList_append_own_at w hgd _ x 36 ho w.heap.size 3 i0 (.int .i64 0) 1 8 Tryd.underlying36 hi hz0 hz1 hz2 rfl (by decide) (.slice none 0 0) 0 [] rfl (World.ownsRow_nil _ _ _ _)
      ad n c (i64s R) hx (by rw [List.length_map, hr.len]; omega) (fun j u hu => ?_) (fun u hu => by obtain ⟨z, _, rfl⟩ := List.mem_map.1 hu; rfl) (by unfold maxLen; omega) (by omega) (Nat.le_refl _) fun v' w' q1 q2 _ _ => ?_
    · rw [List.getElem?_map] at hu
      obtain ⟨z, hz, rfl⟩ := Option.map_eq_some_iff.1 hu
      obtain ⟨b, off, e, _, hc⟩ := hr.at_ (by have := hr.len; have := (List.getElem?_eq_some_iff.1 hz).1; omega)
      obtain rfl := Option.some.inj e
      rw [addr_add]
      exact hc j z hz
    · simp only [Nat.zero_add, List.nil_append] at q1
      obtain ⟨A', c', rfl⟩ := own_form q1
      have hl := hr.len
      subst hl
      exact h A' c' w' q1 ⟨q2.os, q2.tape, q2.output, q2.size, fun k hk => q2.block k hk (by simp [Value.ownBlock])⟩

set_option maxRecDepth 100000 in
set_option maxHeartbeats 16000000 in
theorem rapp9 (w : World) (A : Option Addr) (n c : Nat) (l : List Nd) (op : Int) (B : Option Addr) (m d : Nat) (a : List Int) {G : Nat → Prop} (h : NodS w G A n c l) (hI : Tm.Inv l) (ha : NumS w B m a) (hB : B = none → m = 0 ∧ d = 0) (hn : n ≤ 30000) (hm : m ≤ 1000) :
    Calls Tryd.prog 27 #[.slice A n c, .int .i64 op, .slice B m d] w fun e w' => NAns w G (Tm.app l op a) e w' := by
  have HK := Lib.hid (rasks9 op w)
  have hl := h.len
  have hal := ha.len
  have HErr : Hid (∀ (e : Int) W, Tm.app l op a = (l, 0, e) → Below w.heap.size w W → NAns w G (Tm.app l op a) (.returned (.tuple #[.slice A n c, .int .i64 0, .int .i64 e])) W) := fun e W he hW => by
    rw [he]
    exact ⟨⟨A, c, by rw [hl], by rw [hl]; exact (h.below hW).mono fun _ => .inl⟩, hW⟩
  obtain ⟨Post, hPost⟩ : ∃ Post : Ending → World → Prop, Post = fun e w' => NAns w G (Tm.app l op a) e w' := ⟨_, rfl⟩
  have HPo : Hid (∀ e W, NAns w G (Tm.app l op a) e W → Post e W) := fun e W h => by rw [hPost]; exact h
  rw [← hPost]
  clear hPost
  cases hask : Tm.asks op with
  | none =>
    have e1 : Tm.wantB op = ⟨#[]⟩ := by unfold Tm.wantB; rw [hask]
    rw [e1] at HK
    have HE := Lib.hid fun W hW => HPo.out _ W (HErr.out 101 W (by unfold Tm.app; rw [hask]) hW)
    clear h ha hB hask HErr HPo e1 hI
    go_enter Tryd.func27, Tryd.ntmps27
    go_wp2_with fail
    refine HK.out.mono ?_
    rintro e w1 ⟨rfl, rfl⟩
    clear HK
    go_wp2_with fail
    first | exact HE.out _ (Below.refl _ _) | exact bodyPost_ret (by simp [results, Tryd.results27, go_sem]) rfl (HE.out _ (Below.refl _ _))
  | some q =>
    obtain ⟨wl, more, own⟩ := q
    obtain ⟨wq1, wq3, wc, ow⟩ := Tm.asks_form hask
    obtain ⟨eW, eO⟩ := Tm.wantB_some hask
    rw [eW, eO] at HK
    clear eW eO
    obtain ⟨k, hk⟩ : ∃ k, wl.length = k := ⟨_, rfl⟩
    rw [hk] at wq1 wq3
    obtain ⟨T, hT⟩ : ∃ T, T = Tm.bs wl := ⟨_, rfl⟩
    have hTs : T.size = k := by rw [hT, Tm.bs_size, hk]
    have HTg : Hid (∀ i (h : i < T.size), (T[i]'h).toNat = wl.getD i 0) := fun i h => by
      subst hT
      exact Tm.bs_get h fun c hc => by have := wc c hc; omega
    obtain ⟨O, hO⟩ : ∃ O, O = Tm.bs [own] := ⟨_, rfl⟩
    rw [← hO] at HK
    have hOs : O.size = 1 := by rw [hO, Tm.bs_size]; rfl
    have HOg : Hid (∀ (h : 0 < O.size), (O[0]'h).toNat = own) := fun h => by
      subst hO
      exact Tm.bs_get h fun c hc => by rw [List.mem_singleton.1 hc]; omega
    have HOe : Hid ((O.toList == [61]) = decide (own = 61)) := by
      show (O.toList == [61]) = decide (own = 61)
      rw [hO, ByteArray.toList_eq]
      rcases ow with rfl | rfl | rfl | rfl <;> decide
    have happ : Tm.app l op a = if a.length < wl.length ∨ (wl.length < a.length ∧ more = false) ∨ 200 < a.length then (l, 0, 1) else if Tm.allIn l a = false then (l, 0, 1)
        else if Tm.oks wl 0 63 (a.map (Tm.letAt l)) = false then (l, 0, 90) else if op = 17 ∧ 1 < Tm.free l a then (l, 0, 101) else Tm.add l (Tm.node op own l a) := by
      unfold Tm.app
      rw [hask]
    rw [hal, hk] at happ
    have HG := Lib.hid (And.intro h (And.intro hI (And.intro ha hB)))
    have HWc := Lib.hid (And.intro wc ow)
    have HHk := Lib.hid (And.intro hk hal)
    by_cases hbad : m < k ∨ (k < m ∧ more = false) ∨ 200 < m
    case pos =>
      have HE := Lib.hid fun W hW => HPo.out _ W (HErr.out 1 W (by rw [happ, if_pos hbad]) hW)
      clear h hI ha hB HErr HPo happ hO hask wc ow hal hk hl HOg HOe HG
      have hm4 : (more = true ∧ m < k) ∨ (more = true ∧ k < m ∧ 200 < m) ∨ (more = false ∧ m < k) ∨ (more = false ∧ k < m) := by
        cases more
        · rcases Nat.lt_or_ge m k with e | e
          · exact .inr (.inr (.inl ⟨rfl, e⟩))
          · exact .inr (.inr (.inr ⟨rfl, by simp at hbad; omega⟩))
        · rcases Nat.lt_or_ge m k with e | e
          · exact .inl ⟨rfl, e⟩
          · exact .inr (.inl ⟨rfl, by simp at hbad; omega, by simp at hbad; omega⟩)
      clear hbad
      rcases hm4 with ⟨rfl, hkm⟩ | ⟨rfl, hkm⟩ | ⟨rfl, hkm⟩ | ⟨rfl, hkm⟩
      · have g1i : decide ((m : Int) < (k : Int)) = true := decide_eq_true (by omega)
        have g1n : decide (m < k) = true := decide_eq_true (by omega)
        obtain ⟨W, hW⟩ : ∃ W, W = Tm.bs (wl ++ [43]) := ⟨_, rfl⟩
        obtain ⟨z, hsz⟩ : ∃ z, W.size = z := ⟨_, rfl⟩
        have hzk : z = k + 1 := by rw [← hsz, hW, Tm.bs_size, List.length_append, HHk.out.1]; rfl
        have hne : W.toList.isEmpty = false := bytes_some (by omega)
        have hkz : k < W.size := by omega
        have h43 : (W[k]'hkz).toNat = 43 := by
          subst hW
          have hk := HHk.out.1
          rw [Tm.bs_get hkz (fun c hc => by
            rcases List.mem_append.1 hc with hc | hc
            · have := HWc.out.1 c hc
              omega
            · rw [List.mem_singleton.1 hc]
              decide)]
          rw [List.getD_eq_getElem?_getD, List.getElem?_append_right (by omega), hk]
          simp
        have hcut : W.extract 0 k = T := by rw [hW, hT, ← HHk.out.1, Tm.bs_cut]
        have hw1 : wrap64 ((z : Int) - 1) = (k : Int) := by rw [IntWalk.wrap64_in _ (by omega)]; omega
        have hk0 : (0 : Int) ≤ (k : Int) := by omega
        have hkz2 : (k : Int) < (z : Int) := by omega
        have hWW : Tm.bs (wl ++ if true = true then [43] else []) = W := by rw [hW]; rfl
        rw [hWW] at HK
        clear hW hWW hT hzk hkm
        go_enter Tryd.func27, Tryd.ntmps27
        go_wp2_with fail
        refine HK.out.mono ?_
        rintro e w1 ⟨rfl, rfl⟩
        clear HK
        go_wp2_with fail
        have HF := HE.out _ (Below.refl _ _)
        first | exact HF | exact bodyPost_ret (by simp [results, Tryd.results27, go_sem]) rfl HF
      · have g1i : decide ((m : Int) < (k : Int)) = false := decide_eq_false (by omega)
        have g1n : decide (m < k) = false := decide_eq_false (by omega)
        have g2i : decide ((k : Int) < (m : Int)) = true := decide_eq_true (by omega)
        have g2n : decide (k < m) = true := decide_eq_true (by omega)
        have g3i : decide ((200 : Int) < (m : Int)) = true := decide_eq_true (by omega)
        have g3n : decide (200 < m) = true := decide_eq_true (by omega)
        obtain ⟨W, hW⟩ : ∃ W, W = Tm.bs (wl ++ [43]) := ⟨_, rfl⟩
        obtain ⟨z, hsz⟩ : ∃ z, W.size = z := ⟨_, rfl⟩
        have hzk : z = k + 1 := by rw [← hsz, hW, Tm.bs_size, List.length_append, HHk.out.1]; rfl
        have hne : W.toList.isEmpty = false := bytes_some (by omega)
        have hkz : k < W.size := by omega
        have h43 : (W[k]'hkz).toNat = 43 := by
          subst hW
          have hk := HHk.out.1
          rw [Tm.bs_get hkz (fun c hc => by
            rcases List.mem_append.1 hc with hc | hc
            · have := HWc.out.1 c hc
              omega
            · rw [List.mem_singleton.1 hc]
              decide)]
          rw [List.getD_eq_getElem?_getD, List.getElem?_append_right (by omega), hk]
          simp
        have hcut : W.extract 0 k = T := by rw [hW, hT, ← HHk.out.1, Tm.bs_cut]
        have hw1 : wrap64 ((z : Int) - 1) = (k : Int) := by rw [IntWalk.wrap64_in _ (by omega)]; omega
        have hk0 : (0 : Int) ≤ (k : Int) := by omega
        have hkz2 : (k : Int) < (z : Int) := by omega
        have hWW : Tm.bs (wl ++ if true = true then [43] else []) = W := by rw [hW]; rfl
        rw [hWW] at HK
        clear hW hWW hT hzk hkm
        go_enter Tryd.func27, Tryd.ntmps27
        go_wp2_with fail
        refine HK.out.mono ?_
        rintro e w1 ⟨rfl, rfl⟩
        clear HK
        go_wp2_with fail
        have HF := HE.out _ (Below.refl _ _)
        first | exact HF | exact bodyPost_ret (by simp [results, Tryd.results27, go_sem]) rfl HF
      · have g1i : decide ((m : Int) < (k : Int)) = true := decide_eq_true (by omega)
        have g1n : decide (m < k) = true := decide_eq_true (by omega)
        have hWW : Tm.bs (wl ++ if false = true then [43] else []) = T := by rw [hT]; simp
        rw [hWW] at HK
        have hne : T.toList.isEmpty = false := bytes_some (by omega)
        have hkz : k - 1 < T.size := by omega
        have hk0 : (0 : Int) ≤ (k : Int) - 1 := by omega
        have hkz2 : (k : Int) - 1 < (k : Int) := by omega
        have h43 : (((T[k - 1]'hkz).toNat : Int) == 43) = false := by
          have h1 := HTg.out (k - 1) hkz
          have h2 : k - 1 < wl.length := by rw [HHk.out.1]; omega
          rw [List.getD_eq_getElem?_getD, List.getElem?_eq_getElem h2, Option.getD_some] at h1
          have h3 := HWc.out.1 _ (List.getElem_mem h2)
          refine beq_eq_false_iff_ne.2 ?_
          omega
        obtain ⟨y43, hy43⟩ : ∃ y, (T[k - 1]'hkz).toNat = y := ⟨_, rfl⟩
        rw [hy43] at h43
        clear hWW hT hkm
        go_enter Tryd.func27, Tryd.ntmps27
        go_wp2_with fail
        refine HK.out.mono ?_
        rintro e w1 ⟨rfl, rfl⟩
        clear HK
        go_wp2_with fail
        have HF := HE.out _ (Below.refl _ _)
        first | exact HF | exact bodyPost_ret (by simp [results, Tryd.results27, go_sem]) rfl HF
      · have g1i : decide ((m : Int) < (k : Int)) = false := decide_eq_false (by omega)
        have g1n : decide (m < k) = false := decide_eq_false (by omega)
        have g2i : decide ((k : Int) < (m : Int)) = true := decide_eq_true (by omega)
        have g2n : decide (k < m) = true := decide_eq_true (by omega)
        have hWW : Tm.bs (wl ++ if false = true then [43] else []) = T := by rw [hT]; simp
        rw [hWW] at HK
        have hne : T.toList.isEmpty = false := bytes_some (by omega)
        have hkz : k - 1 < T.size := by omega
        have hk0 : (0 : Int) ≤ (k : Int) - 1 := by omega
        have hkz2 : (k : Int) - 1 < (k : Int) := by omega
        have h43 : (((T[k - 1]'hkz).toNat : Int) == 43) = false := by
          have h1 := HTg.out (k - 1) hkz
          have h2 : k - 1 < wl.length := by rw [HHk.out.1]; omega
          rw [List.getD_eq_getElem?_getD, List.getElem?_eq_getElem h2, Option.getD_some] at h1
          have h3 := HWc.out.1 _ (List.getElem_mem h2)
          refine beq_eq_false_iff_ne.2 ?_
          omega
        obtain ⟨y43, hy43⟩ : ∃ y, (T[k - 1]'hkz).toNat = y := ⟨_, rfl⟩
        rw [hy43] at h43
        clear hWW hT hkm
        go_enter Tryd.func27, Tryd.ntmps27
        go_wp2_with fail
        refine HK.out.mono ?_
        rintro e w1 ⟨rfl, rfl⟩
        clear HK
        go_wp2_with fail
        have HF := HE.out _ (Below.refl _ _)
        first | exact HF | exact bodyPost_ret (by simp [results, Tryd.results27, go_sem]) rfl HF
    case neg =>
    have HE1 : Hid (Tm.allIn l a = false → ∀ W, Below w.heap.size w W → Post (.returned (.tuple #[.slice A n c, .int .i64 0, .int .i64 1])) W) := fun h1 W hW => HPo.out _ W (HErr.out 1 W (by rw [happ, if_neg hbad, if_pos h1]) hW)
    have HE90 : Hid (Tm.allIn l a = true → Tm.oks wl 0 63 (a.map (Tm.letAt l)) = false → ∀ W, Below w.heap.size w W → Post (.returned (.tuple #[.slice A n c, .int .i64 0, .int .i64 90])) W) := fun h1 h2 W hW => HPo.out _ W (HErr.out 90 W (by rw [happ, if_neg hbad, if_neg (by rw [h1]; decide), if_pos h2]) hW)
    have HE101 : Hid (Tm.allIn l a = true → Tm.oks wl 0 63 (a.map (Tm.letAt l)) = true → op = 17 ∧ 1 < Tm.free l a → ∀ W, Below w.heap.size w W → Post (.returned (.tuple #[.slice A n c, .int .i64 0, .int .i64 101])) W) := fun h1 h2 h3 W hW => HPo.out _ W (HErr.out 101 W (by rw [happ, if_neg hbad, if_neg (by rw [h1]; decide), if_neg (by rw [h2]; decide), if_pos h3]) hW)
    have HAdd : Hid (Tm.allIn l a = true → Tm.oks wl 0 63 (a.map (Tm.letAt l)) = true → ¬ (op = 17 ∧ 1 < Tm.free l a) → ∀ e W W', Below w.heap.size w W → NAns W (fun k => G k ∨ w.heap.size ≤ k) (Tm.add l (Tm.node op own l a)) e W' → Post e W') := fun h1 h2 h3 e W W' hW hA => HPo.out _ W' (by
      rw [happ, if_neg hbad, if_neg (by rw [h1]; decide), if_neg (by rw [h2]; decide), if_neg h3]
      exact hA.up hW fun _ => id)
    have gd1 : decide ((m : Int) < (k : Int)) = false := decide_eq_false (by omega)
    have gd2 : decide (m < k) = false := decide_eq_false (by omega)
    have gd3 : decide ((200 : Int) < (m : Int)) = false := decide_eq_false (by omega)
    have gd4 : decide (200 < m) = false := decide_eq_false (by omega)
    clear h hI ha hB HErr HPo happ hO hask wc ow hal hk hl
    have hm3 : (more = true ∧ k < m) ∨ (more = true ∧ k = m) ∨ (more = false ∧ k = m) := by
      cases more
      · exact .inr (.inr ⟨rfl, by simp at hbad; omega⟩)
      · rcases Nat.lt_or_ge k m with e | e
        · exact .inl ⟨rfl, e⟩
        · exact .inr (.inl ⟨rfl, by omega⟩)
    clear hbad
    rcases hm3 with ⟨rfl, hkm⟩ | ⟨rfl, hkm⟩ | ⟨rfl, hkm⟩
    case' inl =>
      have gd5 : decide ((k : Int) < (m : Int)) = true := decide_eq_true (by omega)
      have gd6 : decide (k < m) = true := decide_eq_true (by omega)
      obtain ⟨W, hW⟩ : ∃ W, W = Tm.bs (wl ++ [43]) := ⟨_, rfl⟩
      obtain ⟨z, hsz⟩ : ∃ z, W.size = z := ⟨_, rfl⟩
      have hzk : z = k + 1 := by rw [← hsz, hW, Tm.bs_size, List.length_append, HHk.out.1]; rfl
      have hne : W.toList.isEmpty = false := bytes_some (by omega)
      have hkz : k < W.size := by omega
      have h43 : (W[k]'hkz).toNat = 43 := by
        subst hW
        have hk := HHk.out.1
        rw [Tm.bs_get hkz (fun c hc => by
          rcases List.mem_append.1 hc with hc | hc
          · have := HWc.out.1 c hc
            omega
          · rw [List.mem_singleton.1 hc]
            decide)]
        rw [List.getD_eq_getElem?_getD, List.getElem?_append_right (by omega), hk]
        simp
      have hcut : W.extract 0 k = T := by rw [hW, hT, ← HHk.out.1, Tm.bs_cut]
      have hw1 : wrap64 ((z : Int) - 1) = (k : Int) := by rw [IntWalk.wrap64_in _ (by omega)]; omega
      have hk0 : (0 : Int) ≤ (k : Int) := by omega
      have hkz2 : (k : Int) < (z : Int) := by omega
      have hWW : Tm.bs (wl ++ if true = true then [43] else []) = W := by rw [hW]; rfl
      rw [hWW] at HK
      clear hW hWW hT hzk hkm
      go_enter Tryd.func27, Tryd.ntmps27
      go_wp2_with fail
      refine HK.out.mono ?_
      rintro e w1 ⟨rfl, rfl⟩
      clear HK
      go_wp2_with fail
      clear hw1 hcut h43 hne hkz hk0 hkz2 hsz
    case' inr.inl =>
      have gd5 : decide ((k : Int) < (m : Int)) = false := decide_eq_false (by omega)
      have gd6 : decide (k < m) = false := decide_eq_false (by omega)
      obtain ⟨W, hW⟩ : ∃ W, W = Tm.bs (wl ++ [43]) := ⟨_, rfl⟩
      obtain ⟨z, hsz⟩ : ∃ z, W.size = z := ⟨_, rfl⟩
      have hzk : z = k + 1 := by rw [← hsz, hW, Tm.bs_size, List.length_append, HHk.out.1]; rfl
      have hne : W.toList.isEmpty = false := bytes_some (by omega)
      have hkz : k < W.size := by omega
      have h43 : (W[k]'hkz).toNat = 43 := by
        subst hW
        have hk := HHk.out.1
        rw [Tm.bs_get hkz (fun c hc => by
          rcases List.mem_append.1 hc with hc | hc
          · have := HWc.out.1 c hc
            omega
          · rw [List.mem_singleton.1 hc]
            decide)]
        rw [List.getD_eq_getElem?_getD, List.getElem?_append_right (by omega), hk]
        simp
      have hcut : W.extract 0 k = T := by rw [hW, hT, ← HHk.out.1, Tm.bs_cut]
      have hw1 : wrap64 ((z : Int) - 1) = (k : Int) := by rw [IntWalk.wrap64_in _ (by omega)]; omega
      have hk0 : (0 : Int) ≤ (k : Int) := by omega
      have hkz2 : (k : Int) < (z : Int) := by omega
      have hWW : Tm.bs (wl ++ if true = true then [43] else []) = W := by rw [hW]; rfl
      rw [hWW] at HK
      clear hW hWW hT hzk hkm
      go_enter Tryd.func27, Tryd.ntmps27
      go_wp2_with fail
      refine HK.out.mono ?_
      rintro e w1 ⟨rfl, rfl⟩
      clear HK
      go_wp2_with fail
      clear hw1 hcut h43 hne hkz hk0 hkz2 hsz
    case' inr.inr =>
      have gd5 : decide ((k : Int) < (m : Int)) = false := decide_eq_false (by omega)
      have gd6 : decide (k < m) = false := decide_eq_false (by omega)
      have hWW : Tm.bs (wl ++ if false = true then [43] else []) = T := by rw [hT]; simp
      rw [hWW] at HK
      have hne : T.toList.isEmpty = false := bytes_some (by omega)
      have hkz : k - 1 < T.size := by omega
      have hk0 : (0 : Int) ≤ (k : Int) - 1 := by omega
      have hkz2 : (k : Int) - 1 < (k : Int) := by omega
      have h43 : (((T[k - 1]'hkz).toNat : Int) == 43) = false := by
        have h1 := HTg.out (k - 1) hkz
        have h2 : k - 1 < wl.length := by rw [HHk.out.1]; omega
        rw [List.getD_eq_getElem?_getD, List.getElem?_eq_getElem h2, Option.getD_some] at h1
        have h3 := HWc.out.1 _ (List.getElem_mem h2)
        refine beq_eq_false_iff_ne.2 ?_
        omega
      obtain ⟨y43, hy43⟩ : ∃ y, (T[k - 1]'hkz).toNat = y := ⟨_, rfl⟩
      rw [hy43] at h43
      clear hWW hT hkm
      go_enter Tryd.func27, Tryd.ntmps27
      go_wp2_with fail
      refine HK.out.mono ?_
      rintro e w1 ⟨rfl, rfl⟩
      clear HK
      go_wp2_with fail
      clear h43 hne hy43 hk0 hkz2 hkz
    all_goals
      go_loopw [12] (fun iv wr => ∃ i : Nat, i ≤ m ∧ iv = .int .i64 (i : Nat) ∧ w1 = wr ∧ Hid (∀ p ∈ a.take i, 0 ≤ p ∧ p < n)) (fun iv _ => m - (intOf iv).toNat)
      case atStart => exact ⟨0, Nat.zero_le _, rfl, rfl, fun p hp => by simp at hp⟩
      case round =>
        obtain ⟨i, hi, rfl, rfl, HA⟩ := hrel
        by_cases hlt : i < m
        · have hlt' : (i : Int) < (m : Int) := by omega
          have hi0 : (0 : Int) ≤ (i : Int) := by omega
          obtain ⟨b, off, x, rfl, hx, _, _, hc⟩ := HG.out.2.2.1.get hlt
          have cx := (hc w1 (Below.refl _ _)).2
          have htake := Lib.hid (take_one hx)
          have hxa := Lib.hid hx
          clear hx hc
          by_cases hxn : 0 ≤ x ∧ x < n
          · have x0 : decide (x < 0) = false := decide_eq_false (by omega)
            have x1 : decide ((n : Int) ≤ x) = false := decide_eq_false (by omega)
            have HA2 : Hid (∀ p ∈ a.take (i + 1), 0 ≤ p ∧ p < n) := by
              show ∀ p ∈ a.take (i + 1), 0 ≤ p ∧ p < n
              rw [htake.out]
              intro p hp
              rcases List.mem_append.1 hp with hp | hp
              · exact HA.out p hp
              · rw [List.mem_singleton.1 hp]
                exact hxn
            have hiw : IntKind.i64.wrap ((i : Int) + 1) = (i : Int) + 1 := IntWalk.i64_in _ (by omega)
            clear hxn HA HG HE1 HE90 HE101 HAdd HTg HOg HOe HWc HHk
            go_wp2
            go_roundw
            case rel => exact ⟨i + 1, by omega, by go_num, by first | trivial | rfl, HA2.out⟩
            case measure => simp [intOf]; omega
          · have HE := Lib.hid (HE1.out (by
              rw [Bool.eq_false_iff]
              intro e
              have := Tm.allIn_spec e x (List.mem_of_getElem? hxa.out)
              rw [HG.out.1.len] at this
              exact hxn this) w1 (Below.refl _ _))
            clear HA HG HE1 HE90 HE101 HAdd HTg HOg HOe HWc HHk htake hxa
            by_cases hx0 : x < 0
            · have x0 : decide (x < 0) = true := decide_eq_true hx0
              clear hxn hx0
              go_wp2
              first | exact HE.out | exact bodyPost_ret (by simp [results, Tryd.results27, go_sem]) rfl HE.out
            · have x0 : decide (x < 0) = false := decide_eq_false hx0
              have x1 : decide ((n : Int) ≤ x) = true := decide_eq_true (by omega)
              clear hxn hx0
              go_wp2
              first | exact HE.out | exact bodyPost_ret (by simp [results, Tryd.results27, go_sem]) rfl HE.out
        · obtain rfl : m = i := by omega
          have HIn : Hid (Tm.allIn l a = true) := by
            show Tm.allIn l a = true
            refine List.all_eq_true.2 fun p hp => decide_eq_true ?_
            rw [HG.out.1.len]
            refine HA.out p ?_
            rw [← HHk.out.2, List.take_length]
            exact hp
          clear HA HE1 hlt hi
          go_wp2
          go_loopw [13, 14, 15] (fun lv fv iv wr => ∃ (i last fr : Nat), i ≤ m ∧ lv = .int .u8 (last : Nat) ∧ fv = .int .i64 (fr : Nat) ∧ iv = .int .i64 (i : Nat) ∧ Hid (Below w1.heap.size w1 wr ∧ Tm.oks wl 0 63 ((a.take i).map (Tm.letAt l)) = true ∧ last = ((a.take i).map (Tm.letAt l)).getLast?.getD 63 ∧ fr = Tm.free l (a.take i) ∧ fr ≤ i)) (fun _ _ iv _ => m - (intOf iv).toNat)
          case atStart => exact ⟨0, 63, 0, Nat.zero_le _, rfl, rfl, rfl, Below.refl _ _, rfl, rfl, rfl, Nat.le_refl _⟩
          case round =>
            obtain ⟨i, last, fr, hi, rfl, rfl, rfl, HI⟩ := hrel
            by_cases hlt : i < m
            · have hlt' : (i : Int) < (m : Int) := by omega
              have hi0 : (0 : Int) ≤ (i : Int) := by omega
              obtain ⟨bB, oB, x, rfl, hx, hxm, _, hc⟩ := HG.out.2.2.1.get hlt
              have hxi := Tm.allIn_spec HIn.out x hxm
              rw [HG.out.1.len] at hxi
              obtain ⟨p, rfl⟩ : ∃ p : Nat, x = (p : Int) := ⟨x.toNat, by omega⟩
              have hpn : p < n := by omega
              have hp0 : (0 : Int) ≤ (p : Int) := by omega
              have hpn' : (p : Int) < (n : Int) := by omega
              obtain ⟨bA, oA, y, P, rfl, hy, hbA, hP, hcA⟩ := HG.out.1.get hpn
              have cx := (hc wr HI.out.1).2
              have cs := (hcA wr HI.out.1).2.1
              have hys := HG.out.2.1.sort y (List.mem_of_getElem? hy)
              obtain ⟨lt, hlet⟩ : ∃ lt, Tm.letter y.sort = lt := ⟨_, rfl⟩
              have HLt : Hid (Calls Tryd.prog 47 #[.int .i64 y.sort] wr fun e w' => e = .returned (.int .u8 (lt : Nat)) ∧ w' = wr) := by
                have := rletter9 y.sort hys.1 hys.2 wr
                rw [hlet] at this
                exact this
              obtain ⟨g, hg⟩ : ∃ g, Tm.isNum l (p : Int) = g := ⟨_, rfl⟩
              have HNm := Lib.hid (rnumber9 wr _ n c l (HG.out.1.below HI.out.1) HG.out.2.1 p hpn)
              rw [hg] at HNm
              have hla : Tm.letAt l (p : Int) = lt := by unfold Tm.letAt; rw [Int.toNat_natCast, hy]; exact hlet
              obtain ⟨j, hj⟩ : ∃ j, (if i < k then i else k - 1) = j := ⟨_, rfl⟩
              have hjk : j < k := by rw [← hj]; split <;> omega
              obtain ⟨q, hq⟩ : ∃ q, Tm.want wl i = q := ⟨_, rfl⟩
              have hTq : (T[j]'(by omega)).toNat = q := by
                rw [HTg.out j, ← hq, Tm.want, HHk.out.1, hj]
              have hqc : q = 66 ∨ q = 73 ∨ q = 83 ∨ q = 97 ∨ q = 61 := by
                have := hTq
                rw [HTg.out j, List.getD_eq_getElem?_getD, List.getElem?_eq_getElem (by rw [HHk.out.1]; exact hjk), Option.getD_some] at this
                have := HWc.out.1 _ (List.getElem_mem (by rw [HHk.out.1]; exact hjk))
                omega
              have htake : (a.take (i + 1)).map (Tm.letAt l) = (a.take i).map (Tm.letAt l) ++ [lt] := by rw [take_one hx, List.map_append, List.map_cons, hla]; rfl
              have hoks : Tm.oks wl 0 63 ((a.take (i + 1)).map (Tm.letAt l)) = Tm.okOne q last lt := by
                rw [htake, Tm.oks_app, HI.out.2.1, Bool.true_and, ← HI.out.2.2.1, ← hq]
                congr 2
                rw [List.length_map, List.length_take, HG.out.2.2.1.len, Nat.zero_add, Nat.min_eq_left (by omega)]
              have HOk : Hid (Tm.okOne q last lt = true → Tm.oks wl 0 63 ((a.take (i + 1)).map (Tm.letAt l)) = true ∧ lt = ((a.take (i + 1)).map (Tm.letAt l)).getLast?.getD 63) := fun h => ⟨by rw [hoks, h], by rw [htake]; simp⟩
              have HBad : Hid (Tm.okOne q last lt = false → Post (.returned (.tuple #[.slice (some ⟨bA, oA, none⟩) n c, .int .i64 0, .int .i64 90])) wr) := fun h => HE90.out HIn.out (by
                rw [Bool.eq_false_iff]
                intro e
                have hsplit : a.map (Tm.letAt l) = (a.take (i + 1)).map (Tm.letAt l) ++ (a.drop (i + 1)).map (Tm.letAt l) := by rw [← List.map_append, List.take_append_drop]
                rw [hsplit] at e
                have := Tm.oks_pre wl _ _ _ _ e
                rw [hoks, h] at this
                cases this) wr HI.out.1
              have HFr : Hid (Tm.free l (a.take (i + 1)) = fr + if g = true then 0 else 1) := by
                show Tm.free l (a.take (i + 1)) = _
                rw [take_one hx, Tm.free_app, hg, ← HI.out.2.2.2.1]
              have hfri := HI.out.2.2.2.2
              have HB := Lib.hid HI.out.1
              have hiw : IntKind.i64.wrap ((i : Int) + 1) = (i : Int) + 1 := IntWalk.i64_in _ (by omega)
              have hfw : IntKind.i64.wrap ((fr : Int) + 1) = (fr : Int) + 1 := IntWalk.i64_in _ (by omega)
              have hj0 : (0 : Int) ≤ (j : Int) := by omega
              have hjk' : (j : Int) < (k : Int) := by omega
              have hways : (i < k ∧ j = i) ∨ (k ≤ i ∧ j + 1 = k) := by
                by_cases e : i < k
                · rw [if_pos e] at hj
                  exact .inl ⟨e, hj.symm⟩
                · rw [if_neg e] at hj
                  exact .inr ⟨by omega, by omega⟩
              have hqw : (q = 97) ∨ (q = 61 ∧ lt = last) ∨ (q = 61 ∧ lt ≠ last) ∨ (q ≠ 97 ∧ q ≠ 61 ∧ lt = q) ∨ (q ≠ 97 ∧ q ≠ 61 ∧ lt ≠ q) := by omega
              clear HI hx hxm hc hxi hpn hy hbA hP hcA hys hlet hg hla hj hq hqc htake hoks HE90 HE101 HAdd HG HHk HWc HTg HOg HOe hi
              rcases hways with ⟨e1, e2⟩ | ⟨e1, e2⟩
              · have ik1 : decide ((k : Int) ≤ (i : Int)) = false := decide_eq_false (by omega)
                have ik2 : decide (k ≤ i) = false := decide_eq_false (by omega)
                have e3 : i = j := e2.symm
                clear e1 e2 hlt'
                subst e3
                have hlt' : (i : Int) < (m : Int) := by omega
                rcases hqw with rfl | ⟨rfl, hlq⟩ | ⟨rfl, hlq⟩ | ⟨n1, n2, hlq⟩ | ⟨n1, n2, hlq⟩
                · have HO2 := Lib.hid (HOk.out rfl)
                  clear HOk HBad
                  go_wp2_with fail
                  refine HLt.out.mono ?_
                  rintro e w2 ⟨rfl, rfl⟩
                  clear HLt
                  go_wp2_with fail
                  refine HNm.out.mono ?_
                  rintro e w3 ⟨rfl, b3⟩
                  have HB3 := Lib.hid (HB.out.trans (b3.mono HB.out.size))
                  clear HNm b3 HB
                  cases g
                  · go_wp2
                    go_roundw
                    case rel => exact ⟨i + 1, lt, fr + 1, by omega, by go_num, by go_num, by go_num, HB3.out, HO2.out.1, HO2.out.2, by rw [HFr.out]; rfl, by omega⟩
                    case measure => simp [intOf]; omega
                  · go_wp2
                    go_roundw
                    case rel => exact ⟨i + 1, lt, fr, by omega, by go_num, by go_num, by go_num, HB3.out, HO2.out.1, HO2.out.2, by rw [HFr.out]; rfl, by omega⟩
                    case measure => simp [intOf]; omega
                · have hb5 : ((lt : Int) != (last : Int)) = false := by rw [hlq]; simp
                  have HO2 := Lib.hid (HOk.out (by rw [hlq]; simp [Tm.okOne]))
                  clear hlq
                  clear HOk HBad
                  go_wp2_with fail
                  refine HLt.out.mono ?_
                  rintro e w2 ⟨rfl, rfl⟩
                  clear HLt
                  go_wp2_with fail
                  refine HNm.out.mono ?_
                  rintro e w3 ⟨rfl, b3⟩
                  have HB3 := Lib.hid (HB.out.trans (b3.mono HB.out.size))
                  clear HNm b3 HB
                  cases g
                  · go_wp2
                    go_roundw
                    case rel => exact ⟨i + 1, lt, fr + 1, by omega, by go_num, by go_num, by go_num, HB3.out, HO2.out.1, HO2.out.2, by rw [HFr.out]; rfl, by omega⟩
                    case measure => simp [intOf]; omega
                  · go_wp2
                    go_roundw
                    case rel => exact ⟨i + 1, lt, fr, by omega, by go_num, by go_num, by go_num, HB3.out, HO2.out.1, HO2.out.2, by rw [HFr.out]; rfl, by omega⟩
                    case measure => simp [intOf]; omega
                · have hb5 : ((lt : Int) != (last : Int)) = true := by simp; omega
                  have HE := Lib.hid (HBad.out (by simp [Tm.okOne, hlq]))
                  clear hlq
                  clear HOk HBad HNm HFr
                  go_wp2_with fail
                  refine HLt.out.mono ?_
                  rintro e w2 ⟨rfl, rfl⟩
                  clear HLt
                  go_wp2_with fail
                  first | exact HE.out | exact bodyPost_ret (by simp [results, Tryd.results27, go_sem]) rfl HE.out
                · have hb1 : ((q : Int) != 97) = true := by simp; omega
                  have hb2 : ((q : Int) != 61) = true := by simp; omega
                  have hb4 : ((q : Int) == 61) = false := by simp; omega
                  have hb3 : ((lt : Int) != (q : Int)) = false := by rw [hlq]; simp
                  have HO2 := Lib.hid (HOk.out (by simp [Tm.okOne, n2, hlq]))
                  clear n1 n2 hlq
                  clear HOk HBad
                  go_wp2_with fail
                  refine HLt.out.mono ?_
                  rintro e w2 ⟨rfl, rfl⟩
                  clear HLt
                  go_wp2_with fail
                  refine HNm.out.mono ?_
                  rintro e w3 ⟨rfl, b3⟩
                  have HB3 := Lib.hid (HB.out.trans (b3.mono HB.out.size))
                  clear HNm b3 HB
                  cases g
                  · go_wp2
                    go_roundw
                    case rel => exact ⟨i + 1, lt, fr + 1, by omega, by go_num, by go_num, by go_num, HB3.out, HO2.out.1, HO2.out.2, by rw [HFr.out]; rfl, by omega⟩
                    case measure => simp [intOf]; omega
                  · go_wp2
                    go_roundw
                    case rel => exact ⟨i + 1, lt, fr, by omega, by go_num, by go_num, by go_num, HB3.out, HO2.out.1, HO2.out.2, by rw [HFr.out]; rfl, by omega⟩
                    case measure => simp [intOf]; omega
                · have hb1 : ((q : Int) != 97) = true := by simp; omega
                  have hb2 : ((q : Int) != 61) = true := by simp; omega
                  have hb4 : ((q : Int) == 61) = false := by simp; omega
                  have hb3 : ((lt : Int) != (q : Int)) = true := by simp; omega
                  have HE := Lib.hid (HBad.out (by simp [Tm.okOne, n1, n2, hlq]))
                  clear n1 n2 hlq
                  clear HOk HBad HNm HFr
                  go_wp2_with fail
                  refine HLt.out.mono ?_
                  rintro e w2 ⟨rfl, rfl⟩
                  clear HLt
                  go_wp2_with fail
                  first | exact HE.out | exact bodyPost_ret (by simp [results, Tryd.results27, go_sem]) rfl HE.out
              · have ik1 : decide ((k : Int) ≤ (i : Int)) = true := decide_eq_true (by omega)
                have ik2 : decide (k ≤ i) = true := decide_eq_true (by omega)
                have hkw : IntKind.i64.wrap ((k : Int) - 1) = (j : Int) := by rw [IntWalk.i64_in _ (by omega)]; omega
                clear e1 e2
                rcases hqw with rfl | ⟨rfl, hlq⟩ | ⟨rfl, hlq⟩ | ⟨n1, n2, hlq⟩ | ⟨n1, n2, hlq⟩
                · have HO2 := Lib.hid (HOk.out rfl)
                  clear HOk HBad
                  go_wp2_with fail
                  refine HLt.out.mono ?_
                  rintro e w2 ⟨rfl, rfl⟩
                  clear HLt
                  go_wp2_with fail
                  refine HNm.out.mono ?_
                  rintro e w3 ⟨rfl, b3⟩
                  have HB3 := Lib.hid (HB.out.trans (b3.mono HB.out.size))
                  clear HNm b3 HB
                  cases g
                  · go_wp2
                    go_roundw
                    case rel => exact ⟨i + 1, lt, fr + 1, by omega, by go_num, by go_num, by go_num, HB3.out, HO2.out.1, HO2.out.2, by rw [HFr.out]; rfl, by omega⟩
                    case measure => simp [intOf]; omega
                  · go_wp2
                    go_roundw
                    case rel => exact ⟨i + 1, lt, fr, by omega, by go_num, by go_num, by go_num, HB3.out, HO2.out.1, HO2.out.2, by rw [HFr.out]; rfl, by omega⟩
                    case measure => simp [intOf]; omega
                · have hb5 : ((lt : Int) != (last : Int)) = false := by rw [hlq]; simp
                  have HO2 := Lib.hid (HOk.out (by rw [hlq]; simp [Tm.okOne]))
                  clear hlq
                  clear HOk HBad
                  go_wp2_with fail
                  refine HLt.out.mono ?_
                  rintro e w2 ⟨rfl, rfl⟩
                  clear HLt
                  go_wp2_with fail
                  refine HNm.out.mono ?_
                  rintro e w3 ⟨rfl, b3⟩
                  have HB3 := Lib.hid (HB.out.trans (b3.mono HB.out.size))
                  clear HNm b3 HB
                  cases g
                  · go_wp2
                    go_roundw
                    case rel => exact ⟨i + 1, lt, fr + 1, by omega, by go_num, by go_num, by go_num, HB3.out, HO2.out.1, HO2.out.2, by rw [HFr.out]; rfl, by omega⟩
                    case measure => simp [intOf]; omega
                  · go_wp2
                    go_roundw
                    case rel => exact ⟨i + 1, lt, fr, by omega, by go_num, by go_num, by go_num, HB3.out, HO2.out.1, HO2.out.2, by rw [HFr.out]; rfl, by omega⟩
                    case measure => simp [intOf]; omega
                · have hb5 : ((lt : Int) != (last : Int)) = true := by simp; omega
                  have HE := Lib.hid (HBad.out (by simp [Tm.okOne, hlq]))
                  clear hlq
                  clear HOk HBad HNm HFr
                  go_wp2_with fail
                  refine HLt.out.mono ?_
                  rintro e w2 ⟨rfl, rfl⟩
                  clear HLt
                  go_wp2_with fail
                  first | exact HE.out | exact bodyPost_ret (by simp [results, Tryd.results27, go_sem]) rfl HE.out
                · have hb1 : ((q : Int) != 97) = true := by simp; omega
                  have hb2 : ((q : Int) != 61) = true := by simp; omega
                  have hb4 : ((q : Int) == 61) = false := by simp; omega
                  have hb3 : ((lt : Int) != (q : Int)) = false := by rw [hlq]; simp
                  have HO2 := Lib.hid (HOk.out (by simp [Tm.okOne, n2, hlq]))
                  clear n1 n2 hlq
                  clear HOk HBad
                  go_wp2_with fail
                  refine HLt.out.mono ?_
                  rintro e w2 ⟨rfl, rfl⟩
                  clear HLt
                  go_wp2_with fail
                  refine HNm.out.mono ?_
                  rintro e w3 ⟨rfl, b3⟩
                  have HB3 := Lib.hid (HB.out.trans (b3.mono HB.out.size))
                  clear HNm b3 HB
                  cases g
                  · go_wp2
                    go_roundw
                    case rel => exact ⟨i + 1, lt, fr + 1, by omega, by go_num, by go_num, by go_num, HB3.out, HO2.out.1, HO2.out.2, by rw [HFr.out]; rfl, by omega⟩
                    case measure => simp [intOf]; omega
                  · go_wp2
                    go_roundw
                    case rel => exact ⟨i + 1, lt, fr, by omega, by go_num, by go_num, by go_num, HB3.out, HO2.out.1, HO2.out.2, by rw [HFr.out]; rfl, by omega⟩
                    case measure => simp [intOf]; omega
                · have hb1 : ((q : Int) != 97) = true := by simp; omega
                  have hb2 : ((q : Int) != 61) = true := by simp; omega
                  have hb4 : ((q : Int) == 61) = false := by simp; omega
                  have hb3 : ((lt : Int) != (q : Int)) = true := by simp; omega
                  have HE := Lib.hid (HBad.out (by simp [Tm.okOne, n1, n2, hlq]))
                  clear n1 n2 hlq
                  clear HOk HBad HNm HFr
                  go_wp2_with fail
                  refine HLt.out.mono ?_
                  rintro e w2 ⟨rfl, rfl⟩
                  clear HLt
                  go_wp2_with fail
                  first | exact HE.out | exact bodyPost_ret (by simp [results, Tryd.results27, go_sem]) rfl HE.out
            · obtain rfl : m = i := by omega
              have hal := HHk.out.2
              have htk : a.take m = a := by rw [← hal, List.take_length]
              obtain ⟨hI1, hI2, hI3, hI4, _⟩ := HI.out
              rw [htk] at hI2 hI3 hI4
              have HM101 := Lib.hid (HE101.out HIn.out hI2)
              have HMAdd := Lib.hid (HAdd.out HIn.out hI2)
              rw [← hI4] at HM101 HMAdd
              have HB := Lib.hid hI1
              have HNd : Hid (NodS wr G A n c l ∧ NumS wr B m a ∧ (B = none → m = 0 ∧ d = 0)) := ⟨HG.out.1.below hI1, HG.out.2.2.1.below hI1, HG.out.2.2.2⟩
              have hsrt : Tm.own own (a.map (Tm.letAt l)) = Tm.sortOf (if own = 61 then last else own) := by unfold Tm.own; rw [← hI3]
              have HSrt := Lib.hid hsrt
              clear hI1 hI2 hI3 hI4 HI HE90 HE101 HAdd HG HHk HWc HTg hal htk hsrt hlt hi HIn
              by_cases hmul : op = 17 ∧ 1 < fr
              · obtain ⟨rfl, hfr⟩ := hmul
                have d2 : decide ((1 : Int) < (fr : Int)) = true := decide_eq_true (by omega)
                have d3 : decide (1 < fr) = true := decide_eq_true hfr
                have HE := Lib.hid (HM101.out ⟨rfl, hfr⟩ wr HB.out)
                clear HM101 HMAdd HNd HSrt HOg HOe
                go_wp2_with fail
                first | exact HE.out | exact bodyPost_ret (by simp [results, Tryd.results27, go_sem]) rfl HE.out
              have HM := Lib.hid (HMAdd.out hmul)
              have hm17 : op ≠ 17 ∨ op = 17 ∧ fr ≤ 1 := by omega
              clear HMAdd HM101
              have hOw : own = 61 ∨ own ≠ 61 := by omega
              rcases hm17 with hm17 | ⟨rfl, hm17⟩
              · have d1 : (op == 17) = false := beq_eq_false_iff_ne.2 hm17
                clear hm17 hmul
                rcases hOw with rfl | hOw
                · have hO1 : (O.toList == [61]) = true := HOe.out
                  have HS := Lib.hid (rsortOf9 last wr)
                  obtain ⟨so, hso⟩ : ∃ so, Tm.sortOf last = so := ⟨_, rfl⟩
                  rw [hso] at HS
                  have HNode : Hid (Tm.node op 61 l a = ⟨op, so, a, ⟨#[]⟩, 0, []⟩) := by
                    show Tm.node _ _ _ _ = _
                    unfold Tm.node
                    rw [HSrt.out, if_pos rfl, hso]
                    rfl
                  clear HSrt HOg HOe hso
                  go_wp2_with fail
                  refine HS.out.mono ?_
                  rintro e w2 ⟨rfl, rfl⟩
                  clear HS
                  go_wp2_with (at_builtin; refine copyN9 _ rfl (.tmp 158) rfl B m d a rfl HNd.out.2.1 HNd.out.2.2 (by omega) ?_; intro A5 c5 w5 o5 b5; have HO5 := Lib.hid o5; have HB5 := Lib.hid b5; clear o5 b5)
                  have HA5 : Hid (Calls Tryd.prog 43 #[.slice A n c, .agg #[.int .i64 op, .int .i64 so, .slice A5 m c5, .string ⟨#[]⟩, .bool false, .slice none 0 0, .slice none 0 0]] w5 fun e w' => NAns w5 (fun k => G k ∨ w1.heap.size ≤ k) (Tm.add l (Tm.node op 61 l a)) e w') := by
                    rw [HNode.out]
                    refine radd9 w5 A n c l ⟨A5, m, c5, false, none, 0, 0, none, 0, 0⟩ ⟨op, so, a, ⟨#[]⟩, 0, []⟩ ((HNd.out.1.below HB5.out).mono fun _ => .inl) ⟨OwnN.nums HO5.out HNd.out.2.1.len, ⟨⟨[], Lims.nil_ _ _, rfl, Nat.le_refl _, Nat.zero_le _, Nat.zero_le _⟩, rfl⟩, RunS.nil _ _, ⟨by simp only; omega, Nat.zero_le _, Nat.zero_le _⟩, ⟨fun ad e h0 => .inr (Nat.le_trans HB.out.size (HO5.out.lt (n := m) HNd.out.2.1.len (by rw [show A5 = some ad from e]; rfl)).1), Gs.zero _ _, Gs.zero _ _⟩⟩ hn
                  refine HA5.out.mono ?_
                  rintro e w6 ha6
                  have HE := Lib.hid (HM.out _ _ _ (HB.out.trans (HB5.out.mono HB.out.size)) ha6)
                  obtain ⟨⟨A6, c6, rfl, _⟩, _⟩ := ha6
                  clear HM HA5 HNode HO5 HB5 HNd
                  go_wp2
                  first | exact HE.out | exact bodyPost_ret (by simp [results, Tryd.results27, go_sem]) rfl HE.out
                · have hO1 : (O.toList == [61]) = false := by rw [HOe.out]; exact decide_eq_false hOw
                  have hO0 := HOg.out (by omega)
                  have HS := Lib.hid (rsortOf9 own wr)
                  obtain ⟨so, hso⟩ : ∃ so, Tm.sortOf own = so := ⟨_, rfl⟩
                  rw [hso] at HS
                  have HNode : Hid (Tm.node op own l a = ⟨op, so, a, ⟨#[]⟩, 0, []⟩) := by
                    show Tm.node _ _ _ _ = _
                    unfold Tm.node
                    rw [HSrt.out, if_neg hOw, hso]
                    rfl
                  clear HSrt HOg HOe hso
                  go_wp2_with fail
                  refine HS.out.mono ?_
                  rintro e w2 ⟨rfl, rfl⟩
                  clear HS
                  go_wp2_with (at_builtin; refine copyN9 _ rfl (.tmp 170) rfl B m d a rfl HNd.out.2.1 HNd.out.2.2 (by omega) ?_; intro A5 c5 w5 o5 b5; have HO5 := Lib.hid o5; have HB5 := Lib.hid b5; clear o5 b5)
                  have HA5 : Hid (Calls Tryd.prog 43 #[.slice A n c, .agg #[.int .i64 op, .int .i64 so, .slice A5 m c5, .string ⟨#[]⟩, .bool false, .slice none 0 0, .slice none 0 0]] w5 fun e w' => NAns w5 (fun k => G k ∨ w1.heap.size ≤ k) (Tm.add l (Tm.node op own l a)) e w') := by
                    rw [HNode.out]
                    refine radd9 w5 A n c l ⟨A5, m, c5, false, none, 0, 0, none, 0, 0⟩ ⟨op, so, a, ⟨#[]⟩, 0, []⟩ ((HNd.out.1.below HB5.out).mono fun _ => .inl) ⟨OwnN.nums HO5.out HNd.out.2.1.len, ⟨⟨[], Lims.nil_ _ _, rfl, Nat.le_refl _, Nat.zero_le _, Nat.zero_le _⟩, rfl⟩, RunS.nil _ _, ⟨by simp only; omega, Nat.zero_le _, Nat.zero_le _⟩, ⟨fun ad e h0 => .inr (Nat.le_trans HB.out.size (HO5.out.lt (n := m) HNd.out.2.1.len (by rw [show A5 = some ad from e]; rfl)).1), Gs.zero _ _, Gs.zero _ _⟩⟩ hn
                  refine HA5.out.mono ?_
                  rintro e w6 ha6
                  have HE := Lib.hid (HM.out _ _ _ (HB.out.trans (HB5.out.mono HB.out.size)) ha6)
                  obtain ⟨⟨A6, c6, rfl, _⟩, _⟩ := ha6
                  clear HM HA5 HNode HO5 HB5 HNd
                  go_wp2
                  first | exact HE.out | exact bodyPost_ret (by simp [results, Tryd.results27, go_sem]) rfl HE.out
              · have d2 : decide ((1 : Int) < (fr : Int)) = false := decide_eq_false (by omega)
                have d3 : decide (1 < fr) = false := decide_eq_false (by omega)
                clear hm17 hmul
                rcases hOw with rfl | hOw
                · have hO1 : (O.toList == [61]) = true := HOe.out
                  have HS := Lib.hid (rsortOf9 last wr)
                  obtain ⟨so, hso⟩ : ∃ so, Tm.sortOf last = so := ⟨_, rfl⟩
                  rw [hso] at HS
                  have HNode : Hid (Tm.node 17 61 l a = ⟨17, so, a, ⟨#[]⟩, 0, []⟩) := by
                    show Tm.node _ _ _ _ = _
                    unfold Tm.node
                    rw [HSrt.out, if_pos rfl, hso]
                    rfl
                  clear HSrt HOg HOe hso
                  go_wp2_with fail
                  refine HS.out.mono ?_
                  rintro e w2 ⟨rfl, rfl⟩
                  clear HS
                  go_wp2_with (at_builtin; refine copyN9 _ rfl (.tmp 158) rfl B m d a rfl HNd.out.2.1 HNd.out.2.2 (by omega) ?_; intro A5 c5 w5 o5 b5; have HO5 := Lib.hid o5; have HB5 := Lib.hid b5; clear o5 b5)
                  have HA5 : Hid (Calls Tryd.prog 43 #[.slice A n c, .agg #[.int .i64 17, .int .i64 so, .slice A5 m c5, .string ⟨#[]⟩, .bool false, .slice none 0 0, .slice none 0 0]] w5 fun e w' => NAns w5 (fun k => G k ∨ w1.heap.size ≤ k) (Tm.add l (Tm.node 17 61 l a)) e w') := by
                    rw [HNode.out]
                    refine radd9 w5 A n c l ⟨A5, m, c5, false, none, 0, 0, none, 0, 0⟩ ⟨17, so, a, ⟨#[]⟩, 0, []⟩ ((HNd.out.1.below HB5.out).mono fun _ => .inl) ⟨OwnN.nums HO5.out HNd.out.2.1.len, ⟨⟨[], Lims.nil_ _ _, rfl, Nat.le_refl _, Nat.zero_le _, Nat.zero_le _⟩, rfl⟩, RunS.nil _ _, ⟨by simp only; omega, Nat.zero_le _, Nat.zero_le _⟩, ⟨fun ad e h0 => .inr (Nat.le_trans HB.out.size (HO5.out.lt (n := m) HNd.out.2.1.len (by rw [show A5 = some ad from e]; rfl)).1), Gs.zero _ _, Gs.zero _ _⟩⟩ hn
                  refine HA5.out.mono ?_
                  rintro e w6 ha6
                  have HE := Lib.hid (HM.out _ _ _ (HB.out.trans (HB5.out.mono HB.out.size)) ha6)
                  obtain ⟨⟨A6, c6, rfl, _⟩, _⟩ := ha6
                  clear HM HA5 HNode HO5 HB5 HNd
                  go_wp2
                  first | exact HE.out | exact bodyPost_ret (by simp [results, Tryd.results27, go_sem]) rfl HE.out
                · have hO1 : (O.toList == [61]) = false := by rw [HOe.out]; exact decide_eq_false hOw
                  have hO0 := HOg.out (by omega)
                  have HS := Lib.hid (rsortOf9 own wr)
                  obtain ⟨so, hso⟩ : ∃ so, Tm.sortOf own = so := ⟨_, rfl⟩
                  rw [hso] at HS
                  have HNode : Hid (Tm.node 17 own l a = ⟨17, so, a, ⟨#[]⟩, 0, []⟩) := by
                    show Tm.node _ _ _ _ = _
                    unfold Tm.node
                    rw [HSrt.out, if_neg hOw, hso]
                    rfl
                  clear HSrt HOg HOe hso
                  go_wp2_with fail
                  refine HS.out.mono ?_
                  rintro e w2 ⟨rfl, rfl⟩
                  clear HS
                  go_wp2_with (at_builtin; refine copyN9 _ rfl (.tmp 170) rfl B m d a rfl HNd.out.2.1 HNd.out.2.2 (by omega) ?_; intro A5 c5 w5 o5 b5; have HO5 := Lib.hid o5; have HB5 := Lib.hid b5; clear o5 b5)
                  have HA5 : Hid (Calls Tryd.prog 43 #[.slice A n c, .agg #[.int .i64 17, .int .i64 so, .slice A5 m c5, .string ⟨#[]⟩, .bool false, .slice none 0 0, .slice none 0 0]] w5 fun e w' => NAns w5 (fun k => G k ∨ w1.heap.size ≤ k) (Tm.add l (Tm.node 17 own l a)) e w') := by
                    rw [HNode.out]
                    refine radd9 w5 A n c l ⟨A5, m, c5, false, none, 0, 0, none, 0, 0⟩ ⟨17, so, a, ⟨#[]⟩, 0, []⟩ ((HNd.out.1.below HB5.out).mono fun _ => .inl) ⟨OwnN.nums HO5.out HNd.out.2.1.len, ⟨⟨[], Lims.nil_ _ _, rfl, Nat.le_refl _, Nat.zero_le _, Nat.zero_le _⟩, rfl⟩, RunS.nil _ _, ⟨by simp only; omega, Nat.zero_le _, Nat.zero_le _⟩, ⟨fun ad e h0 => .inr (Nat.le_trans HB.out.size (HO5.out.lt (n := m) HNd.out.2.1.len (by rw [show A5 = some ad from e]; rfl)).1), Gs.zero _ _, Gs.zero _ _⟩⟩ hn
                  refine HA5.out.mono ?_
                  rintro e w6 ha6
                  have HE := Lib.hid (HM.out _ _ _ (HB.out.trans (HB5.out.mono HB.out.size)) ha6)
                  obtain ⟨⟨A6, c6, rfl, _⟩, _⟩ := ha6
                  clear HM HA5 HNode HO5 HB5 HNd
                  go_wp2
                  first | exact HE.out | exact bodyPost_ret (by simp [results, Tryd.results27, go_sem]) rfl HE.out
end Go.Proofs.YtkooconjkimgoaaDoor
