/- What the proofs of this claim use, text by text. -/
import Derived.Test.YtfjpcjebecgglaaGreatDoorQE01
import Derived.Test.YtfjpcjebecgglaaGreatDoorQE02
import Derived.Lib.ItoaNum
import Derived.Lib.BitFns
import Derived.Shelf.Strings.Builder1
import Derived.Shelf.Strings.Builder2
import Derived.Shelf.Small.Bits
import Derived.Shelf.Strings.BuilderF
import Derived.Shelf.Strings.BuilderK
import Derived.Shelf.Strings.Builder2Cap
import Derived.Shelf.Strconv.Itoa0
import Derived.Shelf.Strconv.Itoa1
import Derived.Shelf.LaysM
import Derived.Shelf.Strconv.Itoa2
import Derived.Shelf.Strconv.Itoa3
import Derived.Shelf.Strings.Search1
import Derived.Shelf.Strings.Search2
import Derived.Shelf.Strings.Search3
import Derived.Shelf.Strings.Count
import Derived.Shelf.Strings.Shaped
import Derived.Shelf.Strconv.AppendUint10
import Derived.Shelf.Strconv.AppendInt10
import Derived.Shelf.Strconv.AppendIntPublic10
import Derived.Shelf.Strings.Prefix
import Derived.Shelf.Strings.Split
import Derived.Shelf.Strings.Replace
import Derived.Shelf.Strings.SplitShaped
import Derived.Shelf.Unicode.DecodeSlow
import Derived.Shelf.Strings.BuilderCap
import Derived.Test.YtfjpcjebecgglaaGreatDoorProg
import Derived.Test.YtfjpcjebecgglaaGreatDoorRows
import Derived.Stop.LaidErr
import Derived.Lib.LaidTab
import Derived.Shelf.Vars
set_option linter.unusedSimpArgs false
set_option linter.unusedVariables false
set_option maxRecDepth 100000
set_option maxHeartbeats 25600000
namespace Go.Proofs.YtfjpcjebecgglaaGreatDoor
noncomputable def Sh.dig (N : Nat) : List UInt8 := @Classical.epsilon (List UInt8) ⟨[]⟩ (T.Txt N)
theorem Sh.dig_of {N : Nat} {s : List UInt8} (h : T.Txt N s) : s = Sh.dig N := h.uniq (@Classical.epsilon_spec_aux (List UInt8) ⟨[]⟩ (T.Txt N) ⟨s, h⟩)
def Sh.atom (k : Int) (t : ByteArray) : Sx := ⟨false, k, t, 0, 0, []⟩
def Sh.list (L : List Sx) : Sx := ⟨true, 0, ⟨#[]⟩, 0, 0, L⟩
def Sh.app (op : ByteArray) (L : List Sx) : Sx := Sh.list (Sh.atom 3 op :: L)
abbrev Sh.cat : ByteArray := ⟨#[115, 116, 114, 46, 43, 43]⟩
abbrev Sh.minus : ByteArray := ⟨#[45]⟩
abbrev Sh.tLet : ByteArray := ⟨#[108, 101, 116]⟩
abbrev Sh.tTrue : ByteArray := ⟨#[116, 114, 117, 101]⟩
abbrev Sh.tFalse : ByteArray := ⟨#[102, 97, 108, 115, 101]⟩
def Sh.truth (b : Bool) : Sx := Sh.atom 3 (if b then Sh.tTrue else Sh.tFalse)
noncomputable def Sh.num (z : Int) : Sx := if z < 0 then Sh.app Sh.minus [Sh.atom 4 ⟨(Sh.dig z.natAbs).toArray⟩] else Sh.atom 4 ⟨(Sh.dig z.natAbs).toArray⟩
def Sh.lit (R : List (Int × Int)) : Sx := Sh.atom 6 ⟨(Lt.escape (Lt.expand R)).toArray⟩
def Sh.nm (k : Nat) : Sx := Sh.atom 3 ((⟨#[100]⟩ : ByteArray) ++ ⟨(Lib.decDigits k).toArray⟩)
def Sh.bound (k : Nat) (C : Int) : Sx := if k = 0 then Sh.lit [(C, 1)] else Sh.app Sh.cat [Sh.nm (k - 1), Sh.nm (k - 1)]
def Sh.letx (k : Nat) (C : Int) (x : Sx) : Sx := Sh.app Sh.tLet [Sh.list [Sh.list [Sh.nm k, Sh.bound k C]], x]
def Sh.lets (C : Int) : Nat → Nat → Sx → Sx
  | _, 0, x => x
  | k, m + 1, x => Sh.letx k C (Sh.lets C (k + 1) m x)
theorem Sh.lets_snoc (C : Int) : ∀ (m k : Nat) (x : Sx), Sh.lets C k (m + 1) x = Sh.lets C k m (Sh.letx (k + m) C x)
  | 0, k, x => rfl
  | m + 1, k, x => by
    rw [Sh.lets, Sh.lets_snoc C m (k + 1) x, Sh.lets, show k + 1 + m = k + (m + 1) by omega]
def Sh.names (N : Nat) : Nat → List Sx
  | 0 => []
  | i + 1 => if N / 2 ^ i % 2 = 1 then Sh.nm i :: Sh.names N i else Sh.names N i
def Sh.one (op : ByteArray) (L : List Sx) : Sx := match L with
  | [x] => x
  | _ => Sh.app op L
def Sh.sum (N : Nat) : Sx := Sh.one Sh.cat (Sh.names N (Lib.bitLen N))
def Sh.long (C : Int) (N : Nat) : Sx := Sh.lets C 0 (Lib.bitLen N) (Sh.sum N)
def Sh.cut (cur : List (Int × Int)) : List (Int × Int) → List (List (Int × Int))
  | [] => [cur]
  | r :: l => if cur ≠ [] ∧ 1000 < Lt.total cur + r.2 then cur :: Sh.cut [r] l else Sh.cut (cur ++ [r]) l
def Sh.piece (R : List (Int × Int)) : Sx := if 1000 < Lt.total R then Sh.long (R.headD (0, 0)).1 (R.headD (0, 0)).2.toNat else Sh.lit R
def Sh.pieces (R : List (Int × Int)) : List Sx := (Sh.cut [] R).map Sh.piece
def Sh.text (R : List (Int × Int)) : Sx × Int := if 200 < (Sh.pieces R).length then (Sx.zero, 2) else if (Sh.pieces R).length = 1 then ((Sh.pieces R).headD Sx.zero, 0) else if 2000 < Sx.sizes (Sh.pieces R) + 2 then (Sx.zero, 2) else (Sh.app Sh.cat (Sh.pieces R), 0)
noncomputable def Sh.value (t : Int) (b : Bool) (z : Int) (R : List (Int × Int)) : Sx × Int :=
  if t = 1 then (Sh.truth b, 0) else if t = 2 then (Sh.num z, 0) else if t = 3 then (if Tx.mayB R then Sh.text R else (Sx.zero, 1)) else (Sx.zero, 1)
theorem Sh.app_size (op : ByteArray) (L : List Sx) : (Sh.app op L).size = Sx.sizes L + 2 := by
  rw [Sx.size_eq]
  show Sx.sizes (Sh.atom 3 op :: L) + 1 = _
  rw [Sx.sizes]
  have : (Sh.atom 3 op).size = 1 := by rw [Sx.size_eq]; rfl
  omega
theorem Sh.atom_size (k : Int) (t : ByteArray) : (Sh.atom k t).size = 1 := by rw [Sx.size_eq]; rfl
theorem Sh.list_size (L : List Sx) : (Sh.list L).size = Sx.sizes L + 1 := by rw [Sx.size_eq]; rfl
theorem Sh.bound_size (k : Nat) (C : Int) : (Sh.bound k C).size ≤ 4 := by
  unfold Sh.bound
  split
  · rw [Sh.lit, Sh.atom_size]; decide
  · rw [Sh.app_size]
    simp [Sx.sizes, Sh.nm, Sh.atom_size]
theorem Sh.letx_size (k : Nat) (C : Int) (x : Sx) : (Sh.letx k C x).size ≤ x.size + 9 := by
  have := Sh.bound_size k C
  unfold Sh.letx
  rw [Sh.app_size]
  simp only [Sx.sizes, Sh.list_size, Sh.nm, Sh.atom_size]
  omega
theorem Sh.lets_size (C : Int) : ∀ (m k : Nat) (x : Sx), (Sh.lets C k m x).size ≤ x.size + 9 * m
  | 0, k, x => Nat.le_refl _
  | m + 1, k, x => by
    have := Sh.lets_size C m (k + 1) x
    have := Sh.letx_size k C (Sh.lets C (k + 1) m x)
    rw [Sh.lets]
    omega
theorem Sh.names_len (N : Nat) : ∀ i, (Sh.names N i).length ≤ i
  | 0 => Nat.le_refl _
  | i + 1 => by
    have := Sh.names_len N i
    rw [Sh.names]
    split
    · rw [List.length_cons]; omega
    · omega
theorem Sh.names_sizes (N : Nat) : ∀ i, Sx.sizes (Sh.names N i) = (Sh.names N i).length
  | 0 => rfl
  | i + 1 => by
    have := Sh.names_sizes N i
    rw [Sh.names]
    split
    · rw [List.length_cons, Sx.sizes, this, Sh.nm, Sh.atom_size]; omega
    · exact this
theorem Sh.one_size (op : ByteArray) (L : List Sx) : (Sh.one op L).size ≤ Sx.sizes L + 2 := by
  unfold Sh.one
  split
  · rw [Sx.sizes, Sx.sizes]; omega
  · exact Nat.le_of_eq (Sh.app_size _ _)
theorem Sh.long_size {C : Int} {N : Nat} (h : N < 2 ^ 41) : (Sh.long C N).size ≤ 412 := by
  have h1 := Sh.lets_size C (Lib.bitLen N) 0 (Sh.sum N)
  have h2 := Sh.one_size Sh.cat (Sh.names N (Lib.bitLen N))
  have h3 := Sh.names_len N (Lib.bitLen N)
  have h4 := Sh.names_sizes N (Lib.bitLen N)
  have h5 := Lib.bitLen_le N 41 (by decide) h
  unfold Sh.long
  unfold Sh.sum at h1 ⊢
  omega
theorem Sh.dep_atom (m : Nat) (k : Int) (t : ByteArray) : Sx.dep m (Sh.atom k t) = 0 := by cases m <;> rfl
theorem Sh.foldl_le (l : List Nat) (d : Nat) (h : ∀ x ∈ l, x ≤ d) : l.foldl max 0 ≤ d := by
  induction l with
  | nil => exact Nat.zero_le _
  | cons x l ih =>
    rw [List.foldl_cons, foldl_max]
    have := h x List.mem_cons_self
    have := ih fun y hy => h y (List.mem_cons_of_mem _ hy)
    omega
theorem Sh.dep_list {m d : Nat} {L : List Sx} (h : ∀ x ∈ L, Sx.dep m x ≤ d) : Sx.dep (m + 1) (Sh.list L) ≤ d + 1 := by
  rw [Sx.dep]
  show (if true = true then _ else _) ≤ _
  rw [if_pos rfl]
  refine Nat.succ_le_succ (Sh.foldl_le _ _ fun x hx => ?_)
  obtain ⟨y, hy, rfl⟩ := List.mem_map.1 hx
  exact h y hy
theorem Sh.dep_app {m d : Nat} {op : ByteArray} {L : List Sx} (h : ∀ x ∈ L, Sx.dep m x ≤ d) : Sx.dep (m + 1) (Sh.app op L) ≤ d + 1 := by
  refine Sh.dep_list fun x hx => ?_
  rcases List.mem_cons.1 hx with rfl | hx
  · rw [Sh.dep_atom]; exact Nat.zero_le _
  · exact h x hx
theorem Sh.dep_list' {m d : Nat} {L : List Sx} (h : ∀ m, ∀ x ∈ L, Sx.dep m x ≤ d) : Sx.dep m (Sh.list L) ≤ d + 1 := by
  cases m with
  | zero => exact Nat.zero_le _
  | succ m => exact Sh.dep_list (h m)
theorem Sh.dep_app' {m d : Nat} {op : ByteArray} {L : List Sx} (h : ∀ m, ∀ x ∈ L, Sx.dep m x ≤ d) : Sx.dep m (Sh.app op L) ≤ d + 1 := by
  cases m with
  | zero => exact Nat.zero_le _
  | succ m => exact Sh.dep_app (h m)
theorem Sh.dep_nm (m k : Nat) : Sx.dep m (Sh.nm k) = 0 := Sh.dep_atom _ _ _
theorem Sh.dep_names (N : Nat) : ∀ i m, ∀ x ∈ Sh.names N i, Sx.dep m x = 0
  | 0, m, x, hx => absurd hx List.not_mem_nil
  | i + 1, m, x, hx => by
    rw [Sh.names] at hx
    split at hx
    · rcases List.mem_cons.1 hx with rfl | hx
      · exact Sh.dep_nm _ _
      · exact Sh.dep_names N i m x hx
    · exact Sh.dep_names N i m x hx
theorem Sh.dep_bound (k : Nat) (C : Int) (m : Nat) : Sx.dep m (Sh.bound k C) ≤ 1 := by
  unfold Sh.bound
  split
  · rw [Sh.lit, Sh.dep_atom]; exact Nat.zero_le _
  · refine Sh.dep_app' fun m x hx => ?_
    rcases List.mem_cons.1 hx with rfl | hx
    · exact Nat.le_of_eq (Sh.dep_nm _ _)
    · rw [List.mem_singleton.1 hx]; exact Nat.le_of_eq (Sh.dep_nm _ _)
theorem Sh.dep_letx {k : Nat} {C : Int} {x : Sx} {d : Nat} (h : ∀ m, Sx.dep m x ≤ d) (h3 : 3 ≤ d) (m : Nat) : Sx.dep m (Sh.letx k C x) ≤ d + 1 := by
  refine Sh.dep_app' fun m y hy => ?_
  rcases List.mem_cons.1 hy with rfl | hy
  · refine Nat.le_trans (Sh.dep_list' (d := 2) fun m y hy => ?_) h3
    rw [List.mem_singleton.1 hy]
    refine Sh.dep_list' (d := 1) fun m y hy => ?_
    rcases List.mem_cons.1 hy with rfl | hy
    · rw [Sh.dep_nm]; exact Nat.zero_le _
    · rw [List.mem_singleton.1 hy]; exact Sh.dep_bound _ _ _
  · rw [List.mem_singleton.1 hy]; exact h m
theorem Sh.dep_lets (C : Int) : ∀ (j k : Nat) (x : Sx) (d : Nat), (∀ m, Sx.dep m x ≤ d) → 3 ≤ d → ∀ m, Sx.dep m (Sh.lets C k j x) ≤ d + j
  | 0, k, x, d, h, _, m => h m
  | j + 1, k, x, d, h, h3, m => by
    rw [Sh.lets]
    exact Sh.dep_letx (d := d + j) (fun m => Sh.dep_lets C j (k + 1) x d h h3 m) (by omega) m
theorem Sh.dep_long {C : Int} {N : Nat} (h : N < 2 ^ 41) (m : Nat) : Sx.dep m (Sh.long C N) ≤ 44 := by
  have h5 := Lib.bitLen_le N 41 (by decide) h
  refine Nat.le_trans (Sh.dep_lets C (Lib.bitLen N) 0 (Sh.sum N) 3 (fun m => ?_) (Nat.le_refl _) m) (by omega)
  unfold Sh.sum Sh.one
  split
  · rename_i y hy
    have := Sh.dep_names N (Lib.bitLen N) m y (by rw [hy]; exact List.mem_cons_self)
    omega
  · refine Nat.le_trans (Sh.dep_app' (d := 0) fun m x hx => Nat.le_of_eq (Sh.dep_names _ _ m x hx)) (by decide)
theorem Sh.cut_parts : ∀ (l cur : List (Int × Int)), (Sh.cut cur l).flatten = cur ++ l
  | [], cur => by simp [Sh.cut]
  | r :: l, cur => by
    rw [Sh.cut]
    split
    · rw [List.flatten_cons, Sh.cut_parts l [r]]; rfl
    · rw [Sh.cut_parts l (cur ++ [r])]; simp
theorem Sh.cut_ne : ∀ (l cur : List (Int × Int)), 0 < (Sh.cut cur l).length
  | [], cur => by simp [Sh.cut]
  | r :: l, cur => by
    rw [Sh.cut]
    split
    · simp
    · exact Sh.cut_ne l _
theorem Sh.cut_small : ∀ (l cur : List (Int × Int)), (1000 < Lt.total cur → ∃ r, cur = [r]) → (∀ x ∈ l, ¬ x.2 < 1) → (∀ x ∈ cur, ¬ x.2 < 1) → ∀ p ∈ Sh.cut cur l, 1000 < Lt.total p → ∃ r, p = [r]
  | [], cur, h, _, _, p, hp, ht => by
    rw [Sh.cut] at hp
    rw [List.mem_singleton.1 hp] at ht ⊢
    exact h ht
  | r :: l, cur, h, hl, hc, p, hp, ht => by
    rw [Sh.cut] at hp
    have hr := hl r List.mem_cons_self
    have hl' : ∀ x ∈ l, ¬ x.2 < 1 := fun x hx => hl x (List.mem_cons_of_mem _ hx)
    have h1 : ∀ x ∈ [r], ¬ x.2 < 1 := fun x hx => by rw [List.mem_singleton.1 hx]; exact hr
    split at hp
    · rcases List.mem_cons.1 hp with rfl | hp
      · exact h ht
      · exact Sh.cut_small l [r] (fun _ => ⟨r, rfl⟩) hl' h1 p hp ht
    · rename_i hn
      refine Sh.cut_small l (cur ++ [r]) (fun hh => ?_) hl' (fun x hx => ?_) p hp ht
      · by_cases hcur : cur = []
        · exact ⟨r, by rw [hcur]; rfl⟩
        · refine absurd ⟨hcur, ?_⟩ hn
          rw [Lt.total_app] at hh
          have := Lt.total_one r.1 r.2
          rw [show ((r.1, r.2) : Int × Int) = r from rfl] at this
          omega
      · rcases List.mem_append.1 hx with hx | hx
        · exact hc x hx
        · exact h1 x hx
theorem Sh.cut_full {cur : List (Int × Int)} {r : Int × Int} {l : List (Int × Int)} (h0 : cur ≠ []) (h : 1000 < Lt.total cur + r.2) : Sh.cut cur (r :: l) = cur :: Sh.cut [r] l := by rw [Sh.cut, if_pos ⟨h0, h⟩]
theorem Sh.bitLen_of {N k : Nat} (hk : k < 64) (h1 : 2 ^ k ≤ N) (h2 : N < 2 ^ (k + 1)) : Lib.bitLen N = k + 1 := by
  have hN : N < 2 ^ 64 := Nat.lt_of_lt_of_le h2 (Nat.pow_le_pow_right (by decide) (by omega))
  have h0 : N ≠ 0 := by have := Nat.two_pow_pos k; omega
  obtain ⟨b1, b2, b3⟩ := Lib.bitLenAux_bounds 64 N hN h0
  have e1 : k < Lib.bitLen N := (Nat.pow_lt_pow_iff_right (by decide)).1 (Nat.lt_of_le_of_lt h1 b3)
  have e2 : Lib.bitLen N - 1 < k + 1 := (Nat.pow_lt_pow_iff_right (by decide)).1 (Nat.lt_of_le_of_lt b2 h2)
  omega
theorem Sh.bitLen_gt {N k : Nat} (hN : N < 2 ^ 64) (h1 : 2 ^ k ≤ N) : k < Lib.bitLen N := by
  have h0 : N ≠ 0 := by have := Nat.two_pow_pos k; omega
  obtain ⟨b1, b2, b3⟩ := Lib.bitLenAux_bounds 64 N hN h0
  exact (Nat.pow_lt_pow_iff_right (by decide)).1 (Nat.lt_of_le_of_lt h1 b3)
theorem Sh.bit_step (N i : Nat) : (2 ^ i ≤ N % 2 ^ (i + 1) ↔ N / 2 ^ i % 2 = 1) ∧ N % 2 ^ (i + 1) = N % 2 ^ i + 2 ^ i * (N / 2 ^ i % 2) := by
  have e : N % 2 ^ (i + 1) = N % 2 ^ i + 2 ^ i * (N / 2 ^ i % 2) := Nat.mod_pow_succ
  refine ⟨?_, e⟩
  have h1 := Nat.mod_lt N (Nat.two_pow_pos i)
  rcases Nat.mod_two_eq_zero_or_one (N / 2 ^ i) with h | h
  · rw [e, h]; omega
  · rw [e, h]; omega
theorem Sh.names_nil {N : Nat} : ∀ {i : Nat}, Sh.names N i = [] → N % 2 ^ i = 0
  | 0, _ => by simp [Nat.mod_one]
  | i + 1, h => by
    rw [Sh.names] at h
    split at h
    · cases h
    · rename_i hb
      have := Sh.names_nil h
      have h0 : N / 2 ^ i % 2 = 0 := by omega
      rw [(Sh.bit_step N i).2, this, h0, Nat.mul_zero]
theorem Sh.dec {k : Nat} (h : k < 100) : T.Txt k (Lib.decDigits k) := by
  by_cases h10 : k < 10
  · rw [Lib.decDigits_one h10]
    by_cases h0 : k = 0
    · subst h0
      exact .inl ⟨rfl, rfl⟩
    · refine .inr ⟨[k], T.Fit.cons (by rw [T.BB_eq]; omega) T.Fit.nil, fun _ => by simpa using h0, by simp, ?_, ?_⟩
      · simp [T.val]
      · simp [T.asc, T.byt]
  · rw [Lib.decDigits_two h10 h]
    refine .inr ⟨[k % 10, k / 10], T.Fit.cons (by rw [T.BB_eq]; omega) (T.Fit.cons (by rw [T.BB_eq]; omega) T.Fit.nil), fun _ => by simp; omega, by simp, ?_, ?_⟩
    · simp [T.val, T.BB_eq]
      omega
    · simp [T.asc, T.byt]
theorem Sh.dec_dig {k : Nat} (h : k < 100) : Lib.decDigits k = Sh.dig k := Sh.dig_of (Sh.dec h)
end Go.Proofs.YtfjpcjebecgglaaGreatDoor
namespace Go.Proofs
open Go.Shelf
def Tryz.lays169_ren : Go.Shelf.Ren := ⟨fun | 169 => 62 | n => n, fun | 70 => 113 | 9 => 9 | 0 => 0 | 72 => 116 | 37 => 114 | 127 => 165 | 3 => 3 | 5 => 5 | n => n, fun | n => n⟩
theorem Tryz.lays169 : Go.Proofs.Lays.n169 Tryz.prog Tryz.lays169_ren := {
  mixed := by kernel_rfl
  f169 := Tryz.func62.trans (congrArg some (by kernel_rfl))
  t0 := Tryz.underlying0
  a0 := Tryz.isAgg0
  z0 := Tryz.sizeOf0
  v0 := Tryz.zeroValue0
  t3 := Tryz.underlying3
  a3 := Tryz.isAgg3
  z3 := Tryz.sizeOf3
  v3 := Tryz.zeroValue3
  t9 := Tryz.underlying9
  a9 := Tryz.isAgg9
  z9 := Tryz.sizeOf9
  v9 := Tryz.zeroValue9
  t37 := Tryz.underlying114
  a37 := Tryz.isAgg114
  z37 := Tryz.sizeOf114
  v37 := Tryz.zeroValue114
  t70 := Tryz.underlying113
  a70 := Tryz.isAgg113
  z70 := Tryz.sizeOf113
  v70 := Tryz.zeroValue113
  t72 := Tryz.underlying116
  a72 := Tryz.isAgg116
  z72 := Tryz.sizeOf116
  v72 := Tryz.zeroValue116
  t127 := Tryz.underlying165
  a127 := Tryz.isAgg165
  z127 := Tryz.sizeOf165
  v127 := Tryz.zeroValue165 }
theorem Tryz.Builder_Extra_169 : Builder.Extra Tryz.prog Tryz.lays169_ren := {
  sizeBuilder := by kernel_rfl
  liesBuilder := by kernel_rfl
  t5 := Tryz.underlying5
  a5 := Tryz.isAgg5
  z5 := Tryz.sizeOf5
  v5 := Tryz.zeroValue5
  infoByte := by kernel_rfl
  cellsByte := by kernel_rfl
  sizeByte := by kernel_rfl
  neB5 := by decide }
open Go.RowKit in
theorem Tryz.Builder_String_any (B b : Nat) (l : List UInt8) (w : World) (h : Lib.IsBuilder 116 5 B b (Lib.byteCells l) w) (hBw : B ≤ w.heap.size) :
    Calls Tryz.prog 62 #[.pointer (some ⟨b, 0, none⟩)] w fun e w' => e = .returned (.string ⟨l.toArray⟩) ∧ Below B w w' := Any.Builder_String_any Tryz.lays169 Tryz.Builder_Extra_169 B b l w h hBw
def Tryz.lays125_ren : Go.Shelf.Ren := ⟨fun | 125 => 130 | 128 => 146 | 129 => 147 | n => n, fun | 46 => 157 | 3 => 3 | 51 => 156 | 53 => 112 | 4 => 4 | 5 => 5 | 9 => 9 | n => n, fun | n => n⟩
theorem Tryz.lays125 : Go.Proofs.Lays.n125 Tryz.prog Tryz.lays125_ren := {
  mixed := by kernel_rfl
  f125 := Tryz.func130.trans (congrArg some (by kernel_rfl))
  f128 := Tryz.func146.trans (congrArg some (by kernel_rfl))
  f129 := Tryz.func147.trans (congrArg some (by kernel_rfl))
  t3 := Tryz.underlying3
  a3 := Tryz.isAgg3
  z3 := Tryz.sizeOf3
  v3 := Tryz.zeroValue3
  t4 := Tryz.underlying4
  a4 := Tryz.isAgg4
  z4 := Tryz.sizeOf4
  v4 := Tryz.zeroValue4
  t5 := Tryz.underlying5
  a5 := Tryz.isAgg5
  z5 := Tryz.sizeOf5
  v5 := Tryz.zeroValue5
  t9 := Tryz.underlying9
  a9 := Tryz.isAgg9
  z9 := Tryz.sizeOf9
  v9 := Tryz.zeroValue9
  t46 := Tryz.underlying157
  a46 := Tryz.isAgg157
  z46 := Tryz.sizeOf157
  v46 := Tryz.zeroValue157
  t51 := Tryz.underlying156
  a51 := Tryz.isAgg156
  z51 := Tryz.sizeOf156
  v51 := Tryz.zeroValue156
  t53 := Tryz.underlying112
  a53 := Tryz.isAgg112
  z53 := Tryz.sizeOf112
  v53 := Tryz.zeroValue112 }
theorem Tryz.bits_Len (x : Int) (w : World) (h0 : 0 ≤ x) (h1 : x ≤ 18446744073709551615) :
    Calls Tryz.prog 130 #[.int .u64 x] w fun e w' => e = .returned (.int .i64 (Lib.bitLen x.toNat)) ∧ w' = w := Any.bits_Len Tryz.lays125 x w h0 h1
def Tryz.lays171_ren : Go.Shelf.Ren := ⟨fun | 171 => 157 | 243 => 176 | 246 => 156 | 283 => 172 | 284 => 173 | 285 => 174 | 286 => 175 | 129 => 147 | 317 => 185 | 318 => 186 | 319 => 187 | 320 => 188 | 337 => 196 | 338 => 197 | n => n, fun | 3 => 3 | 9 => 9 | 2 => 2 | 4 => 4 | 171 => 220 | 0 => 0 | 53 => 112 | 37 => 114 | 5 => 5 | 173 => 222 | 212 => 229 | 51 => 156 | 20 => 20 | 213 => 230 | 46 => 157 | 232 => 237 | 233 => 238 | n => n, fun | 17 => 2 | 18 => 6 | 19 => 7 | n => n⟩
theorem Tryz.lays171 : Go.Proofs.Lays.n171 Tryz.prog Tryz.lays171_ren := {
  mixed := by kernel_rfl
  f129 := Tryz.func147.trans (congrArg some (by kernel_rfl))
  f171 := Tryz.func157.trans (congrArg some (by kernel_rfl))
  f243 := Tryz.func176.trans (congrArg some (by kernel_rfl))
  f246 := Tryz.func156.trans (congrArg some (by kernel_rfl))
  f283 := Tryz.func172.trans (congrArg some (by kernel_rfl))
  f284 := Tryz.func173.trans (congrArg some (by kernel_rfl))
  f285 := Tryz.func174.trans (congrArg some (by kernel_rfl))
  f286 := Tryz.func175.trans (congrArg some (by kernel_rfl))
  f317 := Tryz.func185.trans (congrArg some (by kernel_rfl))
  f318 := Tryz.func186.trans (congrArg some (by kernel_rfl))
  f319 := Tryz.func187.trans (congrArg some (by kernel_rfl))
  f320 := Tryz.func188.trans (congrArg some (by kernel_rfl))
  f337 := Tryz.func196.trans (congrArg some (by kernel_rfl))
  f338 := Tryz.func197.trans (congrArg some (by kernel_rfl))
  t0 := Tryz.underlying0
  a0 := Tryz.isAgg0
  z0 := Tryz.sizeOf0
  v0 := Tryz.zeroValue0
  t2 := Tryz.underlying2
  a2 := Tryz.isAgg2
  z2 := Tryz.sizeOf2
  v2 := Tryz.zeroValue2
  t3 := Tryz.underlying3
  a3 := Tryz.isAgg3
  z3 := Tryz.sizeOf3
  v3 := Tryz.zeroValue3
  t4 := Tryz.underlying4
  a4 := Tryz.isAgg4
  z4 := Tryz.sizeOf4
  v4 := Tryz.zeroValue4
  t5 := Tryz.underlying5
  a5 := Tryz.isAgg5
  z5 := Tryz.sizeOf5
  v5 := Tryz.zeroValue5
  t9 := Tryz.underlying9
  a9 := Tryz.isAgg9
  z9 := Tryz.sizeOf9
  v9 := Tryz.zeroValue9
  t20 := Tryz.underlying20
  a20 := Tryz.isAgg20
  z20 := Tryz.sizeOf20
  v20 := Tryz.zeroValue20
  t37 := Tryz.underlying114
  a37 := Tryz.isAgg114
  z37 := Tryz.sizeOf114
  v37 := Tryz.zeroValue114
  t46 := Tryz.underlying157
  a46 := Tryz.isAgg157
  z46 := Tryz.sizeOf157
  v46 := Tryz.zeroValue157
  t51 := Tryz.underlying156
  a51 := Tryz.isAgg156
  z51 := Tryz.sizeOf156
  v51 := Tryz.zeroValue156
  t53 := Tryz.underlying112
  a53 := Tryz.isAgg112
  z53 := Tryz.sizeOf112
  v53 := Tryz.zeroValue112
  t171 := Tryz.underlying220
  a171 := Tryz.isAgg220
  z171 := Tryz.sizeOf220
  v171 := Tryz.zeroValue220
  t173 := Tryz.underlying222
  a173 := Tryz.isAgg222
  z173 := Tryz.sizeOf222
  v173 := Tryz.zeroValue222
  t212 := Tryz.underlying229
  a212 := Tryz.isAgg229
  z212 := Tryz.sizeOf229
  v212 := Tryz.zeroValue229
  t213 := Tryz.underlying230
  a213 := Tryz.isAgg230
  z213 := Tryz.sizeOf230
  t232 := Tryz.underlying237
  a232 := Tryz.isAgg237
  z232 := Tryz.sizeOf237
  v232 := Tryz.zeroValue237
  t233 := Tryz.underlying238
  a233 := Tryz.isAgg238
  z233 := Tryz.sizeOf238
  v233 := Tryz.zeroValue238
  g17 := by kernel_rfl
  g18 := by kernel_rfl
  g19 := by kernel_rfl }
open Go.RowKit Go.Sort Go.Lib in
theorem Tryz.strconv_Itoa_small (i : Nat) (hi : i < 100) (w : World) :
    Calls Tryz.prog 157 #[.int .i64 i] w fun e w' => e = .returned (.string ⟨(Lib.decDigits i).toArray⟩) ∧ w' = w := Any.strconv_Itoa_small Tryz.lays171 i hi w
def Tryz.lays144_ren : Go.Shelf.Ren := ⟨fun | 144 => 182 | 143 => 179 | 219 => 192 | 217 => 199 | 225 => 200 | 224 => 201 | 267 => 202 | 266 => 203 | 314 => 204 | n => n, fun | 9 => 9 | 4 => 4 | 3 => 3 | 5 => 5 | 46 => 157 | 146 => 239 | 51 => 156 | n => n, fun | 1 => 3 | n => n⟩
theorem Tryz.lays144 : Go.Proofs.Lays.n144 Tryz.prog Tryz.lays144_ren := {
  mixed := by kernel_rfl
  f143 := Tryz.func179.trans (congrArg some (by kernel_rfl))
  f144 := Tryz.func182.trans (congrArg some (by kernel_rfl))
  f217 := Tryz.func199.trans (congrArg some (by kernel_rfl))
  f219 := Tryz.func192.trans (congrArg some (by kernel_rfl))
  f224 := Tryz.func201.trans (congrArg some (by kernel_rfl))
  f225 := Tryz.func200.trans (congrArg some (by kernel_rfl))
  f266 := Tryz.func203.trans (congrArg some (by kernel_rfl))
  f267 := Tryz.func202.trans (congrArg some (by kernel_rfl))
  f314 := Tryz.func204.trans (congrArg some (by kernel_rfl))
  t3 := Tryz.underlying3
  a3 := Tryz.isAgg3
  z3 := Tryz.sizeOf3
  v3 := Tryz.zeroValue3
  t4 := Tryz.underlying4
  a4 := Tryz.isAgg4
  z4 := Tryz.sizeOf4
  v4 := Tryz.zeroValue4
  t5 := Tryz.underlying5
  a5 := Tryz.isAgg5
  z5 := Tryz.sizeOf5
  v5 := Tryz.zeroValue5
  t9 := Tryz.underlying9
  a9 := Tryz.isAgg9
  z9 := Tryz.sizeOf9
  v9 := Tryz.zeroValue9
  t46 := Tryz.underlying157
  a46 := Tryz.isAgg157
  z46 := Tryz.sizeOf157
  v46 := Tryz.zeroValue157
  t51 := Tryz.underlying156
  a51 := Tryz.isAgg156
  z51 := Tryz.sizeOf156
  v51 := Tryz.zeroValue156
  t146 := Tryz.underlying239
  a146 := Tryz.isAgg239
  z146 := Tryz.sizeOf239
  v146 := Tryz.zeroValue239
  g1 := by kernel_rfl }
open Go.RowKit Go.Lib in
theorem Tryz.strings_Contains_one (s : ByteArray) (c : UInt8) (w : World) :
    Calls Tryz.prog 182 #[.string s, .string ⟨#[c]⟩] w fun e w' => e = .returned (.bool (decide (0 ≤ Lib.indexByte s.data.toList c))) ∧ w' = w := Any.strings_Contains_one Tryz.lays144 s c w
def Tryz.lays99_ren : Go.Shelf.Ren := ⟨fun | 99 => 55 | 206 => 93 | n => n, fun | 9 => 9 | 4 => 4 | 3 => 3 | n => n, fun | n => n⟩
theorem Tryz.lays99 : Go.Proofs.Lays.n99 Tryz.prog Tryz.lays99_ren := {
  mixed := by kernel_rfl
  f99 := Tryz.func55.trans (congrArg some (by kernel_rfl))
  f206 := Tryz.func93.trans (congrArg some (by kernel_rfl))
  t3 := Tryz.underlying3
  a3 := Tryz.isAgg3
  z3 := Tryz.sizeOf3
  v3 := Tryz.zeroValue3
  t4 := Tryz.underlying4
  a4 := Tryz.isAgg4
  z4 := Tryz.sizeOf4
  v4 := Tryz.zeroValue4
  t9 := Tryz.underlying9
  a9 := Tryz.isAgg9
  z9 := Tryz.sizeOf9
  v9 := Tryz.zeroValue9 }
open Go.RowKit Go.Lib in
theorem Tryz.strings_HasPrefix (s p : ByteArray) (w : World) :
    Calls Tryz.prog 55 #[.string s, .string p] w fun e w' => e = .returned (.bool (Lib.hasPrefix s.data.toList p.data.toList)) ∧ w' = w := Any.strings_HasPrefix Tryz.lays99 s p w
def Tryz.lays155_ren : Go.Shelf.Ren := ⟨fun | 155 => 150 | 154 => 161 | 138 => 177 | 165 => 178 | 143 => 179 | 166 => 98 | 197 => 180 | 169 => 62 | 195 => 189 | 218 => 190 | 240 => 119 | 241 => 191 | 219 => 192 | 260 => 193 | 276 => 136 | 277 => 198 | 217 => 199 | 225 => 200 | 224 => 201 | 267 => 202 | 266 => 203 | 314 => 204 | n => n, fun | 9 => 9 | 3 => 3 | 4 => 4 | 72 => 116 | 0 => 0 | 76 => 162 | 105 => 226 | 21 => 21 | 5 => 5 | 70 => 113 | 20 => 20 | 37 => 114 | 75 => 161 | 127 => 165 | 164 => 199 | 46 => 157 | 119 => 233 | 139 => 236 | 138 => 235 | 146 => 239 | 51 => 156 | 80 => 118 | n => n, fun | 1 => 3 | 3 => 4 | 4 => 5 | n => n⟩
theorem Tryz.lays155 : Go.Proofs.Lays.n155 Tryz.prog Tryz.lays155_ren := {
  mixed := by kernel_rfl
  f138 := Tryz.func177.trans (congrArg some (by kernel_rfl))
  f143 := Tryz.func179.trans (congrArg some (by kernel_rfl))
  f154 := Tryz.func161.trans (congrArg some (by kernel_rfl))
  f155 := Tryz.func150.trans (congrArg some (by kernel_rfl))
  f165 := Tryz.func178.trans (congrArg some (by kernel_rfl))
  f166 := Tryz.func98.trans (congrArg some (by kernel_rfl))
  f169 := Tryz.func62.trans (congrArg some (by kernel_rfl))
  f195 := Tryz.func189.trans (congrArg some (by kernel_rfl))
  f197 := Tryz.func180.trans (congrArg some (by kernel_rfl))
  f217 := Tryz.func199.trans (congrArg some (by kernel_rfl))
  f218 := Tryz.func190.trans (congrArg some (by kernel_rfl))
  f219 := Tryz.func192.trans (congrArg some (by kernel_rfl))
  f224 := Tryz.func201.trans (congrArg some (by kernel_rfl))
  f225 := Tryz.func200.trans (congrArg some (by kernel_rfl))
  f240 := Tryz.func119.trans (congrArg some (by kernel_rfl))
  f241 := Tryz.func191.trans (congrArg some (by kernel_rfl))
  f260 := Tryz.func193.trans (congrArg some (by kernel_rfl))
  f266 := Tryz.func203.trans (congrArg some (by kernel_rfl))
  f267 := Tryz.func202.trans (congrArg some (by kernel_rfl))
  f276 := Tryz.func136.trans (congrArg some (by kernel_rfl))
  f277 := Tryz.func198.trans (congrArg some (by kernel_rfl))
  f314 := Tryz.func204.trans (congrArg some (by kernel_rfl))
  t0 := Tryz.underlying0
  a0 := Tryz.isAgg0
  z0 := Tryz.sizeOf0
  v0 := Tryz.zeroValue0
  t3 := Tryz.underlying3
  a3 := Tryz.isAgg3
  z3 := Tryz.sizeOf3
  v3 := Tryz.zeroValue3
  t4 := Tryz.underlying4
  a4 := Tryz.isAgg4
  z4 := Tryz.sizeOf4
  v4 := Tryz.zeroValue4
  t5 := Tryz.underlying5
  a5 := Tryz.isAgg5
  z5 := Tryz.sizeOf5
  v5 := Tryz.zeroValue5
  t9 := Tryz.underlying9
  a9 := Tryz.isAgg9
  z9 := Tryz.sizeOf9
  v9 := Tryz.zeroValue9
  t20 := Tryz.underlying20
  a20 := Tryz.isAgg20
  z20 := Tryz.sizeOf20
  v20 := Tryz.zeroValue20
  t21 := Tryz.underlying21
  a21 := Tryz.isAgg21
  z21 := Tryz.sizeOf21
  v21 := Tryz.zeroValue21
  t37 := Tryz.underlying114
  a37 := Tryz.isAgg114
  z37 := Tryz.sizeOf114
  v37 := Tryz.zeroValue114
  t46 := Tryz.underlying157
  a46 := Tryz.isAgg157
  z46 := Tryz.sizeOf157
  v46 := Tryz.zeroValue157
  t51 := Tryz.underlying156
  a51 := Tryz.isAgg156
  z51 := Tryz.sizeOf156
  v51 := Tryz.zeroValue156
  t70 := Tryz.underlying113
  a70 := Tryz.isAgg113
  z70 := Tryz.sizeOf113
  v70 := Tryz.zeroValue113
  t72 := Tryz.underlying116
  a72 := Tryz.isAgg116
  z72 := Tryz.sizeOf116
  v72 := Tryz.zeroValue116
  t75 := Tryz.underlying161
  a75 := Tryz.isAgg161
  z75 := Tryz.sizeOf161
  v75 := Tryz.zeroValue161
  t76 := Tryz.underlying162
  a76 := Tryz.isAgg162
  z76 := Tryz.sizeOf162
  v76 := Tryz.zeroValue162
  t105 := Tryz.underlying226
  a105 := Tryz.isAgg226
  z105 := Tryz.sizeOf226
  v105 := Tryz.zeroValue226
  t119 := Tryz.underlying233
  a119 := Tryz.isAgg233
  z119 := Tryz.sizeOf233
  t127 := Tryz.underlying165
  a127 := Tryz.isAgg165
  z127 := Tryz.sizeOf165
  v127 := Tryz.zeroValue165
  t138 := Tryz.underlying235
  a138 := Tryz.isAgg235
  z138 := Tryz.sizeOf235
  v138 := Tryz.zeroValue235
  t139 := Tryz.underlying236
  a139 := Tryz.isAgg236
  z139 := Tryz.sizeOf236
  v139 := Tryz.zeroValue236
  t146 := Tryz.underlying239
  a146 := Tryz.isAgg239
  z146 := Tryz.sizeOf239
  v146 := Tryz.zeroValue239
  t164 := Tryz.underlying199
  a164 := Tryz.isAgg199
  z164 := Tryz.sizeOf199
  v164 := Tryz.zeroValue199
  g1 := by kernel_rfl
  g3 := by kernel_rfl
  g4 := by kernel_rfl }
theorem Tryz.Builder_Extra_155 : Builder.Extra Tryz.prog Tryz.lays155_ren := {
  sizeBuilder := by kernel_rfl
  liesBuilder := by kernel_rfl
  t5 := Tryz.underlying5
  a5 := Tryz.isAgg5
  z5 := Tryz.sizeOf5
  v5 := Tryz.zeroValue5
  infoByte := by kernel_rfl
  cellsByte := by kernel_rfl
  sizeByte := by kernel_rfl
  neB5 := by decide }
open Go.RowKit Go.Lib in
theorem Tryz.strings_ReplaceAll (s old new : ByteArray) (m : Int) (w : World) (hs : s.size < 4294967281) (hm : w.cell? ⟨3, 0, none⟩ = some (.int .i64 m)) (h1 : 1 ≤ old.size) (hlen : s.size + Lib.countB s old * new.size ≤ 140737488355328) :
    Calls Tryz.prog 150 #[.string s, .string old, .string new] w fun e w' =>
      e = .returned (.string ⟨(Lib.replaceAll s.data.toList old.data.toList new.data.toList).toArray⟩) ∧ Below w.heap.size w w' := Any.strings_ReplaceAll Tryz.lays155 Tryz.Builder_Extra_155 s old new m w hs hm h1 hlen
end Go.Proofs
namespace Go.Proofs.YtfjpcjebecgglaaGreatDoor
open Go.RowKit
structure Gl (w : World) : Prop where
  bru : w.cell? ⟨7, 15, none⟩ = some (.int .u8 4)
  max : ∃ m : Int, w.cell? ⟨3, 0, none⟩ = some (.int .i64 m)
theorem Gl.below {w w' : World} (h : Gl w) (hb : Below w.heap.size w w') : Gl w' := by
  obtain ⟨h3, ⟨m, h4⟩⟩ := h
  exact ⟨(hb.cell (p := ⟨7, 15, none⟩) (World.block_lt_of_cell? w _ h3)).trans h3, ⟨m, (hb.cell (p := ⟨3, 0, none⟩) (World.block_lt_of_cell? w _ h4)).trans h4⟩⟩
theorem kpoint7 (z : Int) (w : World) : Calls Tryz.prog 142 #[.int .i64 z] w fun e w' => e = .returned (.bool (Lt.pt z)) ∧ w' = w := by
  by_cases h0 : 0 ≤ z
  · by_cases h1 : z ≤ 196607
    · have hp : Lt.pt z = true := decide_eq_true ⟨h0, h1⟩
      rw [hp]
      go_enter Tryz.func142, Tryz.ntmps142
      go_wp2
      go_ret
      exact ⟨rfl, rfl⟩
    · have hp : Lt.pt z = false := decide_eq_false (by omega)
      rw [hp]
      go_enter Tryz.func142, Tryz.ntmps142
      go_wp2
      go_ret
      exact ⟨rfl, rfl⟩
  · have hp : Lt.pt z = false := decide_eq_false (by omega)
    rw [hp]
    go_enter Tryz.func142, Tryz.ntmps142
    go_wp2
    go_ret
    exact ⟨rfl, rfl⟩
def Lt.self (z : Int) : Bool := decide (32 ≤ z ∧ z ≤ 126 ∧ z ≠ 92)
theorem kitself7 (z : Int) (w : World) : Calls Tryz.prog 144 #[.int .i64 z] w fun e w' => e = .returned (.bool (Lt.self z)) ∧ w' = w := by
  by_cases h0 : 32 ≤ z
  · by_cases h1 : z ≤ 126
    · by_cases h2 : z = 92
      · subst h2
        have hp : Lt.self 92 = false := by decide
        rw [hp]
        clear h0 h1
        go_enter Tryz.func144, Tryz.ntmps144
        go_wp2
        go_ret
        exact ⟨rfl, rfl⟩
      · have hp : Lt.self z = true := decide_eq_true ⟨h0, h1, h2⟩
        have h2' : (z != 92) = true := bne_iff_ne.2 h2
        rw [hp]
        go_enter Tryz.func144, Tryz.ntmps144
        go_wp2
        go_ret
        exact ⟨rfl, rfl⟩
    · have hp : Lt.self z = false := decide_eq_false (by omega)
      rw [hp]
      go_enter Tryz.func144, Tryz.ntmps144
      go_wp2
      go_ret
      exact ⟨rfl, rfl⟩
  · have hp : Lt.self z = false := decide_eq_false (by omega)
    rw [hp]
    go_enter Tryz.func144, Tryz.ntmps144
    go_wp2
    go_ret
    exact ⟨rfl, rfl⟩
def Lt.off (x : Int × Int) : Bool := !Lt.pt x.1 || decide (x.2 < 1)
theorem klist1 (x y : Int) (w : World) : Calls Tryz.prog 141 #[.agg #[.int .i64 x, .int .i64 y]] w fun e w' => e = .returned (.bool (Lt.off (x, y))) ∧ Below w.heap.size w w' := by
  have HP := Lib.hid fun W => kpoint7 x W
  have hB : Below w.heap.size w (w.alloc (.cells #[.int .i64 x, .int .i64 y] 70)) := (Below.refl _ w).alloc (Nat.le_refl _) _
  have hL := Lies.new w 70 #[.int .i64 x, .int .i64 y]
  have c0 := hL.cell 0
  have c1 := hL.cell 1
  simp at c0 c1
  have HB := Lib.hid hB
  clear hB hL
  rw [Lt.off]
  generalize Lt.pt x = b at HP
  by_cases hy : y < 1
  · cases b
    all_goals
      go_enter Tryz.func141, Tryz.ntmps141
      go_wp2_with (go_at_call 142; refine (HP.out _).mono ?_; rintro e w1 ⟨rfl, rfl⟩)
      go_ret
      exact ⟨by first | rfl | simp [hy], HB.out⟩
  · cases b
    all_goals
      go_enter Tryz.func141, Tryz.ntmps141
      go_wp2_with (go_at_call 142; refine (HP.out _).mono ?_; rintro e w1 ⟨rfl, rfl⟩)
      go_ret
      exact ⟨by first | rfl | simp [hy], HB.out⟩
end Go.Proofs.YtfjpcjebecgglaaGreatDoor
namespace Go.Proofs.YtfjpcjebecgglaaGreatDoor
open Go.RowKit
theorem laid_mem {P : Program} {x : String × DataW Unit} : ∀ {l : List (String × DataW Unit)} {W : World}, laidMet P l W → x ∈ l → ∃ r, laidMet P (x :: r) W
  | [], _, _, h => absurd h List.not_mem_nil
  | y :: l, W, h, hx => by
    rcases List.mem_cons.1 hx with rfl | hx
    · exact ⟨l, h⟩
    · exact laid_mem h.tail hx
theorem Gl.of_laid {l : List (String × DataW Unit)} {W : World} (h : laidMet Tryz.prog l W) (h2 : ("math/bits.deBruijn64tab", Rows.laid_math_bits_deBruijn64tab) ∈ l)
    (hm : ∃ m, W.cell? ⟨3, 0, none⟩ = some (.int .i64 m)) : Gl W := by
  obtain ⟨r2, k2⟩ := laid_mem h h2
  refine ⟨?_, hm⟩
  have k := Lib.tabIs_of_head (P := Tryz.prog) (g := 7) (t := 238) (e := 5) (n := 64) (k := .u8) (by kernel_rfl) (by kernel_rfl) (by kernel_rfl) Tryz.underlying5 (by kernel_rfl) (by kernel_rfl) (show laidMet Tryz.prog (("math/bits.deBruijn64tab", Lib.tabData .u8 [0, 1, 56, 2, 57, 49, 28, 3, 61, 58, 42, 50, 38, 29, 17, 4, 62, 47, 59, 36, 45, 43, 51, 22, 53, 39, 33, 30, 24, 18, 12, 5, 63, 55, 48, 27, 60, 41, 37, 16, 46, 35, 44, 21, 52, 32, 23, 11, 54, 26, 40, 15, 34, 20, 31, 10, 25, 14, 19, 9, 13, 8, 7, 6]) :: r2) W from k2)
  exact k.cell (by kernel_rfl) 15 (by decide)
end Go.Proofs.YtfjpcjebecgglaaGreatDoor
