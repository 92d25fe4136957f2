/- What a row says of the program's tables. -/
import Derived.Test.YtkooconjkimgoaaDoorRows
import Derived.Test.YtkooconjkimgoaaDoorNKC
import Derived.Lib.LaidTab
import Derived.Stop.LaidErr
import Derived.MapViews
import Derived.DeepKeys4
namespace Go.Proofs.YtkooconjkimgoaaDoor
open Go.RowKit

theorem laid_mem9 {P : Program} {x : String × DataW Unit} : ∀ {l : List (String × DataW Unit)} {W : World}, laidMet P l W → x ∈ l → ∃ r, laidMet P (x :: r) W
  | [], _, _, h => absurd h List.not_mem_nil
  | y :: l, W, h, hx => by
    rcases List.mem_cons.1 hx with rfl | hx
    · exact ⟨l, h⟩
    · exact laid_mem9 h.tail hx
theorem Pow9.of_laid {l : List (String × DataW Unit)} {W : World} (h : laidMet Tryd.prog l W) (h1 : ("internal/strconv.uint64pow10", Rows.laid_internal_strconv_uint64pow10) ∈ l) : Pow9 W := by
  obtain ⟨r, k⟩ := laid_mem9 h h1
  exact Lib.tabBelow_of_tabIs (Lib.tabIs_of_head (P := Tryd.prog) (g := 1) (t := 129) (e := 87) (n := 20) (k := .u64) (by kernel_rfl) (by kernel_rfl) (by kernel_rfl) Tryd.underlying87 (by kernel_rfl) (by kernel_rfl) (show laidMet Tryd.prog (("internal/strconv.uint64pow10", Lib.tabData .u64 Lib.pow10Tab) :: r) W from k))
set_option maxRecDepth 100000 in
theorem Ask9.of_laid {l : List (String × DataW Unit)} {W : World} (h : laidMet Tryd.prog l W) (h1 : ("gudgeon/term.asked", Rows.laid_gudgeon_term_asked) ∈ l) : Ask9 W := by
  obtain ⟨r, k⟩ := laid_mem9 h h1
  obtain ⟨ps, ⟨g', t', cs, fuel, p, q, hg', ht', hvar, hd, _, _⟩, _⟩ := k
  obtain rfl := Option.some.inj ((show Tryd.prog.globalNamed "gudgeon/term.asked" = some 0 by kernel_rfl).symm.trans hg')
  obtain rfl := Option.some.inj ((show (Tryd.prog.globals[0]?).map (·.type) = some 78 by kernel_rfl).symm.trans ht')
  have k1 := (keyLits_of_trod (P := Tryd.prog) 5 78 (by kernel_rfl) _ _ _ hd).1
  have k2 := cells_of_lits (P := Tryd.prog) 5 78 (by kernel_rfl) _ _ _ k1
  intro o row hrow j v hv
  have hcell := World.var?_cell (show Tryd.prog.globalNamed "gudgeon/term.asked" = some 0 by kernel_rfl) hvar (o * 6 + j)
  rw [hcell]
  have hflat : (Rows.laid_gudgeon_term_asked : DataW Unit).flat = Tm.tabL.flatten.map (fun (v : Nat) => Lit.int .u8 (v : Int)) := by kernel_rfl
  have hol : o < 31 := by
    have := (List.getElem?_eq_some_iff.1 hrow).1
    rwa [show Tm.tabL.length = 31 from rfl] at this
  have hsix : ∀ r ∈ Tm.tabL, r.length = 6 := by decide
  have hjl : j < 6 := by
    have h1 := (List.getElem?_eq_some_iff.1 hv).1
    rwa [hsix row (List.mem_of_getElem? hrow)] at h1
  have hall : ∀ o, o < 31 → ∀ j, j < 6 → Tm.tabL.flatten[o * 6 + j]? = ((Tm.tabL[o]?).getD [])[j]? := by decide
  have hget := hall o hol j hjl
  rw [hrow, Option.getD_some, hv] at hget
  have h3 : cs.toList[o * 6 + j]? = some (.int .u8 (v : Int)) := by
    rw [k2, hflat, List.getElem?_map, List.getElem?_map, hget]
    rfl
  rw [← Array.getElem?_toList]
  exact h3
end Go.Proofs.YtkooconjkimgoaaDoor
