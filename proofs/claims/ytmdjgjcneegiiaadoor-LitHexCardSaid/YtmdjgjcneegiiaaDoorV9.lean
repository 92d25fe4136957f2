/- The code's four contracts (Points V4, Escape V7, Runs V8, List V10), and what a row says of the library's own variables. -/
import Derived.Test.YtmdjgjcneegiiaaDoorRows
import Derived.Test.YtmdjgjcneegiiaaDoorV4
import Derived.Test.YtmdjgjcneegiiaaDoorV7
import Derived.Test.YtmdjgjcneegiiaaDoorV8
import Derived.Test.YtmdjgjcneegiiaaDoorV10
import Derived.Stop.LaidErr
import Derived.Lib.LaidTab
import Derived.Shelf.Vars
namespace Go.Proofs.YtmdjgjcneegiiaaDoor
open Go.RowKit

theorem laid_mem {P : Program} {x : String × DataW Unit} : ∀ {l : List (String × DataW Unit)} {W : World}, laidMet P l W → x ∈ l → ∃ r, laidMet P (x :: r) W
  | [], _, _, h => absurd h List.not_mem_nil
  | y :: l, W, h, hx => by
    rcases List.mem_cons.1 hx with rfl | hx
    · exact ⟨l, h⟩
    · exact laid_mem h.tail hx
theorem star_err : "*" ++ "errors.errorString" = "*errors.errorString" := by decide
theorem row_errStr (u : TypeId) (h : Tryd.prog.typeName? 3 u = some "*errors.errorString") : u = 103 :=
  typeName_ptr_named (nm := "errors.errorString") (by rw [star_err]; kernel_rfl) (by kernel_rfl) (by decide) u (by rw [star_err]; exact h)
set_option maxRecDepth 100000 in
/-- what a row says of the library's own variables -/
theorem Gl.of_laid {l : List (String × DataW Unit)} {W : World} (h : laidMet Tryd.prog l W) (h1 : ("strconv.ErrSyntax", Rows.laid_strconv_ErrSyntax) ∈ l) (h2 : ("math/bits.deBruijn64tab", Rows.laid_math_bits_deBruijn64tab) ∈ l)
    (hm : ∃ m, W.cell? ⟨3, 0, none⟩ = some (.int .i64 m)) : Gl W := by
  obtain ⟨r1, k1⟩ := laid_mem h h1
  obtain ⟨r2, k2⟩ := laid_mem h h2
  refine ⟨?_, ?_, hm⟩
  · obtain ⟨a, s, hv, _⟩ := laid_sentinel (P := Tryd.prog) (g := 1) (ti := 51) (tp := 103) (te := 105) (ts := 9) k1 (by kernel_rfl) (by kernel_rfl) Tryd.underlying51 row_errStr Tryd.underlying103 Tryd.underlying105 rfl rfl Tryd.underlying9 (by kernel_rfl) (by kernel_rfl)
    exact ⟨_, World.var?_cell (by kernel_rfl) hv 0, .inr ⟨_, _, rfl⟩⟩
  · have k := Lib.tabIs_of_head (P := Tryd.prog) (g := 5) (t := 107) (e := 5) (n := 64) (k := .u8) (by kernel_rfl) (by kernel_rfl) (by kernel_rfl) Tryd.underlying5 (by kernel_rfl) (by kernel_rfl) (show laidMet Tryd.prog (("math/bits.deBruijn64tab", Lib.tabData .u8 [0, 1, 56, 2, 57, 49, 28, 3, 61, 58, 42, 50, 38, 29, 17, 4, 62, 47, 59, 36, 45, 43, 51, 22, 53, 39, 33, 30, 24, 18, 12, 5, 63, 55, 48, 27, 60, 41, 37, 16, 46, 35, 44, 21, 52, 32, 23, 11, 54, 26, 40, 15, 34, 20, 31, 10, 25, 14, 19, 9, 13, 8, 7, 6]) :: r2) W from k2)
    exact k.cell (by kernel_rfl) 15 (by decide)
end Go.Proofs.YtmdjgjcneegiiaaDoor
