/-
  From the rows' hypothesis on package variables to cells.
-/
import Derived.Test.YtomononppbjnnaaDoorCdS
import Derived.Test.YtomononppbjnnaaDoorEvY
import Derived.Test.YtomononppbjnnaaDoorRows
namespace Go.Proofs.YtomononppbjnnaaDoor
open Go.RowKit
theorem names_of_laid {W : World} {l : List (String × DataW Unit)} (h : laidMet Tryd.prog l W) (hm : ("turnstone/turnstoneref9.names", Rows.laid_turnstone_turnstoneref9_names) ∈ l) : W.rangeAt 0 0 namesV :=
  laid_rangeZ (L := opNames) h hm (g := 0) (t := 49) (e := 9) (m := 42) (by kernel_rfl) (by kernel_rfl) (by kernel_rfl) (by kernel_rfl) (by kernel_rfl) (by kernel_rfl)
theorem tab_of_laid {W : World} {l : List (String × DataW Unit)} (h : laidMet Tryd.prog l W) (hm : ("internal/strconv.uint64pow10", Rows.laid_internal_strconv_uint64pow10) ∈ l) : Tab W := by
  obtain ⟨g', t', cs, fuel, p, h1, h2, h3, h4⟩ := laid_varZ h hm
  obtain rfl : g' = 1 := Option.some.inj (h1.symm.trans (by kernel_rfl))
  obtain rfl : t' = 62 := Option.some.inj (h2.symm.trans (by kernel_rfl))
  refine ⟨?_⟩
  unfold Lib.TabIs
  rw [h3]
  have e := Lib.cells_of_tab (k := .u64) (zs := Lib.pow10Tab) (n := 20) Tryd.underlying62 Tryd.underlying55 (by kernel_rfl) (by kernel_rfl) h4
  rw [← e]
end Go.Proofs.YtomononppbjnnaaDoor
