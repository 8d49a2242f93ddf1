/-
  From the rows' hypothesis on package variables to cells.
-/
import Derived.Test.YtomononppbjnnaaDoorCdL
import Derived.Test.YtomononppbjnnaaDoorEvY
import Derived.Test.YtomononppbjnnaaDoorRows
namespace Go.Proofs.YtomononppbjnnaaDoor
open Go.RowKit
theorem names_of_laid {W : World} {l : List (String × DataW Unit)} (h : laidMet Tryd.prog l W) (hm : ("turnstone/turnstoneref9.names", Rows.laid_turnstone_turnstoneref9_names) ∈ l) : W.rangeAt 0 0 namesV :=
  laid_rangeZ (L := opNames) h hm (g := 0) (t := 49) (e := 9) (m := 42) (by kernel_rfl) (by kernel_rfl) (by kernel_rfl) (by kernel_rfl) (by kernel_rfl) (by kernel_rfl)
end Go.Proofs.YtomononppbjnnaaDoor
