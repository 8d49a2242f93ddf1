/-
  The hand's words, as a row lists them.
-/
import Derived.Test.YtpobkjnlcengbaaDoorTkL
import Derived.Test.YtpobkjnlcengbaaDoorTkW
namespace Go.Proofs.YtpobkjnlcengbaaDoor
open Go.RowKit

def nameH : String := (Rows.tokenNamesRow.laid.map (·.1)).getD 2 default
theorem hand_of {W : World} {l : List (String × DataW Unit)} (h : laidMet Tryd.prog l W) (hw : (nameH, Rows.laid_turnstone_turnstonehand_words) ∈ l) : Hand W := by
  constructor
  obtain ⟨g, t, cs, fuel, p, h1, h2, h3, h4⟩ := laid_var h hw
  obtain rfl : g = 1 := Option.some.inj (h1.symm.trans (show Tryd.prog.globalNamed nameH = some 1 by kernel_rfl))
  obtain rfl : t = 51 := Option.some.inj (h2.symm.trans (show (Tryd.prog.globals[1]?).map (·.type) = some 51 by kernel_rfl))
  have e : cs.toList = handV := strs_of (L := handL) Tryd.underlying51 Tryd.underlying9 (by kernel_rfl) (by kernel_rfl) h4
  intro j v hj
  rw [Nat.zero_add, World.var?_cell h1 h3 j, ← Array.getElem?_toList, e]
  exact hj
end Go.Proofs.YtpobkjnlcengbaaDoor
