/-
  DERIVED. GIVEN WITH THE SEED: THE PROGRAM's TIES (one call each: nine closed facts by the kernel) AND EACH ROW's TIE, after the 31st guide's Derived/Test/Toyas{Tie, Card}.lean. No idea stands in it: it is a product of the set-up. Laid BY PROGRAM, IN A SANDBOX (cutbox-door.mjs). By AI agents, Wed Nov 11 2026. No macro, syntax, notation, axiom, sorry.
-/
import Derived.Test.YtemmdbjcllcelaaDoorRows
import Derived.LaidByTextLater
import Derived.SevenTiedAt
import Derived.LaidSub
import Derived.LaidOnce
namespace Go.Proofs.YtemmdbjcllcelaaDoor
open Go
set_option maxRecDepth 100000
theorem seatTie1 : Tryd.prog.laidByTextLater [("turnstone/token.signs", Rows.laid_turnstone_token_signs), ("turnstone/token.words", Rows.laid_turnstone_token_words), ("turnstone/turnstonehand.words", Rows.laid_turnstone_turnstonehand_words)] [.data, .data, .data] true :=
  Program.laidByTextLater_by_one 24 8 45 (by kernel_rfl) (by kernel_rfl) (by kernel_rfl) (by kernel_rfl) (by kernel_rfl) (by kernel_rfl) (fun _ _ => by kernel_rfl)
theorem noOwnUnsafe : Tryd.pinned.checked.prog.headLifts.contains "ownunsafe" = false := by kernel_rfl
theorem tie : Tryd.prog.laidByTextLater [("turnstone/token.signs", Rows.laid_turnstone_token_signs), ("turnstone/token.words", Rows.laid_turnstone_token_words)] [.data, .data] true :=
  Program.laidByTextLater.sub seatTie1 ["turnstone/token.signs", "turnstone/token.words"] (by kernel_rfl) (by kernel_rfl)
theorem parseLists_row_tie : Rows.parseListsRow.laidByTextAt .later Tryd.pinned [.data, .data] true :=
  OpenClaim.laidByTextAt_later rfl rfl tie noOwnUnsafe
theorem tie2 : Tryd.prog.laidByTextLater [("turnstone/token.signs", Rows.laid_turnstone_token_signs), ("turnstone/token.words", Rows.laid_turnstone_token_words), ("turnstone/turnstonehand.words", Rows.laid_turnstone_turnstonehand_words)] [.data, .data, .data] true :=
  Program.laidByTextLater.sub seatTie1 ["turnstone/token.signs", "turnstone/token.words", "turnstone/turnstonehand.words"] (by kernel_rfl) (by kernel_rfl)
theorem parsePlaces_row_tie : Rows.parsePlacesRow.laidByTextAt .later Tryd.pinned [.data, .data, .data] true :=
  OpenClaim.laidByTextAt_later rfl rfl tie2 noOwnUnsafe
theorem parseListsUpto_row_tie : Rows.parseListsUptoRow.laidByTextAt .later Tryd.pinned [.data, .data] true :=
  OpenClaim.laidByTextAt_later rfl rfl tie noOwnUnsafe
theorem parsePlacesUpto_row_tie : Rows.parsePlacesUptoRow.laidByTextAt .later Tryd.pinned [.data, .data, .data] true :=
  OpenClaim.laidByTextAt_later rfl rfl tie2 noOwnUnsafe
end Go.Proofs.YtemmdbjcllcelaaDoor
