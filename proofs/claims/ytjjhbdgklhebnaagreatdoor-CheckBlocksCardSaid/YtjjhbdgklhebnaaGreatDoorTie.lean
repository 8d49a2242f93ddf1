/-
  DERIVED. GIVEN WITH THE SEED: THE PROGRAM's TIES (one call each: nine closed facts by the kernel) AND EACH ROW's TIE, after the 31st guide's Derived/Test/Toyas{Tie, Card}.lean. No idea stands in it: it is a product of the set-up. Laid BY PROGRAM, IN A SANDBOX (cutbox-door.mjs). By AI agents, Wed Nov 11 2026. No macro, syntax, notation, axiom, sorry.
-/
import Derived.Test.YtjjhbdgklhebnaaGreatDoorRows
import Derived.LaidByTextLater
import Derived.SevenTiedAt
import Derived.LaidSub
import Derived.LaidOnce
namespace Go.Proofs.YtjjhbdgklhebnaaGreatDoor
open Go
set_option maxRecDepth 100000
theorem seatTie1 : Tryz.prog.laidByTextLater [("turnstone/token.signs", Rows.laid_turnstone_token_signs), ("turnstone/token.words", Rows.laid_turnstone_token_words), ("turnstone/turnstonehand.words", Rows.laid_turnstone_turnstonehand_words), ("turnstone/turnstonelaw6.parts", Rows.laid_turnstone_turnstonelaw6_parts)] [.data, .data, .data, .data] true :=
  Program.laidByTextLater_by_one 29 8 45 (by kernel_rfl) (by kernel_rfl) (by kernel_rfl) (by kernel_rfl) (by kernel_rfl) (by kernel_rfl) (fun _ _ => by kernel_rfl)
theorem noOwnUnsafe : Tryz.pinned.checked.prog.headLifts.contains "ownunsafe" = false := by kernel_rfl
theorem tie : Tryz.prog.laidByTextLater [("turnstone/token.signs", Rows.laid_turnstone_token_signs), ("turnstone/token.words", Rows.laid_turnstone_token_words)] [.data, .data] true :=
  Program.laidByTextLater.sub seatTie1 ["turnstone/token.signs", "turnstone/token.words"] (by kernel_rfl) (by kernel_rfl)
theorem checkKnown_row_tie : Rows.checkKnownRow.laidByTextAt .later Tryz.pinned [.data, .data] true :=
  OpenClaim.laidByTextAt_later rfl rfl tie noOwnUnsafe
theorem checkLimits_row_tie : Rows.checkLimitsRow.laidByTextAt .later Tryz.pinned [.data, .data] true :=
  OpenClaim.laidByTextAt_later rfl rfl tie noOwnUnsafe
theorem checkKeeps_row_tie : Rows.checkKeepsRow.laidByTextAt .later Tryz.pinned [.data, .data] true :=
  OpenClaim.laidByTextAt_later rfl rfl tie noOwnUnsafe
theorem checkBlocks_row_tie : Rows.checkBlocksRow.laidByTextAt .later Tryz.pinned [.data, .data] true :=
  OpenClaim.laidByTextAt_later rfl rfl tie noOwnUnsafe
theorem checkEnds_row_tie : Rows.checkEndsRow.laidByTextAt .later Tryz.pinned [.data, .data] true :=
  OpenClaim.laidByTextAt_later rfl rfl tie noOwnUnsafe
theorem checkFits_row_tie : Rows.checkFitsRow.laidByTextAt .later Tryz.pinned [.data, .data] true :=
  OpenClaim.laidByTextAt_later rfl rfl tie noOwnUnsafe
theorem tie2 : Tryz.prog.laidByTextLater [("turnstone/token.signs", Rows.laid_turnstone_token_signs), ("turnstone/token.words", Rows.laid_turnstone_token_words), ("turnstone/turnstonehand.words", Rows.laid_turnstone_turnstonehand_words)] [.data, .data, .data] true :=
  Program.laidByTextLater.sub seatTie1 ["turnstone/token.signs", "turnstone/token.words", "turnstone/turnstonehand.words"] (by kernel_rfl) (by kernel_rfl)
theorem checkPrograms_row_tie : Rows.checkProgramsRow.laidByTextAt .later Tryz.pinned [.data, .data, .data] true :=
  OpenClaim.laidByTextAt_later rfl rfl tie2 noOwnUnsafe
theorem tie3 : Tryz.prog.laidByTextLater [("turnstone/token.signs", Rows.laid_turnstone_token_signs), ("turnstone/token.words", Rows.laid_turnstone_token_words), ("turnstone/turnstonelaw6.parts", Rows.laid_turnstone_turnstonelaw6_parts)] [.data, .data, .data] true :=
  Program.laidByTextLater.sub seatTie1 ["turnstone/token.signs", "turnstone/token.words", "turnstone/turnstonelaw6.parts"] (by kernel_rfl) (by kernel_rfl)
theorem checkBodies_row_tie : Rows.checkBodiesRow.laidByTextAt .later Tryz.pinned [.data, .data, .data] true :=
  OpenClaim.laidByTextAt_later rfl rfl tie3 noOwnUnsafe
theorem checkKnownUpto_row_tie : Rows.checkKnownUptoRow.laidByTextAt .later Tryz.pinned [.data, .data] true :=
  OpenClaim.laidByTextAt_later rfl rfl tie noOwnUnsafe
theorem checkProgramsUpto_row_tie : Rows.checkProgramsUptoRow.laidByTextAt .later Tryz.pinned [.data, .data, .data] true :=
  OpenClaim.laidByTextAt_later rfl rfl tie2 noOwnUnsafe
theorem checkBodiesUpto_row_tie : Rows.checkBodiesUptoRow.laidByTextAt .later Tryz.pinned [.data, .data, .data] true :=
  OpenClaim.laidByTextAt_later rfl rfl tie3 noOwnUnsafe
theorem checkLimitsUpto_row_tie : Rows.checkLimitsUptoRow.laidByTextAt .later Tryz.pinned [.data, .data] true :=
  OpenClaim.laidByTextAt_later rfl rfl tie noOwnUnsafe
theorem checkKeepsUpto_row_tie : Rows.checkKeepsUptoRow.laidByTextAt .later Tryz.pinned [.data, .data] true :=
  OpenClaim.laidByTextAt_later rfl rfl tie noOwnUnsafe
theorem checkBlocksUpto_row_tie : Rows.checkBlocksUptoRow.laidByTextAt .later Tryz.pinned [.data, .data] true :=
  OpenClaim.laidByTextAt_later rfl rfl tie noOwnUnsafe
theorem checkEndsUpto_row_tie : Rows.checkEndsUptoRow.laidByTextAt .later Tryz.pinned [.data, .data] true :=
  OpenClaim.laidByTextAt_later rfl rfl tie noOwnUnsafe
theorem checkFitsUpto_row_tie : Rows.checkFitsUptoRow.laidByTextAt .later Tryz.pinned [.data, .data] true :=
  OpenClaim.laidByTextAt_later rfl rfl tie noOwnUnsafe
end Go.Proofs.YtjjhbdgklhebnaaGreatDoor
