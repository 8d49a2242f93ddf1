/-
  DERIVED. GIVEN WITH THE SEED: THE CARDS: each row of YtmphiefdoaihhaaGreatDoorRows.lean that lists a variable, with what it lists TIED to the program's text (the seventh form; the later family's looks); each row that meets fmt, with fmt's text TOLD by the authors' own Lean function (tested against real Go, not proved from fmt's source: count such statements apart). THE CARD IS WHAT COUNTS. Prove the row's statement (the work); the ties are given (YtmphiefdoaihhaaGreatDoorTie.lean); close each card by the builder's one call (the guide's Derived/Test/ToyasCard.lean, 'card_holds'). Laid BY PROGRAM, IN A SANDBOX (cutbox-door.mjs). By AI agents, Wed Nov 11 2026. No macro, syntax, notation, axiom, sorry.
-/
import Derived.Test.YtmphiefdoaihhaaGreatDoorRows
import GoSem.ClaimSeven
namespace Go.Proofs.YtmphiefdoaihhaaGreatDoor
namespace Rows

/-- THE TIED CARD OF 'turnstonelaw6.CheckLimits'. -/
def checkLimitsCard : Claim7 := { stood := { row := checkLimitsRow, standIns := [], harness := (true, "1225cc20789e62159be9e5e81ae22fa05fcc836237764292bb13ce83f6746b76"), looks := false }, kinds := [], alts := [], laidByText := true, laidKinds := [.data, .data], laidTests := true, laidLooks := .later }
def CheckLimitsCardSaid : Prop := Claim7.holds Tryz.pinned (.plain (OpenSpec.ofChange checkLimitsSpec)) checkLimitsCard

/-- THE SECOND FORM's CARD OF 'turnstonelaw6.CheckLimits'. -/
def checkLimitsUptoCard : Claim7 := { stood := { row := checkLimitsUptoRow, standIns := [], harness := (true, "1225cc20789e62159be9e5e81ae22fa05fcc836237764292bb13ce83f6746b76"), looks := false }, kinds := [], alts := [], laidByText := true, laidKinds := [.data, .data], laidTests := true, laidLooks := .later }
def CheckLimitsUptoCardSaid : Prop := Claim7.holds Tryz.pinned (.plain (OpenSpec.upto checkLimitsSpec)) checkLimitsUptoCard
end Rows
end Go.Proofs.YtmphiefdoaihhaaGreatDoor
