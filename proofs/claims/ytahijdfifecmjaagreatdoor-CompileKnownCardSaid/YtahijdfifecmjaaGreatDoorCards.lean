/-
  DERIVED. GIVEN WITH THE SEED: THE CARDS: each row of YtahijdfifecmjaaGreatDoorRows.lean that lists a variable, with what it lists TIED to the program's text (the seventh form; the later family's looks); each row that meets fmt, with fmt's text TOLD by the authors' own Lean function (tested against real Go, not proved from fmt's source: count such statements apart). THE CARD IS WHAT COUNTS. Prove the row's statement (the work); the ties are given (YtahijdfifecmjaaGreatDoorTie.lean); close each card by the builder's one call (the guide's Derived/Test/ToyasCard.lean, 'card_holds'). Laid BY PROGRAM, IN A SANDBOX (cutbox-door.mjs). By AI agents, Wed Nov 11 2026. No macro, syntax, notation, axiom, sorry.
-/
import Derived.Test.YtahijdfifecmjaaGreatDoorRows
import GoSem.ClaimSeven
namespace Go.Proofs.YtahijdfifecmjaaGreatDoor
namespace Rows

/-- THE TIED CARD OF 'turnstonelaw8.CompileKnown'. -/
def compileKnownCard : Claim7 := { stood := { row := compileKnownRow, standIns := [], harness := (true, "780532ab75137ddb2d09ab18408a676c75dd0c93f4cae28b35a1999bc7ec969f"), looks := false }, kinds := [], alts := [], laidByText := true, laidKinds := [.data, .data, .data, .data, .data], laidTests := true, laidLooks := .later }
def CompileKnownCardSaid : Prop := Claim7.holds Tryz.pinned (.plain (OpenSpec.ofChange compileKnownSpec)) compileKnownCard

/-- THE TIED CARD OF 'turnstonelaw8.CompilePrograms'. -/
def compileProgramsCard : Claim7 := { stood := { row := compileProgramsRow, standIns := [], harness := (true, "780532ab75137ddb2d09ab18408a676c75dd0c93f4cae28b35a1999bc7ec969f"), looks := false }, kinds := [], alts := [], laidByText := true, laidKinds := [.data, .data, .data, .data, .data, .data], laidTests := true, laidLooks := .later }
def CompileProgramsCardSaid : Prop := Claim7.holds Tryz.pinned (.plain (OpenSpec.ofChange compileProgramsSpec)) compileProgramsCard

/-- THE TIED CARD OF 'turnstonelaw8.CompileAny'. -/
def compileAnyCard : Claim7 := { stood := { row := compileAnyRow, standIns := [], harness := (true, "780532ab75137ddb2d09ab18408a676c75dd0c93f4cae28b35a1999bc7ec969f"), looks := false }, kinds := [], alts := [], laidByText := true, laidKinds := [.data, .data, .data, .data, .data], laidTests := true, laidLooks := .later }
def CompileAnyCardSaid : Prop := Claim7.holds Tryz.pinned (.plain (OpenSpec.ofChange compileAnySpec)) compileAnyCard

/-- THE TIED CARD OF 'turnstonelaw8.CompileTrees'. -/
def compileTreesCard : Claim7 := { stood := { row := compileTreesRow, standIns := [], harness := (true, "780532ab75137ddb2d09ab18408a676c75dd0c93f4cae28b35a1999bc7ec969f"), looks := false }, kinds := [], alts := [], laidByText := true, laidKinds := [.data, .data, .data, .data, .data, .data], laidTests := true, laidLooks := .later }
def CompileTreesCardSaid : Prop := Claim7.holds Tryz.pinned (.plain (OpenSpec.ofChange compileTreesSpec)) compileTreesCard

/-- THE TIED CARD OF 'turnstonelaw8.CompileRight'. -/
def compileRightCard : Claim7 := { stood := { row := compileRightRow, standIns := [], harness := (true, "780532ab75137ddb2d09ab18408a676c75dd0c93f4cae28b35a1999bc7ec969f"), looks := false }, kinds := [], alts := [], laidByText := true, laidKinds := [.data, .data, .data, .data, .data], laidTests := true, laidLooks := .later }
def CompileRightCardSaid : Prop := Claim7.holds Tryz.pinned (.plain (OpenSpec.ofChange compileRightSpec)) compileRightCard

/-- THE TIED CARD OF 'turnstonelaw8.CompileOnce'. -/
def compileOnceCard : Claim7 := { stood := { row := compileOnceRow, standIns := [], harness := (true, "780532ab75137ddb2d09ab18408a676c75dd0c93f4cae28b35a1999bc7ec969f"), looks := false }, kinds := [], alts := [], laidByText := true, laidKinds := [.data, .data, .data, .data, .data], laidTests := true, laidLooks := .later }
def CompileOnceCardSaid : Prop := Claim7.holds Tryz.pinned (.plain (OpenSpec.ofChange compileOnceSpec)) compileOnceCard

/-- THE TIED CARD OF 'turnstonelaw8.CompileHeights'. -/
def compileHeightsCard : Claim7 := { stood := { row := compileHeightsRow, standIns := [], harness := (true, "780532ab75137ddb2d09ab18408a676c75dd0c93f4cae28b35a1999bc7ec969f"), looks := false }, kinds := [], alts := [], laidByText := true, laidKinds := [.data, .data, .data, .data, .data], laidTests := true, laidLooks := .later }
def CompileHeightsCardSaid : Prop := Claim7.holds Tryz.pinned (.plain (OpenSpec.ofChange compileHeightsSpec)) compileHeightsCard

/-- THE SECOND FORM's CARD OF 'turnstonelaw8.CompileKnown'. -/
def compileKnownUptoCard : Claim7 := { stood := { row := compileKnownUptoRow, standIns := [], harness := (true, "780532ab75137ddb2d09ab18408a676c75dd0c93f4cae28b35a1999bc7ec969f"), looks := false }, kinds := [], alts := [], laidByText := true, laidKinds := [.data, .data, .data, .data, .data], laidTests := true, laidLooks := .later }
def CompileKnownUptoCardSaid : Prop := Claim7.holds Tryz.pinned (.plain (OpenSpec.upto compileKnownSpec)) compileKnownUptoCard

/-- THE SECOND FORM's CARD OF 'turnstonelaw8.CompilePrograms'. -/
def compileProgramsUptoCard : Claim7 := { stood := { row := compileProgramsUptoRow, standIns := [], harness := (true, "780532ab75137ddb2d09ab18408a676c75dd0c93f4cae28b35a1999bc7ec969f"), looks := false }, kinds := [], alts := [], laidByText := true, laidKinds := [.data, .data, .data, .data, .data, .data], laidTests := true, laidLooks := .later }
def CompileProgramsUptoCardSaid : Prop := Claim7.holds Tryz.pinned (.plain (OpenSpec.upto compileProgramsSpec)) compileProgramsUptoCard

/-- THE SECOND FORM's CARD OF 'turnstonelaw8.CompileAny'. -/
def compileAnyUptoCard : Claim7 := { stood := { row := compileAnyUptoRow, standIns := [], harness := (true, "780532ab75137ddb2d09ab18408a676c75dd0c93f4cae28b35a1999bc7ec969f"), looks := false }, kinds := [], alts := [], laidByText := true, laidKinds := [.data, .data, .data, .data, .data], laidTests := true, laidLooks := .later }
def CompileAnyUptoCardSaid : Prop := Claim7.holds Tryz.pinned (.plain (OpenSpec.upto compileAnySpec)) compileAnyUptoCard

/-- THE SECOND FORM's CARD OF 'turnstonelaw8.CompileTrees'. -/
def compileTreesUptoCard : Claim7 := { stood := { row := compileTreesUptoRow, standIns := [], harness := (true, "780532ab75137ddb2d09ab18408a676c75dd0c93f4cae28b35a1999bc7ec969f"), looks := false }, kinds := [], alts := [], laidByText := true, laidKinds := [.data, .data, .data, .data, .data, .data], laidTests := true, laidLooks := .later }
def CompileTreesUptoCardSaid : Prop := Claim7.holds Tryz.pinned (.plain (OpenSpec.upto compileTreesSpec)) compileTreesUptoCard

/-- THE SECOND FORM's CARD OF 'turnstonelaw8.CompileRight'. -/
def compileRightUptoCard : Claim7 := { stood := { row := compileRightUptoRow, standIns := [], harness := (true, "780532ab75137ddb2d09ab18408a676c75dd0c93f4cae28b35a1999bc7ec969f"), looks := false }, kinds := [], alts := [], laidByText := true, laidKinds := [.data, .data, .data, .data, .data], laidTests := true, laidLooks := .later }
def CompileRightUptoCardSaid : Prop := Claim7.holds Tryz.pinned (.plain (OpenSpec.upto compileRightSpec)) compileRightUptoCard

/-- THE SECOND FORM's CARD OF 'turnstonelaw8.CompileOnce'. -/
def compileOnceUptoCard : Claim7 := { stood := { row := compileOnceUptoRow, standIns := [], harness := (true, "780532ab75137ddb2d09ab18408a676c75dd0c93f4cae28b35a1999bc7ec969f"), looks := false }, kinds := [], alts := [], laidByText := true, laidKinds := [.data, .data, .data, .data, .data], laidTests := true, laidLooks := .later }
def CompileOnceUptoCardSaid : Prop := Claim7.holds Tryz.pinned (.plain (OpenSpec.upto compileOnceSpec)) compileOnceUptoCard

/-- THE SECOND FORM's CARD OF 'turnstonelaw8.CompileHeights'. -/
def compileHeightsUptoCard : Claim7 := { stood := { row := compileHeightsUptoRow, standIns := [], harness := (true, "780532ab75137ddb2d09ab18408a676c75dd0c93f4cae28b35a1999bc7ec969f"), looks := false }, kinds := [], alts := [], laidByText := true, laidKinds := [.data, .data, .data, .data, .data], laidTests := true, laidLooks := .later }
def CompileHeightsUptoCardSaid : Prop := Claim7.holds Tryz.pinned (.plain (OpenSpec.upto compileHeightsSpec)) compileHeightsUptoCard
end Rows
end Go.Proofs.YtahijdfifecmjaaGreatDoor
