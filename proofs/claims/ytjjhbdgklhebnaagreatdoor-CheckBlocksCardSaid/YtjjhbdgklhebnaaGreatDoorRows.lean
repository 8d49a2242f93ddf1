/-
  NARROWER THAN 'FOR EVERY INPUT', by the rows' own cells (each row's printed sentence says how): CheckKnown: laid · CheckPrograms: laid · CheckBodies: laid · CheckLimits: laid · CheckKeeps: laid · CheckBlocks: laid · CheckEnds: laid · CheckFits: laid.
  DERIVED. THE GIVEN ROWS OF THIS SEAT. 8 by the template 'for every input the law returns true; each argument reads behind the call as it read before'; 0 by the template 'total and deterministic' (their statements: YtjjhbdgklhebnaaGreatDoorTotals.lean).
  GIVEN WITH THE SEED: the statements are not yours to turn. If you find one false, say at which input.
  Laid BY PROGRAM, IN A SANDBOX (cutbox-rows.mjs): the forced cells as the released guide's own fill.sh prints them over the translation 435d9a21e928fefe… (all of the seat's roots in one cut). By AI agents, Wed Nov 11 2026. No macro, syntax, notation, axiom, sorry.
-/
import Derived.Test.YtjjhbdgklhebnaaGreatDoorChecked
import GoSem.Claim
import GoSem.ClaimJoined
import GoSem.ClaimMapViews
import Derived.JoinedTies
import Derived.KernelRfl
namespace Go.Proofs.YtjjhbdgklhebnaaGreatDoor
/- THE CELL 'sum', in the pinned program and in every row, IS THE sha256 OF THE DUMP (.gsa) THAT YtjjhbdgklhebnaaGreatDoorProg.lean LOADS. Nothing in Lean hashes anything: it is a label: what it is worth is what the hold of that sum in a sandbox is worth. -/
noncomputable def Tryz.pinned : Pinned := { name := "ytjjhbdgklhebnaagreatdoor", sum := "435d9a21e928fefe297fe6c492b847010efdc619f36ba7403415f53dbdaa49ac", checked := Tryz.checked }
namespace Rows
def none {H : Type} : Left H := { results := [], args := [] }

/- WHAT THE LISTED PACKAGE-LEVEL VARIABLES READ AS WHEN THE CALL BEGINS. Each datum BY PROGRAM (the guide's laid-datum.mjs) off the statement by which the dump's own 'gosem.cut.vars' lays the variable. In a bare row this is a premise. The card (YtjjhbdgklhebnaaGreatDoorCards.lean) ties it to the program's text. -/
def laid_turnstone_token_signs {H : Type} : DataW H := .agg [.lit (.string [58, 61]), .lit (.string [61, 61]), .lit (.string [33, 61]), .lit (.string [60, 61]), .lit (.string [62, 61]), .lit (.string [38, 38]), .lit (.string [124, 124]), .lit (.string [43]), .lit (.string [45]), .lit (.string [42]), .lit (.string [47]), .lit (.string [37]), .lit (.string [60]), .lit (.string [62]), .lit (.string [61]), .lit (.string [33]), .lit (.string [40]), .lit (.string [41]), .lit (.string [91]), .lit (.string [93]), .lit (.string [123]), .lit (.string [125]), .lit (.string [44]), .lit (.string [46])]
def laid_turnstone_token_words {H : Type} : DataW H := .agg [.lit (.string [116, 121, 112, 101]), .lit (.string [115, 116, 114, 117, 99, 116]), .lit (.string [105, 110, 116, 101, 114, 102, 97, 99, 101]), .lit (.string [102, 117, 110, 99]), .lit (.string [118, 97, 114]), .lit (.string [105, 102]), .lit (.string [101, 108, 115, 101]), .lit (.string [102, 111, 114]), .lit (.string [98, 114, 101, 97, 107]), .lit (.string [99, 111, 110, 116, 105, 110, 117, 101]), .lit (.string [114, 101, 116, 117, 114, 110]), .lit (.string [112, 114, 105, 110, 116]), .lit (.string [108, 101, 110]), .lit (.string [109, 97, 107, 101]), .lit (.string [110, 101, 119]), .lit (.string [105, 110, 112, 117, 116]), .lit (.string [116, 114, 117, 101]), .lit (.string [102, 97, 108, 115, 101]), .lit (.string [110, 105, 108]), .lit (.string [105, 110, 116]), .lit (.string [98, 111, 111, 108]), .lit (.string [115, 116, 114, 105, 110, 103])]
def laid_turnstone_turnstonehand_words {H : Type} : DataW H := .agg [.lit (.string [116, 121, 112, 101]), .lit (.string [115, 116, 114, 117, 99, 116]), .lit (.string [105, 110, 116, 101, 114, 102, 97, 99, 101]), .lit (.string [102, 117, 110, 99]), .lit (.string [118, 97, 114]), .lit (.string [105, 102]), .lit (.string [101, 108, 115, 101]), .lit (.string [102, 111, 114]), .lit (.string [98, 114, 101, 97, 107]), .lit (.string [99, 111, 110, 116, 105, 110, 117, 101]), .lit (.string [114, 101, 116, 117, 114, 110]), .lit (.string [112, 114, 105, 110, 116]), .lit (.string [108, 101, 110]), .lit (.string [109, 97, 107, 101]), .lit (.string [110, 101, 119]), .lit (.string [105, 110, 112, 117, 116]), .lit (.string [116, 114, 117, 101]), .lit (.string [102, 97, 108, 115, 101]), .lit (.string [110, 105, 108]), .lit (.string [105, 110, 116]), .lit (.string [98, 111, 111, 108]), .lit (.string [115, 116, 114, 105, 110, 103]), .lit (.string [58, 61]), .lit (.string [61, 61]), .lit (.string [38, 38]), .lit (.string [124, 124]), .lit (.string [43]), .lit (.string [45]), .lit (.string [42]), .lit (.string [60]), .lit (.string [61]), .lit (.string [33]), .lit (.string [40]), .lit (.string [41]), .lit (.string [91]), .lit (.string [93]), .lit (.string [123]), .lit (.string [125]), .lit (.string [44]), .lit (.string [46]), .lit (.string [59]), .lit (.string [10]), .lit (.string [97]), .lit (.string [55])]
def laid_turnstone_turnstonelaw6_parts {H : Type} : DataW H := .agg [.lit (.string [120, 32, 58, 61, 32, 49]), .lit (.string [118, 97, 114, 32, 121, 32, 115, 116, 114, 105, 110, 103]), .lit (.string [120, 32, 61, 32, 121]), .lit (.string [122, 46, 97, 32, 61, 32, 50]), .lit (.string [112, 114, 105, 110, 116, 40, 120, 41]), .lit (.string [114, 101, 116, 117, 114, 110, 32, 120]), .lit (.string [114, 101, 116, 117, 114, 110]), .lit (.string [98, 114, 101, 97, 107]), .lit (.string [102, 111, 114, 32, 120, 32, 60, 32, 51, 32, 123, 32, 99, 111, 110, 116, 105, 110, 117, 101, 32, 125]), .lit (.string [105, 102, 32, 122, 32, 61, 61, 32, 110, 105, 108, 32, 123, 32, 125]), .lit (.string [102, 40, 49, 44, 32, 50, 41]), .lit (.string [122, 46, 103, 101, 116, 40, 49, 41]), .lit (.string [103, 40, 41]), .lit (.string [108, 91, 48, 93, 32, 61, 32, 49]), .lit (.string [108, 32, 58, 61, 32, 109, 97, 107, 101, 40, 91, 93, 105, 110, 116, 44, 32, 50, 41]), .lit (.string [122, 32, 58, 61, 32, 110, 101, 119, 40, 80, 41]), .lit (.string [118, 97, 114, 32, 105, 32, 73, 32, 61, 32, 122]), .lit (.string [105, 46, 103, 101, 116, 40, 120, 41]), .lit (.string [105, 32, 61, 32, 110, 105, 108]), .lit (.string [112, 32, 58, 61, 32, 105, 46, 40, 80, 41]), .lit (.string [112, 114, 105, 110, 116, 40, 108, 41]), .lit (.string [120, 32, 58, 61, 32, 122]), .lit (.string [123, 32, 120, 32, 58, 61, 32, 50, 32, 125]), .lit (.string [112, 114, 105, 110, 116, 40, 121, 91, 48, 93, 32, 43, 32, 108, 101, 110, 40, 108, 41, 41]), .lit (.string [105, 32, 61, 61, 32, 122]), .lit (.string [105, 102, 32, 105, 32, 61, 61, 32, 122, 32, 123, 32, 114, 101, 116, 117, 114, 110, 32, 49, 32, 125, 32, 101, 108, 115, 101, 32, 123, 32, 114, 101, 116, 117, 114, 110, 32, 50, 32, 125]), .lit (.string [102, 111, 114, 32, 123, 32, 125]), .lit (.string [113, 32, 58, 61, 32, 45, 116, 114, 117, 101]), .lit (.string [112, 114, 105, 110, 116, 40, 49, 32, 43, 32, 121, 41]), .lit (.string [102, 40, 120, 41])]

/-- 'turnstonelaw6.CheckKnown': WHATEVER THE INPUT: true; the input reads as it did. -/
def checkKnownSpec : ChangeSpec := { name := "checkKnown", fn := fun _ => fun
  | [] => { results := [.lit (.bool true)], args := [] }
  | _ => none }
def checkKnownRow : OpenClaim := { program := "ytjjhbdgklhebnaagreatdoor", sum := "435d9a21e928fefe297fe6c492b847010efdc619f36ba7403415f53dbdaa49ac", func := "turnstone/turnstonelaw6.CheckKnown", spec := "checkKnown", unfollowed := true, recurses := true, named := ["turnstone/token.words", "turnstone/token.signs"], apart := false, laid := [("turnstone/token.signs", laid_turnstone_token_signs), ("turnstone/token.words", laid_turnstone_token_words)] }
def CheckKnownSaid : Prop := checkKnownRow.holds Tryz.pinned (OpenSpec.ofChange checkKnownSpec)

/-- ITS FALSE NEIGHBOUR: 'it returns false'. Refute it at one input. -/
def checkKnownWrong : ChangeSpec := { name := "checkKnown", fn := fun _ => fun
  | [] => { results := [.lit (.bool false)], args := [] }
  | _ => none }
def CheckKnownWrongFalsely : Prop := checkKnownRow.holds Tryz.pinned (OpenSpec.ofChange checkKnownWrong)

/-- 'turnstonelaw6.CheckPrograms': WHATEVER THE INPUT: true; the input reads as it did. -/
def checkProgramsSpec : ChangeSpec := { name := "checkPrograms", fn := fun _ => fun
  | [d1, d2] => { results := [.lit (.bool true)], args := [d1, d2] }
  | _ => none }
def checkProgramsRow : OpenClaim := { program := "ytjjhbdgklhebnaagreatdoor", sum := "435d9a21e928fefe297fe6c492b847010efdc619f36ba7403415f53dbdaa49ac", func := "turnstone/turnstonelaw6.CheckPrograms", spec := "checkPrograms", unfollowed := true, recurses := true, named := ["turnstone/token.words", "turnstone/token.signs", "turnstone/turnstonehand.words"], apart := false, laid := [("turnstone/token.signs", laid_turnstone_token_signs), ("turnstone/token.words", laid_turnstone_token_words), ("turnstone/turnstonehand.words", laid_turnstone_turnstonehand_words)] }
def CheckProgramsSaid : Prop := checkProgramsRow.holds Tryz.pinned (OpenSpec.ofChange checkProgramsSpec)

/-- ITS FALSE NEIGHBOUR: 'it returns false'. Refute it at one input. -/
def checkProgramsWrong : ChangeSpec := { name := "checkPrograms", fn := fun _ => fun
  | [d1, d2] => { results := [.lit (.bool false)], args := [d1, d2] }
  | _ => none }
def CheckProgramsWrongFalsely : Prop := checkProgramsRow.holds Tryz.pinned (OpenSpec.ofChange checkProgramsWrong)

/-- 'turnstonelaw6.CheckBodies': WHATEVER THE INPUT: true; the input reads as it did. -/
def checkBodiesSpec : ChangeSpec := { name := "checkBodies", fn := fun _ => fun
  | [d1, d2, d3] => { results := [.lit (.bool true)], args := [d1, d2, d3] }
  | _ => none }
def checkBodiesRow : OpenClaim := { program := "ytjjhbdgklhebnaagreatdoor", sum := "435d9a21e928fefe297fe6c492b847010efdc619f36ba7403415f53dbdaa49ac", func := "turnstone/turnstonelaw6.CheckBodies", spec := "checkBodies", unfollowed := true, recurses := true, named := ["turnstone/turnstonelaw6.parts", "turnstone/token.words", "turnstone/token.signs"], apart := false, laid := [("turnstone/token.signs", laid_turnstone_token_signs), ("turnstone/token.words", laid_turnstone_token_words), ("turnstone/turnstonelaw6.parts", laid_turnstone_turnstonelaw6_parts)] }
def CheckBodiesSaid : Prop := checkBodiesRow.holds Tryz.pinned (OpenSpec.ofChange checkBodiesSpec)

/-- ITS FALSE NEIGHBOUR: 'it returns false'. Refute it at one input. -/
def checkBodiesWrong : ChangeSpec := { name := "checkBodies", fn := fun _ => fun
  | [d1, d2, d3] => { results := [.lit (.bool false)], args := [d1, d2, d3] }
  | _ => none }
def CheckBodiesWrongFalsely : Prop := checkBodiesRow.holds Tryz.pinned (OpenSpec.ofChange checkBodiesWrong)

/-- 'turnstonelaw6.CheckLimits': WHATEVER THE INPUT: true; the input reads as it did. -/
def checkLimitsSpec : ChangeSpec := { name := "checkLimits", fn := fun _ => fun
  | [d1, d2] => { results := [.lit (.bool true)], args := [d1, d2] }
  | _ => none }
def checkLimitsRow : OpenClaim := { program := "ytjjhbdgklhebnaagreatdoor", sum := "435d9a21e928fefe297fe6c492b847010efdc619f36ba7403415f53dbdaa49ac", func := "turnstone/turnstonelaw6.CheckLimits", spec := "checkLimits", unfollowed := true, recurses := true, named := ["turnstone/token.words", "turnstone/token.signs"], apart := false, laid := [("turnstone/token.signs", laid_turnstone_token_signs), ("turnstone/token.words", laid_turnstone_token_words)] }
def CheckLimitsSaid : Prop := checkLimitsRow.holds Tryz.pinned (OpenSpec.ofChange checkLimitsSpec)

/-- ITS FALSE NEIGHBOUR: 'it returns false'. Refute it at one input. -/
def checkLimitsWrong : ChangeSpec := { name := "checkLimits", fn := fun _ => fun
  | [d1, d2] => { results := [.lit (.bool false)], args := [d1, d2] }
  | _ => none }
def CheckLimitsWrongFalsely : Prop := checkLimitsRow.holds Tryz.pinned (OpenSpec.ofChange checkLimitsWrong)

/-- 'turnstonelaw6.CheckKeeps': WHATEVER THE INPUT: true; the input reads as it did. -/
def checkKeepsSpec : ChangeSpec := { name := "checkKeeps", fn := fun _ => fun
  | [d] => { results := [.lit (.bool true)], args := [d] }
  | _ => none }
def checkKeepsRow : OpenClaim := { program := "ytjjhbdgklhebnaagreatdoor", sum := "435d9a21e928fefe297fe6c492b847010efdc619f36ba7403415f53dbdaa49ac", func := "turnstone/turnstonelaw6.CheckKeeps", spec := "checkKeeps", unfollowed := true, recurses := true, named := ["turnstone/token.words", "turnstone/token.signs"], apart := false, laid := [("turnstone/token.signs", laid_turnstone_token_signs), ("turnstone/token.words", laid_turnstone_token_words)] }
def CheckKeepsSaid : Prop := checkKeepsRow.holds Tryz.pinned (OpenSpec.ofChange checkKeepsSpec)

/-- ITS FALSE NEIGHBOUR: 'it returns false'. Refute it at one input. -/
def checkKeepsWrong : ChangeSpec := { name := "checkKeeps", fn := fun _ => fun
  | [d] => { results := [.lit (.bool false)], args := [d] }
  | _ => none }
def CheckKeepsWrongFalsely : Prop := checkKeepsRow.holds Tryz.pinned (OpenSpec.ofChange checkKeepsWrong)

/-- 'turnstonelaw6.CheckBlocks': WHATEVER THE INPUT: true; the input reads as it did. -/
def checkBlocksSpec : ChangeSpec := { name := "checkBlocks", fn := fun _ => fun
  | [d1, d2, d3] => { results := [.lit (.bool true)], args := [d1, d2, d3] }
  | _ => none }
def checkBlocksRow : OpenClaim := { program := "ytjjhbdgklhebnaagreatdoor", sum := "435d9a21e928fefe297fe6c492b847010efdc619f36ba7403415f53dbdaa49ac", func := "turnstone/turnstonelaw6.CheckBlocks", spec := "checkBlocks", unfollowed := true, recurses := true, named := ["turnstone/token.words", "turnstone/token.signs"], apart := false, laid := [("turnstone/token.signs", laid_turnstone_token_signs), ("turnstone/token.words", laid_turnstone_token_words)] }
def CheckBlocksSaid : Prop := checkBlocksRow.holds Tryz.pinned (OpenSpec.ofChange checkBlocksSpec)

/-- ITS FALSE NEIGHBOUR: 'it returns false'. Refute it at one input. -/
def checkBlocksWrong : ChangeSpec := { name := "checkBlocks", fn := fun _ => fun
  | [d1, d2, d3] => { results := [.lit (.bool false)], args := [d1, d2, d3] }
  | _ => none }
def CheckBlocksWrongFalsely : Prop := checkBlocksRow.holds Tryz.pinned (OpenSpec.ofChange checkBlocksWrong)

/-- 'turnstonelaw6.CheckEnds': WHATEVER THE INPUT: true; the input reads as it did. -/
def checkEndsSpec : ChangeSpec := { name := "checkEnds", fn := fun _ => fun
  | [d] => { results := [.lit (.bool true)], args := [d] }
  | _ => none }
def checkEndsRow : OpenClaim := { program := "ytjjhbdgklhebnaagreatdoor", sum := "435d9a21e928fefe297fe6c492b847010efdc619f36ba7403415f53dbdaa49ac", func := "turnstone/turnstonelaw6.CheckEnds", spec := "checkEnds", unfollowed := true, recurses := true, named := ["turnstone/token.words", "turnstone/token.signs"], apart := false, laid := [("turnstone/token.signs", laid_turnstone_token_signs), ("turnstone/token.words", laid_turnstone_token_words)] }
def CheckEndsSaid : Prop := checkEndsRow.holds Tryz.pinned (OpenSpec.ofChange checkEndsSpec)

/-- ITS FALSE NEIGHBOUR: 'it returns false'. Refute it at one input. -/
def checkEndsWrong : ChangeSpec := { name := "checkEnds", fn := fun _ => fun
  | [d] => { results := [.lit (.bool false)], args := [d] }
  | _ => none }
def CheckEndsWrongFalsely : Prop := checkEndsRow.holds Tryz.pinned (OpenSpec.ofChange checkEndsWrong)

/-- 'turnstonelaw6.CheckFits': WHATEVER THE INPUT: true; the input reads as it did. -/
def checkFitsSpec : ChangeSpec := { name := "checkFits", fn := fun _ => fun
  | [d1, d2] => { results := [.lit (.bool true)], args := [d1, d2] }
  | _ => none }
def checkFitsRow : OpenClaim := { program := "ytjjhbdgklhebnaagreatdoor", sum := "435d9a21e928fefe297fe6c492b847010efdc619f36ba7403415f53dbdaa49ac", func := "turnstone/turnstonelaw6.CheckFits", spec := "checkFits", unfollowed := true, recurses := true, named := ["turnstone/token.words", "turnstone/token.signs"], apart := false, laid := [("turnstone/token.signs", laid_turnstone_token_signs), ("turnstone/token.words", laid_turnstone_token_words)] }
def CheckFitsSaid : Prop := checkFitsRow.holds Tryz.pinned (OpenSpec.ofChange checkFitsSpec)

/-- ITS FALSE NEIGHBOUR: 'it returns false'. Refute it at one input. -/
def checkFitsWrong : ChangeSpec := { name := "checkFits", fn := fun _ => fun
  | [d1, d2] => { results := [.lit (.bool false)], args := [d1, d2] }
  | _ => none }
def CheckFitsWrongFalsely : Prop := checkFitsRow.holds Tryz.pinned (OpenSpec.ofChange checkFitsWrong)

/- THE SECOND FORM. 'bulk': how many values and letters a reading holds, each counted each time it is reached (what is shared counts as often as it is met; a slice's spare places count too). A statement '..UptoSaid' is the law's where the arguments, and the package variables that the reading takes, are together of bulk at most 1048576: NARROWER than '..Said'. Prove '..Said' where nothing that the law and all that it calls make is longer than what came in: it says more and counts as full. Else prove '..UptoSaid'. A law counts once. -/
mutual
def uptoBulk {H : Type} : DataW H → Nat
  | .lit (.string bytes) => bytes.length + 1
  | .lit _ => 1
  | .nil => 1
  | .ptr d => uptoBulk d + 1
  | .slice elems spare => uptoBulkAll elems + uptoBulkAll spare + 1
  | .agg parts => uptoBulkAll parts + 1
  | .iface _ d => uptoBulk d + 1
  | .map entries => uptoBulkEntries entries + 1
  | .held _ => 1
def uptoBulkAll {H : Type} : List (DataW H) → Nat
  | [] => 0
  | d :: r => uptoBulk d + uptoBulkAll r
def uptoBulkEntries {H : Type} : List (Lit × DataW H) → Nat
  | [] => 0
  | x :: r => uptoBulkEntry x + uptoBulkEntries r
def uptoBulkEntry {H : Type} : Lit × DataW H → Nat
  | (.string bytes, d) => bytes.length + uptoBulk d + 1
  | (_, d) => uptoBulk d + 1
 end
def uptoSmall : (H : Type) → List (DataW H) → Bool := fun _ ds => decide (uptoBulkAll ds ≤ 1048576)
def OpenSpec.upto (s : _root_.Go.ChangeSpec) : _root_.Go.OpenSpec := { _root_.Go.OpenSpec.ofChange s with cond := some uptoSmall }

/-- 'turnstonelaw6.CheckKnown', WHERE WHAT IT READS IS OF BULK AT MOST 1048576: true; the input reads as it did. -/
def checkKnownUptoRow : OpenClaim := { program := "ytjjhbdgklhebnaagreatdoor", sum := "435d9a21e928fefe297fe6c492b847010efdc619f36ba7403415f53dbdaa49ac", func := "turnstone/turnstonelaw6.CheckKnown", spec := "checkKnown", unfollowed := true, recurses := true, named := ["turnstone/token.words", "turnstone/token.signs"], apart := false, laid := [("turnstone/token.signs", laid_turnstone_token_signs), ("turnstone/token.words", laid_turnstone_token_words)], narrowed := true }
def CheckKnownUptoSaid : Prop := checkKnownUptoRow.holds Tryz.pinned (OpenSpec.upto checkKnownSpec)

/-- 'turnstonelaw6.CheckPrograms', WHERE WHAT IT READS IS OF BULK AT MOST 1048576: true; the input reads as it did. -/
def checkProgramsUptoRow : OpenClaim := { program := "ytjjhbdgklhebnaagreatdoor", sum := "435d9a21e928fefe297fe6c492b847010efdc619f36ba7403415f53dbdaa49ac", func := "turnstone/turnstonelaw6.CheckPrograms", spec := "checkPrograms", unfollowed := true, recurses := true, named := ["turnstone/token.words", "turnstone/token.signs", "turnstone/turnstonehand.words"], apart := false, laid := [("turnstone/token.signs", laid_turnstone_token_signs), ("turnstone/token.words", laid_turnstone_token_words), ("turnstone/turnstonehand.words", laid_turnstone_turnstonehand_words)], narrowed := true }
def CheckProgramsUptoSaid : Prop := checkProgramsUptoRow.holds Tryz.pinned (OpenSpec.upto checkProgramsSpec)

/-- 'turnstonelaw6.CheckBodies', WHERE WHAT IT READS IS OF BULK AT MOST 1048576: true; the input reads as it did. -/
def checkBodiesUptoRow : OpenClaim := { program := "ytjjhbdgklhebnaagreatdoor", sum := "435d9a21e928fefe297fe6c492b847010efdc619f36ba7403415f53dbdaa49ac", func := "turnstone/turnstonelaw6.CheckBodies", spec := "checkBodies", unfollowed := true, recurses := true, named := ["turnstone/turnstonelaw6.parts", "turnstone/token.words", "turnstone/token.signs"], apart := false, laid := [("turnstone/token.signs", laid_turnstone_token_signs), ("turnstone/token.words", laid_turnstone_token_words), ("turnstone/turnstonelaw6.parts", laid_turnstone_turnstonelaw6_parts)], narrowed := true }
def CheckBodiesUptoSaid : Prop := checkBodiesUptoRow.holds Tryz.pinned (OpenSpec.upto checkBodiesSpec)

/-- 'turnstonelaw6.CheckLimits', WHERE WHAT IT READS IS OF BULK AT MOST 1048576: true; the input reads as it did. -/
def checkLimitsUptoRow : OpenClaim := { program := "ytjjhbdgklhebnaagreatdoor", sum := "435d9a21e928fefe297fe6c492b847010efdc619f36ba7403415f53dbdaa49ac", func := "turnstone/turnstonelaw6.CheckLimits", spec := "checkLimits", unfollowed := true, recurses := true, named := ["turnstone/token.words", "turnstone/token.signs"], apart := false, laid := [("turnstone/token.signs", laid_turnstone_token_signs), ("turnstone/token.words", laid_turnstone_token_words)], narrowed := true }
def CheckLimitsUptoSaid : Prop := checkLimitsUptoRow.holds Tryz.pinned (OpenSpec.upto checkLimitsSpec)

/-- 'turnstonelaw6.CheckKeeps', WHERE WHAT IT READS IS OF BULK AT MOST 1048576: true; the input reads as it did. -/
def checkKeepsUptoRow : OpenClaim := { program := "ytjjhbdgklhebnaagreatdoor", sum := "435d9a21e928fefe297fe6c492b847010efdc619f36ba7403415f53dbdaa49ac", func := "turnstone/turnstonelaw6.CheckKeeps", spec := "checkKeeps", unfollowed := true, recurses := true, named := ["turnstone/token.words", "turnstone/token.signs"], apart := false, laid := [("turnstone/token.signs", laid_turnstone_token_signs), ("turnstone/token.words", laid_turnstone_token_words)], narrowed := true }
def CheckKeepsUptoSaid : Prop := checkKeepsUptoRow.holds Tryz.pinned (OpenSpec.upto checkKeepsSpec)

/-- 'turnstonelaw6.CheckBlocks', WHERE WHAT IT READS IS OF BULK AT MOST 1048576: true; the input reads as it did. -/
def checkBlocksUptoRow : OpenClaim := { program := "ytjjhbdgklhebnaagreatdoor", sum := "435d9a21e928fefe297fe6c492b847010efdc619f36ba7403415f53dbdaa49ac", func := "turnstone/turnstonelaw6.CheckBlocks", spec := "checkBlocks", unfollowed := true, recurses := true, named := ["turnstone/token.words", "turnstone/token.signs"], apart := false, laid := [("turnstone/token.signs", laid_turnstone_token_signs), ("turnstone/token.words", laid_turnstone_token_words)], narrowed := true }
def CheckBlocksUptoSaid : Prop := checkBlocksUptoRow.holds Tryz.pinned (OpenSpec.upto checkBlocksSpec)

/-- 'turnstonelaw6.CheckEnds', WHERE WHAT IT READS IS OF BULK AT MOST 1048576: true; the input reads as it did. -/
def checkEndsUptoRow : OpenClaim := { program := "ytjjhbdgklhebnaagreatdoor", sum := "435d9a21e928fefe297fe6c492b847010efdc619f36ba7403415f53dbdaa49ac", func := "turnstone/turnstonelaw6.CheckEnds", spec := "checkEnds", unfollowed := true, recurses := true, named := ["turnstone/token.words", "turnstone/token.signs"], apart := false, laid := [("turnstone/token.signs", laid_turnstone_token_signs), ("turnstone/token.words", laid_turnstone_token_words)], narrowed := true }
def CheckEndsUptoSaid : Prop := checkEndsUptoRow.holds Tryz.pinned (OpenSpec.upto checkEndsSpec)

/-- 'turnstonelaw6.CheckFits', WHERE WHAT IT READS IS OF BULK AT MOST 1048576: true; the input reads as it did. -/
def checkFitsUptoRow : OpenClaim := { program := "ytjjhbdgklhebnaagreatdoor", sum := "435d9a21e928fefe297fe6c492b847010efdc619f36ba7403415f53dbdaa49ac", func := "turnstone/turnstonelaw6.CheckFits", spec := "checkFits", unfollowed := true, recurses := true, named := ["turnstone/token.words", "turnstone/token.signs"], apart := false, laid := [("turnstone/token.signs", laid_turnstone_token_signs), ("turnstone/token.words", laid_turnstone_token_words)], narrowed := true }
def CheckFitsUptoSaid : Prop := checkFitsUptoRow.holds Tryz.pinned (OpenSpec.upto checkFitsSpec)

end Rows
end Go.Proofs.YtjjhbdgklhebnaaGreatDoor
