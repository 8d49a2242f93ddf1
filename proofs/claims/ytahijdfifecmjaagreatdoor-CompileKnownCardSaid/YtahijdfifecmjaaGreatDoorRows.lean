/-
  NARROWER THAN 'FOR EVERY INPUT', by the rows' own cells (each row's printed sentence says how): CompileKnown: laid · CompilePrograms: laid · CompileAny: laid · CompileTrees: laid · CompileRight: laid · CompileOnce: laid · CompileHeights: laid.
  DERIVED. THE GIVEN ROWS OF THIS SEAT. 7 by the template 'for every input the law returns true; each argument reads behind the call as it read before'; 0 by the template 'total and deterministic' (their statements: YtahijdfifecmjaaGreatDoorTotals.lean).
  GIVEN WITH THE SEED: the statements are not yours to turn. If you find one false, say at which input.
  Laid BY PROGRAM, IN A SANDBOX (cutbox-rows.mjs): the forced cells as the released guide's own fill.sh prints them over the translation e9e9e70d946bf16d… (all of the seat's roots in one cut). By AI agents, Wed Nov 11 2026. No macro, syntax, notation, axiom, sorry.
-/
import Derived.Test.YtahijdfifecmjaaGreatDoorChecked
import GoSem.Claim
import GoSem.ClaimJoined
import GoSem.ClaimMapViews
import Derived.JoinedTies
import Derived.KernelRfl
namespace Go.Proofs.YtahijdfifecmjaaGreatDoor
/- THE CELL 'sum', in the pinned program and in every row, IS THE sha256 OF THE DUMP (.gsa) THAT YtahijdfifecmjaaGreatDoorProg.lean LOADS. Nothing in Lean hashes anything: it is a label: what it is worth is what the hold of that sum in a sandbox is worth. -/
noncomputable def Tryz.pinned : Pinned := { name := "ytahijdfifecmjaagreatdoor", sum := "e9e9e70d946bf16d9d43cae5a3a4b9ff769a7b1e0f8aa19f5bd5602c18ef44b5", checked := Tryz.checked }
namespace Rows
def none {H : Type} : Left H := { results := [], args := [] }

/- WHAT THE LISTED PACKAGE-LEVEL VARIABLES READ AS WHEN THE CALL BEGINS. Each datum BY PROGRAM (the guide's laid-datum.mjs) off the statement by which the dump's own 'gosem.cut.vars' lays the variable. In a bare row this is a premise. The card (YtahijdfifecmjaaGreatDoorCards.lean) ties it to the program's text. -/
def laid_math_bits_deBruijn32tab {H : Type} : DataW H := .agg [.lit (.int .u8 0), .lit (.int .u8 1), .lit (.int .u8 28), .lit (.int .u8 2), .lit (.int .u8 29), .lit (.int .u8 14), .lit (.int .u8 24), .lit (.int .u8 3), .lit (.int .u8 30), .lit (.int .u8 22), .lit (.int .u8 20), .lit (.int .u8 15), .lit (.int .u8 25), .lit (.int .u8 17), .lit (.int .u8 4), .lit (.int .u8 8), .lit (.int .u8 31), .lit (.int .u8 27), .lit (.int .u8 13), .lit (.int .u8 23), .lit (.int .u8 21), .lit (.int .u8 19), .lit (.int .u8 16), .lit (.int .u8 7), .lit (.int .u8 26), .lit (.int .u8 12), .lit (.int .u8 18), .lit (.int .u8 6), .lit (.int .u8 11), .lit (.int .u8 5), .lit (.int .u8 10), .lit (.int .u8 9)]
def laid_math_bits_deBruijn64tab {H : Type} : DataW H := .agg [.lit (.int .u8 0), .lit (.int .u8 1), .lit (.int .u8 56), .lit (.int .u8 2), .lit (.int .u8 57), .lit (.int .u8 49), .lit (.int .u8 28), .lit (.int .u8 3), .lit (.int .u8 61), .lit (.int .u8 58), .lit (.int .u8 42), .lit (.int .u8 50), .lit (.int .u8 38), .lit (.int .u8 29), .lit (.int .u8 17), .lit (.int .u8 4), .lit (.int .u8 62), .lit (.int .u8 47), .lit (.int .u8 59), .lit (.int .u8 36), .lit (.int .u8 45), .lit (.int .u8 43), .lit (.int .u8 51), .lit (.int .u8 22), .lit (.int .u8 53), .lit (.int .u8 39), .lit (.int .u8 33), .lit (.int .u8 30), .lit (.int .u8 24), .lit (.int .u8 18), .lit (.int .u8 12), .lit (.int .u8 5), .lit (.int .u8 63), .lit (.int .u8 55), .lit (.int .u8 48), .lit (.int .u8 27), .lit (.int .u8 60), .lit (.int .u8 41), .lit (.int .u8 37), .lit (.int .u8 16), .lit (.int .u8 46), .lit (.int .u8 35), .lit (.int .u8 44), .lit (.int .u8 21), .lit (.int .u8 52), .lit (.int .u8 32), .lit (.int .u8 23), .lit (.int .u8 11), .lit (.int .u8 54), .lit (.int .u8 26), .lit (.int .u8 40), .lit (.int .u8 15), .lit (.int .u8 34), .lit (.int .u8 20), .lit (.int .u8 31), .lit (.int .u8 10), .lit (.int .u8 25), .lit (.int .u8 14), .lit (.int .u8 19), .lit (.int .u8 9), .lit (.int .u8 13), .lit (.int .u8 8), .lit (.int .u8 7), .lit (.int .u8 6)]
def laid_internal_strconv_uint64pow10 {H : Type} : DataW H := .agg [.lit (.int .u64 1), .lit (.int .u64 10), .lit (.int .u64 100), .lit (.int .u64 1000), .lit (.int .u64 10000), .lit (.int .u64 100000), .lit (.int .u64 1000000), .lit (.int .u64 10000000), .lit (.int .u64 100000000), .lit (.int .u64 1000000000), .lit (.int .u64 10000000000), .lit (.int .u64 100000000000), .lit (.int .u64 1000000000000), .lit (.int .u64 10000000000000), .lit (.int .u64 100000000000000), .lit (.int .u64 1000000000000000), .lit (.int .u64 10000000000000000), .lit (.int .u64 100000000000000000), .lit (.int .u64 1000000000000000000), .lit (.int .u64 10000000000000000000)]
def laid_turnstone_token_signs {H : Type} : DataW H := .agg [.lit (.string [58, 61]), .lit (.string [61, 61]), .lit (.string [33, 61]), .lit (.string [60, 61]), .lit (.string [62, 61]), .lit (.string [38, 38]), .lit (.string [124, 124]), .lit (.string [43]), .lit (.string [45]), .lit (.string [42]), .lit (.string [47]), .lit (.string [37]), .lit (.string [60]), .lit (.string [62]), .lit (.string [61]), .lit (.string [33]), .lit (.string [40]), .lit (.string [41]), .lit (.string [91]), .lit (.string [93]), .lit (.string [123]), .lit (.string [125]), .lit (.string [44]), .lit (.string [46])]
def laid_turnstone_token_words {H : Type} : DataW H := .agg [.lit (.string [116, 121, 112, 101]), .lit (.string [115, 116, 114, 117, 99, 116]), .lit (.string [105, 110, 116, 101, 114, 102, 97, 99, 101]), .lit (.string [102, 117, 110, 99]), .lit (.string [118, 97, 114]), .lit (.string [105, 102]), .lit (.string [101, 108, 115, 101]), .lit (.string [102, 111, 114]), .lit (.string [98, 114, 101, 97, 107]), .lit (.string [99, 111, 110, 116, 105, 110, 117, 101]), .lit (.string [114, 101, 116, 117, 114, 110]), .lit (.string [112, 114, 105, 110, 116]), .lit (.string [108, 101, 110]), .lit (.string [109, 97, 107, 101]), .lit (.string [110, 101, 119]), .lit (.string [105, 110, 112, 117, 116]), .lit (.string [116, 114, 117, 101]), .lit (.string [102, 97, 108, 115, 101]), .lit (.string [110, 105, 108]), .lit (.string [105, 110, 116]), .lit (.string [98, 111, 111, 108]), .lit (.string [115, 116, 114, 105, 110, 103])]
def laid_turnstone_turnstonehand_words {H : Type} : DataW H := .agg [.lit (.string [116, 121, 112, 101]), .lit (.string [115, 116, 114, 117, 99, 116]), .lit (.string [105, 110, 116, 101, 114, 102, 97, 99, 101]), .lit (.string [102, 117, 110, 99]), .lit (.string [118, 97, 114]), .lit (.string [105, 102]), .lit (.string [101, 108, 115, 101]), .lit (.string [102, 111, 114]), .lit (.string [98, 114, 101, 97, 107]), .lit (.string [99, 111, 110, 116, 105, 110, 117, 101]), .lit (.string [114, 101, 116, 117, 114, 110]), .lit (.string [112, 114, 105, 110, 116]), .lit (.string [108, 101, 110]), .lit (.string [109, 97, 107, 101]), .lit (.string [110, 101, 119]), .lit (.string [105, 110, 112, 117, 116]), .lit (.string [116, 114, 117, 101]), .lit (.string [102, 97, 108, 115, 101]), .lit (.string [110, 105, 108]), .lit (.string [105, 110, 116]), .lit (.string [98, 111, 111, 108]), .lit (.string [115, 116, 114, 105, 110, 103]), .lit (.string [58, 61]), .lit (.string [61, 61]), .lit (.string [38, 38]), .lit (.string [124, 124]), .lit (.string [43]), .lit (.string [45]), .lit (.string [42]), .lit (.string [60]), .lit (.string [61]), .lit (.string [33]), .lit (.string [40]), .lit (.string [41]), .lit (.string [91]), .lit (.string [93]), .lit (.string [123]), .lit (.string [125]), .lit (.string [44]), .lit (.string [46]), .lit (.string [59]), .lit (.string [10]), .lit (.string [97]), .lit (.string [55])]

/-- 'turnstonelaw8.CompileKnown': WHATEVER THE INPUT: true; the input reads as it did. -/
def compileKnownSpec : ChangeSpec := { name := "compileKnown", fn := fun _ => fun
  | [] => { results := [.lit (.bool true)], args := [] }
  | _ => none }
def compileKnownRow : OpenClaim := { program := "ytahijdfifecmjaagreatdoor", sum := "e9e9e70d946bf16d9d43cae5a3a4b9ff769a7b1e0f8aa19f5bd5602c18ef44b5", func := "turnstone/turnstonelaw8.CompileKnown", spec := "compileKnown", inPlace := ["internal/abi.NoEscape"], unfollowed := true, recurses := true, named := ["turnstone/token.words", "turnstone/token.signs", "internal/strconv.uint64pow10", "math/bits.deBruijn32tab", "math/bits.deBruijn64tab"], apart := false, laid := [("math/bits.deBruijn32tab", laid_math_bits_deBruijn32tab), ("math/bits.deBruijn64tab", laid_math_bits_deBruijn64tab), ("internal/strconv.uint64pow10", laid_internal_strconv_uint64pow10), ("turnstone/token.signs", laid_turnstone_token_signs), ("turnstone/token.words", laid_turnstone_token_words)] }
def CompileKnownSaid : Prop := compileKnownRow.holds Tryz.pinned (OpenSpec.ofChange compileKnownSpec)

/-- ITS FALSE NEIGHBOUR: 'it returns false'. Refute it at one input. -/
def compileKnownWrong : ChangeSpec := { name := "compileKnown", fn := fun _ => fun
  | [] => { results := [.lit (.bool false)], args := [] }
  | _ => none }
def CompileKnownWrongFalsely : Prop := compileKnownRow.holds Tryz.pinned (OpenSpec.ofChange compileKnownWrong)

/-- 'turnstonelaw8.CompilePrograms': WHATEVER THE INPUT: true; the input reads as it did. -/
def compileProgramsSpec : ChangeSpec := { name := "compilePrograms", fn := fun _ => fun
  | [d1, d2] => { results := [.lit (.bool true)], args := [d1, d2] }
  | _ => none }
def compileProgramsRow : OpenClaim := { program := "ytahijdfifecmjaagreatdoor", sum := "e9e9e70d946bf16d9d43cae5a3a4b9ff769a7b1e0f8aa19f5bd5602c18ef44b5", func := "turnstone/turnstonelaw8.CompilePrograms", spec := "compilePrograms", inPlace := ["internal/abi.NoEscape"], unfollowed := true, recurses := true, named := ["turnstone/token.words", "turnstone/token.signs", "internal/strconv.uint64pow10", "math/bits.deBruijn32tab", "math/bits.deBruijn64tab", "turnstone/turnstonehand.words"], apart := false, laid := [("math/bits.deBruijn32tab", laid_math_bits_deBruijn32tab), ("math/bits.deBruijn64tab", laid_math_bits_deBruijn64tab), ("internal/strconv.uint64pow10", laid_internal_strconv_uint64pow10), ("turnstone/token.signs", laid_turnstone_token_signs), ("turnstone/token.words", laid_turnstone_token_words), ("turnstone/turnstonehand.words", laid_turnstone_turnstonehand_words)] }
def CompileProgramsSaid : Prop := compileProgramsRow.holds Tryz.pinned (OpenSpec.ofChange compileProgramsSpec)

/-- ITS FALSE NEIGHBOUR: 'it returns false'. Refute it at one input. -/
def compileProgramsWrong : ChangeSpec := { name := "compilePrograms", fn := fun _ => fun
  | [d1, d2] => { results := [.lit (.bool false)], args := [d1, d2] }
  | _ => none }
def CompileProgramsWrongFalsely : Prop := compileProgramsRow.holds Tryz.pinned (OpenSpec.ofChange compileProgramsWrong)

/-- 'turnstonelaw8.CompileAny': WHATEVER THE INPUT: true; the input reads as it did. -/
def compileAnySpec : ChangeSpec := { name := "compileAny", fn := fun _ => fun
  | [d] => { results := [.lit (.bool true)], args := [d] }
  | _ => none }
def compileAnyRow : OpenClaim := { program := "ytahijdfifecmjaagreatdoor", sum := "e9e9e70d946bf16d9d43cae5a3a4b9ff769a7b1e0f8aa19f5bd5602c18ef44b5", func := "turnstone/turnstonelaw8.CompileAny", spec := "compileAny", inPlace := ["internal/abi.NoEscape"], unfollowed := true, recurses := true, named := ["turnstone/token.words", "turnstone/token.signs", "internal/strconv.uint64pow10", "math/bits.deBruijn32tab", "math/bits.deBruijn64tab"], apart := false, laid := [("math/bits.deBruijn32tab", laid_math_bits_deBruijn32tab), ("math/bits.deBruijn64tab", laid_math_bits_deBruijn64tab), ("internal/strconv.uint64pow10", laid_internal_strconv_uint64pow10), ("turnstone/token.signs", laid_turnstone_token_signs), ("turnstone/token.words", laid_turnstone_token_words)] }
def CompileAnySaid : Prop := compileAnyRow.holds Tryz.pinned (OpenSpec.ofChange compileAnySpec)

/-- ITS FALSE NEIGHBOUR: 'it returns false'. Refute it at one input. -/
def compileAnyWrong : ChangeSpec := { name := "compileAny", fn := fun _ => fun
  | [d] => { results := [.lit (.bool false)], args := [d] }
  | _ => none }
def CompileAnyWrongFalsely : Prop := compileAnyRow.holds Tryz.pinned (OpenSpec.ofChange compileAnyWrong)

/-- 'turnstonelaw8.CompileTrees': WHATEVER THE INPUT: true; the input reads as it did. -/
def compileTreesSpec : ChangeSpec := { name := "compileTrees", fn := fun _ => fun
  | [d1, d2] => { results := [.lit (.bool true)], args := [d1, d2] }
  | _ => none }
def compileTreesRow : OpenClaim := { program := "ytahijdfifecmjaagreatdoor", sum := "e9e9e70d946bf16d9d43cae5a3a4b9ff769a7b1e0f8aa19f5bd5602c18ef44b5", func := "turnstone/turnstonelaw8.CompileTrees", spec := "compileTrees", inPlace := ["internal/abi.NoEscape"], unfollowed := true, recurses := true, named := ["turnstone/turnstonehand.words", "turnstone/token.words", "turnstone/token.signs", "internal/strconv.uint64pow10", "math/bits.deBruijn32tab", "math/bits.deBruijn64tab"], apart := false, laid := [("math/bits.deBruijn32tab", laid_math_bits_deBruijn32tab), ("math/bits.deBruijn64tab", laid_math_bits_deBruijn64tab), ("internal/strconv.uint64pow10", laid_internal_strconv_uint64pow10), ("turnstone/token.signs", laid_turnstone_token_signs), ("turnstone/token.words", laid_turnstone_token_words), ("turnstone/turnstonehand.words", laid_turnstone_turnstonehand_words)] }
def CompileTreesSaid : Prop := compileTreesRow.holds Tryz.pinned (OpenSpec.ofChange compileTreesSpec)

/-- ITS FALSE NEIGHBOUR: 'it returns false'. Refute it at one input. -/
def compileTreesWrong : ChangeSpec := { name := "compileTrees", fn := fun _ => fun
  | [d1, d2] => { results := [.lit (.bool false)], args := [d1, d2] }
  | _ => none }
def CompileTreesWrongFalsely : Prop := compileTreesRow.holds Tryz.pinned (OpenSpec.ofChange compileTreesWrong)

/-- 'turnstonelaw8.CompileRight': WHATEVER THE INPUT: true; the input reads as it did. -/
def compileRightSpec : ChangeSpec := { name := "compileRight", fn := fun _ => fun
  | [d] => { results := [.lit (.bool true)], args := [d] }
  | _ => none }
def compileRightRow : OpenClaim := { program := "ytahijdfifecmjaagreatdoor", sum := "e9e9e70d946bf16d9d43cae5a3a4b9ff769a7b1e0f8aa19f5bd5602c18ef44b5", func := "turnstone/turnstonelaw8.CompileRight", spec := "compileRight", inPlace := ["internal/abi.NoEscape"], unfollowed := true, recurses := true, named := ["turnstone/token.words", "turnstone/token.signs", "internal/strconv.uint64pow10", "math/bits.deBruijn32tab", "math/bits.deBruijn64tab"], apart := false, laid := [("math/bits.deBruijn32tab", laid_math_bits_deBruijn32tab), ("math/bits.deBruijn64tab", laid_math_bits_deBruijn64tab), ("internal/strconv.uint64pow10", laid_internal_strconv_uint64pow10), ("turnstone/token.signs", laid_turnstone_token_signs), ("turnstone/token.words", laid_turnstone_token_words)] }
def CompileRightSaid : Prop := compileRightRow.holds Tryz.pinned (OpenSpec.ofChange compileRightSpec)

/-- ITS FALSE NEIGHBOUR: 'it returns false'. Refute it at one input. -/
def compileRightWrong : ChangeSpec := { name := "compileRight", fn := fun _ => fun
  | [d] => { results := [.lit (.bool false)], args := [d] }
  | _ => none }
def CompileRightWrongFalsely : Prop := compileRightRow.holds Tryz.pinned (OpenSpec.ofChange compileRightWrong)

/-- 'turnstonelaw8.CompileOnce': WHATEVER THE INPUT: true; the input reads as it did. -/
def compileOnceSpec : ChangeSpec := { name := "compileOnce", fn := fun _ => fun
  | [d] => { results := [.lit (.bool true)], args := [d] }
  | _ => none }
def compileOnceRow : OpenClaim := { program := "ytahijdfifecmjaagreatdoor", sum := "e9e9e70d946bf16d9d43cae5a3a4b9ff769a7b1e0f8aa19f5bd5602c18ef44b5", func := "turnstone/turnstonelaw8.CompileOnce", spec := "compileOnce", inPlace := ["internal/abi.NoEscape"], unfollowed := true, recurses := true, named := ["turnstone/token.words", "turnstone/token.signs", "internal/strconv.uint64pow10", "math/bits.deBruijn32tab", "math/bits.deBruijn64tab"], apart := false, laid := [("math/bits.deBruijn32tab", laid_math_bits_deBruijn32tab), ("math/bits.deBruijn64tab", laid_math_bits_deBruijn64tab), ("internal/strconv.uint64pow10", laid_internal_strconv_uint64pow10), ("turnstone/token.signs", laid_turnstone_token_signs), ("turnstone/token.words", laid_turnstone_token_words)] }
def CompileOnceSaid : Prop := compileOnceRow.holds Tryz.pinned (OpenSpec.ofChange compileOnceSpec)

/-- ITS FALSE NEIGHBOUR: 'it returns false'. Refute it at one input. -/
def compileOnceWrong : ChangeSpec := { name := "compileOnce", fn := fun _ => fun
  | [d] => { results := [.lit (.bool false)], args := [d] }
  | _ => none }
def CompileOnceWrongFalsely : Prop := compileOnceRow.holds Tryz.pinned (OpenSpec.ofChange compileOnceWrong)

/-- 'turnstonelaw8.CompileHeights': WHATEVER THE INPUT: true; the input reads as it did. -/
def compileHeightsSpec : ChangeSpec := { name := "compileHeights", fn := fun _ => fun
  | [d] => { results := [.lit (.bool true)], args := [d] }
  | _ => none }
def compileHeightsRow : OpenClaim := { program := "ytahijdfifecmjaagreatdoor", sum := "e9e9e70d946bf16d9d43cae5a3a4b9ff769a7b1e0f8aa19f5bd5602c18ef44b5", func := "turnstone/turnstonelaw8.CompileHeights", spec := "compileHeights", inPlace := ["internal/abi.NoEscape"], unfollowed := true, recurses := true, named := ["turnstone/token.words", "turnstone/token.signs", "internal/strconv.uint64pow10", "math/bits.deBruijn32tab", "math/bits.deBruijn64tab"], apart := false, laid := [("math/bits.deBruijn32tab", laid_math_bits_deBruijn32tab), ("math/bits.deBruijn64tab", laid_math_bits_deBruijn64tab), ("internal/strconv.uint64pow10", laid_internal_strconv_uint64pow10), ("turnstone/token.signs", laid_turnstone_token_signs), ("turnstone/token.words", laid_turnstone_token_words)] }
def CompileHeightsSaid : Prop := compileHeightsRow.holds Tryz.pinned (OpenSpec.ofChange compileHeightsSpec)

/-- ITS FALSE NEIGHBOUR: 'it returns false'. Refute it at one input. -/
def compileHeightsWrong : ChangeSpec := { name := "compileHeights", fn := fun _ => fun
  | [d] => { results := [.lit (.bool false)], args := [d] }
  | _ => none }
def CompileHeightsWrongFalsely : Prop := compileHeightsRow.holds Tryz.pinned (OpenSpec.ofChange compileHeightsWrong)

/- THE SECOND FORM. 'bulk': how many values and letters a reading holds, each counted each time it is reached (what is shared counts as often as it is met; a slice's spare places count too). A statement '..UptoSaid' is the law's where the arguments, and the package variables that the reading takes, are together of bulk at most 1048576: NARROWER than '..Said'. Prove '..Said' where nothing that the law and all that it calls make is longer than what came in: it says more and counts as full. Else prove '..UptoSaid'. A law counts once. -/
mutual
def uptoBulk {H : Type} : DataW H → Nat
  | .lit (.string bytes) => bytes.length + 1
  | .lit _ => 1
  | .nil => 1
  | .ptr d => uptoBulk d + 1
  | .slice elems spare => uptoBulkAll elems + uptoBulkAll spare + 1
  | .agg parts => uptoBulkAll parts + 1
  | .iface _ d => uptoBulk d + 1
  | .map entries => uptoBulkEntries entries + 1
  | .held _ => 1
def uptoBulkAll {H : Type} : List (DataW H) → Nat
  | [] => 0
  | d :: r => uptoBulk d + uptoBulkAll r
def uptoBulkEntries {H : Type} : List (Lit × DataW H) → Nat
  | [] => 0
  | x :: r => uptoBulkEntry x + uptoBulkEntries r
def uptoBulkEntry {H : Type} : Lit × DataW H → Nat
  | (.string bytes, d) => bytes.length + uptoBulk d + 1
  | (_, d) => uptoBulk d + 1
 end
def uptoSmall : (H : Type) → List (DataW H) → Bool := fun _ ds => decide (uptoBulkAll ds ≤ 1048576)
def OpenSpec.upto (s : _root_.Go.ChangeSpec) : _root_.Go.OpenSpec := { _root_.Go.OpenSpec.ofChange s with cond := some uptoSmall }

/-- 'turnstonelaw8.CompileKnown', WHERE WHAT IT READS IS OF BULK AT MOST 1048576: true; the input reads as it did. -/
def compileKnownUptoRow : OpenClaim := { program := "ytahijdfifecmjaagreatdoor", sum := "e9e9e70d946bf16d9d43cae5a3a4b9ff769a7b1e0f8aa19f5bd5602c18ef44b5", func := "turnstone/turnstonelaw8.CompileKnown", spec := "compileKnown", inPlace := ["internal/abi.NoEscape"], unfollowed := true, recurses := true, named := ["turnstone/token.words", "turnstone/token.signs", "internal/strconv.uint64pow10", "math/bits.deBruijn32tab", "math/bits.deBruijn64tab"], apart := false, laid := [("math/bits.deBruijn32tab", laid_math_bits_deBruijn32tab), ("math/bits.deBruijn64tab", laid_math_bits_deBruijn64tab), ("internal/strconv.uint64pow10", laid_internal_strconv_uint64pow10), ("turnstone/token.signs", laid_turnstone_token_signs), ("turnstone/token.words", laid_turnstone_token_words)], narrowed := true }
def CompileKnownUptoSaid : Prop := compileKnownUptoRow.holds Tryz.pinned (OpenSpec.upto compileKnownSpec)

/-- 'turnstonelaw8.CompilePrograms', WHERE WHAT IT READS IS OF BULK AT MOST 1048576: true; the input reads as it did. -/
def compileProgramsUptoRow : OpenClaim := { program := "ytahijdfifecmjaagreatdoor", sum := "e9e9e70d946bf16d9d43cae5a3a4b9ff769a7b1e0f8aa19f5bd5602c18ef44b5", func := "turnstone/turnstonelaw8.CompilePrograms", spec := "compilePrograms", inPlace := ["internal/abi.NoEscape"], unfollowed := true, recurses := true, named := ["turnstone/token.words", "turnstone/token.signs", "internal/strconv.uint64pow10", "math/bits.deBruijn32tab", "math/bits.deBruijn64tab", "turnstone/turnstonehand.words"], apart := false, laid := [("math/bits.deBruijn32tab", laid_math_bits_deBruijn32tab), ("math/bits.deBruijn64tab", laid_math_bits_deBruijn64tab), ("internal/strconv.uint64pow10", laid_internal_strconv_uint64pow10), ("turnstone/token.signs", laid_turnstone_token_signs), ("turnstone/token.words", laid_turnstone_token_words), ("turnstone/turnstonehand.words", laid_turnstone_turnstonehand_words)], narrowed := true }
def CompileProgramsUptoSaid : Prop := compileProgramsUptoRow.holds Tryz.pinned (OpenSpec.upto compileProgramsSpec)

/-- 'turnstonelaw8.CompileAny', WHERE WHAT IT READS IS OF BULK AT MOST 1048576: true; the input reads as it did. -/
def compileAnyUptoRow : OpenClaim := { program := "ytahijdfifecmjaagreatdoor", sum := "e9e9e70d946bf16d9d43cae5a3a4b9ff769a7b1e0f8aa19f5bd5602c18ef44b5", func := "turnstone/turnstonelaw8.CompileAny", spec := "compileAny", inPlace := ["internal/abi.NoEscape"], unfollowed := true, recurses := true, named := ["turnstone/token.words", "turnstone/token.signs", "internal/strconv.uint64pow10", "math/bits.deBruijn32tab", "math/bits.deBruijn64tab"], apart := false, laid := [("math/bits.deBruijn32tab", laid_math_bits_deBruijn32tab), ("math/bits.deBruijn64tab", laid_math_bits_deBruijn64tab), ("internal/strconv.uint64pow10", laid_internal_strconv_uint64pow10), ("turnstone/token.signs", laid_turnstone_token_signs), ("turnstone/token.words", laid_turnstone_token_words)], narrowed := true }
def CompileAnyUptoSaid : Prop := compileAnyUptoRow.holds Tryz.pinned (OpenSpec.upto compileAnySpec)

/-- 'turnstonelaw8.CompileTrees', WHERE WHAT IT READS IS OF BULK AT MOST 1048576: true; the input reads as it did. -/
def compileTreesUptoRow : OpenClaim := { program := "ytahijdfifecmjaagreatdoor", sum := "e9e9e70d946bf16d9d43cae5a3a4b9ff769a7b1e0f8aa19f5bd5602c18ef44b5", func := "turnstone/turnstonelaw8.CompileTrees", spec := "compileTrees", inPlace := ["internal/abi.NoEscape"], unfollowed := true, recurses := true, named := ["turnstone/turnstonehand.words", "turnstone/token.words", "turnstone/token.signs", "internal/strconv.uint64pow10", "math/bits.deBruijn32tab", "math/bits.deBruijn64tab"], apart := false, laid := [("math/bits.deBruijn32tab", laid_math_bits_deBruijn32tab), ("math/bits.deBruijn64tab", laid_math_bits_deBruijn64tab), ("internal/strconv.uint64pow10", laid_internal_strconv_uint64pow10), ("turnstone/token.signs", laid_turnstone_token_signs), ("turnstone/token.words", laid_turnstone_token_words), ("turnstone/turnstonehand.words", laid_turnstone_turnstonehand_words)], narrowed := true }
def CompileTreesUptoSaid : Prop := compileTreesUptoRow.holds Tryz.pinned (OpenSpec.upto compileTreesSpec)

/-- 'turnstonelaw8.CompileRight', WHERE WHAT IT READS IS OF BULK AT MOST 1048576: true; the input reads as it did. -/
def compileRightUptoRow : OpenClaim := { program := "ytahijdfifecmjaagreatdoor", sum := "e9e9e70d946bf16d9d43cae5a3a4b9ff769a7b1e0f8aa19f5bd5602c18ef44b5", func := "turnstone/turnstonelaw8.CompileRight", spec := "compileRight", inPlace := ["internal/abi.NoEscape"], unfollowed := true, recurses := true, named := ["turnstone/token.words", "turnstone/token.signs", "internal/strconv.uint64pow10", "math/bits.deBruijn32tab", "math/bits.deBruijn64tab"], apart := false, laid := [("math/bits.deBruijn32tab", laid_math_bits_deBruijn32tab), ("math/bits.deBruijn64tab", laid_math_bits_deBruijn64tab), ("internal/strconv.uint64pow10", laid_internal_strconv_uint64pow10), ("turnstone/token.signs", laid_turnstone_token_signs), ("turnstone/token.words", laid_turnstone_token_words)], narrowed := true }
def CompileRightUptoSaid : Prop := compileRightUptoRow.holds Tryz.pinned (OpenSpec.upto compileRightSpec)

/-- 'turnstonelaw8.CompileOnce', WHERE WHAT IT READS IS OF BULK AT MOST 1048576: true; the input reads as it did. -/
def compileOnceUptoRow : OpenClaim := { program := "ytahijdfifecmjaagreatdoor", sum := "e9e9e70d946bf16d9d43cae5a3a4b9ff769a7b1e0f8aa19f5bd5602c18ef44b5", func := "turnstone/turnstonelaw8.CompileOnce", spec := "compileOnce", inPlace := ["internal/abi.NoEscape"], unfollowed := true, recurses := true, named := ["turnstone/token.words", "turnstone/token.signs", "internal/strconv.uint64pow10", "math/bits.deBruijn32tab", "math/bits.deBruijn64tab"], apart := false, laid := [("math/bits.deBruijn32tab", laid_math_bits_deBruijn32tab), ("math/bits.deBruijn64tab", laid_math_bits_deBruijn64tab), ("internal/strconv.uint64pow10", laid_internal_strconv_uint64pow10), ("turnstone/token.signs", laid_turnstone_token_signs), ("turnstone/token.words", laid_turnstone_token_words)], narrowed := true }
def CompileOnceUptoSaid : Prop := compileOnceUptoRow.holds Tryz.pinned (OpenSpec.upto compileOnceSpec)

/-- 'turnstonelaw8.CompileHeights', WHERE WHAT IT READS IS OF BULK AT MOST 1048576: true; the input reads as it did. -/
def compileHeightsUptoRow : OpenClaim := { program := "ytahijdfifecmjaagreatdoor", sum := "e9e9e70d946bf16d9d43cae5a3a4b9ff769a7b1e0f8aa19f5bd5602c18ef44b5", func := "turnstone/turnstonelaw8.CompileHeights", spec := "compileHeights", inPlace := ["internal/abi.NoEscape"], unfollowed := true, recurses := true, named := ["turnstone/token.words", "turnstone/token.signs", "internal/strconv.uint64pow10", "math/bits.deBruijn32tab", "math/bits.deBruijn64tab"], apart := false, laid := [("math/bits.deBruijn32tab", laid_math_bits_deBruijn32tab), ("math/bits.deBruijn64tab", laid_math_bits_deBruijn64tab), ("internal/strconv.uint64pow10", laid_internal_strconv_uint64pow10), ("turnstone/token.signs", laid_turnstone_token_signs), ("turnstone/token.words", laid_turnstone_token_words)], narrowed := true }
def CompileHeightsUptoSaid : Prop := compileHeightsUptoRow.holds Tryz.pinned (OpenSpec.upto compileHeightsSpec)

end Rows
end Go.Proofs.YtahijdfifecmjaaGreatDoor
