/-
  CompileKnown: the program's own arrays that its row lists.
-/
import Derived.Test.YtahijdfifecmjaaGreatDoorEvY
import Derived.Test.YtahijdfifecmjaaGreatDoorEvP
namespace Go.Proofs.YtahijdfifecmjaaGreatDoor
namespace compileKnownE
open Go.RowKit
def L0 : List Int := [0, 1, 28, 2, 29, 14, 24, 3, 30, 22, 20, 15, 25, 17, 4, 8, 31, 27, 13, 23, 21, 19, 16, 7, 26, 12, 18, 6, 11, 5, 10, 9]
def L1 : List Int := [0, 1, 56, 2, 57, 49, 28, 3, 61, 58, 42, 50, 38, 29, 17, 4, 62, 47, 59, 36, 45, 43, 51, 22, 53, 39, 33, 30, 24, 18, 12, 5, 63, 55, 48, 27, 60, 41, 37, 16, 46, 35, 44, 21, 52, 32, 23, 11, 54, 26, 40, 15, 34, 20, 31, 10, 25, 14, 19, 9, 13, 8, 7, 6]
def L2 : List Int := [1, 10, 100, 1000, 10000, 100000, 1000000, 10000000, 100000000, 1000000000, 10000000000, 100000000000, 1000000000000, 10000000000000, 100000000000000, 1000000000000000, 10000000000000000, 100000000000000000, 1000000000000000000, 10000000000000000000]
def L3 : List (List UInt8) := [[58, 61], [61, 61], [33, 61], [60, 61], [62, 61], [38, 38], [124, 124], [43], [45], [42], [47], [37], [60], [62], [61], [33], [40], [41], [91], [93], [123], [125], [44], [46]]
def L4 : List (List UInt8) := [[116, 121, 112, 101], [115, 116, 114, 117, 99, 116], [105, 110, 116, 101, 114, 102, 97, 99, 101], [102, 117, 110, 99], [118, 97, 114], [105, 102], [101, 108, 115, 101], [102, 111, 114], [98, 114, 101, 97, 107], [99, 111, 110, 116, 105, 110, 117, 101], [114, 101, 116, 117, 114, 110], [112, 114, 105, 110, 116], [108, 101, 110], [109, 97, 107, 101], [110, 101, 119], [105, 110, 112, 117, 116], [116, 114, 117, 101], [102, 97, 108, 115, 101], [110, 105, 108], [105, 110, 116], [98, 111, 111, 108], [115, 116, 114, 105, 110, 103]]
def ks : List (Nat × List Value) := [(4, L0.map fun b => .int .u8 b), (5, L1.map fun b => .int .u8 b), (2, L2.map fun b => .int .u64 b), (1, L3.map fun b => .string ⟨⟨b⟩⟩), (3, L4.map fun b => .string ⟨⟨b⟩⟩)]
theorem laid_ks {W : World} {l : List (String × DataW Unit)} (h : laidMet Tryz.prog l W) (h0 : ("math/bits.deBruijn32tab", Rows.laid_math_bits_deBruijn32tab) ∈ l) (h1 : ("math/bits.deBruijn64tab", Rows.laid_math_bits_deBruijn64tab) ∈ l) (h2 : ("internal/strconv.uint64pow10", Rows.laid_internal_strconv_uint64pow10) ∈ l) (h3 : ("turnstone/token.signs", Rows.laid_turnstone_token_signs) ∈ l) (h4 : ("turnstone/token.words", Rows.laid_turnstone_token_words) ∈ l) : ∀ x ∈ ks, W.rangeAt x.1 0 x.2 := by
  intro x hx
  rcases List.mem_cons.1 hx with rfl | hx
  · exact laid_rangeI (k := .u8) (L := L0) h h0 (g := 4) (t := 279) (e := 5) (m := 32) (by kernel_rfl) (by kernel_rfl) (by kernel_rfl) (by kernel_rfl) (by kernel_rfl) (by kernel_rfl)
  rcases List.mem_cons.1 hx with rfl | hx
  · exact laid_rangeI (k := .u8) (L := L1) h h1 (g := 5) (t := 280) (e := 5) (m := 64) (by kernel_rfl) (by kernel_rfl) (by kernel_rfl) (by kernel_rfl) (by kernel_rfl) (by kernel_rfl)
  rcases List.mem_cons.1 hx with rfl | hx
  · exact laid_rangeI (k := .u64) (L := L2) h h2 (g := 2) (t := 255) (e := 229) (m := 20) (by kernel_rfl) (by kernel_rfl) (by kernel_rfl) (by kernel_rfl) (by kernel_rfl) (by kernel_rfl)
  rcases List.mem_cons.1 hx with rfl | hx
  · exact laid_rangeZ (L := L3) h h3 (g := 1) (t := 240) (e := 9) (m := 24) (by kernel_rfl) (by kernel_rfl) (by kernel_rfl) (by kernel_rfl) (by kernel_rfl) (by kernel_rfl)
  rcases List.mem_cons.1 hx with rfl | hx
  · exact laid_rangeZ (L := L4) h h4 (g := 3) (t := 264) (e := 9) (m := 22) (by kernel_rfl) (by kernel_rfl) (by kernel_rfl) (by kernel_rfl) (by kernel_rfl) (by kernel_rfl)
  cases hx
theorem ks_ok : ∀ x ∈ ks, x.1 < 6 ∧ x.2.length + 1 < 2 ^ 30 ∧ x.2.all flat = true ∧ x.2 ≠ [] := ksB_spec (by decide +kernel)
end compileKnownE
end Go.Proofs.YtahijdfifecmjaaGreatDoor
