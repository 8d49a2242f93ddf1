/-
  CheckLimits: the program's own arrays that its row lists.
-/
import Derived.Test.YtmphiefdoaihhaaGreatDoorEvY
import Derived.Test.YtmphiefdoaihhaaGreatDoorEvP
namespace Go.Proofs.YtmphiefdoaihhaaGreatDoor
namespace checkLimitsE
open Go.RowKit
def L0 : List (List UInt8) := [[58, 61], [61, 61], [33, 61], [60, 61], [62, 61], [38, 38], [124, 124], [43], [45], [42], [47], [37], [60], [62], [61], [33], [40], [41], [91], [93], [123], [125], [44], [46]]
def L1 : List (List UInt8) := [[116, 121, 112, 101], [115, 116, 114, 117, 99, 116], [105, 110, 116, 101, 114, 102, 97, 99, 101], [102, 117, 110, 99], [118, 97, 114], [105, 102], [101, 108, 115, 101], [102, 111, 114], [98, 114, 101, 97, 107], [99, 111, 110, 116, 105, 110, 117, 101], [114, 101, 116, 117, 114, 110], [112, 114, 105, 110, 116], [108, 101, 110], [109, 97, 107, 101], [110, 101, 119], [105, 110, 112, 117, 116], [116, 114, 117, 101], [102, 97, 108, 115, 101], [110, 105, 108], [105, 110, 116], [98, 111, 111, 108], [115, 116, 114, 105, 110, 103]]
def ks : List (Nat × List Value) := [(0, L0.map fun b => .string ⟨⟨b⟩⟩), (1, L1.map fun b => .string ⟨⟨b⟩⟩)]
theorem laid_ks {W : World} {l : List (String × DataW Unit)} (h : laidMet Tryz.prog l W) (h0 : ("turnstone/token.signs", Rows.laid_turnstone_token_signs) ∈ l) (h1 : ("turnstone/token.words", Rows.laid_turnstone_token_words) ∈ l) : ∀ x ∈ ks, W.rangeAt x.1 0 x.2 := by
  intro x hx
  rcases List.mem_cons.1 hx with rfl | hx
  · exact laid_rangeZ (L := L0) h h0 (g := 0) (t := 120) (e := 9) (m := 24) (by kernel_rfl) (by kernel_rfl) (by kernel_rfl) (by kernel_rfl) (by kernel_rfl) (by kernel_rfl)
  rcases List.mem_cons.1 hx with rfl | hx
  · exact laid_rangeZ (L := L1) h h1 (g := 1) (t := 127) (e := 9) (m := 22) (by kernel_rfl) (by kernel_rfl) (by kernel_rfl) (by kernel_rfl) (by kernel_rfl) (by kernel_rfl)
  cases hx
theorem ks_ok : ∀ x ∈ ks, x.1 < 2 ∧ x.2.length + 1 < 2 ^ 30 ∧ x.2.all flat = true ∧ x.2 ≠ [] := ksB_spec (by decide +kernel)
end checkLimitsE
end Go.Proofs.YtmphiefdoaihhaaGreatDoor
