/-
  CheckBlocks: its closed part; what one of its cases comes to.
-/
import Derived.Test.YtjjhbdgklhebnaaGreatDoorEvY
import Derived.Test.YtjjhbdgklhebnaaGreatDoorPickT
namespace Go.Proofs.YtjjhbdgklhebnaaGreatDoor
namespace checkBlocksE
open Go.RowKit
def L0 : List (List UInt8) := [[58, 61], [61, 61], [33, 61], [60, 61], [62, 61], [38, 38], [124, 124], [43], [45], [42], [47], [37], [60], [62], [61], [33], [40], [41], [91], [93], [123], [125], [44], [46]]
def L1 : List (List UInt8) := [[116, 121, 112, 101], [115, 116, 114, 117, 99, 116], [105, 110, 116, 101, 114, 102, 97, 99, 101], [102, 117, 110, 99], [118, 97, 114], [105, 102], [101, 108, 115, 101], [102, 111, 114], [98, 114, 101, 97, 107], [99, 111, 110, 116, 105, 110, 117, 101], [114, 101, 116, 117, 114, 110], [112, 114, 105, 110, 116], [108, 101, 110], [109, 97, 107, 101], [110, 101, 119], [105, 110, 112, 117, 116], [116, 114, 117, 101], [102, 97, 108, 115, 101], [110, 105, 108], [105, 110, 116], [98, 111, 111, 108], [115, 116, 114, 105, 110, 103]]
def ks : List (Nat × List Value) := [(2, L0.map fun b => .string ⟨⟨b⟩⟩), (3, L1.map fun b => .string ⟨⟨b⟩⟩)]
set_option maxRecDepth 1000000 in
theorem knownRun : isTrue (callHZ Tryz.prog rtab 4 4000 ks [] 3000 4 12 [] (start 4 ks) ⟨0, 0⟩ Res.ok) = true := by decide +kernel
theorem laid_ks {W : World} {l : List (String × DataW Unit)} (h : laidMet Tryz.prog l W) (h0 : ("turnstone/token.signs", Rows.laid_turnstone_token_signs) ∈ l) (h1 : ("turnstone/token.words", Rows.laid_turnstone_token_words) ∈ l) : ∀ x ∈ ks, W.rangeAt x.1 0 x.2 := by
  intro x hx
  rcases List.mem_cons.1 hx with rfl | hx
  · exact laid_rangeZ (L := L0) h h0 (g := 2) (t := 185) (e := 9) (m := 24) (by kernel_rfl) (by kernel_rfl) (by kernel_rfl) (by kernel_rfl) (by kernel_rfl) (by kernel_rfl)
  rcases List.mem_cons.1 hx with rfl | hx
  · exact laid_rangeZ (L := L1) h h1 (g := 3) (t := 194) (e := 9) (m := 22) (by kernel_rfl) (by kernel_rfl) (by kernel_rfl) (by kernel_rfl) (by kernel_rfl) (by kernel_rfl)
  cases hx

theorem known {W : World} (hw : ∀ x ∈ ks, W.rangeAt x.1 0 x.2) : Calls Tryz.prog 12 #[] W fun e W' => e = .returned (.bool true) ∧ Up W W' :=
  evh_run (ng := 4) (hs := []) rtab_ok names_ok (by kernel_rfl) (by decide) (ksB_spec (by decide +kernel)) (fun _ h => by cases h) hw VL.nil knownRun
def tb (i0 : Nat) : List Hk := [⟨16, [.chan (some 4), .int .i64 8], .int .i64 (.ofNat i0)⟩]
/-- One case. -/
noncomputable def case (i0 : Nat) (b0 : Bool) (b1 : Bool) : Bool := isTrue (callUZ Tryz.prog rtab 4 4000 ks [12] (tb i0) 3000 (4 + 1) 8 [.chan (some 4), .bool b0, .bool b1] (start (4 + 1) ks) ⟨0, 0⟩ Res.ok)
end checkBlocksE
end Go.Proofs.YtjjhbdgklhebnaaGreatDoor
