/-
  FramesKnown, reckoned: it answers true.
-/
import Derived.Test.YtjeplkbdgphfoaaEvY
namespace Go.Proofs.Ytjeplkbdgphfoaa
namespace framesKnownE
open Go.RowKit
def ks : List (Nat × List Value) := []
set_option maxRecDepth 1000000 in
theorem run : isTrue (callHZ Try.prog rtab 0 4000 ks [] 3000 0 3 [] (start 0 ks) ⟨0, 0⟩ Res.ok) = true := by decide +kernel
theorem any {W : World} (hw : ∀ x ∈ ks, W.rangeAt x.1 0 x.2) : Calls Try.prog 3 #[] W fun e W' => e = .returned (.bool true) ∧ Up W W' :=
  evh_run (ng := 0) (hs := []) rtab_ok names_ok (by kernel_rfl) (by decide) (ksB_spec (by decide +kernel)) (fun _ h => by cases h) hw VL.nil run
end framesKnownE
end Go.Proofs.Ytjeplkbdgphfoaa
