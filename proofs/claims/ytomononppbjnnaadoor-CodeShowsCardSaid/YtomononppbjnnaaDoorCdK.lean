/-
  The law's own known(), reckoned: it answers true.
-/
import Derived.Test.YtomononppbjnnaaDoorEvY
namespace Go.Proofs.YtomononppbjnnaaDoor
namespace knownE
open Go.RowKit
set_option maxRecDepth 1000000 in
theorem run : isTrue (callHZ Tryd.prog rtab 4 4000 [] [] 3000 4 8 [] (start 4 []) ⟨0, 0⟩ Res.ok) = true := by decide +kernel
end knownE
open Go.RowKit
theorem known_any (W : World) : Calls Tryd.prog 8 #[] W fun e W' => e = .returned (.bool true) ∧ Up W W' :=
  evh_run (ng := 4) (ks := []) (hs := []) rtab_ok names_ok (by kernel_rfl) (by decide) (fun _ h => by cases h) (fun _ h => by cases h) (fun _ h => by cases h) VL.nil knownE.run
end Go.Proofs.YtomononppbjnnaaDoor
