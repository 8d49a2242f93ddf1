/-
  CheckFits: the cases of which the first number is 5, reckoned.
-/
import Derived.Test.YtjjhbdgklhebnaaGreatDoorCheckFitsE
namespace Go.Proofs.YtjjhbdgklhebnaaGreatDoor
namespace checkFitsE
set_option maxRecDepth 1000000 in
theorem run5x0 : allB (fun i1 => case 5 i1) [0, 1, 2, 3] = true := by decide +kernel
end checkFitsE
end Go.Proofs.YtjjhbdgklhebnaaGreatDoor
