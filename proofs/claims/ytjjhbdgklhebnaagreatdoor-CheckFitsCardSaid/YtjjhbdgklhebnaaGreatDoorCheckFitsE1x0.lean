/-
  CheckFits: the cases of which the first number is 1, reckoned.
-/
import Derived.Test.YtjjhbdgklhebnaaGreatDoorCheckFitsE
namespace Go.Proofs.YtjjhbdgklhebnaaGreatDoor
namespace checkFitsE
set_option maxRecDepth 1000000 in
theorem run1x0 : allB (fun i1 => case 1 i1) [0, 1, 2, 3] = true := by decide +kernel
end checkFitsE
end Go.Proofs.YtjjhbdgklhebnaaGreatDoor
