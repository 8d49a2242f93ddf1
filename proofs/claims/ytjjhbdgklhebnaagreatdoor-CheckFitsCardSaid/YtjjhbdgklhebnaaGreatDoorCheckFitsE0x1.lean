/-
  CheckFits: the cases of which the first number is 0, reckoned.
-/
import Derived.Test.YtjjhbdgklhebnaaGreatDoorCheckFitsE
namespace Go.Proofs.YtjjhbdgklhebnaaGreatDoor
namespace checkFitsE
set_option maxRecDepth 1000000 in
theorem run0x1 : allB (fun i1 => case 0 i1) [4, 5, 6] = true := by decide +kernel
end checkFitsE
end Go.Proofs.YtjjhbdgklhebnaaGreatDoor
