/-
  CheckBlocks: the cases of which the first number is 3, reckoned.
-/
import Derived.Test.YtjjhbdgklhebnaaGreatDoorCheckBlocksE
namespace Go.Proofs.YtjjhbdgklhebnaaGreatDoor
namespace checkBlocksE
set_option maxRecDepth 1000000 in
theorem run3 : allB (fun b0 => allB (fun b1 => case 3 b0 b1) [true, false]) [true, false] = true := by decide +kernel
end checkBlocksE
end Go.Proofs.YtjjhbdgklhebnaaGreatDoor
