/-
  ParseBinds: the cases of which the first number is 3, reckoned.
-/
import Derived.Test.YtacginfkfbbagaaDoorParseBindsE
namespace Go.Proofs.YtacginfkfbbagaaDoor
namespace parseBindsE
set_option maxRecDepth 1000000 in
theorem run3 : allB (fun i1 => case 3 i1) [0, 1, 2, 3, 4, 5, 6] = true := by decide +kernel
end parseBindsE
end Go.Proofs.YtacginfkfbbagaaDoor
