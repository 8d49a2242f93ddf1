/-
  ParseBinds: the cases of which the first number is 6, reckoned.
-/
import Derived.Test.YtacginfkfbbagaaDoorParseBindsE
namespace Go.Proofs.YtacginfkfbbagaaDoor
namespace parseBindsE
set_option maxRecDepth 1000000 in
theorem run6 : allB (fun i1 => case 6 i1) [0, 1, 2, 3, 4, 5, 6] = true := by decide +kernel
end parseBindsE
end Go.Proofs.YtacginfkfbbagaaDoor
