/-
  CheckLimits: one of its cases, reckoned.
-/
import Derived.Test.YtmphiefdoaihhaaGreatDoorCheckLimitsE
namespace Go.Proofs.YtmphiefdoaihhaaGreatDoor
namespace checkLimitsE
set_option maxRecDepth 1000000 in
theorem run1x2 : case [] 1 2 = true := by decide +kernel
theorem pic1x2 : ∀ s ∈ ([] : List Sn), SnOk Tryz.prog ks s := fun _ h => by cases h
end checkLimitsE
end Go.Proofs.YtmphiefdoaihhaaGreatDoor
