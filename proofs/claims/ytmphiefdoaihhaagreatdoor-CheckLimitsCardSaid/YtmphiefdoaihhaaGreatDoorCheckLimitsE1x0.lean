/-
  CheckLimits: one of its cases, reckoned.
-/
import Derived.Test.YtmphiefdoaihhaaGreatDoorCheckLimitsE
import Derived.Test.YtmphiefdoaihhaaGreatDoorC1x0
namespace Go.Proofs.YtmphiefdoaihhaaGreatDoor
namespace checkLimitsE
set_option maxRecDepth 1000000 in
theorem run1x0 : case [Sn1x0.sn] 1 0 = true := by decide +kernel
theorem pic1x0 : ∀ s ∈ ([Sn1x0.sn] : List Sn), SnOk Tryz.prog ks s := fun s h => by
  simp only [List.mem_cons, List.not_mem_nil, or_false] at h
  rcases h with rfl
  · exact Sn1x0.ok
end checkLimitsE
end Go.Proofs.YtmphiefdoaihhaaGreatDoor
