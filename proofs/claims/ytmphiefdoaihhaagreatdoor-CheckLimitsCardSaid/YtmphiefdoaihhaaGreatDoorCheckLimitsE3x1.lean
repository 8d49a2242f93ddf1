/-
  CheckLimits: one of its cases, reckoned.
-/
import Derived.Test.YtmphiefdoaihhaaGreatDoorCheckLimitsE
import Derived.Test.YtmphiefdoaihhaaGreatDoorC3x1
namespace Go.Proofs.YtmphiefdoaihhaaGreatDoor
namespace checkLimitsE
set_option maxRecDepth 1000000 in
theorem run3x1 : case [Sn3x1.sn] 3 1 = true := by decide +kernel
theorem pic3x1 : ∀ s ∈ ([Sn3x1.sn] : List Sn), SnOk Tryz.prog ks s := fun s h => by
  simp only [List.mem_cons, List.not_mem_nil, or_false] at h
  rcases h with rfl
  · exact Sn3x1.ok
end checkLimitsE
end Go.Proofs.YtmphiefdoaihhaaGreatDoor
