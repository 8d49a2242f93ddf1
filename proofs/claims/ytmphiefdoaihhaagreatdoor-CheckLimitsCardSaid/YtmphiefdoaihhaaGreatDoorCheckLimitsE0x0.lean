/-
  CheckLimits: one of its cases, reckoned.
-/
import Derived.Test.YtmphiefdoaihhaaGreatDoorCheckLimitsE
import Derived.Test.YtmphiefdoaihhaaGreatDoorC0x0
namespace Go.Proofs.YtmphiefdoaihhaaGreatDoor
namespace checkLimitsE
set_option maxRecDepth 1000000 in
theorem run0x0 : case [Sn0x0.sn] 0 0 = true := by decide +kernel
theorem pic0x0 : ∀ s ∈ ([Sn0x0.sn] : List Sn), SnOk Tryz.prog ks s := fun s h => by
  simp only [List.mem_cons, List.not_mem_nil, or_false] at h
  rcases h with rfl
  · exact Sn0x0.ok
end checkLimitsE
end Go.Proofs.YtmphiefdoaihhaaGreatDoor
