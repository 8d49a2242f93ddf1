/-
  CheckLimits: its closed part; what one of its cases comes to.
-/
import Derived.Test.YtmphiefdoaihhaaGreatDoorCheckLimitsK
import Derived.Test.YtmphiefdoaihhaaGreatDoorPickT
namespace Go.Proofs.YtmphiefdoaihhaaGreatDoor
namespace checkLimitsE
open Go.RowKit
set_option maxRecDepth 1000000 in
theorem knownRun : isTrue (callNZ Tryz.prog rtab 2 4000 ks [] [] [] 3000 (2 + 0) 7 [] (start (2 + 0) ks) ⟨0, 0⟩ Res.ok) = true := by decide +kernel
theorem known {W : World} (hw : ∀ x ∈ ks, W.rangeAt x.1 0 x.2) : Calls Tryz.prog 7 #[] W fun e W' => e = .returned (.bool true) ∧ Up W W' :=
  evn_run (ng := 2) (m := 0) (zs := []) (hs := []) (tb := []) (sns := []) rtab_ok names_ok (by kernel_rfl) rfl (by decide) ks_ok (fun _ h => by cases h) (fun _ h => by cases h) (fun _ h => by cases h) hw VL.nil knownRun
def tb (i0 : Nat) (i1 : Nat) : List Hk := [⟨4, [.chan (some 2), .int .i64 4], .int .i64 (.ofNat i0)⟩, ⟨4, [.chan (some 3), .int .i64 4], .int .i64 (.ofNat i1)⟩]
/-- One case. -/
noncomputable def case (sns : List Sn) (i0 : Nat) (i1 : Nat) : Bool := isTrue (callNZ Tryz.prog rtab 2 4000 ks [7] (tb i0 i1) sns 3000 (2 + 2) 3 [.chan (some 2), .chan (some 3)] (start (2 + 2) ks) ⟨0, 0⟩ Res.ok)
end checkLimitsE
end Go.Proofs.YtmphiefdoaihhaaGreatDoor
