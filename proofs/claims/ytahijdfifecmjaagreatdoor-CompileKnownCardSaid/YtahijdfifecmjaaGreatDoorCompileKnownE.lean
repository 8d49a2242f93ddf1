/-
  CompileKnown, reckoned: it answers true.
-/
import Derived.Test.YtahijdfifecmjaaGreatDoorCompileKnownK
import Derived.Test.YtahijdfifecmjaaGreatDoorCompileKnownSn1
import Derived.Test.YtahijdfifecmjaaGreatDoorCompileKnownSn2
import Derived.Test.YtahijdfifecmjaaGreatDoorCompileKnownSn3
namespace Go.Proofs.YtahijdfifecmjaaGreatDoor
namespace compileKnownE
open Go.RowKit
set_option maxRecDepth 1000000 in
theorem run : isTrue (callNZ Tryz.prog rtab 6 4000 ks [] [] [Sn1.sn, Sn2.sn, Sn3.sn] 3000 (6 + 0) 3 [] (start (6 + 0) ks) ⟨0, 0⟩ Res.ok) = true := by decide +kernel
theorem any {W : World} (hw : ∀ x ∈ ks, W.rangeAt x.1 0 x.2) : Calls Tryz.prog 3 #[] W fun e W' => e = .returned (.bool true) ∧ Up W W' :=
  evn_run (ng := 6) (m := 0) (zs := []) (hs := []) (tb := []) (sns := [Sn1.sn, Sn2.sn, Sn3.sn]) rtab_ok names_ok (by kernel_rfl) rfl (by decide) ks_ok (fun _ h => by cases h) (fun _ h => by cases h) (fun s h => by
    simp only [List.mem_cons, List.not_mem_nil, or_false] at h
    rcases h with rfl | rfl | rfl
    · exact Sn1.ok
    · exact Sn2.ok
    · exact Sn3.ok) hw VL.nil run
end compileKnownE
end Go.Proofs.YtahijdfifecmjaaGreatDoor
