/-
  CompileKnown: what the call of function 10 with one text leaves, as a picture: it is reckoned and held against it.
-/
import Derived.Test.YtahijdfifecmjaaGreatDoorCompileKnownK
namespace Go.Proofs.YtahijdfifecmjaaGreatDoor
namespace compileKnownE
open Go.RowKit
namespace Sn3
def blks : List (List SC) := []
def res : ST := .tup [.a [.g (.slice none 0 0), .g (.slice none 0 0), .g (.int .i64 0), .g (.slice none 0 0), .g (.slice none 0 0)], .a [.g (.int .i64 1), .g (.int .i64 15)], .c (.g (.int .i64 19))]
def arg : List Value := [.string ⟨⟨[102, 117, 110, 99, 32, 109, 97, 105, 110, 40, 41, 32, 123, 32, 120, 32, 125]⟩⟩]
def sn : Sn := ⟨10, arg, blks, res⟩
def names : List Nat := []
set_option maxRecDepth 1000000 in
theorem run : snapB (callNZ Tryz.prog rtab 6 4000 ks [] [] [] 3000 6 10 arg (start 6 ks) ⟨0, 0⟩ Res.ok) 6 names blks res = true := by decide +kernel
theorem ok : SnOk Tryz.prog ks sn := evn_snap (ng := 6) (hs := []) (sns := []) rtab_ok names_ok (by kernel_rfl) (by decide) ks_ok (fun _ h => by cases h) (fun _ h => by cases h) (by decide +kernel) run
end Sn3
end compileKnownE
end Go.Proofs.YtahijdfifecmjaaGreatDoor
