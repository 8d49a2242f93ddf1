/-
  CompileKnown: what the call of function 10 with one text leaves, as a picture: it is reckoned and held against it.
-/
import Derived.Test.YtahijdfifecmjaaGreatDoorCompileKnownK
namespace Go.Proofs.YtahijdfifecmjaaGreatDoor
namespace compileKnownE
open Go.RowKit
namespace Sn1
def b0 : List (List SC) := [[.g (.int .i64 0), .g (.string ⟨⟨[]⟩⟩), .g (.int .i64 0), .g (.slice none 0 0), .g (.slice none 0 0), .g (.int .i64 1), .g (.string ⟨⟨[105, 110, 116]⟩⟩), .g (.int .i64 0), .g (.slice none 0 0), .g (.slice none 0 0), .g (.int .i64 2), .g (.string ⟨⟨[98, 111, 111, 108]⟩⟩), .g (.int .i64 0), .g (.slice none 0 0), .g (.slice none 0 0), .g (.int .i64 3), .g (.string ⟨⟨[115, 116, 114, 105, 110, 103]⟩⟩), .g (.int .i64 0), .g (.slice none 0 0), .g (.slice none 0 0), .g (.int .i64 4), .g (.string ⟨⟨[110, 105, 108]⟩⟩), .g (.int .i64 0), .g (.slice none 0 0), .g (.slice none 0 0)],
  [.g (.int .i64 1)],
  [.g (.int .i64 1), .g (.int .i64 0), .g (.int .i64 0), .g (.int .i64 6), .g (.int .i64 0), .g (.int .i64 0), .g (.int .i64 5), .g (.int .i64 0), .g (.int .i64 0), .g (.int .i64 1), .g (.int .i64 1), .g (.int .i64 0), .g (.int .i64 17), .g (.int .i64 0), .g (.int .i64 0), .g (.int .i64 27), .g (.int .i64 11), .g (.int .i64 0), .g (.int .i64 5), .g (.int .i64 0), .g (.int .i64 0), .g (.int .i64 5), .g (.int .i64 0), .g (.int .i64 0), .g (.int .i64 8), .g (.int .i64 0), .g (.int .i64 0), .g (.int .i64 6), .g (.int .i64 0), .g (.int .i64 0), .g (.int .i64 26), .g (.int .i64 2), .g (.int .i64 0), .g (.int .i64 41), .g (.int .i64 0), .g (.int .i64 0)],
  [.g (.string ⟨⟨[109, 97, 105, 110]⟩⟩), .g (.slice none 0 0), .g (.int .i64 0), .s 1 0 1, .s 0 0 12],
  [.g (.int .i64 1), .g (.int .i64 9)]]
def blks : List (List SC) := b0
def res : ST := .tup [.a [.s 4 0 5, .s 1 0 1, .g (.int .i64 0), .g (.slice none 0 0), .s 0 0 2], .a [.g (.int .i64 0), .g (.int .i64 0)], .c (.g (.int .i64 0))]
def arg : List Value := [.string ⟨⟨[102, 117, 110, 99, 32, 109, 97, 105, 110, 40, 41, 32, 123, 32, 120, 32, 58, 61, 32, 49, 59, 32, 102, 111, 114, 32, 120, 32, 60, 32, 57, 32, 123, 32, 120, 32, 61, 32, 120, 32, 43, 32, 120, 32, 125, 32, 125]⟩⟩]
def sn : Sn := ⟨10, arg, blks, res⟩
def names : List Nat := [517, 542, 587, 591, 557]
set_option maxRecDepth 1000000 in
theorem run : snapB (callNZ Tryz.prog rtab 6 4000 ks [] [] [] 3000 6 10 arg (start 6 ks) ⟨0, 0⟩ Res.ok) 6 names blks res = true := by decide +kernel
theorem ok : SnOk Tryz.prog ks sn := evn_snap (ng := 6) (hs := []) (sns := []) rtab_ok names_ok (by kernel_rfl) (by decide) ks_ok (fun _ h => by cases h) (fun _ h => by cases h) (by decide +kernel) run
end Sn1
end compileKnownE
end Go.Proofs.YtahijdfifecmjaaGreatDoor
