/-
  CompileKnown: what the call of function 10 with one text leaves, as a picture: it is reckoned and held against it.
-/
import Derived.Test.YtahijdfifecmjaaGreatDoorCompileKnownK
namespace Go.Proofs.YtahijdfifecmjaaGreatDoor
namespace compileKnownE
open Go.RowKit
namespace Sn2
def b0 : List (List SC) := [[.g (.string ⟨⟨[120]⟩⟩), .g (.int .i64 1)],
  [.g (.string ⟨⟨[109]⟩⟩), .g (.slice none 0 0), .g (.int .i64 1), .g (.int .i64 0)],
  [.g (.int .i64 0), .g (.string ⟨⟨[]⟩⟩), .g (.int .i64 0), .g (.slice none 0 0), .g (.slice none 0 0), .g (.int .i64 1), .g (.string ⟨⟨[105, 110, 116]⟩⟩), .g (.int .i64 0), .g (.slice none 0 0), .g (.slice none 0 0), .g (.int .i64 2), .g (.string ⟨⟨[98, 111, 111, 108]⟩⟩), .g (.int .i64 0), .g (.slice none 0 0), .g (.slice none 0 0), .g (.int .i64 3), .g (.string ⟨⟨[115, 116, 114, 105, 110, 103]⟩⟩), .g (.int .i64 0), .g (.slice none 0 0), .g (.slice none 0 0), .g (.int .i64 4), .g (.string ⟨⟨[110, 105, 108]⟩⟩), .g (.int .i64 0), .g (.slice none 0 0), .g (.slice none 0 0), .g (.int .i64 5), .g (.string ⟨⟨[80]⟩⟩), .g (.int .i64 0), .s 1 0 1, .s 0 0 1],
  [.g (.int .i64 5)],
  [.g (.int .i64 5)],
  [.g (.int .i64 5), .g (.int .i64 0), .g (.int .i64 0), .g (.int .i64 28), .g (.int .i64 0), .g (.int .i64 0), .g (.int .i64 1), .g (.int .i64 0), .g (.int .i64 0), .g (.int .i64 19), .g (.int .i64 0), .g (.int .i64 0), .g (.int .i64 27), .g (.int .i64 7), .g (.int .i64 0), .g (.int .i64 2), .g (.int .i64 1), .g (.int .i64 0), .g (.int .i64 26), .g (.int .i64 8), .g (.int .i64 0), .g (.int .i64 2), .g (.int .i64 0), .g (.int .i64 0), .g (.int .i64 27), .g (.int .i64 12), .g (.int .i64 0), .g (.int .i64 1), .g (.int .i64 0), .g (.int .i64 0), .g (.int .i64 41), .g (.int .i64 1), .g (.int .i64 0), .g (.int .i64 26), .g (.int .i64 14), .g (.int .i64 0), .g (.int .i64 1), .g (.int .i64 1), .g (.int .i64 0), .g (.int .i64 41), .g (.int .i64 1), .g (.int .i64 0), .g (.int .i64 26), .g (.int .i64 14), .g (.int .i64 0)],
  [.g (.int .i64 3), .g (.int .i64 0), .g (.int .i64 0), .g (.int .i64 3), .g (.int .i64 1), .g (.int .i64 0), .g (.int .i64 24), .g (.int .i64 0), .g (.int .i64 0), .g (.int .i64 39), .g (.int .i64 2), .g (.int .i64 0), .g (.int .i64 41), .g (.int .i64 0), .g (.int .i64 0)],
  [.g (.string ⟨⟨[80, 46, 109]⟩⟩), .s 3 0 1, .g (.int .i64 1), .s 2 0 1, .s 1 0 15, .g (.string ⟨⟨[109, 97, 105, 110]⟩⟩), .g (.slice none 0 0), .g (.int .i64 0), .g (.slice none 0 0), .s 0 0 5],
  [.g (.string ⟨⟨[98]⟩⟩), .g (.string ⟨⟨[97]⟩⟩)],
  [.g (.int .i64 1), .g (.int .i64 2)]]
def blks : List (List SC) := b0
def res : ST := .tup [.a [.s 7 0 6, .s 2 0 2, .g (.int .i64 1), .s 1 0 2, .s 0 0 2], .a [.g (.int .i64 0), .g (.int .i64 0)], .c (.g (.int .i64 0))]
def arg : List Value := [.string ⟨⟨[116, 121, 112, 101, 32, 80, 32, 115, 116, 114, 117, 99, 116, 32, 123, 32, 120, 32, 105, 110, 116, 32, 125, 59, 32, 102, 117, 110, 99, 32, 40, 112, 32, 80, 41, 32, 109, 40, 41, 32, 105, 110, 116, 32, 123, 32, 105, 102, 32, 112, 46, 120, 32, 62, 32, 49, 32, 38, 38, 32, 116, 114, 117, 101, 32, 123, 32, 114, 101, 116, 117, 114, 110, 32, 49, 32, 125, 32, 101, 108, 115, 101, 32, 123, 32, 114, 101, 116, 117, 114, 110, 32, 50, 32, 125, 32, 125, 59, 32, 102, 117, 110, 99, 32, 109, 97, 105, 110, 40, 41, 32, 123, 32, 112, 114, 105, 110, 116, 40, 34, 97, 34, 32, 62, 32, 34, 98, 34, 41, 32, 125]⟩⟩]
def sn : Sn := ⟨10, arg, blks, res⟩
def names : List Nat := [910, 927, 904, 924, 951, 1009, 1030, 1032, 1022, 1003]
set_option maxRecDepth 1000000 in
theorem run : snapB (callNZ Tryz.prog rtab 6 4000 ks [] [] [] 3000 6 10 arg (start 6 ks) ⟨0, 0⟩ Res.ok) 6 names blks res = true := by decide +kernel
theorem ok : SnOk Tryz.prog ks sn := evn_snap (ng := 6) (hs := []) (sns := []) rtab_ok names_ok (by kernel_rfl) (by decide) ks_ok (fun _ h => by cases h) (fun _ h => by cases h) (by decide +kernel) run
end Sn2
end compileKnownE
end Go.Proofs.YtahijdfifecmjaaGreatDoor
