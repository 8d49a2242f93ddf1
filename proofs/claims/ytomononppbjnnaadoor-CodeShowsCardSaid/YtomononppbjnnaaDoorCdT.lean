/-
  What each number of an op is told: what it takes and gives, whether it leaves, its name.
-/
import Derived.Test.YtomononppbjnnaaDoorBase
import Derived.Test.YtomononppbjnnaaDoorChecked
import Derived.OwnWalk
import Derived.Deep.MidRow
namespace Go.Proofs.YtomononppbjnnaaDoor
open Go.RowKit

/-- A text of bytes. -/
def bsv (l : List UInt8) : ByteArray := ⟨⟨l⟩⟩
def leavesOf (op : Int) : Bool := op == 21 || op == 22 || op == 23 || op == 24 || op == 25 || op == 34 || op == 35 || op == 36 || op == 37 || op == 39 || op == 40
def movesOf (op : Int) : Int × Int × Bool :=
  if op == 1 || op == 2 || op == 3 || op == 4 || op == 5 || op == 34 || op == 40 then (0, 1, true)
  else if op == 6 || op == 7 || op == 27 || op == 39 then (1, 0, true)
  else if op == 13 || op == 14 || op == 28 || op == 33 || op == 35 || op == 38 then (1, 1, true)
  else if op == 8 || op == 9 || op == 10 || op == 11 || op == 12 || op == 15 || op == 16 || op == 17 || op == 18 || op == 19 || op == 20 || op == 21 || op == 22 || op == 23 || op == 24 || op == 25 || op == 30 || op == 32 then (2, 1, true)
  else if op == 29 then (2, 0, true)
  else if op == 31 then (3, 0, true)
  else if op == 26 then (0, 0, true)
  else (0, 0, false)
def movesV (op : Int) : Value := .tuple #[.int .i64 (movesOf op).1, .int .i64 (movesOf op).2.1, .bool (movesOf op).2.2]
def opNames : List (List UInt8) := [[], [78, 117, 109], [66, 105, 116], [76, 105, 116], [78, 117, 108, 108], [76, 111, 97, 100], [83, 116, 111, 114, 101], [80, 111, 112], [65, 100, 100], [83, 117, 98], [77, 117, 108], [68, 105, 118], [82, 101, 109], [78, 101, 103], [78, 111, 116], [69, 113], [78, 101], [76, 116], [76, 101], [71, 116], [71, 101], [67, 97, 116], [84, 101, 120, 116, 69, 113], [84, 101, 120, 116, 78, 101], [84, 101, 120, 116, 76, 116], [84, 101, 120, 116, 76, 101], [74, 117, 109, 112], [74, 117, 109, 112, 78, 111], [70, 105, 101, 108, 100], [83, 101, 116, 70, 105, 101, 108, 100], [65, 116], [83, 101, 116, 65, 116], [84, 101, 120, 116, 65, 116], [76, 101, 110], [78, 101, 119], [77, 97, 107, 101], [67, 97, 108, 108], [73, 110, 118, 111, 107, 101], [67, 97, 115, 116], [80, 114, 105, 110, 116], [73, 110, 112, 117, 116], [82, 101, 116]]
def nameJ (op : Int) : List UInt8 :=
  if op == 26 then [74, 117, 109, 112]
  else if op == 27 then [74, 117, 109, 112, 78, 111]
  else if op == 28 then [70, 105, 101, 108, 100]
  else if op == 29 then [83, 101, 116, 70, 105, 101, 108, 100]
  else if op == 30 then [65, 116]
  else if op == 31 then [83, 101, 116, 65, 116]
  else if op == 32 then [84, 101, 120, 116, 65, 116]
  else if op == 33 then [76, 101, 110]
  else if op == 34 then [78, 101, 119]
  else if op == 35 then [77, 97, 107, 101]
  else if op == 36 then [67, 97, 108, 108]
  else if op == 37 then [73, 110, 118, 111, 107, 101]
  else if op == 38 then [67, 97, 115, 116]
  else if op == 39 then [80, 114, 105, 110, 116]
  else if op == 40 then [73, 110, 112, 117, 116]
  else if op == 41 then [82, 101, 116]
  else []
def nameA (op : Int) : List UInt8 :=
  if op == 8 then [65, 100, 100]
  else if op == 9 then [83, 117, 98]
  else if op == 10 then [77, 117, 108]
  else if op == 11 then [68, 105, 118]
  else if op == 12 then [82, 101, 109]
  else if op == 13 then [78, 101, 103]
  else if op == 14 then [78, 111, 116]
  else if op == 15 then [69, 113]
  else if op == 16 then [78, 101]
  else if op == 17 then [76, 116]
  else if op == 18 then [76, 101]
  else if op == 19 then [71, 116]
  else if op == 20 then [71, 101]
  else if op == 21 then [67, 97, 116]
  else if op == 22 then [84, 101, 120, 116, 69, 113]
  else if op == 23 then [84, 101, 120, 116, 78, 101]
  else if op == 24 then [84, 101, 120, 116, 76, 116]
  else if op == 25 then [84, 101, 120, 116, 76, 101]
  else nameJ op
def nameOf (op : Int) : List UInt8 :=
  if op == 1 then [78, 117, 109]
  else if op == 2 then [66, 105, 116]
  else if op == 3 then [76, 105, 116]
  else if op == 4 then [78, 117, 108, 108]
  else if op == 5 then [76, 111, 97, 100]
  else if op == 6 then [83, 116, 111, 114, 101]
  else if op == 7 then [80, 111, 112]
  else nameA op

set_option maxHeartbeats 400000 in
theorem leaves_any (op : Int) (w : World) :
    Calls Tryd.prog 10 #[.int .i64 op] w fun e w' => w = w' ∧ e = .returned (.bool (leavesOf op)) := by
  go_enter Tryd.func10, Tryd.ntmps10
  go_wp2_with fail
  all_goals (go_ret; refine ⟨rfl, ?_⟩; simp_all [leavesOf])
set_option maxHeartbeats 400000 in
theorem rleaves_any (op : Int) (w : World) :
    Calls Tryd.prog 17 #[.int .i64 op] w fun e w' => w = w' ∧ e = .returned (.bool (leavesOf op)) := by
  go_enter Tryd.func17, Tryd.ntmps17
  go_wp2_with fail
  all_goals (go_ret; refine ⟨rfl, ?_⟩; simp_all [leavesOf])

set_option maxHeartbeats 4000000 in
theorem moves_any (op : Int) (w : World) :
    Calls Tryd.prog 13 #[.int .i64 op] w fun e w' => w = w' ∧ e = .returned (movesV op) := by
  go_enter Tryd.func13, Tryd.ntmps13
  go_wp2_with fail
  all_goals (go_ret3; refine ⟨rfl, ?_⟩; simp_all [movesV, movesOf])
set_option maxHeartbeats 4000000 in
theorem rmoves_any (op : Int) (w : World) :
    Calls Tryd.prog 14 #[.int .i64 op] w fun e w' => w = w' ∧ e = .returned (movesV op) := by
  go_enter Tryd.func14, Tryd.ntmps14
  go_wp2_with fail
  all_goals (go_ret3; refine ⟨rfl, ?_⟩; simp_all [movesV, movesOf])

set_option maxHeartbeats 4000000 in
theorem nameJ_any (op : Int) (w : World) :
    Calls Tryd.prog 27 #[.int .i64 op] w fun e w' => w = w' ∧ e = .returned (.string (bsv (nameJ op))) := by
  go_enter Tryd.func27, Tryd.ntmps27
  go_wp2_with fail
  all_goals (go_ret; refine ⟨rfl, ?_⟩; simp_all [nameJ, bsv])
set_option maxHeartbeats 4000000 in
theorem nameA_any (op : Int) (w : World) :
    Calls Tryd.prog 22 #[.int .i64 op] w fun e w' => w = w' ∧ e = .returned (.string (bsv (nameA op))) := by
  go_enter Tryd.func22, Tryd.ntmps22
  go_wp2_with fail
  all_goals first
    | (go_ret; refine ⟨rfl, ?_⟩; simp_all [nameA, bsv]; done)
    | (refine (nameJ_any op w).mono ?_
       rintro e w' ⟨rfl, rfl⟩
       go_wp2_with fail
       go_ret
       refine ⟨rfl, ?_⟩
       simp_all [nameA])
set_option maxHeartbeats 4000000 in
theorem name_any (op : Int) (w : World) :
    Calls Tryd.prog 9 #[.int .i64 op] w fun e w' => w = w' ∧ e = .returned (.string (bsv (nameOf op))) := by
  go_enter Tryd.func9, Tryd.ntmps9
  go_wp2_with fail
  all_goals first
    | (go_ret; refine ⟨rfl, ?_⟩; simp_all [nameOf, bsv]; done)
    | (refine (nameA_any op w).mono ?_
       rintro e w' ⟨rfl, rfl⟩
       go_wp2_with fail
       go_ret
       refine ⟨rfl, ?_⟩
       simp_all [nameOf])

/-- The names, as laid. -/
def namesV : List Value := opNames.map fun x => .string (bsv x)
theorem names_at (j : Nat) (hj : j < 42) : opNames[j]? = some (nameOf j) := by
  have : ∀ j : Fin 42, opNames[j.1]? = some (nameOf j.1) := by decide
  exact this ⟨j, hj⟩
theorem names_out (op : Int) (h : op < 0 ∨ 42 ≤ op) : nameOf op = [] := by
  have : ∀ c : Int, 0 ≤ c → c < 42 → (op == c) = false := fun c h0 h1 => by
    rw [beq_eq_false_iff_ne]; omega
  simp [nameOf, nameA, nameJ, this]
  repeat' rw [if_neg (by omega)]
set_option maxHeartbeats 400000 in
theorem rname_any (op : Int) (w : World) (hL : w.rangeAt 0 0 namesV) :
    Calls Tryd.prog 16 #[.int .i64 op] w fun e w' => w = w' ∧ e = .returned (.string (bsv (nameOf op))) := by
  by_cases h : op < 0 ∨ 42 ≤ op
  · have h3 := names_out op h
    go_enter Tryd.func16, Tryd.ntmps16
    rcases h with h | h
    · have h1 : decide (op < 0) = true := by simpa using h
      go_wp2_with fail
      go_ret
      exact ⟨rfl, by rw [h3]; rfl⟩
    · have h1 : decide (op < 0) = false := by simp; omega
      have h2 : decide (op ≥ 42) = true := by simp; omega
      go_wp2_with fail
      go_ret
      exact ⟨rfl, by rw [h3]; rfl⟩
  · obtain ⟨j, rfl⟩ : ∃ j : Nat, op = j := ⟨op.toNat, by omega⟩
    have hj : j < 42 := by omega
    have hc : w.cell? ⟨0, j, none⟩ = some (.string (bsv (nameOf j))) := by
      have := hL j (.string (bsv (nameOf j))) (by simp [namesV, names_at j hj])
      rwa [Nat.zero_add] at this
    clear hL h
    go_enter Tryd.func16, Tryd.ntmps16
    have h1 : decide ((j : Int) < 0) = false := by simp
    have h2 : decide ((j : Int) ≥ 42) = false := by simp; omega
    go_wp2_with fail
    go_ret
    exact ⟨rfl, rfl⟩
end Go.Proofs.YtomononppbjnnaaDoor
