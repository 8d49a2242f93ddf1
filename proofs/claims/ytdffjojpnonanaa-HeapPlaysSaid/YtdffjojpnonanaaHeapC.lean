/-
  New and Set of package heap.
-/
import Derived.Test.YtdffjojpnonanaaHeapB
import Derived.Test.YtdffjojpnonanaaAppZ
namespace Go.Proofs.Ytdffjojpnonanaa
open Go.RowKit

set_option maxHeartbeats 400000 in
theorem set_any {w : World} {p g cap : Nat} {room : Int} {ws : List Int} (h : HeapAt w p g cap room ws) (a i v : Int) (ha : 0 ≤ a) (hv : 0 ≤ v) (hv' : v ≤ 18446744073709551615) :
    Calls Try.prog 14 #[.pointer (some ⟨p, 0, none⟩), .int .u64 a, .int .i64 i, .int .u64 v] w (PutDone w p g cap room ws (placeOf ws a i) v) := by
  have hp : 0 ≤ placeOf ws a i := by unfold placeOf; split <;> omega
  have H := Lib.hid h
  clear h
  go_enter Try.func14, Try.ntmps14
  go_wp2_with (first | (go_at_call 38; refine (place_any H.out a i ha).mono ?_; rintro e w' ⟨rfl, rfl⟩) | (go_at_call 15; refine (put_any H.out (placeOf ws a i) v hp hv hv').mono ?_; rintro e w' ⟨rfl, hq, hf⟩))
  go_ret
  exact ⟨rfl, hq, hf⟩

/-- A new heap. -/
def NewDone (w : World) (room : Int) (e : Ending) (w' : World) : Prop :=
  e = .returned (.tuple #[.pointer (some ⟨w.heap.size + 1, 0, none⟩), .int .i64 0]) ∧ HeapAt w' (w.heap.size + 1) w.heap.size 1 room [0] ∧ Fr (fun _ => False) w w'

theorem new_made (room : Int) (w : World) (h1 : 1 ≤ room) (h2 : room ≤ 65536) :
    Hid (NewDone w room (.returned (.tuple #[.pointer (some ⟨w.heap.size + 1, 0, none⟩), .int .i64 0]))
      ((w.alloc (.cells #[.int .u64 0] 27)).alloc (.cells #[.slice (some ⟨w.heap.size, 0, none⟩) 1 1, .int .i64 room] 58))) := by
  refine Lib.hid ⟨rfl, ⟨?_, ?_, by omega, by simp, by simpa using h1, h2, by simp⟩, ((Fr.refl _ _).alloc _).alloc _⟩
  · have e := heap_alloc_new (w.alloc (.cells #[.int .u64 0] 27)) (.cells #[.slice (some ⟨w.heap.size, 0, none⟩) 1 1, .int .i64 room] 58)
    simpa using e
  · exact (World.ownsRow_lit w #[.int .u64 0] 1 (Nat.zero_le _) (by decide) rfl).alloc _

set_option maxHeartbeats 400000 in
theorem new_any (room : Int) (w : World) (h1 : 1 ≤ room) (h2 : room ≤ 65536) :
    Calls Try.prog 9 #[.int .i64 room] w (NewDone w room) := by
  have hmk : ∀ w, (Instr.makeSlice 35 (.int .i64 1) (.int .i64 1)).run Try.prog w = .ok (.slice (some ⟨w.heap.size, 0, none⟩) 1 1) (w.alloc (.cells #[.int .u64 0] 27)) := fun _ => by kernel_rfl
  have Q := new_made room w h1 h2
  go_enter Try.func9, Try.ntmps9
  go_wp2
  go_ret2
  exact Q.out

set_option maxHeartbeats 400000 in
theorem new_bad (room : Int) (w : World) (h1 : room < 1 ∨ 65536 < room) :
    Calls Try.prog 9 #[.int .i64 room] w fun e w' => e = .returned (.tuple #[.pointer none, .int .i64 1]) ∧ w = w' := by
  by_cases h : room < 1
  · go_enter Try.func9, Try.ntmps9
    go_wp2
    go_ret2
    exact ⟨rfl, rfl⟩
  · have h2 : 65536 < room := by omega
    go_enter Try.func9, Try.ntmps9
    go_wp2
    go_ret2
    exact ⟨rfl, rfl⟩
end Go.Proofs.Ytdffjojpnonanaa
