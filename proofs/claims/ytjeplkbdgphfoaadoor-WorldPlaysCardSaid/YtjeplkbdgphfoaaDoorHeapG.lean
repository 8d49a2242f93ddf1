/-
  Copy of package heap.
-/
import Derived.Test.YtjeplkbdgphfoaaDoorHeapF
namespace Go.Proofs.YtjeplkbdgphfoaaDoor
open Go.RowKit
set_option maxRecDepth 100000

theorem HeapAt.drew {w : World} {p g cap : Nat} {room : Int} {ws : List Int} (h : HeapAt w p g cap room ws) : HeapAt w.drew p g cap room ws :=
  ⟨h.obj, h.row, h.ne, h.pos, h.fits, h.most, h.wf⟩

def CopyDone (w : World) (room : Int) (ws : List Int) (e : Ending) (w' : World) : Prop :=
  ∃ p' g' c', e = .returned (.pointer (some ⟨p', 0, none⟩)) ∧ HeapAt w' p' g' c' room ws ∧ w.heap.size ≤ p' ∧ w.heap.size ≤ g' ∧ Fr (fun _ => False) w w'

theorem copy_fin {w w1 : World} {p g cap : Nat} {room : Int} {ws : List Int} (h : HeapAt w p g cap room ws) (f : Fr (fun _ => False) w.drew w1)
    (ho : w1.ownsRow 0 38 1 (.slice (some ⟨w.drew.heap.size, 0, none⟩) ws.length ws.length) ws.length (ws.map (Value.int .u64))) :
    CopyDone w room ws (.returned (.pointer (some ⟨w1.heap.size, 0, none⟩))) (w1.alloc (.cells #[.slice (some ⟨w.heap.size, 0, none⟩) ws.length ws.length, .int .i64 room] 96)) := by
  have hlt := (ho.lt w.heap.size rfl).2
  have hz : w.heap.size ≤ w1.heap.size := f.size
  refine ⟨w1.heap.size, w.heap.size, ws.length, rfl, ⟨heap_alloc_new w1 _, ho.alloc _, by omega, h.pos, h.fits, h.most, h.wf⟩, hz, Nat.le_refl _, ?_⟩
  exact (show Fr (fun _ => False) w w1 from ⟨f.os, f.tape, f.output, f.size, f.block⟩).alloc _

set_option maxHeartbeats 1000000 in
theorem copy_any {w : World} {p g cap : Nat} {room : Int} {ws : List Int} (h : HeapAt w p g cap room ws) :
    Calls Tryd.prog 54 #[.pointer (some ⟨p, 0, none⟩)] w (CopyDone w room ws) := by
  have c1 := h.c1
  have lp := h.ltp
  have H := Lib.hid h
  clear h
  go_enter Tryd.func54, Tryd.ntmps54
  go_wp2_with fail
  go_region_with (go_at_call 27; refine (words_any (by first | exact H.out | exact H.out.drew)).mono ?_; rintro e w1 ⟨rfl, hown1, f1⟩; have c11 := (f1.cell (p := ⟨p, 1, none⟩) lp (fun h => h)).trans c1; have Hown1 := Lib.hid hown1; have F1 := Lib.hid f1; clear hown1 f1)
  all_goals go_wp2_with fail
  all_goals go_ret
  all_goals exact copy_fin H.out F1.out Hown1.out
end Go.Proofs.YtjeplkbdgphfoaaDoor
