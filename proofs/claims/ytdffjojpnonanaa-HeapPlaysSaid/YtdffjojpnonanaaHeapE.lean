/-
  Alloc's two answers; the law's own 'known'.
-/
import Derived.Test.YtdffjojpnonanaaHeapD
namespace Go.Proofs.Ytdffjojpnonanaa
open Go.RowKit

def AllocYes (w : World) (p g : Nat) (room : Int) (ws : List Int) (t n : Int) (e : Ending) (w' : World) : Prop :=
  e = .returned (.tuple #[.int .u64 ws.length, .bool true]) ∧ ∃ g' cap', HeapAt w' p g' cap' room (allocWs ws t n) ∧ (g' = g ∨ w.heap.size ≤ g') ∧ Fr (fun k => k = p ∨ k = g) w w'

theorem alloc_y {w : World} {p g cap : Nat} {room : Int} {ws : List Int} (h : HeapAt w p g cap room ws) (t n : Int) (hn : allocB ws room t n = true) :
    Calls Try.prog 25 #[.pointer (some ⟨p, 0, none⟩), .int .i64 t, .int .i64 n] w (AllocYes w p g room ws t n) :=
  (alloc_yes h t n hn).mono fun e w' hd => by
    unfold AllocDone at hd
    rw [hn, if_pos rfl] at hd
    exact hd

theorem alloc_n {w : World} {p g cap : Nat} {room : Int} {ws : List Int} (h : HeapAt w p g cap room ws) (t n : Int) (hn : allocB ws room t n = false) :
    Calls Try.prog 25 #[.pointer (some ⟨p, 0, none⟩), .int .i64 t, .int .i64 n] w
      fun e w' => e = .returned (.tuple #[.int .u64 0, .bool false]) ∧ ∃ m, w' = w.drewN m :=
  (alloc_no h t n hn).mono fun e w' hd => by
    unfold AllocDone at hd
    rw [hn, if_neg Bool.false_ne_true] at hd
    exact hd

theorem known_a : allocB [0] 9 5 2 = true := by decide
theorem known_b : allocB (allocWs [0] 5 2) 9 6 4 = true := by decide
theorem known_c : allocB (allocWs (allocWs [0] 5 2) 6 4) 9 6 5 = false := by decide
theorem known_t : typeOf (allocWs (allocWs [0] 5 2) 6 4) 4 = 6 := by decide
theorem known_l : lenOf (allocWs (allocWs [0] 5 2) 6 4) 1 = 2 := by decide
theorem known_la : (allocWs [0] 5 2).length = 4 := by decide
theorem known_lb : (allocWs (allocWs [0] 5 2) 6 4).length = 9 := by decide

set_option maxHeartbeats 1000000 in
theorem known_any (w : World) : Calls Try.prog 10 #[] w fun e w' => e = .returned (.bool true) ∧ Fr (fun _ => False) w w' := by
  go_enter Try.func10, Try.ntmps10
  go_wp2_with fail
  refine (new_any 9 w (by omega) (by omega)).mono ?_
  rintro e w1 ⟨rfl, h1, f1⟩
  have H1 := Lib.hid h1
  have F1 := Lib.hid f1
  clear h1 f1
  go_wp2_with fail
  refine (alloc_y H1.out 5 2 known_a).mono ?_
  rintro e w2 ⟨rfl, g2, cap2, h2, hg2, f2⟩
  have H2 := Lib.hid h2
  have F2 := Lib.hid f2
  have G2 := Lib.hid hg2
  clear h2 f2 hg2
  go_wp2_with fail
  refine (alloc_y H2.out 6 4 known_b).mono ?_
  rintro e w3 ⟨rfl, g3, cap3, h3, hg3, f3⟩
  have H3 := Lib.hid h3
  have F3 := Lib.hid f3
  have G3 := Lib.hid hg3
  clear h3 f3 hg3
  rw [known_la]
  go_wp2_with fail
  refine (alloc_n H3.out 6 5 known_c).mono ?_
  rintro e w4 ⟨rfl, m, rfl⟩
  go_wp2_with fail
  refine (used_any (H3.out.drewN m)).mono ?_
  rintro e w5 ⟨rfl, rfl⟩
  rw [known_lb]
  go_wp2_with fail
  refine (type_any (H3.out.drewN m) 4 (by omega)).mono ?_
  rintro e w5 ⟨rfl, rfl⟩
  rw [known_t]
  go_wp2_with fail
  refine (len_any (H3.out.drewN m) 1 (by omega)).mono ?_
  rintro e w5 ⟨rfl, rfl⟩
  rw [known_l]
  go_wp2_with fail
  go_ret
  refine ⟨rfl, ?_⟩
  have z1 := F1.out.size
  have z2 := G2.out
  refine ((F1.out.trans F2.out ?_).trans F3.out ?_).drewN m
  · intro i hi hs
    omega
  · intro i hi hs
    omega
end Go.Proofs.Ytdffjojpnonanaa
