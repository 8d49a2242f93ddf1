/-
  HeapKnown: the walk.
-/
import Derived.Test.YtdffjojpnonanaaHeapS
namespace Go.Proofs.Ytdffjojpnonanaa
open Go.RowKit

def ab : ByteArray := { data := #[97, 98] }
theorem known_y : allocB [0] 20 3 (ab.size : Int) = true := by decide
theorem textWs_ab : textWs [0] ab = [0, 12884901890, 97, 98] := by decide
theorem str_ab : strAt [0, 12884901890, 97, 98] 1 = { data := #[97, 98] } := by decide
theorem str_no : strAt [0, 12884901890, 97, 98] 0 = { data := #[] } := by decide
theorem get_ab : getOf [0, 12884901890, 97, 98] 1 1 = 98 := by decide
theorem place_ab : placeOf [0, 12884901890, 97, 98] 1 2 = 0 := by decide
theorem put_ab0 : putB [0, 12884901890, 97, 98] 0 = false := by decide
theorem put_ab1 (v : Int) : putOf [0, 12884901890, 97, 98] 0 v = [0, 12884901890, 97, 98] := rfl
theorem word_ab : wordAt [0, 12884901890, 97, 98] 99 = 0 := by decide

set_option maxHeartbeats 2000000 in
theorem heapknown_any (w : World) : Calls Try.prog 3 #[] w fun e w' => e = .returned (.bool true) ∧ Fr (fun _ => False) w w' := by
  go_enter Try.func3, Try.ntmps3
  go_wp2_with fail
  refine (new_bad 0 w (by omega)).mono ?_
  rintro e w1 ⟨rfl, rfl⟩
  go_wp2_with fail
  refine (new_bad 65537 w (by omega)).mono ?_
  rintro e w1 ⟨rfl, rfl⟩
  go_wp2_with fail
  refine (new_any 20 w (by omega) (by omega)).mono ?_
  rintro e w1 ⟨rfl, h1, f1⟩
  have H1 := Lib.hid h1
  have F1 := Lib.hid f1
  clear h1 f1
  go_wp2_with fail
  refine (known_any w1).mono ?_
  rintro e w2 ⟨rfl, f2⟩
  have F2 := Lib.hid f2
  have H2 := Lib.hid (H1.out.kept f2 (fun h => h) (fun h => h))
  clear f2
  go_wp2_with fail
  refine (text_any H2.out ab (by decide) known_y).mono ?_
  rintro e w3 ⟨rfl, g3, c3, h3, hg3, f3⟩
  rw [textWs_ab] at h3
  have H3 := Lib.hid h3
  have G3 := Lib.hid hg3
  have F3 := Lib.hid (show Fr (fun _ => False) w w3 from (F1.out.trans F2.out (fun _ _ h => h)).trans f3 (by intro i hi hh; omega))
  clear h3 hg3 f3 H1 F1 F2
  go_wp2_with fail
  refine (text_empty _ { data := #[] } (by decide)).mono ?_
  rintro e w4 ⟨rfl, rfl⟩
  go_wp2_with fail
  refine (string_any H3.out 1 (by omega)).mono ?_
  rintro e w4 ⟨rfl, f4⟩
  have F4 := Lib.hid f4
  have H4 := Lib.hid (H3.out.kept f4 (fun h => h) (fun h => h))
  clear f4
  rw [str_ab]
  go_wp2_with fail
  refine (string_any H4.out 0 (by omega)).mono ?_
  rintro e w5 ⟨rfl, f5⟩
  have F5 := Lib.hid f5
  have H5 := Lib.hid (H4.out.kept f5 (fun h => h) (fun h => h))
  clear f5
  rw [str_no]
  go_wp2_with fail
  refine (get_any H5.out 1 1 (by omega)).mono ?_
  rintro e w6 ⟨rfl, rfl⟩
  rw [get_ab]
  go_wp2_with fail
  refine (set_any H5.out 1 2 5 (by omega) (by omega) (by omega)).mono ?_
  rw [place_ab]
  rintro e w6 ⟨rfl, h6, f6⟩
  rw [put_ab1] at h6
  have H6 := Lib.hid h6
  have F6 := Lib.hid f6
  clear h6 f6
  rw [put_ab0]
  go_wp2_with fail
  refine (put_any H6.out 0 1 (by omega) (by omega) (by omega)).mono ?_
  rintro e w7 ⟨rfl, h7, f7⟩
  rw [put_ab1] at h7
  have H7 := Lib.hid h7
  have F7 := Lib.hid f7
  clear h7 f7
  rw [put_ab0]
  go_wp2_with fail
  refine (word_any H7.out 99 (by omega)).mono ?_
  rintro e w8 ⟨rfl, rfl⟩
  rw [word_ab]
  go_wp2_with fail
  refine (words_any H7.out).mono ?_
  rintro e w8 ⟨rfl, _, f8⟩
  have F8 := Lib.hid f8
  clear f8
  go_wp2_with fail
  go_ret
  refine ⟨rfl, ?_⟩
  have z2 := H2.out.ltp
  have hg := G3.out
  have z4 := F3.out.size
  have e1 : Fr (fun _ => False) w w5 := (F3.out.trans F4.out (fun _ _ h => h)).trans F5.out (fun _ _ h => h)
  refine ((e1.trans F6.out ?_).trans F7.out ?_).trans F8.out (fun _ _ h => h)
  all_goals
    intro i hi hh
    omega
end Go.Proofs.Ytdffjojpnonanaa
