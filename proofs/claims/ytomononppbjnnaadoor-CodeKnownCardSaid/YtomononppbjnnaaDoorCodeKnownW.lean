/-
  CodeKnown: its walk.
-/
import Derived.Test.YtomononppbjnnaaDoorCdShow
import Derived.Test.YtomononppbjnnaaDoorCdK
namespace Go.Proofs.YtomononppbjnnaaDoor
open Go.RowKit

theorem code4 {w : World} {t : TypeId} : CodeAt (w.alloc (.cells #[.int .i64 1, .int .i64 3, .int .i64 9, .int .i64 36, .int .i64 1, .int .i64 2, .int .i64 99, .int .i64 1, .int .i64 0, .int .i64 41, .int .i64 0, .int .i64 0] t)) (some ⟨w.heap.size, 0, none⟩) [⟨1, 3, 9⟩, ⟨36, 1, 2⟩, ⟨99, 1, 0⟩, ⟨41, 0, 0⟩] := by
  have h := heap_alloc_new w (.cells #[.int .i64 1, .int .i64 3, .int .i64 9, .int .i64 36, .int .i64 1, .int .i64 2, .int .i64 99, .int .i64 1, .int .i64 0, .int .i64 41, .int .i64 0, .int .i64 0] t)
  have d : ∀ n : Int, 0 ≤ n → n ≤ 100 → i64 n := fun n h0 h1 => ⟨by omega, by omega⟩
  refine ⟨fun k x hx => ?_⟩
  match k, hx with
  | 0, hx => cases hx; exact ⟨d _ (by decide) (by decide), d _ (by decide) (by decide), d _ (by decide) (by decide), _, _, rfl, by simp, by rw [cell_of_row _ _ _ _ _ _ h]; rfl, by rw [cell_of_row _ _ _ _ _ _ h]; rfl, by rw [cell_of_row _ _ _ _ _ _ h]; rfl⟩
  | 1, hx => cases hx; exact ⟨d _ (by decide) (by decide), d _ (by decide) (by decide), d _ (by decide) (by decide), _, _, rfl, by simp, by rw [cell_of_row _ _ _ _ _ _ h]; rfl, by rw [cell_of_row _ _ _ _ _ _ h]; rfl, by rw [cell_of_row _ _ _ _ _ _ h]; rfl⟩
  | 2, hx => cases hx; exact ⟨d _ (by decide) (by decide), d _ (by decide) (by decide), d _ (by decide) (by decide), _, _, rfl, by simp, by rw [cell_of_row _ _ _ _ _ _ h]; rfl, by rw [cell_of_row _ _ _ _ _ _ h]; rfl, by rw [cell_of_row _ _ _ _ _ _ h]; rfl⟩
  | 3, hx => cases hx; exact ⟨d _ (by decide) (by decide), d _ (by decide) (by decide), d _ (by decide) (by decide), _, _, rfl, by simp, by rw [cell_of_row _ _ _ _ _ _ h]; rfl, by rw [cell_of_row _ _ _ _ _ _ h]; rfl, by rw [cell_of_row _ _ _ _ _ _ h]; rfl⟩
theorem itoa_small : ∀ n : Fin 10, Lib.itoa n.1 = [UInt8.ofNat (48 + n.1)] := fun n => by
  unfold Lib.itoa; rw [if_neg (by omega)]; rw [Lib.decDigits, dif_pos (by omega)]; congr 2
theorem itoa99 : Lib.itoa 99 = [57, 57] := by
  unfold Lib.itoa; rw [if_neg (by decide)]; rw [Lib.decDigits, dif_neg (by decide), Lib.decDigits, dif_pos (by decide)]; rfl
def knownText : List UInt8 := [48, 32, 78, 117, 109, 32, 51, 10, 49, 32, 67, 97, 108, 108, 32, 49, 32, 50, 10, 50, 32, 111, 112, 57, 57, 10, 51, 32, 82, 101, 116, 32, 48, 10]
theorem show4 : bsv (showUpto [⟨1, 3, 9⟩, ⟨36, 1, 2⟩, ⟨99, 1, 0⟩, ⟨41, 0, 0⟩] 4) = bsv knownText := by
  have i0 : Lib.itoa 0 = [48] := itoa_small 0
  have i1 : Lib.itoa 1 = [49] := itoa_small 1
  have i2 : Lib.itoa 2 = [50] := itoa_small 2
  have i3 : Lib.itoa 3 = [51] := itoa_small 3
  have i9 := itoa99
  simp [showUpto, lineOf, headOf, shownOf, argsOf, i0, i1, i2, i3, i9, nameOf, nameA, nameJ, oneArg, twoArgs, bsv, knownText]
set_option maxRecDepth 20000 in
set_option maxHeartbeats 4000000 in
theorem codeknown_any (w : World) (t : Tab w) :
    Calls Tryd.prog 3 #[] w fun e w' => e = .returned (.bool true) ∧ Up w w' := by
  have T := Lib.hid t
  clear t
  go_enter Tryd.func3, Tryd.ntmps3
  go_wp2_with fail
  refine (show_any code4 (by simp) (by simp) (T.out.kept ((Fr.refl _ _).alloc _))).mono ?_
  rintro e w1 ⟨rfl, v1⟩
  have V1 := Lib.hid v1
  clear v1
  simp only [List.length_cons, List.length_nil, Nat.reduceAdd, show4]
  go_wp2_with fail
  refine (known_any _).mono ?_
  rintro e w2 ⟨rfl, v2⟩
  have V2 := Lib.hid v2
  clear v2
  have k1 : ((bsv knownText).toList == [48, 32, 78, 117, 109, 32, 51, 10, 49, 32, 67, 97, 108, 108, 32, 49, 32, 50, 10, 50, 32, 111, 112, 57, 57, 10, 51, 32, 82, 101, 116, 32, 48, 10]) = true := by
    rw [bytesList]; decide
  obtain ⟨x, hx⟩ : ∃ x, x = bsv knownText := ⟨_, rfl⟩
  rw [← hx] at k1
  simp only [← hx]
  clear hx
  go_wp2_with fail
  refine (name_any 20 _).mono ?_
  rintro e w' ⟨rfl, rfl⟩
  rw [show bsv (nameOf 20) = ⟨#[71, 101]⟩ from rfl]
  go_wp2_with fail
  refine (name_any 0 _).mono ?_
  rintro e w' ⟨rfl, rfl⟩
  rw [show bsv (nameOf 0) = ⟨#[]⟩ from rfl]
  go_wp2_with fail
  refine (name_any 42 _).mono ?_
  rintro e w' ⟨rfl, rfl⟩
  rw [show bsv (nameOf 42) = ⟨#[]⟩ from rfl]
  go_wp2_with fail
  refine (leaves_any 39 _).mono ?_
  rintro e w' ⟨rfl, rfl⟩
  rw [show leavesOf 39 = true from rfl]
  go_wp2_with fail
  refine (leaves_any 30 _).mono ?_
  rintro e w' ⟨rfl, rfl⟩
  rw [show leavesOf 30 = false from rfl]
  go_wp2_with fail
  refine (targets_any 41 0 0 3 _).mono ?_
  rintro e w3 ⟨v3, A, rfl, n3⟩
  have V3 := Lib.hid v3
  clear v3 n3
  simp only [sl3, show targetsOf 41 0 3 = [] from rfl, List.length_nil]
  go_wp2_with fail
  go_ret
  exact ⟨rfl, up_trans (up_trans (up_trans ((Fr.refl _ _).alloc _) V1.out) V2.out) V3.out⟩
end Go.Proofs.YtomononppbjnnaaDoor
