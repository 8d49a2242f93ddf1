/-
  CodeNames: its walk.
-/
import Derived.Test.YtomononppbjnnaaDoorCdShow
import Derived.Test.YtomononppbjnnaaDoorCdK
import Derived.Test.YtomononppbjnnaaDoorPickT
namespace Go.Proofs.YtomononppbjnnaaDoor
open Go.RowKit

theorem code1 {w : World} {op a b : Int} {t : TypeId} (h1 : i64 op) (h2 : i64 a) (h3 : i64 b) : CodeAt (w.alloc (.cells #[.int .i64 op, .int .i64 a, .int .i64 b] t)) (some ⟨w.heap.size, 0, none⟩) [⟨op, a, b⟩] :=
  ⟨fun k x hx => by
    cases k with
    | zero =>
      simp only [List.getElem?_cons_zero, Option.some.injEq] at hx
      subst hx
      obtain ⟨c0, c1, c2⟩ := cells3 (Fr.refl _ (w.alloc (.cells #[.int .i64 op, .int .i64 a, .int .i64 b] t)))
      exact ⟨h1, h2, h3, _, _, rfl, by simp, c0, c1, c2⟩
    | succ k => simp at hx⟩
theorem names_inj : ∀ a b : Fin 41, (nameOf (1 + (a.1 : Int)) = nameOf (1 + (b.1 : Int)) → a = b) ∧ nameOf (1 + (a.1 : Int)) ≠ [] := by decide +kernel

theorem name_ne {j : Nat} (h : j < 41) : nameOf (1 + (j : Int)) ≠ [] := (names_inj ⟨j, h⟩ ⟨j, h⟩).2
theorem itoa0 : Lib.itoa 0 = [48] := by unfold Lib.itoa; rw [if_neg (by decide)]; rw [Lib.decDigits, dif_pos (by decide)]; rfl
theorem line1 {j : Nat} (h : j < 41) : ∃ R, R ≠ [] ∧ showUpto [⟨1 + (j : Int), 0, 0⟩] 1 = [48, 32] ++ nameOf (1 + (j : Int)) ++ R := by
  refine ⟨argsOf (1 + (j : Int)) 0 0 ++ [10], by simp, ?_⟩
  have : shownOf (1 + (j : Int)) = nameOf (1 + (j : Int)) := by unfold shownOf; rw [if_neg (name_ne h)]
  simp only [showUpto, List.getElem?_cons_zero, List.nil_append]
  simp only [lineOf, headOf, this, Int.ofNat_zero, itoa0]
  simp
structure NF (x y s : ByteArray) (j i : Nat) : Prop where
  ne1 : x.toList.isEmpty = false
  ne2 : (x.toList == (⟨#[]⟩ : ByteArray).toList) = false
  eq : (x.toList == y.toList) = decide (j = i)
  gt : x.size + 2 < s.size
  le : x.size ≤ 1000
  ext : s.extract 0 (x.size + 2) = (⟨#[48, 32]⟩ : ByteArray) ++ x
theorem nf {j i : Nat} (hj : j < 41) (hi : i < 41) : NF (bsv (nameOf (1 + (j : Int)))) (bsv (nameOf (1 + (i : Int)))) (bsv (showUpto [⟨1 + (j : Int), 0, 0⟩] 1)) j i := by
  have hn := name_ne hj
  obtain ⟨R, hR, hl⟩ := line1 hj
  have hR' : 0 < R.length := by cases R with | nil => exact absurd rfl hR | cons => simp
  refine ⟨?_, ?_, ?_, ?_, ?_, ?_⟩
  · rw [bytesList]
    cases hx : (bsv (nameOf (1 + (j : Int)))).data.toList with
    | nil => exact absurd hx hn
    | cons => rfl
  · rw [beq_eq_false_iff_ne, bytesList, bytesList]; exact hn
  · rw [bytesList, bytesList]
    show (nameOf (1 + (j : Int)) == nameOf (1 + (i : Int))) = _
    by_cases h : j = i
    · subst h; simp
    · rw [decide_eq_false h, beq_eq_false_iff_ne]
      intro e
      have := (names_inj ⟨j, hj⟩ ⟨i, hi⟩).1 e
      simp at this
      exact h this
  · rw [bsv_size, bsv_size, hl]; simp; omega
  · rw [bsv_size]; have := nameOf_le (1 + (j : Int)); omega
  · apply ByteArray.ext
    apply Array.toList_inj.1
    rw [Lib.extract_data, bsv_size]
    show ((showUpto [⟨1 + (j : Int), 0, 0⟩] 1).drop 0).take _ = _
    rw [hl]
    simp [bsv]

set_option maxRecDepth 20000 in
set_option maxHeartbeats 4000000 in
theorem codenames_any (a b : Int) (w : World) (t : Tab w) :
    Calls Tryd.prog 6 #[.int .i64 a, .int .i64 b] w fun e w' => e = .returned (.bool true) ∧ Up w w' := by
  have T := Lib.hid t
  clear t
  go_enter Tryd.func6, Tryd.ntmps6
  go_wp2_with fail
  refine (pick_any _ 41 _ (by decide) (by decide)).mono ?_
  rintro e w' ⟨rfl, rfl⟩
  obtain ⟨j, hj⟩ : ∃ z : Int, z = a % 41 := ⟨_, rfl⟩
  have j0 : 0 ≤ j ∧ j < 41 := by omega
  rw [← hj]
  clear hj
  obtain ⟨j, rfl⟩ : ∃ n : Nat, j = n := ⟨j.toNat, by omega⟩
  have j1 : j < 41 := by omega
  have e1 : IntKind.i64.wrap (1 + (j : Int)) = 1 + (j : Int) := IntWalk.i64_in _ (by omega)
  clear j0
  go_wp2_with fail
  refine (pick_any _ 41 _ (by decide) (by decide)).mono ?_
  rintro e w' ⟨rfl, rfl⟩
  obtain ⟨i, hi⟩ : ∃ z : Int, z = b % 41 := ⟨_, rfl⟩
  have i0 : 0 ≤ i ∧ i < 41 := by omega
  rw [← hi]
  clear hi
  obtain ⟨i, rfl⟩ : ∃ n : Nat, i = n := ⟨i.toNat, by omega⟩
  have i1 : i < 41 := by omega
  have e2 : IntKind.i64.wrap (1 + (i : Int)) = 1 + (i : Int) := IntWalk.i64_in _ (by omega)
  clear i0
  go_wp2_with fail
  refine (name_any _ _).mono ?_
  rintro e w' ⟨rfl, rfl⟩
  have F := nf j1 i1
  have HF := Lib.hid F
  clear F
  go_wp2_with fail
  refine (show_any (l := [⟨1 + (j : Int), 0, 0⟩]) (code1 ⟨by omega, by omega⟩ ⟨by decide, by decide⟩ ⟨by decide, by decide⟩) (by simp) (by simp) (T.out.kept ((Fr.refl _ _).alloc _))).mono ?_
  rintro e w1 ⟨rfl, v1⟩
  have V1 := Lib.hid v1
  clear v1
  simp only [List.length_singleton]
  obtain ⟨x, hx⟩ : ∃ x, x = bsv (nameOf (1 + (j : Int))) := ⟨_, rfl⟩
  obtain ⟨s, hs⟩ : ∃ s, s = bsv (showUpto [⟨1 + (j : Int), 0, 0⟩] 1) := ⟨_, rfl⟩
  have NFx : NF x (bsv (nameOf (1 + (i : Int)))) s j i := by rw [hx, hs]; exact HF.out
  have HN := Lib.hid NFx
  simp only [← hx, ← hs]
  clear hx hs NFx HF
  go_wp2_with fail
  refine (known_any _).mono ?_
  rintro e w2 ⟨rfl, v2⟩
  have V2 := Lib.hid v2
  clear v2
  have f1 := HN.out.ne1
  have f2 := HN.out.ne2
  go_wp2_with fail
  refine (name_any _ _).mono ?_
  rintro e w' ⟨rfl, rfl⟩
  obtain ⟨y, hy⟩ : ∃ y, y = bsv (nameOf (1 + (i : Int))) := ⟨_, rfl⟩
  have NFy : NF x y s j i := by rw [hy]; exact HN.out
  simp only [← hy]
  obtain ⟨n1, n2, n3, n4, n5, n6⟩ := NFy
  clear hy
  have g1 : IntKind.i64.wrap ((x.size : Int) + 2) = ((x.size + 2 : Nat) : Int) := by rw [IntWalk.i64_in _ (by omega)]; simp
  have g2 : ((s.size : Int) > ((x.size + 2 : Nat) : Int)) := by omega
  have g3 : decide ((s.size : Int) > ((x.size + 2 : Nat) : Int)) = true := by simpa using g2
  have g4 : 2 + x.size ≤ 9223372036854775807 := by omega
  have g5 : ¬ 9223372036854775807 < 2 + x.size := by omega
  by_cases h : j = i
  · have m1 : (x.toList == y.toList) = true := by rw [n3]; simpa using h
    have m2 : ((1 + (j : Int)) == (1 + (i : Int))) = true := by subst h; simp
    clear n3
    go_wp2_with fail
    go_ret
    exact ⟨rfl, up_trans (up_trans ((Fr.refl _ _).alloc _) V1.out) V2.out⟩
  · have m1 : (x.toList == y.toList) = false := by rw [n3]; simpa using h
    have m2 : ((1 + (j : Int)) == (1 + (i : Int))) = false := by rw [beq_eq_false_iff_ne]; omega
    clear n3
    go_wp2_with fail
    go_ret
    exact ⟨rfl, up_trans (up_trans ((Fr.refl _ _).alloc _) V1.out) V2.out⟩
end Go.Proofs.YtomononppbjnnaaDoor
