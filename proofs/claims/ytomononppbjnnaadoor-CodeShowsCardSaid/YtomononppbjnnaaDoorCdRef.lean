/-
  The reference's numerals.
-/
import Derived.Test.YtomononppbjnnaaDoorCdShow
import Derived.Laws.IdiomStrings
namespace Go.Proofs.YtomononppbjnnaaDoor
open Go.RowKit

theorem conv_up {w w1 : World} {a : Int} (y : UInt8) (u : Up (w.alloc (.cells #[.int .u8 a] 5)) w1) (h : a = y.toNat) : (convert 40 9 (.slice (some ⟨w.heap.size, 0, none⟩) 1 1)).run Tryd.prog w1 = .ok (.string (bsv [y])) w1 := by
  subst h
  refine run_convert_bytes_back w1 40 9 5 ⟨w.heap.size, 0, none⟩ 1 [y] Tryd.underlying40 Tryd.underlying5 Tryd.underlying9 (fun j hj => ?_)
  obtain rfl : j = 0 := by simp at hj; omega
  have hh : w1.heap[w.heap.size]? = some (.cells #[.int .u8 y.toNat] 5) := (u.block _ (by simp) (fun h => h)).trans (heap_alloc_new _ _)
  rw [Go.WideShapes.add_plain, cell_of_row _ _ _ _ _ _ hh]
  rfl
theorem undrew {a b : World} (h : Up a.drew b) : Up a b := ⟨h.os, h.tape, h.output, h.size, h.block⟩
theorem u8_of {m : Nat} (h : m < 10) : (48 + (m : Int)) = (UInt8.ofNat (48 + m)).toNat := by
  rw [UInt8.toNat_ofNat']
  have : (48 + m) % 2 ^ 8 = 48 + m := Nat.mod_eq_of_lt (by omega)
  rw [this]; omega
theorem dig_one {m : Nat} (h : m < 10) : bsv [UInt8.ofNat (48 + m)] = bsv (Lib.decDigits m) := by rw [Lib.decDigits, dif_pos h]

set_option maxHeartbeats 1000000 in
theorem below_one (m : Nat) (hm : m < 10) (w : World) :
    Calls Tryd.prog 28 #[.int .i64 (-(m : Int))] w fun e w' => e = .returned (.string (bsv (Lib.decDigits m))) ∧ Up w w' := by
  have h1 : decide (-(m : Int) > -10) = true := by simp; omega
  have h1' : (m : Int) < 10 := by omega
  have h2 : IntKind.i64.wrap (48 - -(m : Int)) = ((48 + m : Nat) : Int) := by rw [IntWalk.i64_in _ (by omega)]; omega
  have c1 := conv_up (w1 := w.alloc (.cells #[.int .u8 (48 + (m : Int))] 5)) (UInt8.ofNat (48 + m)) (Fr.refl _ _) (u8_of hm)
  rw [dig_one hm] at c1
  clear hm
  go_enter Tryd.func28, Tryd.ntmps28
  go_wp2_with fail
  go_ret
  exact ⟨rfl, (Fr.refl _ _).alloc _⟩

theorem dig_more {m : Nat} (h : ¬ m < 10) : Lib.decDigits m = Lib.decDigits (m / 10) ++ [UInt8.ofNat (48 + m % 10)] := by rw [Lib.decDigits, dif_neg h]
set_option maxHeartbeats 4000000 in
theorem below_step (m : Nat) (h10 : ¬ m < 10) (hm : m ≤ 9223372036854775808) (ih : ∀ w, Calls Tryd.prog 28 #[.int .i64 (-((m / 10 : Nat) : Int))] w fun e w' => e = .returned (.string (bsv (Lib.decDigits (m / 10)))) ∧ Up w w') (w : World) :
    Calls Tryd.prog 28 #[.int .i64 (-(m : Int))] w fun e w' => e = .returned (.string (bsv (Lib.decDigits m))) ∧ Up w w' := by
  have IH := Lib.hid ih
  clear ih
  have hlen : (Lib.decDigits (m / 10)).length ≤ 19 := decDigits_le 18 _ (by omega)
  have E := Lib.hid (dig_more h10)
  have h1 : decide (-(m : Int) > -10) = false := by simp; omega
  have h1' : ¬ (m : Int) < 10 := by omega
  have h2 : (-(m : Int)).tdiv 10 = -((m / 10 : Nat) : Int) := by rw [Int.neg_tdiv, show (10 : Int) = ((10 : Nat) : Int) from rfl, ← Int.ofNat_tdiv]
  have h3 : (-(m : Int)).tmod 10 = -((m % 10 : Nat) : Int) := by rw [Int.neg_tmod, show (10 : Int) = ((10 : Nat) : Int) from rfl, ← Int.ofNat_tmod]
  obtain ⟨q, hq⟩ : ∃ q, q = m / 10 := ⟨_, rfl⟩
  obtain ⟨r, hr⟩ : ∃ r, r = m % 10 := ⟨_, rfl⟩
  have hr10 : r < 10 := by omega
  have w1 : IntKind.i64.wrap (-(q : Int)) = -(q : Int) := IntWalk.i64_in _ (by omega)
  have w2 : IntKind.i64.wrap (-(r : Int)) = -(r : Int) := IntWalk.i64_in _ (by omega)
  have w3 : IntKind.i64.wrap (48 - -(r : Int)) = 48 + (r : Int) := by rw [IntWalk.i64_in _ (by omega)]; omega
  have w3' : IntKind.i64.wrap (48 + (r : Int)) = 48 + (r : Int) := IntWalk.i64_in _ (by omega)
  have w4 : IntKind.u8.wrap (48 + (r : Int)) = 48 + (r : Int) := by simp [IntKind.wrap, IntKind.bits, IntKind.signed]; omega
  have HC := Lib.hid (u8_of hr10)
  rw [← hq] at IH hlen E h2
  rw [← hr] at E h3
  obtain ⟨y, hy⟩ : ∃ y, y = UInt8.ofNat (48 + r) := ⟨_, rfl⟩
  rw [← hy] at HC E
  clear hy
  have z1 : ¬ 9223372036854775807 < (bsv (Lib.decDigits q)).size + (bsv [y]).size := by rw [bsv_size, bsv_size, List.length_singleton]; omega
  have y1 := bsv_append (Lib.decDigits q) [y]
  clear hlen hq hr hr10 hm h10
  go_enter Tryd.func28, Tryd.ntmps28
  go_wp2_with fail
  refine wp_region_held_drew (S := fun W => Up w W) (by kernel_rfl) (by exact (Fr.refl _ _).drew) (fun hHeld => ?_)
  refine held_take (i := 0) (d := some 10) (v := ?_) rfl rfl (by kernel_rfl) (by kernel_rfl) (by kernel_rfl) (fun _ _ _ h => h) (by rfl) ?_ (by assumption) ?_
  rotate_left 1
  focus (intro w hSw; (try dsimp only at hSw); go_simp; first | done | with_reducible rfl)
  simp only [Act.put, List.setIfInBounds_toArray, List.set_cons_zero, List.set_cons_succ]
  refine held_take (i := 1) (d := some 11) (v := ?_) rfl rfl (by kernel_rfl) (by kernel_rfl) (by kernel_rfl) (fun _ _ _ h => h) (by rfl) ?_ (by assumption) ?_
  rotate_left 1
  focus (intro w hSw; (try dsimp only at hSw); go_simp; first | done | with_reducible rfl)
  simp only [Act.put, List.setIfInBounds_toArray, List.set_cons_zero, List.set_cons_succ]
  refine held_take (i := 3) (d := some 13) (v := ?_) rfl rfl (by kernel_rfl) (by kernel_rfl) (by kernel_rfl) (fun _ _ _ h => h) (by rfl) ?_ (by assumption) ?_
  rotate_left 1
  focus (intro w hSw; (try dsimp only at hSw); go_simp; first | done | with_reducible rfl)
  simp only [Act.put, List.setIfInBounds_toArray, List.set_cons_zero, List.set_cons_succ]
  refine held_take (i := 4) (d := some 14) (v := ?_) rfl rfl (by kernel_rfl) (by kernel_rfl) (by kernel_rfl) (fun _ _ _ h => h) (by rfl) ?_ (by assumption) ?_
  rotate_left 1
  focus (intro w hSw; (try dsimp only at hSw); go_simp; first | done | with_reducible rfl)
  simp only [Act.put, List.setIfInBounds_toArray, List.set_cons_zero, List.set_cons_succ]
  refine held_take (i := 5) (d := some 15) (v := ?_) rfl rfl (by kernel_rfl) (by kernel_rfl) (by kernel_rfl) (fun _ _ _ h => h) (by rfl) ?_ (by assumption) ?_
  rotate_left 1
  focus (intro w hSw; (try dsimp only at hSw); go_simp; first | done | with_reducible rfl)
  simp only [Act.put, List.setIfInBounds_toArray, List.set_cons_zero, List.set_cons_succ]
  refine held_take (i := 6) (d := some 16) (v := ?_) rfl rfl (by kernel_rfl) (by kernel_rfl) (by kernel_rfl) (fun _ _ _ h => h) (by rfl) ?_ (by assumption) ?_
  rotate_left 1
  focus (intro w hSw; (try dsimp only at hSw); go_simp; first | done | with_reducible rfl)
  simp only [Act.put, List.setIfInBounds_toArray, List.set_cons_zero, List.set_cons_succ]
  refine wpAnyH_ready (rs := [2, 7]) (by kernel_rfl) (by simp) ?_
  refine (AllReadyH.cons (o := _) rfl (fun K hK => ?_) (AllReadyH.cons (o := _) rfl (fun K hK => ?_) AllReadyH.nil))
  · go_simp
    refine (IH.out _).mono ?_
    rintro e w1 ⟨rfl, v1⟩
    go_simp
    refine hK.out _ _ (by exact up_trans hHeld v1) (fun hHeld => ?_)
    clear hK K
    refine wpAnyH_ready (rs := [7]) (by kernel_rfl) (by simp) ?_
    refine (AllReadyH.cons (o := _) rfl (fun K hK => ?_) AllReadyH.nil)
    go_simp
    refine hK.out _ _ (by exact hHeld.alloc _) (fun hHeld => ?_)
    clear hK K
    refine wpAnyH_ready (rs := [8]) (by kernel_rfl) (by simp) ?_
    refine (AllReadyH.cons (o := _) rfl (fun K hK => ?_) AllReadyH.nil)
    go_simp
    first | rw [conv_up y (Fr.refl _ _) HC.out] | rw [conv_up y v1 HC.out] | rw [conv_up y (undrew v1) HC.out] | rw [conv_up y (undrew (Fr.refl _ _)) HC.out] | rw [conv_up y (Fr.refl _ _).drew HC.out]
    simp only [Result.andThen]
    rw [Oper.upon_value]
    go_simp
    refine hK.out _ _ (by exact hHeld) (fun hHeld => ?_)
    clear hK K
    refine held_take (i := 9) (d := some 19) (v := ?_) rfl rfl (by kernel_rfl) (by kernel_rfl) (by kernel_rfl) (fun _ _ _ h => h) (by rfl) ?_ (by assumption) ?_
    rotate_left 1
    focus (intro w hSw; (try dsimp only at hSw); go_simp; first | done | with_reducible rfl)
    simp only [Act.put, List.setIfInBounds_toArray, List.set_cons_zero, List.set_cons_succ]
    refine held_take (i := 10) (d := some 2) (v := ?_) rfl rfl (by kernel_rfl) (by kernel_rfl) (by kernel_rfl) (fun _ _ _ h => h) (by rfl) ?_ (by assumption) ?_
    rotate_left 1
    focus (intro w hSw; (try dsimp only at hSw); go_simp; first | done | with_reducible rfl)
    simp only [Act.put, List.setIfInBounds_toArray, List.set_cons_zero, List.set_cons_succ]
    refine wpAnyH_done (by kernel_rfl) ?_ _
    go_wp2_with fail
    go_ret
    exact ⟨by rw [E.out]; rfl, hHeld⟩
  · go_simp
    refine hK.out _ _ (by exact hHeld.alloc _) (fun hHeld => ?_)
    clear hK K
    refine wpAnyH_ready (rs := [2, 8]) (by kernel_rfl) (by simp) ?_
    refine (AllReadyH.cons (o := _) rfl (fun K hK => ?_) (AllReadyH.cons (o := _) rfl (fun K hK => ?_) AllReadyH.nil))
    · go_simp
      refine (IH.out _).mono ?_
      rintro e w1 ⟨rfl, v1⟩
      go_simp
      refine hK.out _ _ (by exact up_trans hHeld v1) (fun hHeld => ?_)
      clear hK K
      refine wpAnyH_ready (rs := [8]) (by kernel_rfl) (by simp) ?_
      refine (AllReadyH.cons (o := _) rfl (fun K hK => ?_) AllReadyH.nil)
      go_simp
      first | rw [conv_up y (Fr.refl _ _) HC.out] | rw [conv_up y v1 HC.out] | rw [conv_up y (undrew v1) HC.out] | rw [conv_up y (undrew (Fr.refl _ _)) HC.out] | rw [conv_up y (Fr.refl _ _).drew HC.out]
      simp only [Result.andThen]
      rw [Oper.upon_value]
      go_simp
      refine hK.out _ _ (by exact hHeld) (fun hHeld => ?_)
      clear hK K
      refine held_take (i := 9) (d := some 19) (v := ?_) rfl rfl (by kernel_rfl) (by kernel_rfl) (by kernel_rfl) (fun _ _ _ h => h) (by rfl) ?_ (by assumption) ?_
      rotate_left 1
      focus (intro w hSw; (try dsimp only at hSw); go_simp; first | done | with_reducible rfl)
      simp only [Act.put, List.setIfInBounds_toArray, List.set_cons_zero, List.set_cons_succ]
      refine held_take (i := 10) (d := some 2) (v := ?_) rfl rfl (by kernel_rfl) (by kernel_rfl) (by kernel_rfl) (fun _ _ _ h => h) (by rfl) ?_ (by assumption) ?_
      rotate_left 1
      focus (intro w hSw; (try dsimp only at hSw); go_simp; first | done | with_reducible rfl)
      simp only [Act.put, List.setIfInBounds_toArray, List.set_cons_zero, List.set_cons_succ]
      refine wpAnyH_done (by kernel_rfl) ?_ _
      go_wp2_with fail
      go_ret
      exact ⟨by rw [E.out]; rfl, hHeld⟩
    · go_simp
      first | rw [conv_up y (Fr.refl _ _) HC.out] | rw [conv_up y v1 HC.out] | rw [conv_up y (undrew v1) HC.out] | rw [conv_up y (undrew (Fr.refl _ _)) HC.out] | rw [conv_up y (Fr.refl _ _).drew HC.out]
      simp only [Result.andThen]
      rw [Oper.upon_value]
      go_simp
      refine hK.out _ _ (by exact hHeld) (fun hHeld => ?_)
      clear hK K
      refine wpAnyH_ready (rs := [2]) (by kernel_rfl) (by simp) ?_
      refine (AllReadyH.cons (o := _) rfl (fun K hK => ?_) AllReadyH.nil)
      go_simp
      refine (IH.out _).mono ?_
      rintro e w1 ⟨rfl, v1⟩
      go_simp
      refine hK.out _ _ (by exact up_trans hHeld v1) (fun hHeld => ?_)
      clear hK K
      refine held_take (i := 9) (d := some 19) (v := ?_) rfl rfl (by kernel_rfl) (by kernel_rfl) (by kernel_rfl) (fun _ _ _ h => h) (by rfl) ?_ (by assumption) ?_
      rotate_left 1
      focus (intro w hSw; (try dsimp only at hSw); go_simp; first | done | with_reducible rfl)
      simp only [Act.put, List.setIfInBounds_toArray, List.set_cons_zero, List.set_cons_succ]
      refine held_take (i := 10) (d := some 2) (v := ?_) rfl rfl (by kernel_rfl) (by kernel_rfl) (by kernel_rfl) (fun _ _ _ h => h) (by rfl) ?_ (by assumption) ?_
      rotate_left 1
      focus (intro w hSw; (try dsimp only at hSw); go_simp; first | done | with_reducible rfl)
      simp only [Act.put, List.setIfInBounds_toArray, List.set_cons_zero, List.set_cons_succ]
      refine wpAnyH_done (by kernel_rfl) ?_ _
      go_wp2_with fail
      go_ret
      exact ⟨by rw [E.out]; rfl, hHeld⟩
theorem below_any : ∀ (k m : Nat), m < k → m ≤ 9223372036854775808 → ∀ w, Calls Tryd.prog 28 #[.int .i64 (-(m : Int))] w fun e w' => e = .returned (.string (bsv (Lib.decDigits m))) ∧ Up w w'
  | 0, m, hk, _, w => absurd hk (Nat.not_lt_zero _)
  | k + 1, m, hk, hm, w => by
    by_cases h10 : m < 10
    · exact below_one m h10 w
    · exact below_step m h10 hm (fun w => below_any k (m / 10) (by omega) (by omega) w) w
end Go.Proofs.YtomononppbjnnaaDoor
