/-
  Lines of code: what package code tells of an instruction.
-/
import Derived.Test.YtomononppbjnnaaDoorCdL
import Derived.Test.YtomononppbjnnaaDoorShelf
import Derived.Test.YtomononppbjnnaaDoorHeld
import Derived.BigQuiet
import Derived.Lib.AppendIntMem
namespace Go.Proofs.YtomononppbjnnaaDoor
open Go.RowKit

theorem bytesList (b : ByteArray) : b.toList = b.data.toList := by first | rfl | exact ByteArray.toList_eq b | simp
theorem bsv_size (l : List UInt8) : (bsv l).size = l.length := rfl
theorem bsv_append (a b : List UInt8) : bsv a ++ bsv b = bsv (a ++ b) := by
  apply ByteArray.ext
  simp [bsv]
theorem cells3 {w w1 : World} {x y z : Value} {t : TypeId} (u : Up (w.alloc (.cells #[x, y, z] t)) w1) : w1.cell? ⟨w.heap.size, 0, none⟩ = some x ∧ w1.cell? ⟨w.heap.size, 1, none⟩ = some y ∧ w1.cell? ⟨w.heap.size, 2, none⟩ = some z := by
  have h : w1.heap[w.heap.size]? = some (.cells #[x, y, z] t) := (u.block _ (by simp) (fun h => h)).trans (heap_alloc_new _ _)
  exact ⟨by rw [cell_of_row _ _ _ _ _ _ h]; rfl, by rw [cell_of_row _ _ _ _ _ _ h]; rfl, by rw [cell_of_row _ _ _ _ _ _ h]; rfl⟩
theorem up_trans {a b c : World} (h : Up a b) (k : Up b c) : Up a c := h.trans k (fun _ _ h => h)

/-- The library's table, as laid. -/
structure Tab (w : World) : Prop where
  h : Lib.TabIs Tryd.prog w "internal/strconv.uint64pow10" .u64 Lib.pow10Tab
theorem Tab.kept {w w' : World} (h : Tab w) (k : Up w w') : Tab w' :=
  ⟨Lib.tabBelow_of_tabIs h.h w' (k.below (Nat.le_refl _) (fun _ _ h => h))⟩

theorem decDigits_le : ∀ (k u : Nat), u < 10 ^ (k + 1) → (Lib.decDigits u).length ≤ k + 1
  | 0, u, h => by
    rw [Lib.decDigits, dif_pos (by omega)]
    exact Nat.le_refl 1
  | k + 1, u, h => by
    rw [Lib.decDigits]
    split
    · simp
    · have := decDigits_le k (u / 10) (by rw [Nat.div_lt_iff_lt_mul (by decide)]; rw [Nat.pow_succ] at h; exact h)
      simp
      omega
theorem itoa_le {n : Int} (h0 : -9223372036854775808 ≤ n) (h1 : n ≤ 9223372036854775807) : (Lib.itoa n).length ≤ 20 := by
  unfold Lib.itoa
  split
  · have := decDigits_le 18 n.natAbs (by omega)
    simp; omega
  · have := decDigits_le 18 n.toNat (by omega)
    omega
theorem itoa_any (n : Int) (h0 : -9223372036854775808 ≤ n) (h1 : n ≤ 9223372036854775807) (w : World) (t : Tab w) :
    Calls Tryd.prog 25 #[.int .i64 n] w fun e w' => e = .returned (.string (bsv (Lib.itoa n))) ∧ Up w w' := by
  refine (Tryd.strconv_Itoa n h0 h1 w t.h).mono ?_
  rintro e w' ⟨rfl, k, os, rfl⟩
  refine ⟨rfl, rfl, rfl, rfl, by simp [Go.Sort.grow], fun i hi _ => ?_⟩
  simp only [Go.Sort.grow]
  rw [Array.getElem?_append_left (by simpa using hi)]
  rfl

theorem nameOf_le (op : Int) : (nameOf op).length ≤ 8 := by
  by_cases h : op < 0 ∨ 42 ≤ op
  · rw [names_out op h]; simp
  · obtain ⟨j, rfl⟩ : ∃ j : Nat, op = j := ⟨op.toNat, by omega⟩
    have : ∀ j : Fin 42, (nameOf j.1).length ≤ 8 := by decide
    exact this ⟨j, by omega⟩
/-- The name that is shown. -/
def shownOf (op : Int) : List UInt8 := if nameOf op = [] then [111, 112] ++ Lib.itoa op else nameOf op
def oneArg (op : Int) : Bool := op == 1 || op == 2 || op == 3 || op == 4 || op == 5 || op == 6 || op == 26 || op == 27 || op == 28 || op == 29 || op == 34 || op == 35 || op == 38 || op == 39 || op == 41
def twoArgs (op : Int) : Bool := op == 36 || op == 37
def argsOf (op a b : Int) : List UInt8 := if oneArg op then 32 :: Lib.itoa a else if twoArgs op then 32 :: (Lib.itoa a ++ 32 :: Lib.itoa b) else []
def headOf (op pc : Int) : List UInt8 := Lib.itoa pc ++ [32] ++ shownOf op
def lineOf (op a b pc : Int) : List UInt8 := headOf op pc ++ argsOf op a b ++ [10]
def i64 (n : Int) : Prop := -9223372036854775808 ≤ n ∧ n ≤ 9223372036854775807
theorem shown_le {op : Int} (h : i64 op) : (shownOf op).length ≤ 22 := by
  unfold shownOf; split
  · have := itoa_le h.1 h.2; simp; omega
  · have := nameOf_le op; omega
theorem head_le {op pc : Int} (h : i64 op) (k : i64 pc) : (headOf op pc).length ≤ 43 := by
  have := shown_le h; have := itoa_le k.1 k.2; simp [headOf]; omega
theorem args_le {op a b : Int} (ha : i64 a) (hb : i64 b) : (argsOf op a b).length ≤ 42 := by
  have := itoa_le ha.1 ha.2; have := itoa_le hb.1 hb.2
  unfold argsOf; repeat' split
  all_goals (simp; try omega)
theorem line_le {op a b pc : Int} (h : i64 op) (ha : i64 a) (hb : i64 b) (k : i64 pc) : (lineOf op a b pc).length ≤ 86 := by
  have := head_le h k; have := args_le (op := op) ha hb; simp [lineOf]; omega

set_option maxHeartbeats 1000000 in
theorem shown_any (op : Int) (h : i64 op) (w : World) (t : Tab w) :
    Calls Tryd.prog 26 #[.int .i64 op] w fun e w' => e = .returned (.string (bsv (shownOf op))) ∧ Up w w' := by
  have hl := itoa_le h.1 h.2
  have T := Lib.hid t
  have HI := Lib.hid h
  clear t h
  go_enter Tryd.func26, Tryd.ntmps26
  go_wp2_with fail
  refine (name_any op w).mono ?_
  rintro e w' ⟨rfl, rfl⟩
  by_cases hn : nameOf op = []
  · have E : Hid (shownOf op = [111, 112] ++ Lib.itoa op) := Lib.hid (by unfold shownOf; rw [if_pos hn])
    rw [hn]
    have e0 : bsv [] = ⟨#[]⟩ := rfl
    have q1 : 2 + (bsv (Lib.itoa op)).size ≤ 9223372036854775807 := by rw [bsv_size]; omega
    have q2 := bsv_append [111, 112] (Lib.itoa op)
    simp only [e0]
    clear hn
    go_wp2_with fail
    refine (itoa_any op HI.out.1 HI.out.2 _ T.out).mono ?_
    rintro e w' ⟨rfl, u⟩
    go_wp2_with fail
    go_ret
    exact ⟨by rw [E.out, ← q2]; rfl, u⟩
  · have E : Hid (shownOf op = nameOf op) := Lib.hid (by unfold shownOf; rw [if_neg hn])
    have q1 : ((bsv (nameOf op)).toList == (⟨#[]⟩ : ByteArray).toList) = false := by
      rw [beq_eq_false_iff_ne]
      intro h
      rw [bytesList, bytesList] at h
      exact hn h
    have q2 : (bsv (nameOf op)).toList.isEmpty = false := by
      rw [bytesList]
      cases hx : (bsv (nameOf op)).data.toList with
      | nil => exact absurd hx hn
      | cons => rfl
    clear hn
    obtain ⟨nm, hnm⟩ : ∃ x, x = bsv (nameOf op) := ⟨_, rfl⟩
    rw [← hnm] at q1 q2
    simp only [← hnm]
    have HN := Lib.hid hnm
    clear hnm
    go_wp2_with fail
    go_ret
    exact ⟨by rw [E.out, ← HN.out]; rfl, Fr.refl _ _⟩

theorem nlt {a : Nat} (h : a ≤ 1000000) : ¬ 9223372036854775807 < a := by omega
set_option maxRecDepth 20000 in
set_option maxHeartbeats 4000000 in
theorem line_any (op a b pc : Int) (ho : i64 op) (ha : i64 a) (hb : i64 b) (hp : i64 pc) (w : World) (t : Tab w) :
    Calls Tryd.prog 20 #[.int .i64 pc, .agg #[.int .i64 op, .int .i64 a, .int .i64 b]] w fun e w' => e = .returned (.string (bsv (lineOf op a b pc))) ∧ Up w w' := by
  have lp := itoa_le hp.1 hp.2
  have ls := shown_le ho
  have HO := Lib.hid ho
  have HA := Lib.hid ha
  have HB := Lib.hid hb
  have HP := Lib.hid hp
  have T0 : Tab (w.alloc (.cells #[.int .i64 op, .int .i64 a, .int .i64 b] 24)) := t.kept ((Fr.refl _ _).alloc _)
  have T := Lib.hid T0
  have z1 : (bsv (Lib.itoa pc)).size + 1 ≤ 9223372036854775807 := by rw [bsv_size]; omega
  have z1' : ¬ 9223372036854775807 < (bsv (Lib.itoa pc)).size + 1 := by rw [bsv_size]; omega
  have y1 : bsv (Lib.itoa pc) ++ ⟨#[32]⟩ = bsv (Lib.itoa pc ++ [32]) := bsv_append _ [32]
  have z2 : ¬ 9223372036854775807 < (bsv (Lib.itoa pc ++ [32])).size + (bsv (shownOf op)).size := by rw [bsv_size, bsv_size, List.length_append, List.length_singleton]; omega
  have y2 : bsv (Lib.itoa pc ++ [32]) ++ bsv (shownOf op) = bsv (headOf op pc) := bsv_append _ _
  clear ho ha hb hp T0 t
  go_enter Tryd.func20, Tryd.ntmps20
  go_wp2_with fail
  refine wp_region_held_drew (S := fun W => Up (w.alloc (.cells #[.int .i64 op, .int .i64 a, .int .i64 b] 24)) W) (by kernel_rfl) (by exact (Fr.refl _ _).drew) (fun hHeld => ?_)
  refine held_take (i := 0) (d := some 6) (v := ?_) rfl rfl (by kernel_rfl) (by kernel_rfl) (by kernel_rfl) (fun _ _ _ h => h) (by rfl) ?_ (by assumption) ?_
  rotate_left 1
  focus (intro w hSw; (try dsimp only at hSw); go_simp; first | done | with_reducible rfl)
  simp only [Act.put, List.setIfInBounds_toArray, List.set_cons_zero, List.set_cons_succ]
  refine held_take (i := 3) (d := some 9) (v := ?_) rfl rfl (by kernel_rfl) (by kernel_rfl) (by kernel_rfl) (fun _ _ _ h => h) (by rfl) ?_ (by assumption) ?_
  rotate_left 1
  focus (intro w hSw; (try dsimp only at hSw); go_simp; first | done | with_reducible rfl)
  simp only [Act.put, List.setIfInBounds_toArray, List.set_cons_zero, List.set_cons_succ]
  refine held_take (i := 4) (d := some 10) (v := ?_) rfl rfl (by kernel_rfl) (by kernel_rfl) (by kernel_rfl) (fun _ _ _ h => h) (by rfl) ?_ (by assumption) ?_
  rotate_left 1
  focus (intro w hSw; obtain ⟨c0, c1, c2⟩ := cells3 hSw; (try dsimp only at hSw); go_simp; first | done | with_reducible rfl)
  simp only [Act.put, List.setIfInBounds_toArray, List.set_cons_zero, List.set_cons_succ]
  refine wpAnyH_ready (rs := [1]) (by kernel_rfl) (by simp) ?_
  refine AllReadyH.cons (o := _) rfl (fun K hK => ?_) AllReadyH.nil
  go_simp
  refine (itoa_any pc HP.out.1 HP.out.2 _ (T.out.kept hHeld)).mono ?_
  rintro e w1 ⟨rfl, u1⟩
  go_simp
  refine hK.out _ _ (by exact up_trans hHeld u1) (fun hHeld => ?_)
  clear hK K
  refine held_take (i := 2) (d := some 8) (v := ?_) rfl rfl (by kernel_rfl) (by kernel_rfl) (by kernel_rfl) (fun _ _ _ h => h) (by rfl) ?_ (by assumption) ?_
  rotate_left 1
  focus (intro w hSw; (try dsimp only at hSw); go_simp; first | done | with_reducible rfl)
  simp only [Act.put, List.setIfInBounds_toArray, List.set_cons_zero, List.set_cons_succ]
  refine wpAnyH_ready (rs := [5]) (by kernel_rfl) (by simp) ?_
  refine AllReadyH.cons (o := _) rfl (fun K hK => ?_) AllReadyH.nil
  go_simp
  refine (shown_any op HO.out _ (T.out.kept hHeld)).mono ?_
  rintro e w1 ⟨rfl, u1⟩
  go_simp
  refine hK.out _ _ (by exact up_trans hHeld u1) (fun hHeld => ?_)
  clear hK K
  refine held_take (i := 6) (d := some 12) (v := ?_) rfl rfl (by kernel_rfl) (by kernel_rfl) (by kernel_rfl) (fun _ _ _ h => h) (by rfl) ?_ (by assumption) ?_
  rotate_left 1
  focus (intro w hSw; (try dsimp only at hSw); go_simp; first | done | with_reducible rfl)
  simp only [Act.put, List.setIfInBounds_toArray, List.set_cons_zero, List.set_cons_succ]
  refine held_take (i := 7) (d := some 5) (v := ?_) rfl rfl (by kernel_rfl) (by kernel_rfl) (by kernel_rfl) (fun _ _ _ h => h) (by rfl) ?_ (by assumption) ?_
  rotate_left 1
  focus (intro w hSw; (try dsimp only at hSw); go_simp; first | done | with_reducible rfl)
  simp only [Act.put, List.setIfInBounds_toArray, List.set_cons_zero, List.set_cons_succ]
  refine wpAnyH_done (by kernel_rfl) ?_ _
  obtain ⟨c0, c1, c2⟩ := cells3 hHeld
  have UH := Lib.hid hHeld
  clear hHeld z1 z1' y1 z2 y2 lp ls u1
  have hh := head_le HO.out HP.out
  have la := itoa_le HA.out.1 HA.out.2
  have lb := itoa_le HB.out.1 HB.out.2
  have x1 : 1 + (bsv (Lib.itoa a)).size ≤ 9223372036854775807 := by rw [bsv_size]; omega
  have x1' : ¬ 9223372036854775807 < 1 + (bsv (Lib.itoa a)).size := by rw [bsv_size]; omega
  have y1 : ⟨#[32]⟩ ++ bsv (Lib.itoa a) = bsv (32 :: Lib.itoa a) := bsv_append [32] _
  have x2 : (bsv (headOf op pc)).size + (bsv (32 :: Lib.itoa a)).size ≤ 9223372036854775807 := by rw [bsv_size, bsv_size, List.length_cons]; omega
  have y2 : bsv (headOf op pc) ++ bsv (32 :: Lib.itoa a) = bsv (headOf op pc ++ 32 :: Lib.itoa a) := bsv_append _ _
  have x3 : (bsv (headOf op pc ++ 32 :: Lib.itoa a)).size + 1 ≤ 9223372036854775807 := by rw [bsv_size, List.length_append, List.length_cons]; omega
  have y3 : bsv (headOf op pc ++ 32 :: Lib.itoa a) ++ ⟨#[10]⟩ = bsv (headOf op pc ++ 32 :: Lib.itoa a ++ [10]) := bsv_append _ [10]
  have x4 : (bsv (headOf op pc)).size + 1 ≤ 9223372036854775807 := by rw [bsv_size]; omega
  have y4 : bsv (headOf op pc) ++ ⟨#[10]⟩ = bsv (headOf op pc ++ [10]) := bsv_append _ [10]
  have X5 := Lib.hid (And.intro hh (And.intro la lb))
  have one : oneArg op = true → lineOf op a b pc = headOf op pc ++ 32 :: (Lib.itoa a ++ [10]) := fun h => by
    rw [lineOf, argsOf, if_pos h]; simp
  have none_ : oneArg op = false → twoArgs op = false → lineOf op a b pc = headOf op pc ++ [10] := fun h k => by
    rw [lineOf, argsOf, if_neg (by rw [h]; decide), if_neg (by rw [k]; decide), List.append_nil]
  have two : oneArg op = false → twoArgs op = true → lineOf op a b pc = headOf op pc ++ (32 :: (Lib.itoa a ++ 32 :: Lib.itoa b)) ++ [10] := fun h k => by
    rw [lineOf, argsOf, if_neg (by rw [h]; decide), if_pos k]
  have One := Lib.hid one
  have None_ := Lib.hid none_
  have Two := Lib.hid two
  clear hh la lb one none_ two
  go_wp2_with fail
  all_goals first
    | (refine (itoa_any a HA.out.1 HA.out.2 _ (T.out.kept UH.out)).mono ?_
       rintro e w2 ⟨rfl, u2⟩
       go_wp2_with fail
       go_ret
       exact ⟨by rw [One.out (by simp_all [oneArg])]; rfl, up_trans (up_trans ((Fr.refl _ _).alloc _) UH.out) u2⟩)
    | (go_ret
       exact ⟨by rw [None_.out (by simp_all [oneArg]) (by simp_all [twoArgs])]; rfl, up_trans ((Fr.refl _ _).alloc _) UH.out⟩)
    | skip
  all_goals
    have E : lineOf op a b pc = headOf op pc ++ (32 :: (Lib.itoa a ++ 32 :: Lib.itoa b)) ++ [10] := Two.out (by simp_all [oneArg]) (by simp_all [twoArgs])
    have HE := Lib.hid E
    have ⟨e1, e2, e3⟩ := X5.out
    have z1 : ¬ 9223372036854775807 < (bsv (32 :: Lib.itoa a)).size + 1 := by rw [bsv_size, List.length_cons]; omega
    have w1_ : bsv (32 :: Lib.itoa a) ++ ⟨#[32]⟩ = bsv (32 :: (Lib.itoa a ++ [32])) := bsv_append _ [32]
    have z2 : ¬ 9223372036854775807 < (bsv (32 :: (Lib.itoa a ++ [32]))).size + (bsv (Lib.itoa b)).size := by rw [bsv_size, bsv_size, List.length_cons, List.length_append, List.length_singleton]; omega
    have w2_ : bsv (32 :: (Lib.itoa a ++ [32])) ++ bsv (Lib.itoa b) = bsv (32 :: (Lib.itoa a ++ 32 :: Lib.itoa b)) := by rw [bsv_append]; simp
    have z3 : ¬ 9223372036854775807 < (bsv (headOf op pc)).size + (bsv (32 :: (Lib.itoa a ++ 32 :: Lib.itoa b))).size := by rw [bsv_size, bsv_size, List.length_cons, List.length_append, List.length_cons]; omega
    have w3_ : bsv (headOf op pc) ++ bsv (32 :: (Lib.itoa a ++ 32 :: Lib.itoa b)) = bsv (headOf op pc ++ (32 :: (Lib.itoa a ++ 32 :: Lib.itoa b))) := bsv_append _ _
    have z4 : (bsv (headOf op pc ++ (32 :: (Lib.itoa a ++ 32 :: Lib.itoa b)))).size + 1 ≤ 9223372036854775807 := by rw [bsv_size, List.length_append, List.length_cons, List.length_append, List.length_cons]; omega
    have w4_ : bsv (headOf op pc ++ (32 :: (Lib.itoa a ++ 32 :: Lib.itoa b))) ++ ⟨#[10]⟩ = bsv (headOf op pc ++ (32 :: (Lib.itoa a ++ 32 :: Lib.itoa b)) ++ [10]) := bsv_append _ [10]
    clear E e1 e2 e3 x2 y2 x3 y3 x4 y4
    refine wp_region_held_drew (S := fun W => Up (w.alloc (.cells #[.int .i64 op, .int .i64 a, .int .i64 b] 24)) W) (by kernel_rfl) (by exact UH.out.drew) (fun hHeld => ?_)
    refine held_take (i := 0) (d := some 40) (v := ?_) rfl rfl (by kernel_rfl) (by kernel_rfl) (by kernel_rfl) (fun _ _ _ h => h) (by rfl) ?_ (by assumption) ?_
    rotate_left 1
    focus (intro w hSw; (try dsimp only at hSw); go_simp; first | done | with_reducible rfl)
    simp only [Act.put, List.setIfInBounds_toArray, List.set_cons_zero, List.set_cons_succ]
    refine held_take (i := 1) (d := some 41) (v := ?_) rfl rfl (by kernel_rfl) (by kernel_rfl) (by kernel_rfl) (fun _ _ _ h => h) (by rfl) ?_ (by assumption) ?_
    rotate_left 1
    focus (intro w hSw; (try dsimp only at hSw); go_simp; first | done | with_reducible rfl)
    simp only [Act.put, List.setIfInBounds_toArray, List.set_cons_zero, List.set_cons_succ]
    refine held_take (i := 2) (d := some 42) (v := ?_) rfl rfl (by kernel_rfl) (by kernel_rfl) (by kernel_rfl) (fun _ _ _ h => h) (by rfl) ?_ (by assumption) ?_
    rotate_left 1
    focus (intro w hSw; obtain ⟨c0, c1, c2⟩ := cells3 hSw; (try dsimp only at hSw); go_simp; first | done | with_reducible rfl)
    simp only [Act.put, List.setIfInBounds_toArray, List.set_cons_zero, List.set_cons_succ]
    refine held_take (i := 6) (d := some 46) (v := ?_) rfl rfl (by kernel_rfl) (by kernel_rfl) (by kernel_rfl) (fun _ _ _ h => h) (by rfl) ?_ (by assumption) ?_
    rotate_left 1
    focus (intro w hSw; (try dsimp only at hSw); go_simp; first | done | with_reducible rfl)
    simp only [Act.put, List.setIfInBounds_toArray, List.set_cons_zero, List.set_cons_succ]
    refine held_take (i := 7) (d := some 47) (v := ?_) rfl rfl (by kernel_rfl) (by kernel_rfl) (by kernel_rfl) (fun _ _ _ h => h) (by rfl) ?_ (by assumption) ?_
    rotate_left 1
    focus (intro w hSw; obtain ⟨c0, c1, c2⟩ := cells3 hSw; (try dsimp only at hSw); go_simp; first | done | with_reducible rfl)
    simp only [Act.put, List.setIfInBounds_toArray, List.set_cons_zero, List.set_cons_succ]
    refine wpAnyH_ready (rs := [3]) (by kernel_rfl) (by simp) ?_
    refine AllReadyH.cons (o := _) rfl (fun K hK => ?_) AllReadyH.nil
    go_simp
    refine (itoa_any a HA.out.1 HA.out.2 _ (T.out.kept hHeld)).mono ?_
    rintro e w1 ⟨rfl, u1⟩
    go_simp
    refine hK.out _ _ (by exact up_trans hHeld u1) (fun hHeld => ?_)
    clear hK K
    refine held_take (i := 4) (d := some 44) (v := ?_) rfl rfl (by kernel_rfl) (by kernel_rfl) (by kernel_rfl) (fun _ _ _ h => h) (by rfl) ?_ (by assumption) ?_
    rotate_left 1
    focus (intro w hSw; (try dsimp only at hSw); go_simp; first | done | with_reducible rfl)
    simp only [Act.put, List.setIfInBounds_toArray, List.set_cons_zero, List.set_cons_succ]
    refine held_take (i := 5) (d := some 45) (v := ?_) rfl rfl (by kernel_rfl) (by kernel_rfl) (by kernel_rfl) (fun _ _ _ h => h) (by rfl) ?_ (by assumption) ?_
    rotate_left 1
    focus (intro w hSw; (try dsimp only at hSw); go_simp; first | done | with_reducible rfl)
    simp only [Act.put, List.setIfInBounds_toArray, List.set_cons_zero, List.set_cons_succ]
    refine wpAnyH_ready (rs := [8]) (by kernel_rfl) (by simp) ?_
    refine AllReadyH.cons (o := _) rfl (fun K hK => ?_) AllReadyH.nil
    go_simp
    refine (itoa_any b HB.out.1 HB.out.2 _ (T.out.kept hHeld)).mono ?_
    rintro e w1 ⟨rfl, u1⟩
    go_simp
    refine hK.out _ _ (by exact up_trans hHeld u1) (fun hHeld => ?_)
    clear hK K
    refine held_take (i := 9) (d := some 49) (v := ?_) rfl rfl (by kernel_rfl) (by kernel_rfl) (by kernel_rfl) (fun _ _ _ h => h) (by rfl) ?_ (by assumption) ?_
    rotate_left 1
    focus (intro w hSw; (try dsimp only at hSw); go_simp; first | done | with_reducible rfl)
    simp only [Act.put, List.setIfInBounds_toArray, List.set_cons_zero, List.set_cons_succ]
    refine held_take (i := 10) (d := some 50) (v := ?_) rfl rfl (by kernel_rfl) (by kernel_rfl) (by kernel_rfl) (fun _ _ _ h => h) (by rfl) ?_ (by assumption) ?_
    rotate_left 1
    focus (intro w hSw; (try dsimp only at hSw); go_simp; first | done | with_reducible rfl)
    simp only [Act.put, List.setIfInBounds_toArray, List.set_cons_zero, List.set_cons_succ]
    refine held_take (i := 11) (d := some 5) (v := ?_) rfl rfl (by kernel_rfl) (by kernel_rfl) (by kernel_rfl) (fun _ _ _ h => h) (by rfl) ?_ (by assumption) ?_
    rotate_left 1
    focus (intro w hSw; (try dsimp only at hSw); go_simp; first | done | with_reducible rfl)
    simp only [Act.put, List.setIfInBounds_toArray, List.set_cons_zero, List.set_cons_succ]
    refine wpAnyH_done (by kernel_rfl) ?_ _
    have UH2 := Lib.hid hHeld
    clear hHeld
    go_wp2_with fail
    go_ret
    refine ⟨?_, up_trans ((Fr.refl _ _).alloc _) UH2.out⟩
    rw [HE.out, show headOf op pc ++ (32 :: (Lib.itoa a ++ 32 :: Lib.itoa b)) ++ [10] = headOf op pc ++ 32 :: (Lib.itoa a ++ 32 :: (Lib.itoa b ++ [10])) by simp]
    rfl
end Go.Proofs.YtomononppbjnnaaDoor
