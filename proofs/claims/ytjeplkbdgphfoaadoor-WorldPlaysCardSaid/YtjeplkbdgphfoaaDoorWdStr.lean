/-
  Digits and words: strconv's, and the reference's own.
-/
import Derived.Test.YtjeplkbdgphfoaaDoorDat
import Derived.Test.YtjeplkbdgphfoaaDoorShelf
import Derived.Lib.AppendIntMem
namespace Go.Proofs.YtjeplkbdgphfoaaDoor
open Go.RowKit
set_option maxRecDepth 100000

def bsv (l : List UInt8) : ByteArray := ⟨⟨l⟩⟩
theorem bsv_size (l : List UInt8) : (bsv l).size = l.length := rfl
theorem bsv_append (a b : List UInt8) : bsv a ++ bsv b = bsv (a ++ b) := by
  apply ByteArray.ext
  simp [bsv]

/-- The library's table, as laid. -/
structure Tab (w : World) : Prop where
  h : Lib.TabIs Tryd.prog w "internal/strconv.uint64pow10" .u64 Lib.pow10Tab
theorem Tab.kept {w w' : World} (h : Tab w) (k : Up w w') : Tab w' :=
  ⟨Lib.tabBelow_of_tabIs h.h w' (k.below (Nat.le_refl _) (fun _ _ h => h))⟩

theorem decDigits_le : ∀ (k u : Nat), u < 10 ^ (k + 1) → (Lib.decDigits u).length ≤ k + 1
  | 0, u, h => by
    rw [Lib.decDigits, dif_pos (by omega)]
    exact Nat.le_refl 1
  | k + 1, u, h => by
    rw [Lib.decDigits]
    split
    · simp
    · have := decDigits_le k (u / 10) (by rw [Nat.div_lt_iff_lt_mul (by decide)]; rw [Nat.pow_succ] at h; exact h)
      simp
      omega
theorem itoa_le {n : Int} (h0 : -9223372036854775808 ≤ n) (h1 : n ≤ 9223372036854775807) : (Lib.itoa n).length ≤ 20 := by
  unfold Lib.itoa
  split
  · have := decDigits_le 18 n.natAbs (by omega)
    simp; omega
  · have := decDigits_le 18 n.toNat (by omega)
    omega

theorem format_any (n : Int) (h0 : -9223372036854775808 ≤ n) (h1 : n ≤ 9223372036854775807) (w : World) (t : Tab w) :
    Calls Tryd.prog 45 #[.int .i64 n, .int .i64 10] w fun e w' => e = .returned (.string (bsv (Lib.itoa n))) ∧ Up w w' := by
  refine (Tryd.strconv_FormatInt_10 n h0 h1 w t.h).mono ?_
  rintro e w' ⟨rfl, k, os, rfl⟩
  refine ⟨rfl, rfl, rfl, rfl, by simp [Go.Sort.grow], fun i hi _ => ?_⟩
  simp only [Go.Sort.grow]
  rw [Array.getElem?_append_left (by simpa using hi)]
  rfl

theorem conv_1 (w : World) (x : Int) (y : UInt8) (h : x = y.toNat) : (convert 90 9 (.slice (some ⟨w.heap.size, 0, none⟩) 1 1)).run Tryd.prog (w.alloc (.cells #[.int .u8 x] 5)) = .ok (.string (bsv [y])) (w.alloc (.cells #[.int .u8 x] 5)) := by
  subst h
  refine run_convert_bytes_back (w.alloc _) 90 9 5 ⟨w.heap.size, 0, none⟩ 1 [y] Tryd.underlying90 Tryd.underlying5 Tryd.underlying9 (fun j hj => ?_)
  obtain rfl : j = 0 := by simp at hj; omega
  rw [Go.WideShapes.add_plain, cell_of_row _ _ _ _ _ _ (heap_alloc_new w _)]
  rfl

theorem conv_kept {w w' : World} {x : Int} {y : UInt8} (u : Up (w.alloc (.cells #[.int .u8 x] 5)) w') (h : x = y.toNat) : (convert 90 9 (.slice (some ⟨w.heap.size, 0, none⟩) 1 1)).run Tryd.prog w' = .ok (.string (bsv [y])) w' := by
  subst h
  refine run_convert_bytes_back w' 90 9 5 ⟨w.heap.size, 0, none⟩ 1 [y] Tryd.underlying90 Tryd.underlying5 Tryd.underlying9 (fun j hj => ?_)
  obtain rfl : j = 0 := by simp at hj; omega
  rw [Go.WideShapes.add_plain, u.cell (p := ⟨w.heap.size, 0 + 0, none⟩) (by simp) (fun h => h), cell_of_row _ _ _ _ _ _ (heap_alloc_new w _)]
  rfl

theorem dec_small {k : Nat} (h : k < 10) : Lib.decDigits k = [UInt8.ofNat (48 + k)] := by rw [Lib.decDigits, dif_pos h]
theorem dec_big {k : Nat} (h : ¬ k < 10) : Lib.decDigits k = Lib.decDigits (k / 10) ++ [UInt8.ofNat (48 + k % 10)] := by rw [Lib.decDigits, dif_neg h]
theorem digit_nat {k : Nat} (h : k < 10) : (48 : Int) + k = ((UInt8.ofNat (48 + k)).toNat : Nat) := by
  rw [UInt8.toNat_ofNat']
  have : (48 + k) % 2 ^ 8 = 48 + k := Nat.mod_eq_of_lt (by omega)
  rw [this]; omega

theorem up_trans {a b c : World} (h : Up a b) (k : Up b c) : Up a c := h.trans k (fun _ _ h => h)

set_option maxHeartbeats 1000000 in
theorem below_any : ∀ (f k : Nat), k ≤ f → k ≤ 9223372036854775808 → ∀ (n : Int), n = -(k : Int) → ∀ (w : World),
    Calls Tryd.prog 67 #[.int .i64 n] w fun e w' => e = .returned (.string (bsv (Lib.decDigits k))) ∧ Up w w' := by
  intro f
  induction f with
  | zero =>
    intro k hk _ n hn w
    obtain rfl : k = 0 := by omega
    subst hn
    have c1 := conv_1 w 48 (UInt8.ofNat 48) (by decide)
    have E : Hid (bsv (Lib.decDigits 0) = bsv [UInt8.ofNat 48]) := Lib.hid (by rw [dec_small (by decide)])
    rw [E.out]
    go_enter Tryd.func67, Tryd.ntmps67
    go_wp2_with fail
    go_ret
    exact ⟨rfl, (Fr.refl _ w).alloc _⟩
  | succ f ih =>
    intro k hk hb n hn w
    by_cases h10 : k < 10
    · have h1 : -10 < n := by omega
      have h2 : (48 : Int) - n = 48 + k := by omega
      have h3 : 0 ≤ (48 : Int) + k ∧ (48 : Int) + k < 58 := by omega
      obtain ⟨y, hy⟩ : ∃ y, y = UInt8.ofNat (48 + k) := ⟨_, rfl⟩
      have c1 := conv_1 w (48 + k) y (by rw [hy]; exact digit_nat h10)
      have hn0 : -9223372036854775808 ≤ n ∧ n ≤ 0 := by omega
      have E : Hid (bsv (Lib.decDigits k) = bsv [y]) := Lib.hid (by rw [dec_small h10, hy])
      rw [E.out]
      clear hy
      clear hn h10 ih
      go_enter Tryd.func67, Tryd.ntmps67
      go_wp2_with fail
      go_ret
      exact ⟨rfl, (Fr.refl _ w).alloc _⟩
    · have h1 : ¬ -10 < n := by omega
      have h2 : n.tdiv 10 = -((k / 10 : Nat) : Int) := by rw [hn, Int.neg_tdiv, show (10 : Int) = ((10 : Nat) : Int) from rfl, ← Int.ofNat_tdiv]
      have h3 : n.tmod 10 = -((k % 10 : Nat) : Int) := by rw [hn, Int.neg_tmod, show (10 : Int) = ((10 : Nat) : Int) from rfl, ← Int.ofNat_tmod]
      have D := ih (k / 10) (by omega) (by omega) _ h2
      have D1 := Lib.hid D
      obtain ⟨y, hy⟩ : ∃ y, y = UInt8.ofNat (48 + k % 10) := ⟨_, rfl⟩
      have E : Hid (bsv (Lib.decDigits k) = bsv (Lib.decDigits (k / 10)) ++ bsv [y]) := Lib.hid (by rw [dec_big h10, bsv_append, hy])
      have hl : (Lib.decDigits (k / 10)).length ≤ 20 := by have := decDigits_le 19 (k / 10) (by omega); omega
      rw [E.out]
      have hd10 : (48 : Int) + ((k % 10 : Nat) : Int) = y.toNat := by rw [hy]; exact digit_nat (by omega)
      have c1 : ∀ w, _ := fun w => conv_1 w (y.toNat : Int) y rfl
      generalize hd : Lib.decDigits (k / 10) = l at *
      obtain ⟨q, hq⟩ : ∃ q : Int, q = n.tdiv 10 := ⟨_, rfl⟩
      obtain ⟨r, hr⟩ : ∃ r : Int, r = n.tmod 10 := ⟨_, rfl⟩
      rw [← hq] at h2 D1
      rw [← hr] at h3
      have hq2 := hq.symm
      have hr5 := hr.symm
      have hr2 : (48 : Int) - r = y.toNat := by omega
      have hy256 := y.toNat_lt
      have wq : IntKind.i64.wrap q = q := IntWalk.i64_in _ (by omega)
      have wy1 : IntKind.i64.wrap (y.toNat : Int) = y.toNat := IntWalk.i64_in _ (by omega)
      have wy2 : IntKind.u8.wrap (y.toNat : Int) = y.toNat := IntWalk.u8_in _ (by omega)
      have hr3 : -10 < r ∧ r ≤ 0 := by omega
      have hq3 : -9223372036854775808 ≤ q ∧ q ≤ 0 := by omega
      have sz : l.length + 1 ≤ 9223372036854775807 := by omega
      have sz2 : (bsv l).size + (bsv [y]).size ≤ 9223372036854775807 := by rw [bsv_size, bsv_size]; exact sz
      have ck : ∀ {w' : World}, Up (w.drew.alloc (.cells #[.int .u8 (y.toNat : Int)] 5)) w' → (convert 90 9 (.slice (some ⟨w.heap.size, 0, none⟩) 1 1)).run Tryd.prog w' = .ok (.string (bsv [y])) w' := fun {w'} u => conv_kept (w := w.drew) (y := y) u rfl
      have c2 := ck (w' := (w.alloc (.cells #[.int .u8 (y.toNat : Int)] 5)).drew) (Fr.refl _ _)
      generalize bsv l = s1 at *
      generalize bsv [y] = s2 at *
      clear D ih hd hn hq hr hk hb h10 hy h2 h3 hd10 hy256 hr3 sz hl
      go_enter Tryd.func67, Tryd.ntmps67
      go_wp2_with fail
      go_region_with (go_at_call 67; refine (D1.out _).mono ?_; rintro e w' ⟨rfl, u⟩; have U1 := Lib.hid u; try have cc := ck u; clear u)
      all_goals
        go_wp2_with fail
        go_ret
        refine ⟨rfl, ?_⟩
        first
          | exact up_trans (b := w.drew.alloc _) ((Fr.refl _ w).drew.alloc _) U1.out
          | exact up_trans (b := w.drew) (Fr.refl _ w).drew (U1.out.alloc _)

set_option maxHeartbeats 1000000 in
theorem digits_any (n : Int) (h0 : -9223372036854775808 ≤ n) (h1 : n ≤ 9223372036854775807) (w : World) :
    Calls Tryd.prog 48 #[.int .i64 n] w fun e w' => e = .returned (.string (bsv (Lib.itoa n))) ∧ Up w w' := by
  by_cases hn : n < 0
  · have hb := below_any n.natAbs n.natAbs (Nat.le_refl _) (by omega) n (by omega)
    have E : Hid (bsv (Lib.itoa n) = bsv [45] ++ bsv (Lib.decDigits n.natAbs)) := Lib.hid (by unfold Lib.itoa; rw [if_pos hn, bsv_append]; rfl)
    have sz : (⟨#[45]⟩ : ByteArray).size + (bsv (Lib.decDigits n.natAbs)).size ≤ 9223372036854775807 := by
      have := decDigits_le 19 n.natAbs (by omega)
      rw [bsv_size]
      have e1 : (⟨#[45]⟩ : ByteArray).size = 1 := rfl
      omega
    rw [E.out]
    have HB := Lib.hid hb
    clear hb
    have e0 : bsv [45] = ⟨#[45]⟩ := rfl
    rw [e0]
    generalize bsv (Lib.decDigits n.natAbs) = t at *
    go_enter Tryd.func48, Tryd.ntmps48
    go_wp2_with fail
    refine (HB.out _).mono ?_
    rintro e w' ⟨rfl, u⟩
    go_wp2_with fail
    go_ret
    exact ⟨rfl, u⟩
  · have hb := below_any n.toNat n.toNat (Nat.le_refl _) (by omega) (-n) (by omega)
    have E : Hid (bsv (Lib.itoa n) = bsv (Lib.decDigits n.toNat)) := Lib.hid (by unfold Lib.itoa; rw [if_neg hn])
    have w1 : IntKind.i64.wrap (-n) = -n := IntWalk.i64_in _ (by omega)
    have HB := Lib.hid hb
    clear hb
    rw [E.out]
    generalize bsv (Lib.decDigits n.toNat) = t at *
    go_enter Tryd.func48, Tryd.ntmps48
    go_wp2_with fail
    refine (HB.out _).mono ?_
    rintro e w' ⟨rfl, u⟩
    go_wp2_with fail
    go_ret
    exact ⟨rfl, u⟩

/-- true, false. -/
def boolT (b : Bool) : ByteArray := if b then ⟨#[116, 114, 117, 101]⟩ else ⟨#[102, 97, 108, 115, 101]⟩

theorem formatb0_any (b : Bool) (w : World) : Calls Tryd.prog 63 #[.bool b] w fun e w' => e = .returned (.string (boolT b)) ∧ w = w' := by
  cases b
  all_goals
    go_enter Tryd.func63, Tryd.ntmps63
    go_wp2_with fail
    go_ret
    exact ⟨rfl, rfl⟩
theorem formatb_any (b : Bool) (w : World) : Calls Tryd.prog 46 #[.bool b] w fun e w' => e = .returned (.string (boolT b)) ∧ w = w' := by
  go_enter Tryd.func46, Tryd.ntmps46
  go_wp2_with fail
  refine (formatb0_any b w).mono ?_
  rintro e w' ⟨rfl, rfl⟩
  go_wp2_with fail
  go_ret
  exact ⟨rfl, rfl⟩
end Go.Proofs.YtjeplkbdgphfoaaDoor
