/-
  The hand's Digits, what it answers.
-/
import Derived.Test.YtemmdbjcllcelaaDoorTnWa
import Derived.Test.YtemmdbjcllcelaaDoorPaLists
import Derived.Laws.IdiomStrings
namespace Go.Proofs.YtemmdbjcllcelaaDoor.Pa
set_option maxRecDepth 100000
open Go.RowKit
open Go.Proofs.YtemmdbjcllcelaaDoor.Tk (bs)

theorem conv_one (w : World) (x : Int) (y : UInt8) (h : x = y.toNat) : (convert 40 9 (.slice (some ⟨w.heap.size, 0, none⟩) 1 1)).run Tryd.prog (w.alloc (.cells #[.int .u8 x] 5)) = .ok (.string (bs [y])) (w.alloc (.cells #[.int .u8 x] 5)) := by
  subst h
  refine run_convert_bytes_back (w.alloc _) 40 9 5 ⟨w.heap.size, 0, none⟩ 1 [y] Tryd.underlying40 Tryd.underlying5 Tryd.underlying9 (fun j hj => ?_)
  obtain rfl : j = 0 := by simp at hj; omega
  rw [Go.WideShapes.add_plain, cell_of_row _ _ _ _ _ _ (heap_alloc_new w _)]
  rfl

set_option maxHeartbeats 1000000 in
theorem digit_is (w : World) (n : Nat) (hn : n < 10) : Calls Tryd.prog 6 #[.int .i64 n] w fun e w' => e = .returned (.string (bs [UInt8.ofNat (48 + n)])) ∧ Up w w' := by
  have h1 : (n : Int) < 10 := by omega
  have h2 : IntKind.i64.wrap (48 + (n : Int)) = 48 + (n : Int) := IntWalk.i64_in _ (by omega)
  have c1 := conv_one w (48 + (n : Int)) (UInt8.ofNat (48 + n)) (by
    rw [UInt8.toNat_ofNat']
    have : (48 + n) % 2 ^ 8 = 48 + n := Nat.mod_eq_of_lt (by omega)
    rw [this]; omega)
  clear hn
  by_cases h0 : n = 0
  · subst h0
    show Calls _ _ _ _ fun e w' => e = .returned (.string (bs [48])) ∧ Up w w'
    have c2 := conv_one w 48 48 (by decide)
    clear c1
    go_enter Tryd.func6, Tryd.ntmps6
    go_wp2_with fail
    all_goals
      go_ret
      exact ⟨rfl, (Fr.refl _ w).alloc _⟩
  · obtain ⟨y, hy⟩ : ∃ y, y = UInt8.ofNat (48 + n) := ⟨_, rfl⟩
    rw [← hy] at c1 ⊢
    clear hy
    go_enter Tryd.func6, Tryd.ntmps6
    go_wp2_with fail
    all_goals first
      | (exfalso; omega)
      | (go_ret
         exact ⟨rfl, (Fr.refl _ w).alloc _⟩)

set_option maxHeartbeats 1000000 in
theorem digits_is (w : World) (n : Nat) (hn : n < 100) : Calls Tryd.prog 6 #[.int .i64 n] w fun e w' => e = .returned (.string (bs (dig n))) ∧ Up w w' := by
  by_cases h10 : n < 10
  · unfold dig
    rw [if_pos h10]
    exact digit_is w n h10
  · unfold dig
    rw [if_neg h10]
    have h1 : ¬ (n : Int) < 10 := by omega
    have h2 : (n : Int).tdiv 10 = ((n / 10 : Nat) : Int) := by rw [show (10 : Int) = ((10 : Nat) : Int) from rfl, ← Int.ofNat_tdiv]
    have h3 : (n : Int).tmod 10 = ((n % 10 : Nat) : Int) := by rw [show (10 : Int) = ((10 : Nat) : Int) from rfl, ← Int.ofNat_tmod]
    have D1 := Lib.hid (digit_is w (n / 10) (by omega))
    obtain ⟨q, hq⟩ : ∃ q, q = n / 10 := ⟨_, rfl⟩
    obtain ⟨r, hr⟩ : ∃ r, r = n % 10 := ⟨_, rfl⟩
    rw [← hq] at D1 h2 ⊢
    rw [← hr] at h3 ⊢
    have hr10 : r < 10 := by omega
    obtain ⟨ya, hya⟩ : ∃ y, y = UInt8.ofNat (48 + q) := ⟨_, rfl⟩
    obtain ⟨yb, hyb⟩ : ∃ y, y = UInt8.ofNat (48 + r) := ⟨_, rfl⟩
    have D2 := Lib.hid (fun wa => digit_is wa r hr10)
    rw [← hya] at D1
    rw [← hyb] at D2
    rw [← hya, ← hyb]
    clear hya hyb
    have w1 : IntKind.i64.wrap (q : Int) = (q : Int) := IntWalk.i64_in _ (by omega)
    have w2 : IntKind.i64.wrap (r : Int) = (r : Int) := IntWalk.i64_in _ (by omega)
    clear hq hr hr10 hn h10
    go_enter Tryd.func6, Tryd.ntmps6
    go_wp2_with fail
    refine D1.out.mono ?_
    rintro e wa ⟨rfl, ua⟩
    have UA := Lib.hid ua
    clear ua D1
    go_wp2_with fail
    refine (D2.out wa).mono ?_
    rintro e wb ⟨rfl, ub⟩
    have UB := Lib.hid (Fr.trans UA.out ub (fun _ _ h => h))
    have q1 : (bs [ya]).size + (bs [yb]).size ≤ 9223372036854775807 := by rw [Tk.bs_size, Tk.bs_size]; simp
    have q2 : bs [ya] ++ bs [yb] = bs [ya, yb] := Tk.bs_append [ya] [yb]
    clear ub D2 UA
    go_wp2_with fail
    go_ret
    exact ⟨rfl, UB.out⟩
end Go.Proofs.YtemmdbjcllcelaaDoor.Pa
