/-
  The law TokenAll: the walk.
-/
import Derived.Test.YtjkpimohgbkjoaaDoorTkAll
import Derived.Test.YtjkpimohgbkjoaaDoorTkU
import Derived.Test.YtjkpimohgbkjoaaDoorTkOpen
import Derived.Test.YtjkpimohgbkjoaaDoorHdQR
namespace Go.Proofs.YtjkpimohgbkjoaaDoor
open Go.RowKit

set_option maxRecDepth 20000 in
set_option maxHeartbeats 4000000 in
theorem tokenAll_any {w : World} (L : Laid w) (H : Hand w) (hw : 3 ≤ w.heap.size) (s : List UInt8) {A1 A2 A3 : Option Addr} {c1 c2 c3 : Nat} {xs1 xs2 xs3 : List Int} (h1 : IntsW w A1 c1 xs1) (h2 : IntsW w A2 c2 xs2) (h3 : IntsW w A3 c3 xs3) (kind : Int) :
    Calls Tryd.prog 4 #[.string (bs s), .slice A1 xs1.length c1, .slice A2 xs2.length c2, .slice A3 xs3.length c3, .int .i64 kind] w fun e w' => e = .returned (.bool true) ∧ Up w w' := by
  have LL := Lib.hid L
  have HW := Lib.hid hw
  obtain ⟨j, hj, hp, _⟩ := pick_nat kind 3 (by decide) (by decide)
  have P := Lib.hid (show ∀ w, Calls Tryd.prog 16 #[.int .i64 kind, .int .i64 3] w fun e w' => e = .returned (.int .i64 j) ∧ w' = w from hp)
  have WD := Lib.hid (words_any h1 H)
  have BT := Lib.hid (bent_any h2 h3 H)
  have b1 := h1.le
  have b2 := h1.big
  have b3 := h2.le
  have b4 := h2.big
  have b5 := h3.le
  have b6 := h3.big
  clear L H hw hp h1 h2 h3
  go_enter Tryd.func4, Tryd.ntmps4
  go_wp2_with fail
  refine (P.out _).mono ?_
  rintro e w ⟨rfl, rfl⟩
  clear P
  by_cases j0 : j = 0
  · subst j0
    go_wp2_with fail
    refine WD.out.mono ?_
    rintro e w ⟨⟨l, _, rfl⟩, rfl⟩
    clear WD BT
    go_wp2_with fail
    refine (known_any LL.out HW.out).mono ?_
    rintro e wk ⟨rfl, uk⟩
    have UK := Lib.hid uk
    have LK := Lib.hid (LL.out.kept uk (fun h => h) (fun h => h))
    have HK := Lib.hid (Nat.le_trans HW.out uk.size)
    clear uk
    go_wp2_with fail
    refine (lawall_any l LK.out HK.out).mono ?_
    rintro e wa ⟨rfl, ua⟩
    have UA := Lib.hid (Fr.trans UK.out ua (fun _ _ h => h))
    clear ua
    go_wp2_with fail
    go_ret
    exact ⟨by first | rfl | simp, UA.out⟩
  · have g0 : ((j : Int) == 0) = false := beq_eq_false_iff_ne.2 (by omega)
    by_cases j1 : j = 1
    · subst j1
      go_wp2_with fail
      refine BT.out.mono ?_
      rintro e wb ⟨sb, rfl, _, ub⟩
      obtain ⟨l, rfl⟩ : ∃ l, sb = bs l := ⟨_, bs_of sb⟩
      have UB := Lib.hid ub
      have LB := Lib.hid (LL.out.kept ub (fun h => h) (fun h => h))
      have HB := Lib.hid (Nat.le_trans HW.out ub.size)
      clear ub WD BT
      go_wp2_with fail
      refine (known_any LB.out HB.out).mono ?_
      rintro e wk ⟨rfl, uk⟩
      have UK := Lib.hid (Fr.trans UB.out uk (fun _ _ h => h))
      have LK := Lib.hid (LB.out.kept uk (fun h => h) (fun h => h))
      have HK := Lib.hid (Nat.le_trans HB.out uk.size)
      clear uk
      go_wp2_with fail
      refine (lawall_any l LK.out HK.out).mono ?_
      rintro e wa ⟨rfl, ua⟩
      have UA := Lib.hid (Fr.trans UK.out ua (fun _ _ h => h))
      clear ua
      go_wp2_with fail
      go_ret
      exact ⟨by first | rfl | simp, UA.out⟩
    · have g1 : ((j : Int) == 1) = false := beq_eq_false_iff_ne.2 (by omega)
      clear WD BT
      go_wp2_with fail
      refine (known_any LL.out HW.out).mono ?_
      rintro e wk ⟨rfl, uk⟩
      have UK := Lib.hid uk
      have LK := Lib.hid (LL.out.kept uk (fun h => h) (fun h => h))
      have HK := Lib.hid (Nat.le_trans HW.out uk.size)
      clear uk
      go_wp2_with fail
      refine (lawall_any s LK.out HK.out).mono ?_
      rintro e wa ⟨rfl, ua⟩
      have UA := Lib.hid (Fr.trans UK.out ua (fun _ _ h => h))
      clear ua
      go_wp2_with fail
      go_ret
      exact ⟨by first | rfl | simp, UA.out⟩
end Go.Proofs.YtjkpimohgbkjoaaDoor
