/-
  What Pick returns; a call of it on a number that is not known.
-/
import Derived.Test.YtmphiefdoaihhaaGreatDoorM1
import Derived.Test.YtmphiefdoaihhaaGreatDoorEvX
import Derived.Test.YtmphiefdoaihhaaGreatDoorChecked
namespace Go.Proofs.YtmphiefdoaihhaaGreatDoor
open Go.RowKit

theorem tmod_cases (n m : Int) (hm : 1 ≤ m) : (n.tmod m < 0 ∧ n.tmod m + m = n % m ∧ 0 ≤ n % m ∧ n % m < m) ∨ (0 ≤ n.tmod m ∧ n.tmod m = n % m ∧ 0 ≤ n % m ∧ n % m < m) := by
  have h0 := Int.emod_nonneg n (show m ≠ 0 by omega)
  have h1 := Int.emod_lt_of_pos n (show 0 < m by omega)
  rw [Int.tmod_eq_emod]
  have ha : (m.natAbs : Int) = m := by omega
  split
  · exact .inr ⟨by omega, by omega, h0, h1⟩
  · rw [ha]
    exact .inl ⟨by omega, by omega, h0, h1⟩

theorem ret_eq {k : IntKind} {a b : Int} (h : a = b) : Ending.returned (.int k a) = .returned (.int k b) := by rw [h]

set_option maxHeartbeats 400000 in
theorem pick_any (n m : Int) (w : World) (hm : 1 ≤ m) (hm' : m ≤ 1000000) :
    Calls Tryz.prog 4 #[.int .i64 n, .int .i64 m] w fun e w' => e = .returned (.int .i64 (n % m)) ∧ w = w' := by
  rcases tmod_cases n m hm with ⟨h1, h2, h3, h4⟩ | ⟨h1, h2, h3, h4⟩
  · have H := Lib.hid h2
    clear h2
    have hlo : -1000000 ≤ n.tmod m := by have := H.out; omega
    go_enter Tryz.func4, Tryz.ntmps4
    go_wp2
    go_ret
    exact ⟨ret_eq H.out, rfl⟩
  · have H := Lib.hid h2
    clear h2
    go_enter Tryz.func4, Tryz.ntmps4
    go_wp2
    go_ret
    exact ⟨ret_eq H.out, rfl⟩

theorem pick_hook {ρ : Rho} {w : World} {l' : Array Value} {ng i : Nat} {zs : List Int} {z m : Int} (h : (Fx.nums ng zs).holds ρ) (hz : zs[i]? = some z) (hl : VL ρ [.chan (some (ng + i)), .int .i64 m] l'.toList) (hm : 1 ≤ m) (hm' : m ≤ 1000000) :
    Calls Tryz.prog 4 l' w fun x w' => x = .returned (.int .i64 (z % m)) ∧ w = w' := by
  obtain ⟨v, r, e1, h1, h2⟩ := hl.cases_cons
  obtain ⟨u, r2, e2, h3, h4⟩ := h2.cases_cons
  have e3 := h4.cases_nil
  subst e3 e2
  cases h3
  cases h1 with
  | num b y hb =>
    have := h i z hz
    rw [hb] at this
    obtain rfl : y = z := enc_inj (by simpa using this)
    obtain rfl : l' = #[.int .i64 y, .int .i64 m] := Array.toList_inj.1 e1
    exact pick_any y m w hm hm'
end Go.Proofs.YtmphiefdoaihhaaGreatDoor
