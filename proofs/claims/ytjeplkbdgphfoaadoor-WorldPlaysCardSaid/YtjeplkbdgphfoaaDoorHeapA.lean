/-
  What the small functions of package heap, and Pick, return.
-/
import Derived.Test.YtjeplkbdgphfoaaDoorRows
import Derived.Test.YtjeplkbdgphfoaaDoorBase
namespace Go.Proofs.YtjeplkbdgphfoaaDoor
open Go.RowKit

theorem tmod_cases (n m : Int) (hm : 1 ≤ m) : (n.tmod m < 0 ∧ n.tmod m + m = n % m ∧ 0 ≤ n % m ∧ n % m < m) ∨ (0 ≤ n.tmod m ∧ n.tmod m = n % m ∧ 0 ≤ n % m ∧ n % m < m) := by
  have h0 := Int.emod_nonneg n (show m ≠ 0 by omega)
  have h1 := Int.emod_lt_of_pos n (show 0 < m by omega)
  rw [Int.tmod_eq_emod]
  have ha : (m.natAbs : Int) = m := by omega
  split
  · exact .inr ⟨by omega, by omega, h0, h1⟩
  · rw [ha]
    exact .inl ⟨by omega, by omega, h0, h1⟩

theorem ret_eq {k : IntKind} {a b : Int} (h : a = b) : Ending.returned (.int k a) = .returned (.int k b) := by rw [h]

set_option maxHeartbeats 400000 in
theorem pick_any (n m : Int) (w : World) (hm : 1 ≤ m) (hm' : m ≤ 1000000) :
    Calls Tryd.prog 4 #[.int .i64 n, .int .i64 m] w fun e w' => e = .returned (.int .i64 (n % m)) ∧ w = w' := by
  rcases tmod_cases n m hm with ⟨h1, h2, h3, h4⟩ | ⟨h1, h2, h3, h4⟩
  · have H := Lib.hid h2
    clear h2
    have hlo : -1000000 ≤ n.tmod m := by have := H.out; omega
    go_enter Tryd.func4, Tryd.ntmps4
    go_wp2
    go_ret
    exact ⟨ret_eq H.out, rfl⟩
  · have H := Lib.hid h2
    clear h2
    go_enter Tryd.func4, Tryd.ntmps4
    go_wp2
    go_ret
    exact ⟨ret_eq H.out, rfl⟩

def isPartB (n : Int) : Bool := decide (0 ≤ n ∧ n ≤ 1048576)

theorem ispart_any (n : Int) (w : World) :
    Calls Tryd.prog 68 #[.int .i64 n] w fun e w' => e = .returned (.bool (isPartB n)) ∧ w = w' := by
  by_cases h0 : 0 ≤ n
  · by_cases h1 : n ≤ 1048576
    · have hb : isPartB n = true := by simp [isPartB, h0, h1]
      rw [hb]
      clear hb
      go_enter Tryd.func68, Tryd.ntmps68
      go_wp2
      go_ret
      exact ⟨rfl, rfl⟩
    · have hb : isPartB n = false := by simp [isPartB, h1]
      rw [hb]
      clear hb
      go_enter Tryd.func68, Tryd.ntmps68
      go_wp2
      go_ret
      exact ⟨rfl, rfl⟩
  · have hb : isPartB n = false := by simp [isPartB, h0]
    rw [hb]
    clear hb
    go_enter Tryd.func68, Tryd.ntmps68
    go_wp2
    go_ret
    exact ⟨rfl, rfl⟩

theorem head_any (t n : Int) (w : World) (ht : 0 ≤ t) (ht' : t ≤ 1048576) (hn : 0 ≤ n) (hn' : n ≤ 1048576) :
    Calls Tryd.prog 69 #[.int .i64 t, .int .i64 n] w fun e w' => e = .returned (.int .u64 (t * 4294967296 + n)) ∧ w = w' := by
  go_enter Tryd.func69, Tryd.ntmps69
  go_wp2
  go_ret
  exact ⟨rfl, rfl⟩

end Go.Proofs.YtjeplkbdgphfoaaDoor
