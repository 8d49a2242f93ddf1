/-
  The law's own 'types': its small parts.
-/
import Derived.Test.YtjlljfeledapaaaDoorKindH
import Derived.StillTactics
namespace Go.Proofs.YtjlljfeledapaaaDoor
open Go.RowKit

theorem tmod_cases (n m : Int) (hm : 1 ≤ m) : (n.tmod m < 0 ∧ n.tmod m + m = n % m ∧ 0 ≤ n % m ∧ n % m < m) ∨ (0 ≤ n.tmod m ∧ n.tmod m = n % m ∧ 0 ≤ n % m ∧ n % m < m) := by
  have h0 := Int.emod_nonneg n (show m ≠ 0 by omega)
  have h1 := Int.emod_lt_of_pos n (show 0 < m by omega)
  rw [Int.tmod_eq_emod]
  have ha : (m.natAbs : Int) = m := by omega
  split
  · exact .inr ⟨by omega, by omega, h0, h1⟩
  · rw [ha]
    exact .inl ⟨by omega, by omega, h0, h1⟩

theorem ret_eq {k : IntKind} {a b : Int} (h : a = b) : Ending.returned (.int k a) = .returned (.int k b) := by rw [h]

set_option maxHeartbeats 400000 in
theorem pick_any (n m : Int) (w : World) (hm : 1 ≤ m) (hm' : m ≤ 1000000) :
    Calls Tryd.prog 6 #[.int .i64 n, .int .i64 m] w fun e w' => e = .returned (.int .i64 (n % m)) ∧ w = w' := by
  rcases tmod_cases n m hm with ⟨h1, h2, h3, h4⟩ | ⟨h1, h2, h3, h4⟩
  · have H := Lib.hid h2
    clear h2
    have hlo : -1000000 ≤ n.tmod m := by have := H.out; omega
    go_enter Tryd.func6, Tryd.ntmps6
    go_wp2
    go_ret
    exact ⟨ret_eq H.out, rfl⟩
  · have H := Lib.hid h2
    clear h2
    go_enter Tryd.func6, Tryd.ntmps6
    go_wp2
    go_ret
    exact ⟨ret_eq H.out, rfl⟩

/-- Pick, its answer a natural number. -/
theorem pick_nat (n : Int) (m : Nat) (hm : 1 ≤ m) (hm' : m ≤ 1000000) : ∃ j : Nat, j < m ∧ (∀ w, Calls Tryd.prog 6 #[.int .i64 n, .int .i64 m] w fun e w' => e = .returned (.int .i64 j) ∧ w' = w) ∧ (n % (m : Int) = j) := by
  have h0 := Int.emod_nonneg n (show (m : Int) ≠ 0 by omega)
  have h1 := Int.emod_lt_of_pos n (show 0 < (m : Int) by omega)
  refine ⟨(n % (m : Int)).toNat, by omega, fun w => (pick_any n m w (by omega) (by omega)).mono fun e w' ⟨he, hw⟩ => ⟨?_, hw.symm⟩, by omega⟩
  rw [he]; exact ret_eq (by omega)

def oneArr : Array Value := #[.int .i64 1, .int .i64 2, .int .i64 3, .int .i64 5, .int .i64 6, .int .i64 7, .int .i64 8, .int .i64 9, .int .i64 10, .int .i64 11, .int .i64 12]
theorem one_idx : ∀ j : Nat, j < 11 → ∃ x : Int, ∀ w, (Instr.index 42 (.agg #[.int .i64 1, .int .i64 2, .int .i64 3, .int .i64 5, .int .i64 6, .int .i64 7, .int .i64 8, .int .i64 9, .int .i64 10, .int .i64 11, .int .i64 12]) (.int .i64 (j : Nat))).run Tryd.prog w = .ok (.int .i64 x) w := by
  intro j hj
  match j, hj with
  | 0, _ => exact ⟨1, fun _ => by kernel_rfl⟩
  | 1, _ => exact ⟨2, fun _ => by kernel_rfl⟩
  | 2, _ => exact ⟨3, fun _ => by kernel_rfl⟩
  | 3, _ => exact ⟨5, fun _ => by kernel_rfl⟩
  | 4, _ => exact ⟨6, fun _ => by kernel_rfl⟩
  | 5, _ => exact ⟨7, fun _ => by kernel_rfl⟩
  | 6, _ => exact ⟨8, fun _ => by kernel_rfl⟩
  | 7, _ => exact ⟨9, fun _ => by kernel_rfl⟩
  | 8, _ => exact ⟨10, fun _ => by kernel_rfl⟩
  | 9, _ => exact ⟨11, fun _ => by kernel_rfl⟩
  | 10, _ => exact ⟨12, fun _ => by kernel_rfl⟩

/-- What 'one' answers of k. -/
def OneIs (n : Nat) (k : Int) (x : Int) : Prop := ∀ (w : World) (nb : Nat), w.cell? ⟨nb, 0, none⟩ = some (.int .i64 n) → Calls Tryd.prog 14 #[.int .i64 k, .pointer (some ⟨nb, 0, none⟩)] w fun e w' => e = .returned (.int .i64 x) ∧ w' = w

set_option maxHeartbeats 400000 in
theorem one_any (n : Nat) (hn : n ≤ 8) (k : Int) (hk0 : -9223372036854775808 ≤ k) (hk1 : k ≤ 9223372036854775807) : ∃ x, OneIs n k x := by
  obtain ⟨j, hj, hp, _⟩ := pick_nat k 40 (by omega) (by omega)
  by_cases h39 : j = 39
  · obtain ⟨j2, hj2, hp2, _⟩ := pick_nat (k.tdiv 40) 16 (by omega) (by omega)
    refine ⟨(j2 : Int) - 2, fun w nb hc => ?_⟩
    subst h39
    have P1 := Lib.hid (hp w)
    have P2 := Lib.hid (hp2 w)
    clear hp hp2
    go_enter Tryd.func14, Tryd.ntmps14
    go_wp2_with fail
    refine P1.out.mono ?_
    rintro e w' ⟨rfl, rfl⟩
    go_wp2_with fail
    refine P2.out.mono ?_
    rintro e w' ⟨rfl, rfl⟩
    go_wp2_with fail
    go_ret
    exact ⟨rfl, rfl⟩
  · obtain ⟨j2, hj2, hp2, _⟩ := pick_nat k (3 + n) (by omega) (by omega)
    obtain ⟨x, hx⟩ := one_idx j2 (by omega)
    refine ⟨x, fun w nb hc => ?_⟩
    have P1 := Lib.hid (hp w)
    have P2 := Lib.hid (hp2 w)
    have b39 : ((j : Int) == 39) = false := beq_eq_false_iff_ne.2 (by omega)
    clear hp hp2 h39
    go_enter Tryd.func14, Tryd.ntmps14
    go_wp2_with fail
    refine P1.out.mono ?_
    rintro e w' ⟨rfl, rfl⟩
    go_wp2_with fail
    refine P2.out.mono ?_
    rintro e w' ⟨rfl, rfl⟩
    go_wp2_with fail
    go_ret
    exact ⟨rfl, rfl⟩
end Go.Proofs.YtjlljfeledapaaaDoor
