/-
  The hand's Pick; its words as laid; a slice of integers as it comes in.
-/
import Derived.Test.YtemmdbjcllcelaaDoorTnC
namespace Go.Proofs.YtemmdbjcllcelaaDoor.Tk
open Go.RowKit


theorem tmod_cases (n m : Int) (hm : 1 ≤ m) : (n.tmod m < 0 ∧ n.tmod m + m = n % m ∧ 0 ≤ n % m ∧ n % m < m) ∨ (0 ≤ n.tmod m ∧ n.tmod m = n % m ∧ 0 ≤ n % m ∧ n % m < m) := by
  have h0 := Int.emod_nonneg n (show m ≠ 0 by omega)
  have h1 := Int.emod_lt_of_pos n (show 0 < m by omega)
  rw [Int.tmod_eq_emod]
  have ha : (m.natAbs : Int) = m := by omega
  split
  · exact .inr ⟨by omega, by omega, h0, h1⟩
  · rw [ha]
    exact .inl ⟨by omega, by omega, h0, h1⟩

theorem ret_eq {k : IntKind} {a b : Int} (h : a = b) : Ending.returned (.int k a) = .returned (.int k b) := by rw [h]

set_option maxHeartbeats 400000 in
theorem pick_any (n m : Int) (w : World) (hm : 1 ≤ m) (hm' : m ≤ 1000000) :
    Calls Tryd.prog 5 #[.int .i64 n, .int .i64 m] w fun e w' => e = .returned (.int .i64 (n % m)) ∧ w = w' := by
  rcases tmod_cases n m hm with ⟨h1, h2, h3, h4⟩ | ⟨h1, h2, h3, h4⟩
  · have H := Lib.hid h2
    clear h2
    have hlo : -1000000 ≤ n.tmod m := by have := H.out; omega
    go_enter Tryd.func5, Tryd.ntmps5
    go_wp2
    go_ret
    exact ⟨ret_eq H.out, rfl⟩
  · have H := Lib.hid h2
    clear h2
    go_enter Tryd.func5, Tryd.ntmps5
    go_wp2
    go_ret
    exact ⟨ret_eq H.out, rfl⟩

/-- Pick, its answer a natural number. -/
theorem pick_nat (n : Int) (m : Nat) (hm : 1 ≤ m) (hm' : m ≤ 1000000) : ∃ j : Nat, j < m ∧ (∀ w, Calls Tryd.prog 5 #[.int .i64 n, .int .i64 m] w fun e w' => e = .returned (.int .i64 j) ∧ w' = w) ∧ (n % (m : Int) = j) := by
  have h0 := Int.emod_nonneg n (show (m : Int) ≠ 0 by omega)
  have h1 := Int.emod_lt_of_pos n (show 0 < (m : Int) by omega)
  refine ⟨(n % (m : Int)).toNat, by omega, fun w => (pick_any n m w (by omega) (by omega)).mono fun e w' ⟨he, hw⟩ => ⟨?_, hw.symm⟩, by omega⟩
  rw [he]; exact ret_eq (by omega)


def handL : List (List UInt8) := [[116, 121, 112, 101], [115, 116, 114, 117, 99, 116], [105, 110, 116, 101, 114, 102, 97, 99, 101], [102, 117, 110, 99], [118, 97, 114], [105, 102], [101, 108, 115, 101], [102, 111, 114], [98, 114, 101, 97, 107], [99, 111, 110, 116, 105, 110, 117, 101], [114, 101, 116, 117, 114, 110], [112, 114, 105, 110, 116], [108, 101, 110], [109, 97, 107, 101], [110, 101, 119], [105, 110, 112, 117, 116], [116, 114, 117, 101], [102, 97, 108, 115, 101], [110, 105, 108], [105, 110, 116], [98, 111, 111, 108], [115, 116, 114, 105, 110, 103], [58, 61], [61, 61], [38, 38], [124, 124], [43], [45], [42], [60], [61], [33], [40], [41], [91], [93], [123], [125], [44], [46], [59], [10], [97], [55]]
def handV : List Value := handL.map (fun x => .string (bs x))
/-- The hand's words, as laid. -/
structure Hand (w : World) : Prop where
  words : w.rangeAt 0 0 handV
theorem Hand.kept {S : Nat → Prop} {w w' : World} (h : Hand w) (hf : Fr S w w') (h1 : ¬ S 0) : Hand w' := ⟨range_kept h.words hf h1⟩
theorem handL_le : ∀ x ∈ handL, x.length ≤ 9 := by decide
theorem Hand.word {w : World} (h : Hand w) (j : Nat) (hj : j < 44) : ∃ x : List UInt8, x.length ≤ 9 ∧ w.cell? ⟨0, j, none⟩ = some (.string (bs x)) := by
  have hx : handL[j]? = some (handL[j]'hj) := List.getElem?_eq_getElem hj
  refine ⟨handL[j]'hj, handL_le _ (List.getElem_mem _), ?_⟩
  have := h.words j (.string (bs (handL[j]'hj))) (by rw [handV, List.getElem?_map, hx]; rfl)
  rwa [Nat.zero_add] at this
theorem bs_append (a b : List UInt8) : bs a ++ bs b = bs (a ++ b) := by
  apply ByteArray.ext
  simp [bs]

/-- A slice of integers as it comes in. -/
structure IntsW (w : World) (A : Option Addr) (c : Nat) (xs : List Int) : Prop where
  le : xs.length ≤ c
  big : c ≤ 9223372036854775807
  at_ : ∀ (k : Nat) (x : Int), xs[k]? = some x → ∃ a, A = some a ∧ w.cell? (a.add k) = some (.int .i64 x)
theorem IntsW.front {w : World} {A : Option Addr} {c : Nat} {xs : List Int} (h : IntsW w A c xs) (k : Nat) : IntsW w A c (xs.take k) :=
  ⟨by rw [List.length_take]; have := h.le; omega, h.big, fun j x hj => h.at_ j x (by rw [List.getElem?_take] at hj; split at hj; exact hj; cases hj)⟩
end Go.Proofs.YtemmdbjcllcelaaDoor.Tk
