/-
  Slices of bytes and of integers among a row's arguments, opened.
-/
import Derived.Test.YtpobkjnlcengbaaDoorTkL
import Derived.Test.YtpobkjnlcengbaaDoorHdQR
import Derived.OpenShut
import Derived.ChangeAt
import Derived.ChangeSlices
import Derived.SizedLaws
namespace Go.Proofs.YtpobkjnlcengbaaDoor
open Go.ChangeShapes Go.WideShapes Go.ChangeAt Go.RowKit

theorem ints_open {H : Type} {enc : TypeId × Value → H} {W : World} {base : Nat} {sp : Nat → Bool} {held : Bool} {A : Option Addr} {len cap : Nat} {d : DataW H} {p : List MemPlace}
    (h : DataW.Trod enc Tryd.prog W base sp held 31 (.slice A len cap) d p) : ∃ zs : List Int, IntsW W A cap zs ∧ zs.length = len := by
  obtain ⟨fuel, hf⟩ := h
  rcases open_ints Tryd.underlying31 Tryd.underlying3 (by kernel_rfl) hf with ⟨hcs, _⟩ | ⟨x, l, c, zs, hcs, _, hl, hm, hz, _, hcell, hwz⟩
  · simp [Value.cells] at hcs
    obtain ⟨rfl, rfl, rfl⟩ := hcs
    exact ⟨[], ⟨Nat.le_refl _, by decide, fun k x h => by simp at h⟩, rfl⟩
  · simp [Value.cells] at hcs
    obtain ⟨rfl, rfl, rfl⟩ := hcs
    have hz' : len ≤ zs.length := by
      rw [hz]; split <;> omega
    refine ⟨zs.take len, ⟨by rw [List.length_take]; omega, by unfold maxLen at hm; omega, fun k y hk => ⟨x, rfl, ?_⟩⟩, by rw [List.length_take]; omega⟩
    rw [List.getElem?_take] at hk
    split at hk
    · have hlt := (List.getElem?_eq_some_iff.1 hk).1
      rw [hcell k hlt, List.getD_eq_getElem?_getD, hk]
      rfl
    · cases hk
theorem bytes1 : Tryd.prog.bytesOf 5 = 1 := by kernel_rfl
end Go.Proofs.YtpobkjnlcengbaaDoor
