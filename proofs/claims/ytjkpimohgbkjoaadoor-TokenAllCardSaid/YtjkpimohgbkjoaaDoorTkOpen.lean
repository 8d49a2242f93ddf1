/-
  Slices of bytes and of integers among a row's arguments, opened.
-/
import Derived.Test.YtjkpimohgbkjoaaDoorTkMore
import Derived.OpenShut
import Derived.ChangeSlices
import Derived.SizedLaws
namespace Go.Proofs.YtjkpimohgbkjoaaDoor
open Go.ChangeShapes Go.WideShapes Go.ChangeAt Go.RowKit

theorem toNat_u8 {n : Int} (h : (Lit.int .u8 n).wf = true) : n = ((UInt8.ofNat n.toNat).toNat : Int) := by
  simp [Lit.wf, IntKind.min, IntKind.max, IntKind.signed, IntKind.bits] at h
  rw [UInt8.toNat_ofNat']
  omega
theorem bytes_open {H : Type} {enc : TypeId × Value → H} {W : World} {base : Nat} {sp : Nat → Bool} {held : Bool} {A : Option Addr} {len cap : Nat} {d : DataW H} {p : List MemPlace}
    (h : DataW.Trod enc Tryd.prog W base sp held 28 (.slice A len cap) d p) : ∃ l : List UInt8, BytesW W A cap l ∧ l.length = len ∧ (len = 0 ∨ ∃ es spare, d = .slice es spare ∧ len ≤ es.length + spare.length) := by
  obtain ⟨fuel, hf⟩ := h
  rcases open_ints Tryd.underlying28 Tryd.underlying5 (by kernel_rfl) hf with ⟨hcs, _⟩ | ⟨x, l, c, zs, hcs, _, hl, hm, hz, hd, hcell, hwz⟩
  · simp [Value.cells] at hcs
    obtain ⟨rfl, rfl, rfl⟩ := hcs
    exact ⟨[], ⟨Nat.le_refl _, by decide, fun k x h => by simp at h⟩, rfl, .inl rfl⟩
  · simp [Value.cells] at hcs
    obtain ⟨rfl, rfl, rfl⟩ := hcs
    have hz' : len ≤ zs.length := by
      rw [hz]; split <;> omega
    refine ⟨(zs.take len).map (fun n => UInt8.ofNat n.toNat), ⟨by rw [List.length_map, List.length_take]; omega, by unfold maxLen at hm; omega, fun k y hk => ⟨x, rfl, ?_⟩⟩, by rw [List.length_map, List.length_take]; omega, .inr ⟨_, _, by simpa using congrArg Prod.fst hd, ?_⟩⟩
    · rw [List.getElem?_map] at hk
      cases hk2 : (zs.take len)[k]? with
      | none => rw [hk2] at hk; cases hk
      | some z =>
        rw [hk2] at hk
        simp only [Option.map_some, Option.some.injEq] at hk
        rw [List.getElem?_take] at hk2
        split at hk2
        · have hlt := (List.getElem?_eq_some_iff.1 hk2).1
          rw [hcell k hlt, List.getD_eq_getElem?_getD, hk2, ← hk]
          have := toNat_u8 (hwz z (List.mem_of_getElem? hk2))
          simp only [Option.getD_some]
          rw [← this]
        · cases hk2
    · simp only [lits, List.length_map, List.length_take, List.length_drop]
      omega
theorem ints_open {H : Type} {enc : TypeId × Value → H} {W : World} {base : Nat} {sp : Nat → Bool} {held : Bool} {A : Option Addr} {len cap : Nat} {d : DataW H} {p : List MemPlace}
    (h : DataW.Trod enc Tryd.prog W base sp held 31 (.slice A len cap) d p) : ∃ zs : List Int, IntsW W A cap zs ∧ zs.length = len := by
  obtain ⟨fuel, hf⟩ := h
  rcases open_ints Tryd.underlying31 Tryd.underlying3 (by kernel_rfl) hf with ⟨hcs, _⟩ | ⟨x, l, c, zs, hcs, _, hl, hm, hz, _, hcell, hwz⟩
  · simp [Value.cells] at hcs
    obtain ⟨rfl, rfl, rfl⟩ := hcs
    exact ⟨[], ⟨Nat.le_refl _, by decide, fun k x h => by simp at h⟩, rfl⟩
  · simp [Value.cells] at hcs
    obtain ⟨rfl, rfl, rfl⟩ := hcs
    have hz' : len ≤ zs.length := by
      rw [hz]; split <;> omega
    refine ⟨zs.take len, ⟨by rw [List.length_take]; omega, by unfold maxLen at hm; omega, fun k y hk => ⟨x, rfl, ?_⟩⟩, by rw [List.length_take]; omega⟩
    rw [List.getElem?_take] at hk
    split at hk
    · have hlt := (List.getElem?_eq_some_iff.1 hk).1
      rw [hcell k hlt, List.getD_eq_getElem?_getD, hk]
      rfl
    · cases hk
theorem bytes1 : Tryd.prog.bytesOf 5 = 1 := by kernel_rfl
end Go.Proofs.YtjkpimohgbkjoaaDoor
