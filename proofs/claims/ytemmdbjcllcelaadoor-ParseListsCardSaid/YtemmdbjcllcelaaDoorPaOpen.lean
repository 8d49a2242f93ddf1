/-
  A slice of bools among a row's arguments, opened.
-/
import Derived.Test.YtemmdbjcllcelaaDoorPaListW
import Derived.Test.YtemmdbjcllcelaaDoorOpenG
import Derived.ChangeArms
namespace Go.Proofs.YtemmdbjcllcelaaDoor.Pa
open Go.ChangeShapes Go.WideShapes Go.RowKit

theorem bools_open {H : Type} {enc : TypeId × Value → H} {w : World} {base : Nat} {sp : Nat → Bool} {held : Bool} {A : Option Addr} {len cap : Nat} {d : DataW H} {p : List MemPlace} (h : DataW.Trod enc Tryd.prog w base sp held 22 (.slice A len cap) d p) : ∃ xs, SlP w (fun _ => True) 1 BoolC A cap xs ∧ xs.length = len := by
  obtain ⟨fuel, hf⟩ := h
  obtain ⟨v, xs, hcs, hs⟩ := sl_open (C := BoolC) (sz := 1) Tryd.underlying22 (by kernel_rfl) (by decide) (fun _ _ _ h => by obtain ⟨b, e, _⟩ := DataW.trod_bool Tryd.underlying4 h; exact ⟨b, e⟩) hf
  obtain ⟨A2, c2, hv, hp⟩ := hs.parts
  simp [Value.cells] at hcs
  rw [hv] at hcs
  simp only [Value.slice.injEq] at hcs
  obtain ⟨rfl, rfl, rfl⟩ := hcs
  exact ⟨xs, hp, rfl⟩
end Go.Proofs.YtemmdbjcllcelaaDoor.Pa
