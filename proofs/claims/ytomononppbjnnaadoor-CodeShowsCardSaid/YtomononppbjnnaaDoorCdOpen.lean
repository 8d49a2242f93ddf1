/-
  A slice of instructions among a row's arguments, opened.
-/
import Derived.Test.YtomononppbjnnaaDoorCodeShowsW
import Derived.Test.YtomononppbjnnaaDoorOpenG
namespace Go.Proofs.YtomononppbjnnaaDoor
open Go.ChangeShapes Go.WideShapes Go.RowKit

section
variable {H : Type} {enc : TypeId × Value → H} {w : World} {base : Nat} {sp : Nat → Bool} {held : Bool}
theorem num_open {fuel : Nat} {cs : List Value} {y : DataW H × List MemPlace} (h : DataW.trod enc Tryd.prog w base sp held fuel 3 cs = some y) : ∃ x : Int, cs = [.int .i64 x] ∧ i64 x := by
  obtain ⟨n, rfl, _, hw⟩ := DataW.trod_int Tryd.underlying3 h
  simp [Lit.wf, IntKind.min, IntKind.max, IntKind.signed, IntKind.bits] at hw
  exact ⟨n, rfl, by omega, by omega⟩
theorem ins_open {fuel : Nat} {cs : List Value} {y : DataW H × List MemPlace} (h : DataW.trod enc Tryd.prog w base sp held fuel 24 cs = some y) : ∃ x, InsC x cs := by
  obtain ⟨hl, n, hf⟩ := part_of Tryd.underlying24 h
  rw [show Tryd.prog.cellsOf 24 = 3 from by kernel_rfl] at hl
  obtain ⟨c0, c1, c2, rfl⟩ : ∃ c0 c1 c2, cs = [c0, c1, c2] := by
    match cs, hl with
    | [c0, c1, c2], _ => exact ⟨c0, c1, c2, rfl⟩
  have hi : Tryd.prog.cellsOf 3 = 1 := by kernel_rfl
  obtain ⟨z0, h0⟩ := hf 0 3 0 1 rfl hi
  obtain ⟨z1, h1⟩ := hf 1 3 1 1 rfl hi
  obtain ⟨z2, h2⟩ := hf 2 3 2 1 rfl hi
  simp only [List.drop_zero, List.drop_succ_cons, List.take_succ_cons, List.take_zero] at h0 h1 h2
  obtain ⟨x0, e0, b0⟩ := num_open h0
  obtain ⟨x1, e1, b1⟩ := num_open h1
  obtain ⟨x2, e2, b2⟩ := num_open h2
  simp only [List.cons.injEq, and_true] at e0 e1 e2
  subst e0 e1 e2
  exact ⟨⟨x0, x1, x2⟩, rfl, b0, b1, b2⟩
theorem codes_open {A : Option Addr} {len cap : Nat} {d : DataW H} {p : List MemPlace} (h : DataW.Trod enc Tryd.prog w base sp held 25 (.slice A len cap) d p) : ∃ xs, SlP w (fun _ => True) 3 InsC A cap xs ∧ xs.length = len := by
  obtain ⟨fuel, hf⟩ := h
  obtain ⟨v, xs, hcs, hs⟩ := sl_open (sz := 3) Tryd.underlying25 (by kernel_rfl) (by decide) (fun _ _ _ h => ins_open h) hf
  obtain ⟨A2, c2, hv, hp⟩ := hs.parts
  simp [Value.cells] at hcs
  rw [hv] at hcs
  simp only [Value.slice.injEq] at hcs
  obtain ⟨rfl, rfl, rfl⟩ := hcs
  exact ⟨xs, hp, rfl⟩
end
end Go.Proofs.YtomononppbjnnaaDoor
