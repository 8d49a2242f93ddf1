/-
  WorldPlays: its arguments, opened.
-/
import Derived.Test.YtjeplkbdgphfoaaDoorWpAD
import Derived.Test.YtjeplkbdgphfoaaDoorWdOp
namespace Go.Proofs.YtjeplkbdgphfoaaDoor
open Go.ChangeShapes Go.WideShapes Go.RowKit

section
variable {H : Type} {enc : TypeId × Value → H} {w : World} {base : Nat} {sp : Nat → Bool} {held : Bool}
theorem int_open {fuel : Nat} {cs : List Value} {y : DataW H × List MemPlace} (h : DataW.trod enc Tryd.prog w base sp held fuel 3 cs = some y) : ∃ x : Int, cs = [.int .i64 x] ∧ i64b x := by
  obtain ⟨n, rfl, _, hw⟩ := DataW.trod_int Tryd.underlying3 h
  simp [Lit.wf, IntKind.min, IntKind.max, IntKind.signed, IntKind.bits] at hw
  exact ⟨n, rfl, by omega, by omega⟩
theorem uint_open {fuel : Nat} {cs : List Value} {y : DataW H × List MemPlace} (h : DataW.trod enc Tryd.prog w base sp held fuel 38 cs = some y) : ∃ x : Int, cs = [.int .u64 x] ∧ u64b x := by
  obtain ⟨n, rfl, _, hw⟩ := DataW.trod_int Tryd.underlying38 h
  exact ⟨n, rfl, u64_of hw⟩
theorem strc_open {fuel : Nat} {cs : List Value} {y : DataW H × List MemPlace} (h : DataW.trod enc Tryd.prog w base sp held fuel 9 cs = some y) : ∃ x, StrC x cs := by
  obtain ⟨b, rfl, _, hw⟩ := DataW.trod_string Tryd.underlying9 h
  exact ⟨b, rfl, by unfold maxLen at hw; omega⟩
theorem wstep_open {fuel : Nat} {cs : List Value} {y : DataW H × List MemPlace} (h : DataW.trod enc Tryd.prog w base sp held fuel 42 cs = some y) : ∃ x, PStepC x cs := by
  obtain ⟨hl, n, hf⟩ := part_of Tryd.underlying42 h
  rw [show Tryd.prog.cellsOf 42 = 4 from by kernel_rfl] at hl
  obtain ⟨c0, c1, c2, c3, rfl⟩ : ∃ c0 c1 c2 c3, cs = [c0, c1, c2, c3] := by
    match cs, hl with
    | [c0, c1, c2, c3], _ => exact ⟨c0, c1, c2, c3, rfl⟩
  have hi : Tryd.prog.cellsOf 3 = 1 := by kernel_rfl
  have hu : Tryd.prog.cellsOf 38 = 1 := by kernel_rfl
  obtain ⟨z0, h0⟩ := hf 0 3 0 1 rfl hi
  obtain ⟨z1, h1⟩ := hf 1 3 1 1 rfl hi
  obtain ⟨z2, h2⟩ := hf 2 3 2 1 rfl hi
  obtain ⟨z3, h3⟩ := hf 3 38 3 1 rfl hu
  simp only [List.drop_zero, List.drop_succ_cons, List.take_succ_cons, List.take_zero] at h0 h1 h2 h3
  obtain ⟨x0, e0, b0⟩ := int_open h0
  obtain ⟨x1, e1, b1⟩ := int_open h1
  obtain ⟨x2, e2, b2⟩ := int_open h2
  obtain ⟨x3, e3, b3⟩ := uint_open h3
  simp only [List.cons.injEq, and_true] at e0 e1 e2 e3
  subst e0 e1 e2 e3
  exact ⟨⟨x0, x1, x2, x3⟩, rfl, b0, b1, b2, b3⟩
theorem strs_open {A : Option Addr} {len cap : Nat} {d : DataW H} {p : List MemPlace} (h : DataW.Trod enc Tryd.prog w base sp held 22 (.slice A len cap) d p) : ∃ xs, SlP w (fun _ => True) 1 StrC A cap xs ∧ xs.length = len := by
  obtain ⟨fuel, hf⟩ := h
  obtain ⟨v, xs, hcs, hs⟩ := sl_open (sz := 1) Tryd.underlying22 (by kernel_rfl) (by decide) (fun _ _ _ h => strc_open h) hf
  obtain ⟨A2, c2, hv, hp⟩ := hs.parts
  simp [Value.cells] at hcs
  rw [hv] at hcs
  simp only [Value.slice.injEq] at hcs
  obtain ⟨rfl, rfl, rfl⟩ := hcs
  exact ⟨xs, hp, rfl⟩
theorem wsteps_open {A : Option Addr} {len cap : Nat} {d : DataW H} {p : List MemPlace} (h : DataW.Trod enc Tryd.prog w base sp held 24 (.slice A len cap) d p) : ∃ xs, SlP w (fun _ => True) 4 PStepC A cap xs ∧ xs.length = len := by
  obtain ⟨fuel, hf⟩ := h
  obtain ⟨v, xs, hcs, hs⟩ := sl_open (sz := 4) Tryd.underlying24 (by kernel_rfl) (by decide) (fun _ _ _ h => wstep_open h) hf
  obtain ⟨A2, c2, hv, hp⟩ := hs.parts
  simp [Value.cells] at hcs
  rw [hv] at hcs
  simp only [Value.slice.injEq] at hcs
  obtain ⟨rfl, rfl, rfl⟩ := hcs
  exact ⟨xs, hp, rfl⟩
end
end Go.Proofs.YtjeplkbdgphfoaaDoor
