/-
  The laws' arguments, opened.
-/
import Derived.Test.YtjeplkbdgphfoaaDoorWdQ
import Derived.Test.YtjeplkbdgphfoaaDoorOpenG
namespace Go.Proofs.YtjeplkbdgphfoaaDoor
open Go.ChangeShapes Go.WideShapes Go.RowKit

section
variable {H : Type} {enc : TypeId × Value → H} {w : World} {base : Nat} {sp : Nat → Bool} {held : Bool}
theorem i64_open {fuel : Nat} {cs : List Value} {y : DataW H × List MemPlace} (h : DataW.trod enc Tryd.prog w base sp held fuel 2 cs = some y) : ∃ x, I64C x cs := by
  obtain ⟨n, rfl, _, hw⟩ := DataW.trod_int Tryd.underlying2 h
  simp [Lit.wf, IntKind.min, IntKind.max, IntKind.signed, IntKind.bits] at hw
  exact ⟨n, rfl, by omega, by omega⟩
theorem int64s_open {A : Option Addr} {len cap : Nat} {d : DataW H} {p : List MemPlace} (h : DataW.Trod enc Tryd.prog w base sp held 23 (.slice A len cap) d p) : ∃ xs, SlP w (fun _ => True) 1 I64C A cap xs ∧ xs.length = len := by
  obtain ⟨fuel, hf⟩ := h
  obtain ⟨v, xs, hcs, hs⟩ := sl_open (sz := 1) Tryd.underlying23 (by kernel_rfl) (by decide) (fun _ _ _ h => i64_open h) hf
  obtain ⟨A2, c2, hv, hp⟩ := hs.parts
  simp [Value.cells] at hcs
  rw [hv] at hcs
  simp only [Value.slice.injEq] at hcs
  obtain ⟨rfl, rfl, rfl⟩ := hcs
  exact ⟨xs, hp, rfl⟩
end
theorem u64_of {n : Int} (h : (Lit.int .u64 n).wf = true) : u64b n := by
  simp [Lit.wf, IntKind.min, IntKind.max, IntKind.signed, IntKind.bits] at h
  exact ⟨by omega, by omega⟩
theorem i64_of {n : Int} (h : (Lit.int .i64 n).wf = true) : i64b n := by
  simp [Lit.wf, IntKind.min, IntKind.max, IntKind.signed, IntKind.bits] at h
  exact ⟨by omega, by omega⟩
end Go.Proofs.YtjeplkbdgphfoaaDoor
