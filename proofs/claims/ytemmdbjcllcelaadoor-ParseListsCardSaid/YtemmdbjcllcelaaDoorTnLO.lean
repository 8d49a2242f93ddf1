/-
  The program's own arrays of texts, as a row lists them, lie in the world.
  Slices of bytes and of integers among a row's arguments, opened.
-/
import Derived.Test.YtemmdbjcllcelaaDoorTnWa
import Derived.OpenShut
import Derived.ChangeVars
import Derived.LaidLaws
import Derived.ChangeAt
import Derived.ChangeSlices
import Derived.SizedLaws
namespace Go.Proofs.YtemmdbjcllcelaaDoor.Tk
open Go.RowKit

/-- One listed variable, in its cells (wherever it stands on the list). -/
def VarIs (w : World) (n : String) (d : DataW Unit) : Prop :=
  ∃ g t cs fuel p, Tryd.prog.globalNamed n = some g ∧ (Tryd.prog.globals[g]?).map (·.type) = some t ∧ w.var? Tryd.prog n = some cs ∧ DataW.trod (fun _ => ()) Tryd.prog w 0 (fun _ => true) false fuel t cs.toList = some (d, p)
theorem vars_are {w : World} : ∀ {l : List (String × DataW Unit)} {ps : List MemPlace}, DataW.LaidVars Tryd.prog w l ps → ∀ n d, (n, d) ∈ l → VarIs w n d
  | [], _, _, _, _, hm => by cases hm
  | (n', d') :: r, ps, h, n, d, hm => by
    obtain ⟨g, t, cs, fuel, p, q, h1, h2, h3, h4, h5, _⟩ := h
    rcases List.mem_cons.1 hm with e | e
    · cases e
      exact ⟨g, t, cs, fuel, p, h1, h2, h3, h4⟩
    · exact vars_are h5 n d e
theorem laid_var {w : World} {l : List (String × DataW Unit)} (h : laidMet Tryd.prog l w) {n : String} {d : DataW Unit} (hm : (n, d) ∈ l) : VarIs w n d :=
  let ⟨_, hv, _⟩ := h
  vars_are hv n d hm

/-- An array of texts that reads as these texts holds them. -/
theorem strs_of {H : Type} {enc : TypeId × Value → H} {P : Program} {w : World} {base : Nat} {sp : Nat → Bool} {held : Bool} {fuel n : Nat} {t e : TypeId} {cs : List Value} {L : List (List UInt8)} {p : List MemPlace}
    (ht : P.underlying t = some (.array n e)) (he : P.underlying e = some .string) (hce : P.cellsOf e = 1) (hct : P.cellsOf t = n)
    (h : DataW.trod enc P w base sp held fuel t cs = some (.agg (L.map fun b => .lit (.string b)), p)) : cs = L.map fun b => .string (bs b) := by
  obtain ⟨xs, m, rfl, hx, hl, hxl, hall⟩ := DataW.trod_array ht h
  have hxs : xs.map (·.1) = L.map fun b => (DataW.lit (.string b) : DataW H) := by
    have := congrArg Prod.fst hx
    simpa using this.symm
  have hL : L.length = n := by
    have := congrArg List.length hxs
    simp at this
    omega
  apply List.ext_getElem?
  intro i
  by_cases hi : i < n
  · have hh := hall i hi
    rw [hce, Nat.mul_one, List.getElem?_eq_getElem (show i < xs.length by omega)] at hh
    obtain ⟨s, hc, hy, _⟩ := DataW.trod_string he hh
    have h1 : cs[i]? = some (.string s) := by
      have := congrArg (fun l => l[0]?) hc
      simpa using this
    have h2 : (xs.map (·.1))[i]? = some (.lit (.string s.data.toList)) := by
      rw [List.getElem?_map, List.getElem?_eq_getElem (show i < xs.length by omega), hy]; rfl
    rw [hxs, List.getElem?_map, List.getElem?_eq_getElem (show i < L.length by omega)] at h2
    simp only [Option.map_some, Option.some.injEq, DataW.lit.injEq, Lit.string.injEq] at h2
    rw [h1, List.getElem?_map, List.getElem?_eq_getElem (show i < L.length by omega)]
    simp only [Option.map_some]
    rw [h2, ← bs_of]
  · rw [List.getElem?_eq_none (by omega), List.getElem?_eq_none (by simp; omega)]

theorem laid_texts {w : World} {l : List (String × DataW Unit)} (h : laidMet Tryd.prog l w) {n : String} {g m : Nat} {t e : TypeId} {L : List (List UInt8)} (hm : (n, .agg (L.map fun b => .lit (.string b))) ∈ l)
    (hg : Tryd.prog.globalNamed n = some g) (ht : (Tryd.prog.globals[g]?).map (·.type) = some t) (hu : Tryd.prog.underlying t = some (.array m e)) (he : Tryd.prog.underlying e = some .string) (hce : Tryd.prog.cellsOf e = 1) (hct : Tryd.prog.cellsOf t = m) :
    w.rangeAt g 0 (L.map fun b => .string (bs b)) := by
  obtain ⟨g', t', cs, fuel, p, h1, h2, h3, h4⟩ := laid_var h hm
  obtain rfl : g' = g := Option.some.inj (h1.symm.trans hg)
  obtain rfl : t' = t := Option.some.inj (h2.symm.trans ht)
  have e := strs_of hu he hce hct h4
  intro j v hj
  rw [Nat.zero_add, World.var?_cell h1 h3 j, ← Array.getElem?_toList, e]
  exact hj
end Go.Proofs.YtemmdbjcllcelaaDoor.Tk
namespace Go.Proofs.YtemmdbjcllcelaaDoor.Tk
open Go.ChangeShapes Go.WideShapes Go.ChangeAt Go.RowKit

theorem ints_open {H : Type} {enc : TypeId × Value → H} {W : World} {base : Nat} {sp : Nat → Bool} {held : Bool} {A : Option Addr} {len cap : Nat} {d : DataW H} {p : List MemPlace}
    (h : DataW.Trod enc Tryd.prog W base sp held 35 (.slice A len cap) d p) : ∃ zs : List Int, IntsW W A cap zs ∧ zs.length = len := by
  obtain ⟨fuel, hf⟩ := h
  rcases open_ints Tryd.underlying35 Tryd.underlying3 (by kernel_rfl) hf with ⟨hcs, _⟩ | ⟨x, l, c, zs, hcs, _, hl, hm, hz, _, hcell, hwz⟩
  · simp [Value.cells] at hcs
    obtain ⟨rfl, rfl, rfl⟩ := hcs
    exact ⟨[], ⟨Nat.le_refl _, by decide, fun k x h => by simp at h⟩, rfl⟩
  · simp [Value.cells] at hcs
    obtain ⟨rfl, rfl, rfl⟩ := hcs
    have hz' : len ≤ zs.length := by
      rw [hz]; split <;> omega
    refine ⟨zs.take len, ⟨by rw [List.length_take]; omega, by unfold maxLen at hm; omega, fun k y hk => ⟨x, rfl, ?_⟩⟩, by rw [List.length_take]; omega⟩
    rw [List.getElem?_take] at hk
    split at hk
    · have hlt := (List.getElem?_eq_some_iff.1 hk).1
      rw [hcell k hlt, List.getD_eq_getElem?_getD, hk]
      rfl
    · cases hk
theorem bytes1 : Tryd.prog.bytesOf 5 = 1 := by kernel_rfl
end Go.Proofs.YtemmdbjcllcelaaDoor.Tk
