/-
  The program's own variables, as a row lists them, give 'Laid'.
-/
import Derived.Test.YtpobkjnlcengbaaDoorRows
import Derived.Test.YtpobkjnlcengbaaDoorTkB
import Derived.OpenShut
import Derived.ChangeVars
import Derived.LaidLaws
namespace Go.Proofs.YtpobkjnlcengbaaDoor
open Go.RowKit

/-- One listed variable, in its cells (wherever it stands on the list). -/
def VarIs (w : World) (n : String) (d : DataW Unit) : Prop :=
  ∃ g t cs fuel p, Tryd.prog.globalNamed n = some g ∧ (Tryd.prog.globals[g]?).map (·.type) = some t ∧ w.var? Tryd.prog n = some cs ∧ DataW.trod (fun _ => ()) Tryd.prog w 0 (fun _ => true) false fuel t cs.toList = some (d, p)
theorem vars_are {w : World} : ∀ {l : List (String × DataW Unit)} {ps : List MemPlace}, DataW.LaidVars Tryd.prog w l ps → ∀ n d, (n, d) ∈ l → VarIs w n d
  | [], _, _, _, _, hm => by cases hm
  | (n', d') :: r, ps, h, n, d, hm => by
    obtain ⟨g, t, cs, fuel, p, q, h1, h2, h3, h4, h5, _⟩ := h
    rcases List.mem_cons.1 hm with e | e
    · cases e
      exact ⟨g, t, cs, fuel, p, h1, h2, h3, h4⟩
    · exact vars_are h5 n d e
theorem laid_var {w : World} {l : List (String × DataW Unit)} (h : laidMet Tryd.prog l w) {n : String} {d : DataW Unit} (hm : (n, d) ∈ l) : VarIs w n d :=
  let ⟨_, hv, _⟩ := h
  vars_are hv n d hm

/-- An array of texts that reads as these texts holds them. -/
theorem strs_of {H : Type} {enc : TypeId × Value → H} {P : Program} {w : World} {base : Nat} {sp : Nat → Bool} {held : Bool} {fuel n : Nat} {t e : TypeId} {cs : List Value} {L : List (List UInt8)} {p : List MemPlace}
    (ht : P.underlying t = some (.array n e)) (he : P.underlying e = some .string) (hce : P.cellsOf e = 1) (hct : P.cellsOf t = n)
    (h : DataW.trod enc P w base sp held fuel t cs = some (.agg (L.map fun b => .lit (.string b)), p)) : cs = L.map fun b => .string (bs b) := by
  obtain ⟨xs, m, rfl, hx, hl, hxl, hall⟩ := DataW.trod_array ht h
  have hxs : xs.map (·.1) = L.map fun b => (DataW.lit (.string b) : DataW H) := by
    have := congrArg Prod.fst hx
    simpa using this.symm
  have hL : L.length = n := by
    have := congrArg List.length hxs
    simp at this
    omega
  apply List.ext_getElem?
  intro i
  by_cases hi : i < n
  · have hh := hall i hi
    rw [hce, Nat.mul_one, List.getElem?_eq_getElem (show i < xs.length by omega)] at hh
    obtain ⟨s, hc, hy, _⟩ := DataW.trod_string he hh
    have h1 : cs[i]? = some (.string s) := by
      have := congrArg (fun l => l[0]?) hc
      simpa using this
    have h2 : (xs.map (·.1))[i]? = some (.lit (.string s.data.toList)) := by
      rw [List.getElem?_map, List.getElem?_eq_getElem (show i < xs.length by omega), hy]; rfl
    rw [hxs, List.getElem?_map, List.getElem?_eq_getElem (show i < L.length by omega)] at h2
    simp only [Option.map_some, Option.some.injEq, DataW.lit.injEq, Lit.string.injEq] at h2
    rw [h1, List.getElem?_map, List.getElem?_eq_getElem (show i < L.length by omega)]
    simp only [Option.map_some]
    rw [h2, ← bs_of]
  · rw [List.getElem?_eq_none (by omega), List.getElem?_eq_none (by simp; omega)]

/-- The two variables' names, off the given row. -/
def nameS : String := (Rows.tokenKnownRow.laid.map (·.1)).getD 0 default
def nameW : String := (Rows.tokenKnownRow.laid.map (·.1)).getD 1 default

theorem laid_of {W : World} {l : List (String × DataW Unit)} (h : laidMet Tryd.prog l W) (hs : (nameS, Rows.laid_turnstone_token_signs) ∈ l) (hw : (nameW, Rows.laid_turnstone_token_words) ∈ l) : Laid W ∧ 3 ≤ W.heap.size := by
  have L : Laid W := by
    constructor
    · obtain ⟨g, t, cs, fuel, p, h1, h2, h3, h4⟩ := laid_var h hw
      obtain rfl : g = 0 := Option.some.inj (h1.symm.trans (show Tryd.prog.globalNamed nameW = some 0 by kernel_rfl))
      obtain rfl : t = 49 := Option.some.inj (h2.symm.trans (show (Tryd.prog.globals[0]?).map (·.type) = some 49 by kernel_rfl))
      have e : cs.toList = wordsV := strs_of (L := wordsL) Tryd.underlying49 Tryd.underlying9 (by kernel_rfl) (by kernel_rfl) h4
      intro j v hj
      rw [Nat.zero_add, World.var?_cell h1 h3 j, ← Array.getElem?_toList, e]
      exact hj
    · obtain ⟨g, t, cs, fuel, p, h1, h2, h3, h4⟩ := laid_var h hs
      obtain rfl : g = 2 := Option.some.inj (h1.symm.trans (show Tryd.prog.globalNamed nameS = some 2 by kernel_rfl))
      obtain rfl : t = 84 := Option.some.inj (h2.symm.trans (show (Tryd.prog.globals[2]?).map (·.type) = some 84 by kernel_rfl))
      have e : cs.toList = signsV := strs_of (L := signsL) Tryd.underlying84 Tryd.underlying9 (by kernel_rfl) (by kernel_rfl) h4
      intro j v hj
      rw [Nat.zero_add, World.var?_cell h1 h3 j, ← Array.getElem?_toList, e]
      exact hj
  exact ⟨L, by have := World.block_lt_of_cell? W _ (L.signs 0 _ rfl); simp at this; omega⟩
end Go.Proofs.YtpobkjnlcengbaaDoor
