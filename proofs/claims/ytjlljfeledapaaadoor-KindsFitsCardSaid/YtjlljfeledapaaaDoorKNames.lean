/-
  The law's own names, as a row lists them.
-/
import Derived.Test.YtjlljfeledapaaaDoorRows
import Derived.Test.YtjlljfeledapaaaDoorTypesA
import Derived.OpenShut
import Derived.ChangeVars
import Derived.LaidLaws
namespace Go.Proofs.YtjlljfeledapaaaDoor
open Go.RowKit

/-- One listed variable, in its cells (wherever it stands on the list). -/
def VarIs (w : World) (n : String) (d : DataW Unit) : Prop :=
  ∃ g t cs fuel p, Tryd.prog.globalNamed n = some g ∧ (Tryd.prog.globals[g]?).map (·.type) = some t ∧ w.var? Tryd.prog n = some cs ∧ DataW.trod (fun _ => ()) Tryd.prog w 0 (fun _ => true) false fuel t cs.toList = some (d, p)
theorem vars_are {w : World} : ∀ {l : List (String × DataW Unit)} {ps : List MemPlace}, DataW.LaidVars Tryd.prog w l ps → ∀ n d, (n, d) ∈ l → VarIs w n d
  | [], _, _, _, _, hm => by cases hm
  | (n', d') :: r, ps, h, n, d, hm => by
    obtain ⟨g, t, cs, fuel, p, q, h1, h2, h3, h4, h5, _⟩ := h
    rcases List.mem_cons.1 hm with e | e
    · cases e
      exact ⟨g, t, cs, fuel, p, h1, h2, h3, h4⟩
    · exact vars_are h5 n d e
theorem laid_var {w : World} {l : List (String × DataW Unit)} (h : laidMet Tryd.prog l w) {n : String} {d : DataW Unit} (hm : (n, d) ∈ l) : VarIs w n d :=
  let ⟨_, hv, _⟩ := h
  vars_are hv n d hm

/-- An array of texts that reads as these texts holds them. -/
theorem strs_of {H : Type} {enc : TypeId × Value → H} {P : Program} {w : World} {base : Nat} {sp : Nat → Bool} {held : Bool} {fuel n : Nat} {t e : TypeId} {cs : List Value} {L : List (List UInt8)} {p : List MemPlace}
    (ht : P.underlying t = some (.array n e)) (he : P.underlying e = some .string) (hce : P.cellsOf e = 1) (hct : P.cellsOf t = n)
    (h : DataW.trod enc P w base sp held fuel t cs = some (.agg (L.map fun b => .lit (.string b)), p)) : cs = L.map fun b => .string ⟨b.toArray⟩ := by
  obtain ⟨xs, m, rfl, hx, hl, hxl, hall⟩ := DataW.trod_array ht h
  have hxs : xs.map (·.1) = L.map fun b => (DataW.lit (.string b) : DataW H) := by
    have := congrArg Prod.fst hx
    simpa using this.symm
  have hL : L.length = n := by
    have := congrArg List.length hxs
    simp at this
    omega
  apply List.ext_getElem?
  intro i
  by_cases hi : i < n
  · have hh := hall i hi
    rw [hce, Nat.mul_one, List.getElem?_eq_getElem (show i < xs.length by omega)] at hh
    obtain ⟨s, hc, hy, _⟩ := DataW.trod_string he hh
    have h1 : cs[i]? = some (.string s) := by
      have := congrArg (fun l => l[0]?) hc
      simpa using this
    have h2 : (xs.map (·.1))[i]? = some (.lit (.string s.data.toList)) := by
      rw [List.getElem?_map, List.getElem?_eq_getElem (show i < xs.length by omega), hy]; rfl
    rw [hxs, List.getElem?_map, List.getElem?_eq_getElem (show i < L.length by omega)] at h2
    simp only [Option.map_some, Option.some.injEq, DataW.lit.injEq, Lit.string.injEq] at h2
    rw [h1, List.getElem?_map, List.getElem?_eq_getElem (show i < L.length by omega)]
    simp only [Option.map_some]
    rw [h2]
  · rw [List.getElem?_eq_none (by omega), List.getElem?_eq_none (by simp; omega)]

/-- The variable's name, off the given row. -/
def nameN : String := (Rows.kindsSameRow.laid.map (·.1)).getD 0 default
def namesL : List (List UInt8) := [[80], [81], [82], [83], [120], [121], [109], []]
theorem names_at : ∀ j, j < 8 → (namesL.map fun b => (Value.string ⟨b.toArray⟩))[j]? = some (.string (nm j))
  | 0, _ => rfl
  | 1, _ => rfl
  | 2, _ => rfl
  | 3, _ => rfl
  | 4, _ => rfl
  | 5, _ => rfl
  | 6, _ => rfl
  | 7, _ => rfl
  | _ + 8, h => by omega

theorem names_of {W : World} {l : List (String × DataW Unit)} (h : laidMet Tryd.prog l W) (hs : (nameN, Rows.laid_turnstone_turnstonelaw2_names) ∈ l) : Names W := by
  obtain ⟨g, t, cs, fuel, p, h1, h2, h3, h4⟩ := laid_var h hs
  obtain rfl : g = 0 := Option.some.inj (h1.symm.trans (show Tryd.prog.globalNamed nameN = some 0 by kernel_rfl))
  obtain rfl : t = 47 := Option.some.inj (h2.symm.trans (show (Tryd.prog.globals[0]?).map (·.type) = some 47 by kernel_rfl))
  have e : cs.toList = namesL.map fun b => .string ⟨b.toArray⟩ := strs_of (L := namesL) Tryd.underlying47 Tryd.underlying9 (by kernel_rfl) (by kernel_rfl) h4
  intro j hj
  rw [World.var?_cell h1 h3 j, ← Array.getElem?_toList, e]
  exact names_at j hj
end Go.Proofs.YtjlljfeledapaaaDoor
