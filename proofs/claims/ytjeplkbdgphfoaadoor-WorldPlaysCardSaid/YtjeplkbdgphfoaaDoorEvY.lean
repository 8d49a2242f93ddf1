/-
  A run that is reckoned over blocks with names of its own: the program's tables, its own variables as a row lists them.
-/
import Derived.Test.YtjeplkbdgphfoaaDoorRows
import Derived.Test.YtjeplkbdgphfoaaDoorChecked
import Derived.Test.YtjeplkbdgphfoaaDoorEvW
import Derived.OpenShut
import Derived.ChangeVars
import Derived.LaidLaws
import Derived.Lib.LaidTab
namespace Go.Proofs.YtjeplkbdgphfoaaDoor
open Go.RowKit

/-- One listed variable, in its cells. -/
def VarIsZ (w : World) (n : String) (d : DataW Unit) : Prop :=
  ∃ g t cs fuel p, Tryd.prog.globalNamed n = some g ∧ (Tryd.prog.globals[g]?).map (·.type) = some t ∧ w.var? Tryd.prog n = some cs ∧ DataW.trod (fun _ => ()) Tryd.prog w 0 (fun _ => true) false fuel t cs.toList = some (d, p)
theorem vars_areZ {w : World} : ∀ {l : List (String × DataW Unit)} {ps : List MemPlace}, DataW.LaidVars Tryd.prog w l ps → ∀ n d, (n, d) ∈ l → VarIsZ w n d
  | [], _, _, _, _, hm => by cases hm
  | (n', d') :: r, ps, h, n, d, hm => by
    obtain ⟨g, t, cs, fuel, p, q, h1, h2, h3, h4, h5, _⟩ := h
    rcases List.mem_cons.1 hm with e | e
    · cases e
      exact ⟨g, t, cs, fuel, p, h1, h2, h3, h4⟩
    · exact vars_areZ h5 n d e
theorem laid_varZ {w : World} {l : List (String × DataW Unit)} (h : laidMet Tryd.prog l w) {n : String} {d : DataW Unit} (hm : (n, d) ∈ l) : VarIsZ w n d :=
  let ⟨_, hv, _⟩ := h
  vars_areZ hv n d hm

/-- An array of texts that reads as these texts holds them. -/
theorem strs_ofZ {H : Type} {enc : TypeId × Value → H} {P : Program} {w : World} {base : Nat} {sp : Nat → Bool} {held : Bool} {fuel n : Nat} {t e : TypeId} {cs : List Value} {L : List (List UInt8)} {p : List MemPlace}
    (ht : P.underlying t = some (.array n e)) (he : P.underlying e = some .string) (hce : P.cellsOf e = 1) (hct : P.cellsOf t = n)
    (h : DataW.trod enc P w base sp held fuel t cs = some (.agg (L.map fun b => .lit (.string b)), p)) : cs = L.map fun b => .string ⟨⟨b⟩⟩ := by
  obtain ⟨xs, m, rfl, hx, hl, hxl, hall⟩ := DataW.trod_array ht h
  have hxs : xs.map (·.1) = L.map fun b => (DataW.lit (.string b) : DataW H) := by
    have := congrArg Prod.fst hx
    simpa using this.symm
  have hL : L.length = n := by
    have := congrArg List.length hxs
    simp at this
    omega
  apply List.ext_getElem?
  intro i
  by_cases hi : i < n
  · have hh := hall i hi
    rw [hce, Nat.mul_one, List.getElem?_eq_getElem (show i < xs.length by omega)] at hh
    obtain ⟨s, hc, hy, _⟩ := DataW.trod_string he hh
    have h1 : cs[i]? = some (.string s) := by
      have := congrArg (fun l => l[0]?) hc
      simpa using this
    have h2 : (xs.map (·.1))[i]? = some (.lit (.string s.data.toList)) := by
      rw [List.getElem?_map, List.getElem?_eq_getElem (show i < xs.length by omega), hy]; rfl
    rw [hxs, List.getElem?_map, List.getElem?_eq_getElem (show i < L.length by omega)] at h2
    simp only [Option.map_some, Option.some.injEq, DataW.lit.injEq, Lit.string.injEq] at h2
    rw [h1, List.getElem?_map, List.getElem?_eq_getElem (show i < L.length by omega)]
    simp only [Option.map_some]
    rw [h2]
  · rw [List.getElem?_eq_none (by omega), List.getElem?_eq_none (by simp; omega)]
theorem laid_rangeZ {w : World} {l : List (String × DataW Unit)} (h : laidMet Tryd.prog l w) {n : String} {g m : Nat} {t e : TypeId} {L : List (List UInt8)} (hm : (n, .agg (L.map fun b => .lit (.string b))) ∈ l)
    (hg : Tryd.prog.globalNamed n = some g) (ht : (Tryd.prog.globals[g]?).map (·.type) = some t) (hu : Tryd.prog.underlying t = some (.array m e)) (he : Tryd.prog.underlying e = some .string) (hce : Tryd.prog.cellsOf e = 1) (hct : Tryd.prog.cellsOf t = m) :
    w.rangeAt g 0 (L.map fun b => .string ⟨⟨b⟩⟩) := by
  obtain ⟨g', t', cs, fuel, p, h1, h2, h3, h4⟩ := laid_varZ h hm
  obtain rfl : g' = g := Option.some.inj (h1.symm.trans hg)
  obtain rfl : t' = t := Option.some.inj (h2.symm.trans ht)
  have e := strs_ofZ hu he hce hct h4
  intro j v hj
  rw [Nat.zero_add, World.var?_cell h1 h3 j, ← Array.getElem?_toList, e]
  exact hj

theorem laid_rangeI {w : World} {l : List (String × DataW Unit)} (h : laidMet Tryd.prog l w) {n : String} {g m : Nat} {t e : TypeId} {k : IntKind} {L : List Int} (hm : (n, .agg (L.map fun z => .lit (.int k z))) ∈ l)
    (hg : Tryd.prog.globalNamed n = some g) (ht : (Tryd.prog.globals[g]?).map (·.type) = some t) (hu : Tryd.prog.underlying t = some (.array m e)) (he : Tryd.prog.underlying e = some (.int k)) (hce : Tryd.prog.cellsOf e = 1) (hct : Tryd.prog.cellsOf t = m) :
    w.rangeAt g 0 (L.map fun z => .int k z) := by
  obtain ⟨g', t', cs, fuel, p, h1, h2, h3, h4⟩ := laid_varZ h hm
  obtain rfl : g' = g := Option.some.inj (h1.symm.trans hg)
  obtain rfl : t' = t := Option.some.inj (h2.symm.trans ht)
  have e := Lib.cells_of_tab (k := k) (zs := L) (n := m) hu he hce hct h4
  intro j v hj
  rw [Nat.zero_add, World.var?_cell h1 h3 j, ← Array.getElem?_toList, e]
  exact hj

/-- The program's own arrays are few, and plain. -/
def ksB (ng : Nat) (ks : List (Nat × List Value)) : Bool := ks.all fun x => Nat.blt x.1 ng && Nat.blt (x.2.length + 1) 1073741824 && x.2.all flat && !x.2.isEmpty
theorem ksB_spec {ng : Nat} {ks : List (Nat × List Value)} (h : ksB ng ks = true) : ∀ x ∈ ks, x.1 < ng ∧ x.2.length + 1 < 2 ^ 30 ∧ x.2.all flat = true ∧ x.2 ≠ [] := fun x hx => by
  have := List.all_eq_true.1 h x hx
  rw [Bool.and_eq_true, Bool.and_eq_true, Bool.and_eq_true] at this
  obtain ⟨⟨⟨h1, h2⟩, h3⟩, h4⟩ := this
  exact ⟨blt_lt h1, blt_lt h2, h3, fun e => by rw [e] at h4; cases h4⟩

noncomputable section
def rtab : Rt := tabs Tryd.prog (Tr.row .e 0 Tryd.prog.types.toList) (Tr.row .e 0 Tryd.prog.funcs.toList) Tryd.prog.types.toList.length Tryd.prog.funcs.toList.length
def namesB (l : List Func) : Bool := l.all fun fn => !(fn.body.isSome && fn.name == "runtime.NumGoroutine")
theorem names_of {P : Program} (h : namesB P.funcs.toList = true) : NamesOk P := fun f fn hf hb => by
  have := List.all_eq_true.1 h fn (Array.mem_toList_iff.2 (Array.mem_of_getElem? hf))
  rw [hb, Bool.true_and] at this
  simpa using this
theorem names_ok : NamesOk Tryd.prog := names_of (by decide +kernel)
theorem few : Nat.blt Tryd.prog.types.toList.length 1000000 = true ∧ Nat.blt Tryd.prog.funcs.toList.length 1000000 = true := by decide +kernel
theorem rtab_ok : rtab.Ok Tryd.prog := tabs_ok rfl rfl (blt_lt few.1) (blt_lt few.2)
end
end Go.Proofs.YtjeplkbdgphfoaaDoor
