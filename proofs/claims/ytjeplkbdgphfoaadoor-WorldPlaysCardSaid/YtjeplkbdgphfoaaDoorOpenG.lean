/-
  Arguments with slices and structs, opened: no function of a program is named here.
-/
import Derived.Test.YtjeplkbdgphfoaaDoorDat
import Derived.OpenShut
import Derived.ChangeSlices
import Derived.ChangeMaps5
namespace Go.Proofs.YtjeplkbdgphfoaaDoor
open Go.ChangeShapes Go.WideShapes Go.RowKit

section
variable {H : Type} {enc : TypeId × Value → H} {w : World} {base : Nat} {sp : Nat → Bool} {held : Bool}

theorem cells_read {a : Addr} {n : Nat} {l : List Value} (h : w.cells? base a n = some l) : l.length = n ∧ ∀ (k : Nat) (u : Value), l[k]? = some u → w.cell? (a.add k) = some u := by
  unfold World.cells? at h
  split at h
  · have h1 := mapM_some_length h
    rw [List.length_range] at h1
    refine ⟨h1, fun k u hk => ?_⟩
    have hkl := (List.getElem?_eq_some_iff.1 hk).1
    rw [mapM_some_get h k k (List.getElem?_range (by omega)), hk]
  · cases h
theorem spot_none {a : Addr} {u : Value} (h : w.cell? a = some u) : a.spot = none := by
  unfold World.cell? at h
  split at h
  · split at h
    · cases h
    · next hs => cases hsp : a.spot with
      | none => rfl
      | some _ => rw [hsp] at hs; simp at hs
  · cases h

theorem sl_open {α : Type} {P : Program} {t e : TypeId} {sz : Nat} {C : α → List Value → Prop} {fuel : Nat} {cs : List Value} {y : DataW H × List MemPlace} (ht : P.underlying t = some (.slice e)) (hce : P.cellsOf e = sz) (hsz : 0 < sz)
    (hel : ∀ (fuel : Nat) (cs : List Value) (y : DataW H × List MemPlace), DataW.trod enc P w base sp held fuel e cs = some y → ∃ x, C x cs)
    (h : DataW.trod enc P w base sp held fuel t cs = some y) : ∃ v xs, cs = [v] ∧ SlAt w (fun _ => True) sz C v xs := by
  rcases DataW.trod_slice ht h with ⟨rfl, _⟩ | ⟨a, len, cap, elems, rest, n, _, rfl, _, hb, hl, hm, hlen, hel', _, _⟩
  · exact ⟨_, [], rfl, none, 0, rfl, Nat.le_refl _, by decide, fun h => absurd rfl h⟩
  · have each : ∀ i, i < len → ∃ x cs, C x cs ∧ cs.length = sz ∧ ∀ (k : Nat) (u : Value), cs[k]? = some u → w.cell? ((a.add (i * sz)).add k) = some u := by
      intro i hi
      have := hel' i hi
      rw [List.getElem?_eq_getElem (by omega), hce] at this
      cases hc : w.cells? base (a.add (i * sz)) sz with
      | none => rw [hc] at this; simp at this
      | some l =>
        rw [hc] at this
        obtain ⟨x, hx⟩ := hel _ _ _ this
        exact ⟨x, l, hx, (cells_read hc).1, (cells_read hc).2⟩
    have hcb : cap ≤ 9223372036854775807 := by unfold maxLen at hm; omega
    by_cases h0 : len = 0
    · subst h0
      exact ⟨_, [], rfl, some a, cap, rfl, Nat.zero_le _, hcb, fun h => absurd rfl h⟩
    have hspot : a.spot = none := by
      obtain ⟨x, cs, _, hl2, hc⟩ := each 0 (by omega)
      obtain ⟨u, hu⟩ : ∃ u, cs[0]? = some u := ⟨_, List.getElem?_eq_getElem (by omega)⟩
      have := hc 0 u hu
      rw [Nat.zero_mul] at this
      exact spot_none (a := a) (by simpa [Addr.add] using this)
    obtain ⟨b, o, hab⟩ : ∃ b o, a = ⟨b, o, none⟩ := ⟨a.block, a.off, by cases a; simp_all⟩
    subst hab
    refine ⟨_, List.ofFn (fun i : Fin len => Classical.choose (each i.1 i.2)), rfl, some ⟨b, o, none⟩, cap, by rw [List.length_ofFn], by rw [List.length_ofFn]; exact hl, hcb, fun _ => ⟨b, o, rfl, trivial, ?_, fun j x hj => ?_⟩⟩
    · obtain ⟨x, cs, _, hl2, hc⟩ := each 0 (by omega)
      obtain ⟨u, hu⟩ : ∃ u, cs[0]? = some u := ⟨_, List.getElem?_eq_getElem (by omega)⟩
      have := World.block_lt_of_cell? w _ (hc 0 u hu)
      simpa [Addr.add] using this
    · have hjl := (List.getElem?_eq_some_iff.1 hj).1
      rw [List.length_ofFn] at hjl
      obtain ⟨cs, h1, h2, h3⟩ := Classical.choose_spec (each j hjl)
      rw [List.getElem?_ofFn, dif_pos hjl] at hj
      simp only [Option.some.injEq] at hj
      subst hj
      refine ⟨cs, h1, h2, fun k u hk => ?_⟩
      have := h3 k u hk
      rwa [Go.WideShapes.add_plain, Go.WideShapes.add_plain] at this

theorem part_of {P : Program} {t : TypeId} {fs : Array Field} {fuel : Nat} {cs : List Value} {y : DataW H × List MemPlace} (ht : P.underlying t = some (.struct fs)) (h : DataW.trod enc P w base sp held fuel t cs = some y) :
    cs.length = P.cellsOf t ∧ ∃ n, ∀ (i : Nat) (ty : TypeId) (off sz : Nat), (fs[i]?).map (fun f => (f.type, f.offset)) = some (ty, off) → P.cellsOf ty = sz → ∃ z, DataW.trod enc P w base sp held n ty ((cs.drop off).take sz) = some z := by
  obtain ⟨xs, n, _, _, hl, hx, hf⟩ := DataW.trod_struct ht h
  refine ⟨hl, n, fun i ty off sz hi hs => ?_⟩
  cases hq : fs[i]? with
  | none => rw [hq] at hi; cases hi
  | some f =>
    rw [hq] at hi
    simp only [Option.map_some, Option.some.injEq, Prod.mk.injEq] at hi
    obtain ⟨rfl, rfl⟩ := hi
    subst hs
    have hil := (Array.getElem?_eq_some_iff.1 hq).1
    exact ⟨xs[i], by rw [hf i f hq, List.getElem?_eq_getElem (by omega)]⟩

end
end Go.Proofs.YtjeplkbdgphfoaaDoor
