/-
  Arguments with slices of structs, opened.
-/
import Derived.Test.YtjlljfeledapaaaDoorTypesA
import Derived.OpenShut
import Derived.ChangeSlices
import Derived.ChangeMaps5
namespace Go.Proofs.YtjlljfeledapaaaDoor
open Go.ChangeShapes Go.WideShapes Go.RowKit

section
variable {H : Type} {enc : TypeId × Value → H} {w : World} {base : Nat} {sp : Nat → Bool} {held : Bool}

theorem cells_read {a : Addr} {n : Nat} {l : List Value} (h : w.cells? base a n = some l) : l.length = n ∧ ∀ (k : Nat) (u : Value), l[k]? = some u → w.cell? (a.add k) = some u := by
  unfold World.cells? at h
  split at h
  · have h1 := mapM_some_length h
    rw [List.length_range] at h1
    refine ⟨h1, fun k u hk => ?_⟩
    have hkl := (List.getElem?_eq_some_iff.1 hk).1
    rw [mapM_some_get h k k (List.getElem?_range (by omega)), hk]
  · cases h
theorem spot_none {a : Addr} {u : Value} (h : w.cell? a = some u) : a.spot = none := by
  unfold World.cell? at h
  split at h
  · split at h
    · cases h
    · next hs => cases hsp : a.spot with
      | none => rfl
      | some _ => rw [hsp] at hs; simp at hs
  · cases h

theorem sl_open {α : Type} {P : Program} {t e : TypeId} {sz : Nat} {C : α → List Value → Prop} {fuel : Nat} {cs : List Value} {y : DataW H × List MemPlace} (ht : P.underlying t = some (.slice e)) (hce : P.cellsOf e = sz) (hsz : 0 < sz)
    (hel : ∀ (fuel : Nat) (cs : List Value) (y : DataW H × List MemPlace), DataW.trod enc P w base sp held fuel e cs = some y → ∃ x, C x cs)
    (h : DataW.trod enc P w base sp held fuel t cs = some y) : ∃ v xs, cs = [v] ∧ SlAt w (fun _ => True) sz C v xs := by
  rcases DataW.trod_slice ht h with ⟨rfl, _⟩ | ⟨a, len, cap, elems, rest, n, _, rfl, _, hb, hl, hm, hlen, hel', _, _⟩
  · exact ⟨_, [], rfl, none, 0, rfl, Nat.le_refl _, by decide, fun h => absurd rfl h⟩
  · have each : ∀ i, i < len → ∃ x cs, C x cs ∧ cs.length = sz ∧ ∀ (k : Nat) (u : Value), cs[k]? = some u → w.cell? ((a.add (i * sz)).add k) = some u := by
      intro i hi
      have := hel' i hi
      rw [List.getElem?_eq_getElem (by omega), hce] at this
      cases hc : w.cells? base (a.add (i * sz)) sz with
      | none => rw [hc] at this; simp at this
      | some l =>
        rw [hc] at this
        obtain ⟨x, hx⟩ := hel _ _ _ this
        exact ⟨x, l, hx, (cells_read hc).1, (cells_read hc).2⟩
    have hcb : cap ≤ 9223372036854775807 := by unfold maxLen at hm; omega
    by_cases h0 : len = 0
    · subst h0
      exact ⟨_, [], rfl, some a, cap, rfl, Nat.zero_le _, hcb, fun h => absurd rfl h⟩
    have hspot : a.spot = none := by
      obtain ⟨x, cs, _, hl2, hc⟩ := each 0 (by omega)
      obtain ⟨u, hu⟩ : ∃ u, cs[0]? = some u := ⟨_, List.getElem?_eq_getElem (by omega)⟩
      have := hc 0 u hu
      rw [Nat.zero_mul] at this
      exact spot_none (a := a) (by simpa [Addr.add] using this)
    obtain ⟨b, o, hab⟩ : ∃ b o, a = ⟨b, o, none⟩ := ⟨a.block, a.off, by cases a; simp_all⟩
    subst hab
    refine ⟨_, List.ofFn (fun i : Fin len => Classical.choose (each i.1 i.2)), rfl, some ⟨b, o, none⟩, cap, by rw [List.length_ofFn], by rw [List.length_ofFn]; exact hl, hcb, fun _ => ⟨b, o, rfl, trivial, ?_, fun j x hj => ?_⟩⟩
    · obtain ⟨x, cs, _, hl2, hc⟩ := each 0 (by omega)
      obtain ⟨u, hu⟩ : ∃ u, cs[0]? = some u := ⟨_, List.getElem?_eq_getElem (by omega)⟩
      have := World.block_lt_of_cell? w _ (hc 0 u hu)
      simpa [Addr.add] using this
    · have hjl := (List.getElem?_eq_some_iff.1 hj).1
      rw [List.length_ofFn] at hjl
      obtain ⟨cs, h1, h2, h3⟩ := Classical.choose_spec (each j hjl)
      rw [List.getElem?_ofFn, dif_pos hjl] at hj
      simp only [Option.some.injEq] at hj
      subst hj
      refine ⟨cs, h1, h2, fun k u hk => ?_⟩
      have := h3 k u hk
      rwa [Go.WideShapes.add_plain, Go.WideShapes.add_plain] at this

theorem int_open {fuel : Nat} {cs : List Value} {y : DataW H × List MemPlace} (h : DataW.trod enc Tryd.prog w base sp held fuel 3 cs = some y) : ∃ x : Int, IntB x cs := by
  obtain ⟨n, rfl, _, hw⟩ := DataW.trod_int Tryd.underlying3 h
  simp [Lit.wf, IntKind.min, IntKind.max, IntKind.signed, IntKind.bits] at hw
  exact ⟨n, rfl, by omega, by omega⟩
theorem ints_open {fuel : Nat} {cs : List Value} {y : DataW H × List MemPlace} (h : DataW.trod enc Tryd.prog w base sp held fuel 36 cs = some y) : ∃ v xs, cs = [v] ∧ SlAt w (fun _ => True) 1 IntB v xs :=
  sl_open Tryd.underlying36 (by kernel_rfl) (by decide) (fun _ _ _ h => int_open h) h
theorem row_open {fuel : Nat} {cs : List Value} {y : DataW H × List MemPlace} (h : DataW.trod enc Tryd.prog w base sp held fuel 36 cs = some y) : ∃ x, RowB w (fun _ => True) x cs := by
  obtain ⟨v, xs, rfl, hs⟩ := ints_open h
  exact ⟨xs, v, rfl, hs⟩
theorem rows_open {fuel : Nat} {cs : List Value} {y : DataW H × List MemPlace} (h : DataW.trod enc Tryd.prog w base sp held fuel 44 cs = some y) : ∃ v xs, cs = [v] ∧ SlAt w (fun _ => True) 1 (RowB w (fun _ => True)) v xs :=
  sl_open Tryd.underlying44 (by kernel_rfl) (by decide) (fun _ _ _ h => row_open h) h

theorem part_of {P : Program} {t : TypeId} {fs : Array Field} {fuel : Nat} {cs : List Value} {y : DataW H × List MemPlace} (ht : P.underlying t = some (.struct fs)) (h : DataW.trod enc P w base sp held fuel t cs = some y) :
    cs.length = P.cellsOf t ∧ ∃ n, ∀ (i : Nat) (ty : TypeId) (off sz : Nat), (fs[i]?).map (fun f => (f.type, f.offset)) = some (ty, off) → P.cellsOf ty = sz → ∃ z, DataW.trod enc P w base sp held n ty ((cs.drop off).take sz) = some z := by
  obtain ⟨xs, n, _, _, hl, hx, hf⟩ := DataW.trod_struct ht h
  refine ⟨hl, n, fun i ty off sz hi hs => ?_⟩
  cases hq : fs[i]? with
  | none => rw [hq] at hi; cases hi
  | some f =>
    rw [hq] at hi
    simp only [Option.map_some, Option.some.injEq, Prod.mk.injEq] at hi
    obtain ⟨rfl, rfl⟩ := hi
    subst hs
    have hil := (Array.getElem?_eq_some_iff.1 hq).1
    exact ⟨xs[i], by rw [hf i f hq, List.getElem?_eq_getElem (by omega)]⟩

theorem raw_open {fuel : Nat} {cs : List Value} {y : DataW H × List MemPlace} (h : DataW.trod enc Tryd.prog w base sp held fuel 46 cs = some y) : ∃ x, RawC w (fun _ => True) x cs := by
  obtain ⟨hl, n, hf⟩ := part_of Tryd.underlying46 h
  rw [show Tryd.prog.cellsOf 46 = 6 from by kernel_rfl] at hl
  obtain ⟨c0, c1, c2, c3, c4, c5, rfl⟩ : ∃ c0 c1 c2 c3 c4 c5, cs = [c0, c1, c2, c3, c4, c5] := by
    match cs, hl with
    | [c0, c1, c2, c3, c4, c5], _ => exact ⟨c0, c1, c2, c3, c4, c5, rfl⟩
  have hi : Tryd.prog.cellsOf 3 = 1 := by kernel_rfl
  have hs : Tryd.prog.cellsOf 36 = 1 := by kernel_rfl
  have hss : Tryd.prog.cellsOf 44 = 1 := by kernel_rfl
  obtain ⟨z0, h0⟩ := hf 0 3 0 1 rfl hi
  obtain ⟨z1, h1⟩ := hf 1 3 1 1 rfl hi
  obtain ⟨z2, h2⟩ := hf 2 3 2 1 rfl hi
  obtain ⟨z3, h3⟩ := hf 3 36 3 1 rfl hs
  obtain ⟨z4, h4⟩ := hf 4 44 4 1 rfl hss
  obtain ⟨z5, h5⟩ := hf 5 3 5 1 rfl hi
  simp only [List.drop_zero, List.drop_succ_cons, List.take_succ_cons, List.take_zero] at h0 h1 h2 h3 h4 h5
  obtain ⟨x0, e0, b0⟩ := int_open h0
  obtain ⟨x1, e1, b1⟩ := int_open h1
  obtain ⟨x2, e2, b2⟩ := int_open h2
  obtain ⟨vf, xf, e3, hF⟩ := ints_open h3
  obtain ⟨vm, xm, e4, hM⟩ := rows_open h4
  obtain ⟨x5, e5, b5⟩ := int_open h5
  simp only [List.cons.injEq, and_true] at e0 e1 e2 e3 e4 e5
  subst e0 e1 e2 e3 e4 e5
  exact ⟨⟨x0, x1, x2, xf, xm, x5⟩, _, _, rfl, b0, b1, b2, b5, hF, hM⟩
theorem raws_open {fuel : Nat} {cs : List Value} {y : DataW H × List MemPlace} (h : DataW.trod enc Tryd.prog w base sp held fuel 26 cs = some y) : ∃ v xs, cs = [v] ∧ SlAt w (fun _ => True) 6 (RawC w (fun _ => True)) v xs :=
  sl_open Tryd.underlying26 (by kernel_rfl) (by decide) (fun _ _ _ h => raw_open h) h

theorem str_open {fuel : Nat} {cs : List Value} {y : DataW H × List MemPlace} (h : DataW.trod enc Tryd.prog w base sp held fuel 9 cs = some y) : ∃ x : ByteArray, cs = [.string x] ∧ x.size ≤ 9223372036854775807 := by
  obtain ⟨n, rfl, _, hw⟩ := DataW.trod_string Tryd.underlying9 h
  exact ⟨n, rfl, by unfold maxLen at hw; omega⟩
theorem intc_open {fuel : Nat} {cs : List Value} {y : DataW H × List MemPlace} (h : DataW.trod enc Tryd.prog w base sp held fuel 3 cs = some y) : ∃ x : Int, IntC x cs := by
  obtain ⟨n, rfl, _, hw⟩ := DataW.trod_int Tryd.underlying3 h
  exact ⟨n, rfl⟩
theorem intsc_open {fuel : Nat} {cs : List Value} {y : DataW H × List MemPlace} (h : DataW.trod enc Tryd.prog w base sp held fuel 36 cs = some y) : ∃ v xs, cs = [v] ∧ SlAt w (fun _ => True) 1 IntC v xs :=
  sl_open Tryd.underlying36 (by kernel_rfl) (by decide) (fun _ _ _ h => intc_open h) h
theorem fld_open {fuel : Nat} {cs : List Value} {y : DataW H × List MemPlace} (h : DataW.trod enc Tryd.prog w base sp held fuel 49 cs = some y) : ∃ x, FldC x cs := by
  obtain ⟨hl, n, hf⟩ := part_of Tryd.underlying49 h
  rw [show Tryd.prog.cellsOf 49 = 2 from by kernel_rfl] at hl
  obtain ⟨c0, c1, rfl⟩ : ∃ c0 c1, cs = [c0, c1] := by
    match cs, hl with
    | [c0, c1], _ => exact ⟨c0, c1, rfl⟩
  obtain ⟨z0, h0⟩ := hf 0 9 0 1 rfl (by kernel_rfl)
  obtain ⟨z1, h1⟩ := hf 1 3 1 1 rfl (by kernel_rfl)
  simp only [List.drop_zero, List.drop_succ_cons, List.take_succ_cons, List.take_zero] at h0 h1
  obtain ⟨x0, e0, b0⟩ := str_open h0
  obtain ⟨x1, e1⟩ := intc_open h1
  unfold IntC at e1
  simp only [List.cons.injEq, and_true] at e0 e1
  subst e0 e1
  exact ⟨⟨x0, x1⟩, rfl, b0⟩
theorem mth_open {fuel : Nat} {cs : List Value} {y : DataW H × List MemPlace} (h : DataW.trod enc Tryd.prog w base sp held fuel 38 cs = some y) : ∃ x, MthC w (fun _ => True) x cs := by
  obtain ⟨hl, n, hf⟩ := part_of Tryd.underlying38 h
  rw [show Tryd.prog.cellsOf 38 = 4 from by kernel_rfl] at hl
  obtain ⟨c0, c1, c2, c3, rfl⟩ : ∃ c0 c1 c2 c3, cs = [c0, c1, c2, c3] := by
    match cs, hl with
    | [c0, c1, c2, c3], _ => exact ⟨c0, c1, c2, c3, rfl⟩
  obtain ⟨z0, h0⟩ := hf 0 9 0 1 rfl (by kernel_rfl)
  obtain ⟨z1, h1⟩ := hf 1 36 1 1 rfl (by kernel_rfl)
  obtain ⟨z2, h2⟩ := hf 2 3 2 1 rfl (by kernel_rfl)
  obtain ⟨z3, h3⟩ := hf 3 3 3 1 rfl (by kernel_rfl)
  simp only [List.drop_zero, List.drop_succ_cons, List.take_succ_cons, List.take_zero] at h0 h1 h2 h3
  obtain ⟨x0, e0, b0⟩ := str_open h0
  obtain ⟨vp, xs, e1, hP⟩ := intsc_open h1
  obtain ⟨x2, e2⟩ := intc_open h2
  obtain ⟨x3, e3⟩ := intc_open h3
  unfold IntC at e2 e3
  simp only [List.cons.injEq, and_true] at e0 e1 e2 e3
  subst e0 e1 e2 e3
  exact ⟨⟨x0, xs, x2, x3⟩, _, rfl, hP, b0⟩
theorem typ_open {fuel : Nat} {cs : List Value} {y : DataW H × List MemPlace} (h : DataW.trod enc Tryd.prog w base sp held fuel 25 cs = some y) : ∃ x, TypC w (fun _ => True) x cs := by
  obtain ⟨hl, n, hf⟩ := part_of Tryd.underlying25 h
  rw [show Tryd.prog.cellsOf 25 = 5 from by kernel_rfl] at hl
  obtain ⟨c0, c1, c2, c3, c4, rfl⟩ : ∃ c0 c1 c2 c3 c4, cs = [c0, c1, c2, c3, c4] := by
    match cs, hl with
    | [c0, c1, c2, c3, c4], _ => exact ⟨c0, c1, c2, c3, c4, rfl⟩
  obtain ⟨z0, h0⟩ := hf 0 3 0 1 rfl (by kernel_rfl)
  obtain ⟨z1, h1⟩ := hf 1 9 1 1 rfl (by kernel_rfl)
  obtain ⟨z2, h2⟩ := hf 2 3 2 1 rfl (by kernel_rfl)
  obtain ⟨z3, h3⟩ := hf 3 22 3 1 rfl (by kernel_rfl)
  obtain ⟨z4, h4⟩ := hf 4 23 4 1 rfl (by kernel_rfl)
  simp only [List.drop_zero, List.drop_succ_cons, List.take_succ_cons, List.take_zero] at h0 h1 h2 h3 h4
  obtain ⟨x0, e0⟩ := intc_open h0
  obtain ⟨x1, e1, b1⟩ := str_open h1
  obtain ⟨x2, e2⟩ := intc_open h2
  obtain ⟨vf, xf, e3, hF⟩ := sl_open (sz := 2) (C := FldC) Tryd.underlying22 (by kernel_rfl) (by decide) (fun _ _ _ h => fld_open h) h3
  obtain ⟨vm, xm, e4, hM⟩ := sl_open (sz := 4) (C := MthC w (fun _ => True)) Tryd.underlying23 (by kernel_rfl) (by decide) (fun _ _ _ h => mth_open h) h4
  unfold IntC at e0 e2
  simp only [List.cons.injEq, and_true] at e0 e1 e2 e3 e4
  subst e0 e1 e2 e3 e4
  exact ⟨⟨x0, x1, x2, xf, xm⟩, _, _, rfl, hF, hM, b1⟩
end
end Go.Proofs.YtjlljfeledapaaaDoor
