/-
  A run that is reckoned over blocks with names of its own: what single operations do, the third part: no function of a program is named here.
-/
import Derived.Test.YtjeplkbdgphfoaaDoorEvF
namespace Go.Proofs.YtjeplkbdgphfoaaDoor
open Go.RowKit

section
variable {P : Program} {ρ : Rho} {w : World}

theorem VL.drop {l l' : List Value} (h : VL ρ l l') (n : Nat) : VL ρ (l.drop n) (l'.drop n) :=
  ⟨by simp [h.1], fun i v v' a b => h.2 (n + i) v v' (by rw [List.getElem?_drop] at a; exact a) (by rw [List.getElem?_drop] at b; exact b)⟩
theorem VL.take {l l' : List Value} (h : VL ρ l l') (n : Nat) : VL ρ (l.take n) (l'.take n) :=
  ⟨by simp [h.1], fun i v v' a b => by
    rw [List.getElem?_take] at a b
    split at a
    · rw [if_pos (by assumption)] at b; exact h.2 i v v' a b
    · cases a⟩
theorem VL.set {l l' : List Value} (h : VL ρ l l') (n : Nat) {v v' : Value} (hv : V ρ v v') : VL ρ (l.set n v) (l'.set n v') :=
  ⟨by simp [h.1], fun i u u' a b => by
    rw [List.getElem?_set] at a b
    by_cases hi : n = i
    · rw [if_pos hi] at a b
      split at a
      · rw [if_pos (by rw [← h.1]; assumption)] at b
        cases a; cases b; exact hv
      · cases a
    · rw [if_neg hi] at a b; exact h.2 i u u' a b⟩
theorem VL.get {l l' : List Value} (h : VL ρ l l') {i : Nat} {v : Value} (hi : l[i]? = some v) : ∃ v', l'[i]? = some v' ∧ V ρ v v' := by
  have hlt : i < l'.length := by rw [← h.1]; exact (List.getElem?_eq_some_iff.1 hi).1
  exact ⟨_, List.getElem?_eq_getElem hlt, h.2 i v _ hi (List.getElem?_eq_getElem hlt)⟩

/-- A part of a struct by value. -/
def fieldVP (P : Program) (t : TypeId) (x : Value) (f : Nat) : Prog := match x, P.underlying t with
  | .agg ⟨l⟩, some (.struct fields) => match fields[f]? with
    | some fd => match P.underlying fd.type, P.info? fd.type with
      | some d, some i => if d.isRow then .val (.agg ⟨(l.drop fd.offset).take i.size⟩) else match l[fd.offset]? with
        | some v => .val v
        | none => .fail
      | _, _ => .fail
    | none => .fail
  | _, _ => .fail
theorem fieldV_sim {t : TypeId} {x x' : Value} {f : Nat} (hx : V ρ x x') : Sim P (fieldVP P t x f) (do pure (.value (← Instr.field t x' f))) ρ w := by
  unfold fieldVP
  split
  · rename_i l fields hu
    cases hx with
    | agg _ l' hl h =>
      have hL : VL ρ l l' := ⟨hl, h⟩
      split
      · rename_i fd hf
        split
        · rename_i d i hd hi
          have hagg : (isAgg fd.type).run P w = .ok d.isRow w := by
            unfold isAgg
            rw [Sem.run_bind, run_underlying hd w]
            cases d <;> simp_all
          split
          · rename_i hrow
            refine Sim.vv rfl (v' := .agg ⟨(l'.drop fd.offset).take i.size⟩) ?_ (.agg _ _ ((hL.drop _).take _).1 ((hL.drop _).take _).2)
            simp only [Instr.field, Sem.run_bind, run_underlying hu, Result.andThen_ok, hf, asAgg, Sem.run_pure, part, hagg, hrow]
            simp [sizeOf, typeInfo, program, Sem.run, hi]
          · rename_i hrow
            split
            · rename_i v hv
              obtain ⟨v', hv', hvv⟩ := hL.get hv
              refine Sim.vv rfl (v' := v') ?_ hvv
              simp only [Instr.field, Sem.run_bind, run_underlying hu, Result.andThen_ok, hf, asAgg, Sem.run_pure, part, hagg]
              simp [hrow, hv']
            · exact Sim.fail
        · exact Sim.fail
      · exact Sim.fail
  · exact Sim.fail

def extractP (x : Value) (i : Nat) : Prog := match x with
  | .tuple ⟨l⟩ => match l[i]? with
    | some v => .val v
    | none => .fail
  | _ => .fail
theorem extract_sim {x x' : Value} {i : Nat} (hx : V ρ x x') : Sim P (extractP x i) (do pure (.value (← Instr.extract x' i))) ρ w := by
  unfold extractP
  split
  · rename_i l
    cases hx with
    | tuple _ l' hl h =>
      have hL : VL ρ l l' := ⟨hl, h⟩
      split
      · rename_i v hv
        obtain ⟨v', hv', hvv⟩ := hL.get hv
        exact Sim.vv rfl (v' := v') (by simp [Instr.extract, hv']) hvv
      · exact Sim.fail
  · exact Sim.fail

/-- Cells of zeros. -/
def mkL (z : List Value) (n : Nat) : List Value := (List.range n).map fun i => z[i % z.length]?.getD default
theorem mkL_eq (z : Array Value) (n : Nat) : (madeCells z n).toList = mkL z.toList n := by
  unfold madeCells mkL
  simp only [Array.toList_map, Array.toList_range]
  refine List.map_congr_left fun i _ => ?_
  rw [Array.length_toList, Array.getElem?_toList]
  simp [getElem!_def]
  split <;> simp_all
theorem flats_V {l : List Value} (h : l.all flat = true) : VL ρ l l := ⟨rfl, flats_refl h⟩

/-- make of a slice. -/
def mkP (P : Program) (t : TypeId) (l c : Value) : Prog := match l, c, P.underlying t with
  | .int _ l, .int _ c, some (.slice e) => match P.info? e, zeroP P e with
    | some i, some z =>
      if 0 ≤ l ∧ l ≤ c ∧ c < 4294967296 ∧ (i.bytes : Int) * c ≤ 281474976710656 ∧ (mkL z.cells.toList (c.toNat * i.size)).all flat = true then
        .nw (e, 0) (mkL z.cells.toList (c.toNat * i.size)) fun b => .val (.slice (some ⟨b, 0, none⟩) l.toNat c.toNat)
      else .fail
    | _, _ => .fail
  | _, _, _ => .fail
theorem mk_sim {t : TypeId} {l l' c c' : Value} (hl : V ρ l l') (hc : V ρ c c') : Sim P (mkP P t l c) (do pure (.value (← Instr.makeSlice t l' c'))) ρ w := by
  unfold mkP
  split
  · rename_i kl l kc c e hu
    cases hl
    cases hc
    split
    · rename_i i z hi hz
      split
      · rename_i hb
        obtain ⟨h1, h2, h3, h4, h5⟩ := hb
        refine Sim.v fun H tr r hpr hval hw => ?_
        cases hpr with
        | nw h =>
          rename_i b tr
          cases h
          obtain ⟨i', hi', hz', _⟩ := zeroP_spec hz
          rw [hi] at hi'; cases hi'
          have hrun := run_make (P := P) w t e i z hu hi hz' kl kc l c h1 h2 h4 (by omega)
          have hw2 := hw.nw (κ := 0) (cs' := madeCells z.cells (c.toNat * i.size)) (by assumption) hval.1 (by rw [← mkL_eq]; simp) (fun j x x' hx hx' => by
            rw [← Array.getElem?_toList, mkL_eq] at hx'
            exact (flats_V h5).2 j x x' hx hx') (.inl rfl)
          exact ⟨_, _, _, _, rfl, hrun, hw2, .slc _ _ _ _ _ _ _ Rho.add_eq (.same _ (by unfold unk; omega) (by unfold unk2; omega))⟩
      · exact Sim.fail
    · exact Sim.fail
  · exact Sim.fail

/-- Cells laid over others. -/
def putL (cs : List Value) : Nat → List Value → List Value
  | _, [] => cs
  | o, v :: l => putL (cs.set o v) (o + 1) l
theorem putL_length : ∀ {l : List Value} {cs : List Value} {o : Nat}, (putL cs o l).length = cs.length
  | [], _, _ => rfl
  | v :: l, cs, o => by simp only [putL]; rw [putL_length]; simp
theorem putL_rel : ∀ {l l' cs cs' : List Value} {o : Nat}, VL ρ cs cs' → VL ρ l l' → VL ρ (putL cs o l) (putL cs' o l')
  | [], l', cs, cs', o, h, hl => by rw [hl.cases_nil]; exact h
  | v :: l, l', cs, cs', o, h, hl => by
    obtain ⟨v', r', rfl, hv, hr⟩ := hl.cases_cons
    simp only [putL]
    exact putL_rel (h.set o hv) hr
theorem putL_eq (cs : Array Value) (o : Nat) (l : Array Value) : (l.zipIdx.foldl (fun cs (c, j) => cs.setIfInBounds (o + j) c) cs).toList = putL cs.toList o l.toList := by
  have key : ∀ (l : List Value) (k : Nat) (cs : Array Value), ((l.zipIdx k).foldl (fun cs (c, j) => cs.setIfInBounds (o + j) c) cs).toList = putL cs.toList (o + k) l := by
    intro l
    induction l with
    | nil => intro k cs; rfl
    | cons v l ih =>
      intro k cs
      rw [List.zipIdx_cons, List.foldl_cons, ih]
      simp only [putL, Array.toList_setIfInBounds]
      rw [Nat.add_assoc]
  rw [← Array.foldl_toList, Array.toList_zipIdx]
  exact key l.toList 0 cs

def fillL (place : Nat → Option (Nat × Nat)) (cs : List Value) : List (Nat × Value) → Option (List Value)
  | [] => some cs
  | (i, v) :: rest => match place i with
    | none => none
    | some (off, size) => if Nat.beq v.cells.size size && Nat.ble (off + v.cells.size) cs.length then fillL place (putL cs off v.cells.toList) rest else none

theorem fillL_sound {place : Nat → Option (Nat × Nat)} : ∀ {parts parts' : List (Nat × Value)} {cs out : List Value} {cs' : Array Value}, fillL place cs parts = some out → VL ρ cs cs'.toList → parts.length = parts'.length →
    (∀ (i : Nat) (p p' : Nat × Value), parts[i]? = some p → parts'[i]? = some p' → p.1 = p'.1 ∧ V ρ p.2 p'.2) → ∃ out', Instr.fill place cs' parts' = some out' ∧ VL ρ out out'.toList
  | [], parts', cs, out, cs', h, hc, hl, _ => by
    obtain rfl : parts' = [] := List.eq_nil_of_length_eq_zero hl.symm
    cases h
    exact ⟨cs', rfl, hc⟩
  | (i, v) :: rest, parts', cs, out, cs', h, hc, hl, hp => by
    match parts', hl, hp with
    | [], hl, _ => simp at hl
    | (i', v') :: rest', hl, hp =>
    obtain ⟨e1, hv⟩ := hp 0 (i, v) (i', v') rfl rfl
    simp only at e1 hv
    subst e1
    simp only [fillL] at h
    cases hpl : place i with
    | none => rw [hpl] at h; cases h
    | some q =>
      obtain ⟨off, size⟩ := q
      rw [hpl] at h
      simp only at h
      split at h
      · rename_i hb
        rw [Bool.and_eq_true] at hb
        have h1 := Nat.eq_of_beq_eq_true hb.1
        have h2 := Nat.le_of_ble_eq_true hb.2
        have hsz := hv.cells_size
        have hle : cs.length = cs'.size := by have := hc.1; simpa using this
        have hnot : ¬ (v'.cells.size ≠ size ∨ cs'.size < off + v'.cells.size) := by omega
        have := fillL_sound (cs' := v'.cells.zipIdx.foldl (fun cs (c, j) => cs.setIfInBounds (off + j) c) cs') h (by rw [putL_eq]; exact putL_rel hc hv.cells) (by simpa using hl) (fun j p p' a b => hp (j + 1) p p' (by simpa using a) (by simpa using b))
        obtain ⟨out', q1, q2⟩ := this
        refine ⟨out', ?_, q2⟩
        simp only [Instr.fill, hpl]
        rw [if_neg (by simpa using hnot)]
        exact q1
      · cases h

def placeOf (P : Program) (fields : Array Field) (i : Nat) : Option (Nat × Nat) := match fields[i]? with
  | some f => match P.info? f.type with
    | some inf => some (f.offset, inf.size)
    | none => none
  | none => none
def partsOf (ρ : Operand → Value) (parts : Array (Nat × Operand)) : List (Nat × Value) := parts.toList.map fun (i, x) => (i, ρ x)
/-- A struct by value, from parts. -/
def buildP (P : Program) (t : TypeId) (parts : List (Nat × Value)) : Prog := match P.underlying t, zeroP P t with
  | some (.struct fields), some z =>
    if fields.toList.all fun f => (P.info? f.type).isSome then
      if z.cells.toList.all flat then match fillL (placeOf P fields) z.cells.toList parts with
        | some cs => .val (.agg ⟨cs⟩)
        | none => .fail
      else .fail
    else .fail
  | some (.array _ e), some z => match P.info? e with
    | some inf => if z.cells.toList.all flat then match fillL (fun i => some (i * inf.size, inf.size)) z.cells.toList parts with
        | some cs => .val (.agg ⟨cs⟩)
        | none => .fail
      else .fail
    | none => .fail
  | _, _ => .fail

theorem run_places (l : List Field) (h : l.all fun f => (P.info? f.type).isSome) : (l.mapM (m := Sem) fun f => do pure (f.offset, ← sizeOf f.type)).run P w = .ok (l.map fun f => (f.offset, ((P.info? f.type).map (·.size)).getD 0)) w := by
  induction l with
  | nil => simp
  | cons f l ih =>
    rw [List.all_cons, Bool.and_eq_true] at h
    obtain ⟨i, hi⟩ := Option.isSome_iff_exists.1 h.1
    have hs : (sizeOf f.type).run P w = .ok i.size w := by simp [sizeOf, typeInfo, program, Sem.run, hi]
    simp only [List.mapM_cons, Sem.run_bind, Sem.run_pure, Result.andThen_ok, hs, ih h.2, List.map_cons, hi, Option.map_some, Option.getD_some]

theorem build_sim {t : TypeId} {parts : List (Nat × Value)} {parts' : Array (Nat × Value)} (hl : parts.length = parts'.toList.length) (hp : ∀ (i : Nat) (p p' : Nat × Value), parts[i]? = some p → parts'.toList[i]? = some p' → p.1 = p'.1 ∧ V ρ p.2 p'.2) :
    Sim P (buildP P t parts) (do pure (.value (← Instr.build t parts'))) ρ w := by
  unfold buildP
  split
  · rename_i fields z hu hz
    obtain ⟨i, hi, hz', _⟩ := zeroP_spec hz
    split
    · rename_i hall
      split
      · rename_i hf
        split
        · rename_i cs hcs
          have hpl : (fun i : Nat => (Array.map (fun f : Field => (f.offset, ((P.info? f.type).map (·.size)).getD 0)) fields)[i]?) = placeOf P fields := by
            funext j
            unfold placeOf
            cases hj : fields[j]? with
            | none => simp [hj]
            | some f =>
              have : (P.info? f.type).isSome = true := List.all_eq_true.1 hall f (Array.mem_toList_iff.2 (Array.mem_of_getElem? hj))
              obtain ⟨inf, hinf⟩ := Option.isSome_iff_exists.1 this
              simp [hj, hinf]
          obtain ⟨out', h1, h2⟩ := fillL_sound (cs' := z.cells) hcs (flats_V hf) hl hp
          refine Sim.vv rfl (v' := .agg out') ?_ (.agg _ _ h2.1 h2.2)
          have hm : (fields.mapM (m := Sem) fun f => do pure (f.offset, ← sizeOf f.type)).run P w = .ok (Array.map (fun f : Field => (f.offset, ((P.info? f.type).map (·.size)).getD 0)) fields) w := by
            rw [Array.mapM_eq_mapM_toList, map_eq_pure_bind]
            simp only [Sem.run_bind, Sem.run_pure, run_places fields.toList hall, Result.andThen_ok]
            rw [← Array.toList_map]
          have hzr : (zeroValue t).run P w = .ok z w := by
            simp only [zeroValue, typeInfo, Sem.run_bind]
            simp [program, Sem.run, hi, hz']
          simp only [Instr.build, Sem.run_bind, hzr, Result.andThen_ok, run_underlying hu, hm, hpl, h1, Sem.run_pure]
        · exact Sim.fail
      · exact Sim.fail
    · exact Sim.fail
  · rename_i n e z hu hz
    obtain ⟨i, hi, hz', _⟩ := zeroP_spec hz
    split
    · rename_i inf hinf
      split
      · rename_i hf
        split
        · rename_i cs hcs
          obtain ⟨out', h1, h2⟩ := fillL_sound (cs' := z.cells) hcs (flats_V hf) hl hp
          refine Sim.vv rfl (v' := .agg out') ?_ (.agg _ _ h2.1 h2.2)
          have hzr : (zeroValue t).run P w = .ok z w := by
            simp only [zeroValue, typeInfo, Sem.run_bind]
            simp [program, Sem.run, hi, hz']
          have hsz : (sizeOf e).run P w = .ok inf.size w := by simp [sizeOf, typeInfo, program, Sem.run, hinf]
          simp only [Instr.build, Sem.run_bind, hzr, Result.andThen_ok, run_underlying hu, hsz, h1, Sem.run_pure]
        · exact Sim.fail
      · exact Sim.fail
    · exact Sim.fail
  · exact Sim.fail

/-- A slice, from parts. -/
def buildSP (P : Program) (t : TypeId) (n : Nat) (parts : List (Nat × Value)) : Prog := match P.underlying t with
  | some (.slice e) => match P.info? e, zeroP P e with
    | some inf, some z =>
      if n < 65536 ∧ 0 < n * inf.size ∧ n * inf.size ≤ 16777216 ∧ (mkL z.cells.toList (n * inf.size)).all flat = true then match fillL (fun i => some (i * inf.size, inf.size)) (mkL z.cells.toList (n * inf.size)) parts with
        | some cs => .nw (e, 0) cs fun b => .val (.slice (some ⟨b, 0, none⟩) n n)
        | none => .fail
      else match Nat.beq n 0, parts with
        | true, [] => .nw (e, 0) [] fun b => .val (.slice (some ⟨b, 0, none⟩) 0 0)
        | _, _ => .fail
    | _, _ => .fail
  | _ => .fail
theorem buildS_sim {t : TypeId} {n : Nat} {parts : List (Nat × Value)} {parts' : Array (Nat × Value)} (hl : parts.length = parts'.toList.length) (hp : ∀ (i : Nat) (p p' : Nat × Value), parts[i]? = some p → parts'.toList[i]? = some p' → p.1 = p'.1 ∧ V ρ p.2 p'.2) :
    Sim P (buildSP P t n parts) (do pure (.value (← Instr.buildSlice t n parts'))) ρ w := by
  unfold buildSP
  split
  · rename_i e hu
    split
    · rename_i inf z hinf hz
      obtain ⟨i, hi, hz', _⟩ := zeroP_spec hz
      rw [hinf] at hi; cases hi
      split
      · rename_i hb
        obtain ⟨h0, h1, h2, h3⟩ := hb
        split
        · rename_i cs hcs
          refine Sim.v fun H tr r hpr hval hw => ?_
          obtain ⟨out', q1, q2⟩ := fillL_sound (cs' := madeCells z.cells (n * inf.size)) hcs (by rw [mkL_eq]; exact flats_V h3) hl hp
          cases hpr with
          | nw h =>
            rename_i b tr
            cases h
            have hw2 := hw.nw (κ := 0) (cs' := out') (by assumption) hval.1 (by have := q2.1; simp at this; omega) (fun j x x' hx hx' => q2.2 j x x' hx (by rw [Array.getElem?_toList]; exact hx')) (.inl rfl)
            refine ⟨_, _, _, _, rfl, ?_, hw2, .slc _ _ _ _ _ _ _ Rho.add_eq (.same _ (by unfold unk; omega) (by unfold unk2; omega))⟩
            have hzr : (zeroValue e).run P w = .ok z w := by
              simp only [zeroValue, typeInfo, Sem.run_bind]
              simp [program, Sem.run, hinf, hz']
            have hsz : (sizeOf e).run P w = .ok inf.size w := by simp [sizeOf, typeInfo, program, Sem.run, hinf]
            have n1 : ¬ n * inf.size > 2 ^ 24 := by omega
            have n2 : ¬ n * inf.size = 0 := by omega
            have q1' : Instr.fill (fun i => some (i * inf.size, inf.size)) ((Array.range (n * inf.size)).map (z.cells[· % z.cells.size]!)) parts'.toList = some out' := q1
            simp only [Instr.buildSlice, Sem.run_bind, run_underlying hu, Result.andThen_ok, hsz, n1, n2, if_false, hzr, Sem.run_pure, q1', run_new]
        · exact Sim.fail
      · split
        · rename_i hb0
          obtain rfl : n = 0 := Nat.eq_of_beq_eq_true hb0
          refine Sim.v fun H tr r hpr hval hw => ?_
          cases hpr with
          | nw h =>
            rename_i b tr
            cases h
            have hp0 : parts'.toList = [] := List.eq_nil_of_length_eq_zero (by rw [← hl]; rfl)
            have hw2 := hw.nw (κ := 0) (cs' := #[]) (by assumption) hval.1 (by simp) (fun j x x' hx hx' => by simp at hx) (.inl rfl)
            refine ⟨_, _, _, _, rfl, ?_, hw2, .slc _ _ _ _ _ _ _ Rho.add_eq (.same _ (by unfold unk; omega) (by unfold unk2; omega))⟩
            have hsz : (sizeOf e).run P w = .ok inf.size w := by simp [sizeOf, typeInfo, program, Sem.run, hinf]
            simp [Instr.buildSlice, Sem.run_bind, run_underlying hu, Result.andThen_ok, hsz, hp0, Instr.fill, run_new]
            congr 2
            apply Array.ext <;> simp
        · exact Sim.fail
    · exact Sim.fail
  · exact Sim.fail
end
end Go.Proofs.YtjeplkbdgphfoaaDoor
