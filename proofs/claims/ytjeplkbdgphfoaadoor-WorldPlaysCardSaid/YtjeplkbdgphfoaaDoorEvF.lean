/-
  A run that is reckoned over blocks with names of its own: what single operations do, the second part: no function of a program is named here.
-/
import Derived.Test.YtjeplkbdgphfoaaDoorEvE
import Derived.Laws.OwnMore
namespace Go.Proofs.YtjeplkbdgphfoaaDoor
open Go.RowKit

section
variable {P : Program} {ρ : Rho} {w : World}

theorem Sim.v {p : Prog} {S : Sem Value} (h : ∀ H t r, PR p t r → Valid H t → WR P ρ H w → ∃ v v' w' ρ', r = .val v ∧ S.run P w = .ok v' w' ∧ Went P ρ H w t ρ' w' ∧ V ρ' v v') : Sim P p (do pure (.value (← S))) ρ w := by
  intro H t r hpr hval hw
  obtain ⟨v, v', w', ρ', rfl, h1, h2, h3⟩ := h H t r hpr hval hw
  exact ⟨.value v', w', ρ', by simp [h1], h2, h3⟩
/-- An operation that only reckons. -/
theorem Sim.vv {p : Prog} {S : Sem Value} {v v' : Value} (hp : p = .val v) (hs : S.run P w = .ok v' w) (hv : V ρ v v') : Sim P p (do pure (.value (← S))) ρ w := by
  subst hp
  refine Sim.v fun H t r hpr _ hw => ?_
  cases hpr
  exact ⟨_, _, w, ρ, rfl, hs, Went.refl hw, hv⟩

theorem load_sim {t : TypeId} {p p' : Value} (hp : V ρ p p') : Sim P (loadP P t p .val) (do pure (.value (← Instr.loadAt t p'))) ρ w := by
  refine Sim.v fun H tr r hpr hval hw => ?_
  obtain ⟨c, o, u, u', t1, t2, rfl, rfl, q1, q2, q3, q4, q5, q6⟩ := loadP_sound hw hp hpr hval
  cases q1
  refine ⟨u, u', w, ρ, rfl, by simp [Instr.loadAt, Instr.sureAddr, q3], ?_, q2⟩
  exact (Went.refl hw).congr (by rw [List.append_nil, q4]; rfl) (fun b hb => by cases hb)

/-- Zero of a type, if it names no block. -/
def zeroP (P : Program) (t : TypeId) : Option Value := match P.info? t with
  | some i => match i.zero with
    | some z => if ground z then some z else none
    | none => none
  | none => none
theorem zeroP_spec {t : TypeId} {z : Value} (h : zeroP P t = some z) : ∃ i, P.info? t = some i ∧ i.zero = some z ∧ ground z = true := by
  unfold zeroP at h
  cases hi : P.info? t with
  | none => rw [hi] at h; cases h
  | some i =>
    rw [hi] at h
    simp only at h
    cases hz : i.zero with
    | none => rw [hz] at h; cases h
    | some z' =>
      rw [hz] at h
      simp only at h
      split at h
      · cases h; exact ⟨i, rfl, hz, by assumption⟩
      · cases h
def allocP (P : Program) (t : TypeId) : Prog := match zeroP P t with
  | some z => newP t z
  | none => .fail
theorem alloc_sim {t : TypeId} : Sim P (allocP P t) (do pure (.value (← Instr.alloc t true (.tuple #[])))) ρ w := by
  unfold allocP
  cases h : zeroP P t with
  | none => exact Sim.fail
  | some z =>
    obtain ⟨i, h1, h2, h3⟩ := zeroP_spec h
    refine newP_sound (V.ground h3) fun w => ?_
    simp only [Instr.alloc, zeroValue, typeInfo, Sem.run_bind, Sem.run_pure, newVar]
    simp [h1, h2, run_new, program, Sem.run]
theorem box_sim {t : TypeId} {v v' : Value} (hv : V ρ v v') : Sim P (newP t v) (do pure (.value (← Instr.box t v'))) ρ w := by
  refine newP_sound hv fun w => ?_
  simp only [Instr.box, newVar, Sem.run_bind, Sem.run_pure, run_new, Result.andThen_ok]

def fieldP (P : Program) (s : TypeId) (v : Value) (f : Nat) : Prog := match v with
  | .pointer (some ⟨b, o, none⟩) => match P.underlying s with
    | some (.struct fields) => match fields[f]? with
      | some fd => match P.info? fd.type with
        | some i => if Nat.beq i.size 0 then .fail else .val (.pointer (some ⟨b, o + fd.offset, none⟩))
        | none => .fail
      | none => .fail
    | _ => .fail
  | _ => .fail
theorem field_sim {s : TypeId} {v v' : Value} {f : Nat} (hv : V ρ v v') : Sim P (fieldP P s v f) (do pure (.value (← Instr.fieldAt s v' f))) ρ w := by
  unfold fieldP
  split
  · rename_i b o
    cases hv with
    | ptr _ c κ _ hr =>
      split
      · rename_i fields hu
        split
        · rename_i fd hf
          split
          · rename_i i hi
            split
            · exact Sim.fail
            · rename_i hz
              have hz' : ¬ i.size = 0 := fun e => hz (by rw [e]; rfl)
              refine Sim.vv rfl (v' := .pointer (some ⟨c, o + fd.offset, none⟩)) ?_ (.ptr b c κ _ hr)
              simp only [Instr.fieldAt, Sem.run_bind, run_underlying hu, Result.andThen_ok, hf, Instr.sureAddr, Sem.run_pure, fieldPlace, sizeOf, typeInfo]
              simp [program, Sem.run, hi, hz', Addr.add_mid]
          · exact Sim.fail
        · exact Sim.fail
      · exact Sim.fail
  · exact Sim.fail

def ixP (P : Program) (t : TypeId) (v ix : Value) : Prog := match v, ix with
  | .slice (some ⟨b, o, none⟩) len _, .int _ i => match P.underlying t with
    | some (.slice e) => match P.info? e with
      | some inf => if 0 ≤ i ∧ i < len then .val (.pointer (some ⟨b, o + i.toNat * inf.size, none⟩)) else .fail
      | none => .fail
    | _ => .fail
  | .pointer (some ⟨b, o, none⟩), .int _ i => match P.underlying t with
    | some (.array len e) => match P.info? e with
      | some inf => if 0 ≤ i ∧ i < len then .val (.pointer (some ⟨b, o + i.toNat * inf.size, none⟩)) else .fail
      | none => .fail
    | _ => .fail
  | _, _ => .fail
theorem ix_sim {t : TypeId} {v v' ix ix' : Value} (hv : V ρ v v') (hx : V ρ ix ix') : Sim P (ixP P t v ix) (do pure (.value (← Instr.indexAt t v' ix'))) ρ w := by
  unfold ixP
  split
  · rename_i b o len k kd i
    cases hx
    split
    · rename_i e hu
      split
      · rename_i inf hi
        split
        · rename_i hb
          cases hv with
          | slc _ c κ _ _ _ k' hr hk =>
            refine Sim.vv rfl (v' := .pointer (some ⟨c, o + i.toNat * inf.size, none⟩)) ?_ (.ptr b c κ _ hr)
            simp only [Instr.indexAt, asIntOf, Sem.run_bind, Sem.run_pure, Result.andThen_ok, run_underlying hu]
            simp [hb, sizeOf, typeInfo, program, Sem.run, hi, Addr.add_mid]
          | slc0 => exact absurd hb (by simp)
        · exact Sim.fail
      · exact Sim.fail
    · exact Sim.fail
  · rename_i b o kd i
    cases hx
    split
    · rename_i len e hu
      split
      · rename_i inf hi
        split
        · rename_i hb
          cases hv with
          | ptr _ c κ _ hr =>
            refine Sim.vv rfl (v' := .pointer (some ⟨c, o + i.toNat * inf.size, none⟩)) ?_ (.ptr b c κ _ hr)
            simp only [Instr.indexAt, asIntOf, Sem.run_bind, Sem.run_pure, Result.andThen_ok, run_underlying hu]
            simp [hb, sizeOf, typeInfo, program, Sem.run, hi, Addr.add_mid, Instr.sureAddr]
        · exact Sim.fail
      · exact Sim.fail
    · exact Sim.fail
  · exact Sim.fail

/-- A slice of a slice. -/
def boundOf : Option Value → Nat → Option Nat
  | none, d => some d
  | some (.int _ i), _ => if 0 ≤ i then some i.toNat else none
  | some _, _ => none
def slP (P : Program) (t : TypeId) (x : Value) (lo hi : Option Value) : Prog := match x, P.underlying t with
  | .slice (some ⟨b, o, none⟩) n k, some (.slice e) => match P.info? e, boundOf lo 0, boundOf hi n with
    | some inf, some l, some h =>
      if Nat.ble l h then
        if Nat.beq k unk then (if Nat.ble h n then (if Nat.beq l 0 then .val (.slice (some ⟨b, o, none⟩) h unk) else (if Nat.blt l n then .val (.slice (some ⟨b, o + l * inf.size, none⟩) (h - l) unk2) else .val (.slice (some ⟨b, o, none⟩) 0 unk2))) else .fail)
        else if Nat.beq k unk2 then (if Nat.ble h n then (if Nat.blt l n then .val (.slice (some ⟨b, o + l * inf.size, none⟩) (h - l) unk2) else .val (.slice (some ⟨b, o, none⟩) 0 unk2)) else .fail)
        else if Nat.ble h k then (if Nat.blt k unk then .val (.slice (some ⟨b, if Nat.beq k l then o else o + l * inf.size, none⟩) (h - l) (k - l)) else .fail) else .fail
      else .fail
    | _, _, _ => .fail
  | _, _ => .fail

def VO (ρ : Rho) : Option Value → Option Value → Prop
  | none, none => True
  | some v, some v' => V ρ v v'
  | _, _ => False
theorem boundOf_rel {x x' : Option Value} {d l : Nat} (h : boundOf x d = some l) (hr : VO ρ x x') :
    (x = none ∧ x' = none ∧ l = d) ∨ ∃ k i, x' = some (.int k i) ∧ 0 ≤ i ∧ l = i.toNat := by
  cases x with
  | none =>
    cases x' with
    | none => simp only [boundOf, Option.some.injEq] at h; exact .inl ⟨rfl, rfl, h.symm⟩
    | some v' => exact hr.elim
  | some v =>
    cases x' with
    | none => exact hr.elim
    | some v' =>
      right
      cases v <;> simp only [boundOf] at h <;> try cases h
      rename_i k i
      cases hr
      split at h
      · cases h; exact ⟨k, i, rfl, by assumption, rfl⟩
      · cases h

theorem run_bounds {P : Program} {lo hi : Option Value} {n cap l h : Nat} (hl : (lo = none ∧ l = 0) ∨ ∃ k i, lo = some (.int k i) ∧ 0 ≤ i ∧ l = i.toNat) (hh : (hi = none ∧ h = n) ∨ ∃ k i, hi = some (.int k i) ∧ 0 ≤ i ∧ h = i.toNat)
    (h1 : l ≤ h) (h2 : h ≤ cap) : (Instr.sliceBounds true n cap lo hi none).run P w = .ok (l, h, cap) w := by
  have c1 : ∀ i : Int, 0 ≤ i → h = i.toNat → (0 ≤ i ∧ i ≤ (cap : Int)) := fun i a b => ⟨a, by omega⟩
  have c2 : ∀ i : Int, 0 ≤ i → l = i.toNat → (0 ≤ i ∧ i ≤ (h : Int)) := fun i a b => ⟨a, by omega⟩
  rcases hl with ⟨rfl, rfl⟩ | ⟨k, i, rfl, a, b⟩ <;> rcases hh with ⟨rfl, rfl⟩ | ⟨k', i', rfl, a', b'⟩
  · simp [Instr.sliceBounds]
  · simp [Instr.sliceBounds, Instr.sliceBound, asIntOf, c1 i' a' b', ← b']
  · simp [Instr.sliceBounds, Instr.sliceBound, asIntOf, c2 i a b, ← b]
  · simp [Instr.sliceBounds, Instr.sliceBound, asIntOf, c1 i' a' b', ← b', c2 i a b, ← b]

theorem slP_run {t e : TypeId} {inf : TypeInfo} {lo hi : Option Value} {c o n cap l h : Nat} (hu : P.underlying t = some (.slice e)) (hi2 : P.info? e = some inf)
    (hl : (lo = none ∧ l = 0) ∨ ∃ k i, lo = some (.int k i) ∧ 0 ≤ i ∧ l = i.toNat) (hh : (hi = none ∧ h = n) ∨ ∃ k i, hi = some (.int k i) ∧ 0 ≤ i ∧ h = i.toNat)
    (h1 : l ≤ h) (h2 : h ≤ cap) :
    (Instr.sliceAt t (.slice (some ⟨c, o, none⟩) n cap) lo hi none).run P w = .ok (.slice (some ⟨c, if cap = l then o else o + l * inf.size, none⟩) (h - l) (cap - l)) w := by
  have hb := run_bounds (P := P) (w := w) hl hh h1 h2
  simp only [Instr.sliceAt, Sem.run_bind, run_underlying hu, Result.andThen_ok, Instr.slice, hb, sizeOf, typeInfo, Sem.run_pure]
  simp only [program, Sem.run, Result.andThen_ok, hi2, Sem.run_pure]
  congr 3
  split <;> simp [Addr.add_mid]

theorem sl_sim {t : TypeId} {x x' : Value} {lo hi lo' hi' : Option Value} (hx : V ρ x x') (hlo : VO ρ lo lo') (hhi : VO ρ hi hi') : Sim P (slP P t x lo hi) (do pure (.value (← Instr.sliceAt t x' lo' hi' none))) ρ w := by
  unfold slP
  split
  · rename_i b o n k e hu
    split
    · rename_i inf l h hinf hl hh
      have hl2 : (lo' = none ∧ l = 0) ∨ ∃ k i, lo' = some (.int k i) ∧ 0 ≤ i ∧ l = i.toNat := by
        rcases boundOf_rel hl hlo with ⟨_, a, b⟩ | h
        · exact .inl ⟨a, b⟩
        · exact .inr h
      have hh2 : (hi' = none ∧ h = n) ∨ ∃ k i, hi' = some (.int k i) ∧ 0 ≤ i ∧ h = i.toNat := by
        rcases boundOf_rel hh hhi with ⟨_, a, b⟩ | h
        · exact .inl ⟨a, b⟩
        · exact .inr h
      clear hl hh hlo hhi
      split
      · rename_i hlh
        have hlh := Nat.le_of_ble_eq_true hlh
        cases hx with
        | slc0 _ c κ _ o' k' hr =>
          rw [if_neg (by decide), if_pos (by decide)]
          split
          · rename_i hhn
            have hhn := Nat.le_of_ble_eq_true hhn
            rw [if_neg (by simp [Nat.blt])]
            obtain rfl : h = 0 := by omega
            obtain rfl : l = 0 := by omega
            exact Sim.vv rfl (slP_run hu hinf hl2 hh2 (Nat.le_refl _) (Nat.zero_le _)) (.slc0 b c κ o _ _ hr)
          · exact Sim.fail
        | slc _ c κ _ _ _ k' hr hk =>
          cases hk with
          | whole ho hn =>
            rw [if_pos (by decide)]
            split
            · rename_i hhn
              have hhn := Nat.le_of_ble_eq_true hhn
              have hrun := slP_run (w := w) (c := c) (o := o) (cap := κ) hu hinf hl2 hh2 hlh (by omega)
              split
              · rename_i hl0
                obtain rfl : l = 0 := Nat.eq_of_beq_eq_true hl0
                refine Sim.vv rfl hrun ?_
                rw [show (if κ = 0 then o else o + 0 * inf.size) = o by split <;> simp]
                exact .slc b c κ o _ _ _ hr (.whole ho (by omega))
              · split
                · rename_i hln
                  have hln : l < n := by simpa [Nat.blt_eq] using hln
                  refine Sim.vv rfl hrun ?_
                  rw [if_neg (by omega)]
                  exact .slc b c κ _ _ _ _ hr (.some_ _ (by omega))
                · rename_i hln
                  have hln : ¬ l < n := by simpa [Nat.blt_eq] using hln
                  refine Sim.vv rfl hrun ?_
                  rw [show h - l = 0 by omega]
                  exact .slc0 b c κ o _ _ hr
            · exact Sim.fail
          | some_ _ hn =>
            rw [if_neg (by decide), if_pos (by decide)]
            split
            · rename_i hhn
              have hhn := Nat.le_of_ble_eq_true hhn
              have hrun := slP_run (w := w) (c := c) (o := o) (cap := k') hu hinf hl2 hh2 hlh (by omega)
              split
              · rename_i hln
                have hln : l < n := by simpa [Nat.blt_eq] using hln
                refine Sim.vv rfl hrun ?_
                rw [if_neg (by omega)]
                exact .slc b c κ _ _ _ _ hr (.some_ _ (by omega))
              · rename_i hln
                have hln : ¬ l < n := by simpa [Nat.blt_eq] using hln
                refine Sim.vv rfl hrun ?_
                rw [show h - l = 0 by omega]
                exact .slc0 b c κ o _ _ hr
            · exact Sim.fail
          | same _ q1 q2 =>
            rw [if_neg (fun e => q1 (Nat.eq_of_beq_eq_true e)), if_neg (fun e => q2 (Nat.eq_of_beq_eq_true e))]
            split
            · rename_i hhk
              have hhk := Nat.le_of_ble_eq_true hhk
              split
              · rename_i hku
                have hku : k < unk := by simpa [Nat.blt_eq] using hku
                have hrun := slP_run (w := w) (c := c) (o := o) hu hinf hl2 hh2 hlh hhk
                refine Sim.vv rfl hrun ?_
                have e : (if Nat.beq k l = true then o else o + l * inf.size) = (if k = l then o else o + l * inf.size) := by
                  by_cases hkl : k = l
                  · rw [if_pos (by rw [hkl]; exact Nat.beq_refl l), if_pos hkl]
                  · rw [if_neg (fun e => hkl (Nat.eq_of_beq_eq_true e)), if_neg hkl]
                rw [e]
                exact .slc b c κ _ _ _ _ hr (.same _ (by omega) (by unfold unk2; unfold unk at hku; omega))
              · exact Sim.fail
            · exact Sim.fail
      · exact Sim.fail
    · exact Sim.fail
  · exact Sim.fail
/-- A slice of an array that a pointer points to. -/
def slAP (P : Program) (t : TypeId) (x : Value) (lo hi : Option Value) : Prog := match x, P.underlying t with
  | .pointer (some ⟨b, o, none⟩), some (.array n e) => match P.info? e, boundOf lo 0, boundOf hi n with
    | some inf, some l, some h =>
      if Nat.ble l h && Nat.ble h n && Nat.blt n unk then .val (.slice (some ⟨b, if Nat.beq n l then o else o + l * inf.size, none⟩) (h - l) (n - l)) else .fail
    | _, _, _ => .fail
  | _, _ => .fail

theorem run_boundsA {P : Program} {lo hi : Option Value} {n l h : Nat} (hl : (lo = none ∧ l = 0) ∨ ∃ k i, lo = some (.int k i) ∧ 0 ≤ i ∧ l = i.toNat) (hh : (hi = none ∧ h = n) ∨ ∃ k i, hi = some (.int k i) ∧ 0 ≤ i ∧ h = i.toNat)
    (h1 : l ≤ h) (h2 : h ≤ n) : (Instr.sliceBounds false n n lo hi none).run P w = .ok (l, h, n) w := by
  have c1 : ∀ i : Int, 0 ≤ i → h = i.toNat → (0 ≤ i ∧ i ≤ (n : Int)) := fun i a b => ⟨a, by omega⟩
  have c2 : ∀ i : Int, 0 ≤ i → l = i.toNat → (0 ≤ i ∧ i ≤ (h : Int)) := fun i a b => ⟨a, by omega⟩
  rcases hl with ⟨rfl, rfl⟩ | ⟨k, i, rfl, a, b⟩ <;> rcases hh with ⟨rfl, rfl⟩ | ⟨k', i', rfl, a', b'⟩
  · simp [Instr.sliceBounds]
  · simp [Instr.sliceBounds, Instr.sliceBound, asIntOf, c1 i' a' b', ← b']
  · simp [Instr.sliceBounds, Instr.sliceBound, asIntOf, c2 i a b, ← b]
  · simp [Instr.sliceBounds, Instr.sliceBound, asIntOf, c1 i' a' b', ← b', c2 i a b, ← b]

theorem slA_sim {t : TypeId} {x x' : Value} {lo hi lo' hi' : Option Value} (hx : V ρ x x') (hlo : VO ρ lo lo') (hhi : VO ρ hi hi') : Sim P (slAP P t x lo hi) (do pure (.value (← Instr.sliceAt t x' lo' hi' none))) ρ w := by
  unfold slAP
  split
  · rename_i b o n e hu
    split
    · rename_i inf l h hinf hl hh
      have hl2 : (lo' = none ∧ l = 0) ∨ ∃ k i, lo' = some (.int k i) ∧ 0 ≤ i ∧ l = i.toNat := by
        rcases boundOf_rel hl hlo with ⟨_, a, b⟩ | h
        · exact .inl ⟨a, b⟩
        · exact .inr h
      have hh2 : (hi' = none ∧ h = n) ∨ ∃ k i, hi' = some (.int k i) ∧ 0 ≤ i ∧ h = i.toNat := by
        rcases boundOf_rel hh hhi with ⟨_, a, b⟩ | h
        · exact .inl ⟨a, b⟩
        · exact .inr h
      clear hl hh hlo hhi
      split
      · rename_i hc
        simp only [Bool.and_eq_true, Nat.ble_eq, Nat.blt_eq] at hc
        obtain ⟨⟨hlh, hhn⟩, hnu⟩ := hc
        cases hx with
        | ptr _ c κ _ hr =>
          have hb := run_boundsA (P := P) (w := w) hl2 hh2 hlh hhn
          have hrun : (Instr.sliceAt t (.pointer (some ⟨c, o, none⟩)) lo' hi' none).run P w = .ok (.slice (some ⟨c, if n = l then o else o + l * inf.size, none⟩) (h - l) (n - l)) w := by
            simp only [Instr.sliceAt, Sem.run_bind, run_underlying hu, Result.andThen_ok, Instr.sureAddr, hb, sizeOf, typeInfo, Sem.run_pure]
            simp only [program, Sem.run, Result.andThen_ok, hinf, Sem.run_pure]
            congr 3
            split <;> simp [Addr.add_mid]
          refine Sim.vv rfl hrun ?_
          have e : (if Nat.beq n l = true then o else o + l * inf.size) = (if n = l then o else o + l * inf.size) := by
            by_cases hkl : n = l
            · rw [if_pos (by rw [hkl]; exact Nat.beq_refl l), if_pos hkl]
            · rw [if_neg (fun e => hkl (Nat.eq_of_beq_eq_true e)), if_neg hkl]
          rw [e]
          exact .slc b c κ _ _ _ _ hr (.same _ (by omega) (by unfold unk2; unfold unk at hnu; omega))
      · exact Sim.fail
    · exact Sim.fail
  · exact Sim.fail
end
end Go.Proofs.YtjeplkbdgphfoaaDoor
