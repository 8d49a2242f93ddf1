/-
  A run that is reckoned over blocks with names of its own: what single operations do: no function of a program is named here.
-/
import Derived.Test.YtjeplkbdgphfoaaDoorEvD
namespace Go.Proofs.YtjeplkbdgphfoaaDoor
open Go.RowKit

/-- A computation that looks at the program alone. -/
def pureRun {α : Type} (P : Program) : Sem α → Option α
  | .pure a => some a
  | .program k => pureRun P (k P)
  | _ => none
theorem pureRun_run {α : Type} {P : Program} : ∀ {s : Sem α} {a : α}, pureRun P s = some a → ∀ w, s.run P w = .ok a w
  | .pure b, a, h, w => by simp only [pureRun, Option.some.injEq] at h; subst h; rfl
  | .program k, a, h, w => by
    simp only [pureRun] at h
    exact pureRun_run (s := k P) h w
  | .load .., _, h, _ => by simp [pureRun] at h
  | .store .., _, h, _ => by simp [pureRun] at h
  | .new .., _, h, _ => by simp [pureRun] at h
  | .shape .., _, h, _ => by simp [pureRun] at h
  | .freeze .., _, h, _ => by simp [pureRun] at h
  | .frozen .., _, h, _ => by simp [pureRun] at h
  | .getObj .., _, h, _ => by simp [pureRun] at h
  | .setObj .., _, h, _ => by simp [pureRun] at h
  | .choose .., _, h, _ => by simp [pureRun] at h
  | .sys .., _, h, _ => by simp [pureRun] at h
  | .mark .., _, h, _ => by simp [pureRun] at h
  | .halt .., _, h, _ => by simp [pureRun] at h

/-- Cells are written. -/
def wrL (b : Nat) : Nat → List Value → Prog → Prog
  | _, [], k => k
  | o, v :: l, k => .wr b o v (wrL b (o + 1) l k)
def storeP (P : Program) (t : TypeId) (p v : Value) : Prog :=
  match p with
  | .pointer (some ⟨b, o, none⟩) => match P.info? t with
    | some i => if v.cells.size = i.size then wrL b o v.cells.toList .skip else .fail
    | none => .fail
  | _ => .fail

section
variable {P : Program} {ρ : Rho} {H : Hp} {w : World}
theorem Sim.val {p : Prog} {s : Sem Next} {v v' : Value} (hp : p = .val v) (hs : ∀ w, s.run P w = .ok (.value v') w) (hv : V ρ v v') : Sim P p s ρ w := by
  subst hp
  intro H t r hpr _ hw
  cases hpr
  exact ⟨_, w, ρ, hs w, Went.refl hw, hv⟩
theorem Sim.fail {s : Sem Next} : Sim P .fail s ρ w := fun H t r hpr _ _ => by cases hpr

theorem wrL_sound {b c κ o0 : Nat} (hr : ρ b = some (c, κ)) {k : Prog} {r : Out} : ∀ {l l' : List Value} {i : Nat} {t : List Ac} {H : Hp} {w : World}, VL ρ l l' → PR (wrL b (o0 + i) l k) t r → Valid H t → WR P ρ H w →
    ∃ w' t1 t2, t = t1 ++ t2 ∧ PR k t2 r ∧ (storeCells ⟨c, o0, none⟩ l' i).run P w = .ok () w' ∧ Went P ρ H w t1 ρ w' ∧ Valid (apps H t1) t2
  | [], l', i, t, H, w, hl, h, hv, hw => by
    rw [hl.cases_nil]
    exact ⟨w, [], t, rfl, h, rfl, Went.refl hw, hv⟩
  | v :: l, l', i, t, H, w, hl, h, hv, hw => by
    obtain ⟨v', r', rfl, hvv, hlr⟩ := hl.cases_cons
    simp only [wrL] at h
    cases h with
    | wr h =>
      rename_i t
      obtain ⟨h1, h2⟩ := hv
      obtain ⟨c', κ', u, e1, e2, e3, e4⟩ := hw.wrt (by assumption) h1 hvv
      rw [hr] at e1; cases e1
      have hone : v'.oneCell' = true := by rw [← one_eq, hvv.one]; exact h1.2
      rw [Nat.add_assoc] at h
      obtain ⟨w', t1, t2, rfl, q1, q2, q3, q4⟩ := wrL_sound hr hlr h h2 e4.wr
      refine ⟨w', .wr b (o0 + i) v :: t1, t2, rfl, q1, ?_, e4.trans q3, q4⟩
      simp only [storeCells, Sem.run_bind]
      rw [Addr.add_mid, run_store P w _ v' _ hone, e2]
      simp [e3, q2]

theorem V.cells_size {v v' : Value} (h : V ρ v v') : v'.cells.size = v.cells.size := by
  have := h.cells.1
  simpa using this.symm

theorem storeP_sound {t : TypeId} {p v p' v' : Value} (hp : V ρ p p') (hv : V ρ v v') : Sim P (storeP P t p v) (do Instr.storeAt t p' v'; pure .skip) ρ w := by
  unfold storeP
  split
  · rename_i b o
    cases hp with
    | ptr _ c κ _ hr =>
      cases hi : P.info? t with
      | none => exact Sim.fail
      | some i =>
        simp only
        by_cases hs : v.cells.size = i.size
        · rw [if_pos hs]
          intro H tr r hpr hval hw
          obtain ⟨w', t1, t2, rfl, q1, q2, q3, q4⟩ := wrL_sound (o0 := o) (i := 0) hr hv.cells hpr hval hw
          cases q1
          refine ⟨.skip, w', ρ, ?_, by simpa using q3, trivial⟩
          simp only [Instr.storeAt, Instr.sureAddr, storeVar, Sem.run_bind, Sem.run_pure, Result.andThen_ok, sizeOf, typeInfo, program]
          simp only [Sem.run, Result.andThen_ok, hi]
          simp [hv.cells_size, hs, q2]
        · rw [if_neg hs]; exact Sim.fail
  · exact Sim.fail

/-- A block is made of a value's cells. -/
def newP (ty : TypeId) (v : Value) : Prog := .nw (ty, 0) v.cells.toList fun b => .val (.pointer (some ⟨b, 0, none⟩))
theorem newP_sound {ty : TypeId} {v v' : Value} (hv : V ρ v v') {s : Sem Next} (hs : ∀ w, s.run P w = .ok (.value (.pointer (some ⟨w.heap.size, 0, none⟩))) (w.alloc (.cells v'.cells ty))) : Sim P (newP ty v) s ρ w := by
  intro H t r hpr hval hw
  unfold newP at hpr
  cases hpr with
  | nw h =>
    rename_i b t
    cases h
    have hl : v.cells.toList.length = v'.cells.toList.length := hv.cells.1
    have hw2 := hw.nw (κ := 0) (cs' := v'.cells) (by assumption) hval.1 (by simp at hl ⊢; omega) (fun i x x' hx hx' => hv.cells.2 i x x' hx (by simpa using hx')) (.inl rfl)
    exact ⟨_, _, _, hs w, hw2, .ptr _ _ _ _ Rho.add_eq⟩

theorem run_new {ty : TypeId} {cs : Array Value} : (newRow ty cs).run P w = .ok ⟨w.heap.size, 0, none⟩ (w.alloc (.cells cs ty)) := by
  rfl
end
end Go.Proofs.YtjeplkbdgphfoaaDoor
