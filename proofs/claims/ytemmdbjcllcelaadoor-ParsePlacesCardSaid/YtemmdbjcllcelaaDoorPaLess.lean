/-
  The machine never goes back; how long a row may be. No function of the program is named here.
-/
import Derived.Test.YtemmdbjcllcelaaDoorPaMS
namespace Go.Proofs.YtemmdbjcllcelaaDoor.Pa
open Go.Proofs.YtemmdbjcllcelaaDoor.Tk (Tok)

def Dn {α : Type} (m : M α) : Prop := ∀ s a s', m s = some (a, s') → s'.l.length ≤ s.l.length
theorem Dn.ret {α : Type} (a : α) : Dn (M.ret a) := fun s _ s' h => by simp only [M.ret, Option.some.injEq, Prod.mk.injEq] at h; rw [← h.2]; exact Nat.le_refl _
theorem Dn.andThen {α β : Type} {x : M α} {k : α → M β} (h : Dn x) (hk : ∀ a, Dn (k a)) : Dn (M.andThen x k) := fun s b s' e => by
  unfold M.andThen at e
  cases hx : x s with
  | none => rw [hx] at e; cases e
  | some p => rw [hx] at e; exact Nat.le_trans (hk p.1 _ _ _ e) (h s p.1 p.2 hx)
theorem Dn.peek : Dn M.peek := fun s _ s' h => by simp only [M.peek, Option.some.injEq, Prod.mk.injEq] at h; rw [← h.2]; exact Nat.le_refl _
theorem Dn.bad : Dn M.bad := fun s _ s' h => by simp only [M.bad, Option.some.injEq, Prod.mk.injEq] at h; rw [← h.2]; exact Nat.le_refl _
theorem Dn.pass : Dn M.pass := fun s _ s' h => by simp only [M.pass, Option.some.injEq, Prod.mk.injEq] at h; rw [← h.2]; simp
theorem Dn.fail (e : Nat) : Dn (M.fail e) := fun s _ s' h => by
  simp only [M.fail, Option.some.injEq, Prod.mk.injEq] at h
  rw [← h.2]
  split
  · simp only [List.length_drop]; omega
  · exact Nat.le_refl _
theorem Dn.takes (m : List UInt8) : Dn (M.takes m) := fun s _ s' h => by
  unfold M.takes at h
  split at h
  · simp only [Option.some.injEq, Prod.mk.injEq] at h; rw [← h.2]; simp
  · simp only [Option.some.injEq, Prod.mk.injEq] at h; rw [← h.2]; exact Nat.le_refl _
theorem Dn.ite {α : Type} {c : Prop} [Decidable c] {x y : M α} (hx : Dn x) (hy : Dn y) : Dn (if c then x else y) := by split <;> assumption
theorem Dn.want (m : List UInt8) : Dn (M.want m) := Dn.andThen (Dn.takes m) fun _ => Dn.ite (Dn.ret ()) (Dn.fail 13)
theorem Dn.name : Dn M.name := Dn.andThen Dn.peek fun _ => Dn.ite (Dn.andThen Dn.pass fun _ => Dn.ret _) (Dn.andThen (Dn.fail 13) fun _ => Dn.ret _)
theorem semis_len : ∀ l : List Tok, (semis l).length ≤ l.length
  | [] => Nat.le_refl _
  | t :: l => by
    rw [semis]
    split
    · have := semis_len l; simp only [List.length_cons]; omega
    · exact Nat.le_refl _
theorem Dn.semis : Dn M.semis := fun s _ s' h => by simp only [M.semis, Option.some.injEq, Prod.mk.injEq] at h; rw [← h.2]; exact semis_len _
attribute [local irreducible] Dn
theorem mstep_dn {rd : Rule → Nat → M Nd} (h : ∀ r d, Dn (rd r d)) (r : Rule) (d : Nat) : Dn (mstep rd r d) := by
  refine Dn.andThen Dn.peek fun l => ?_
  cases r <;> simp only [M.typedName, M.within] <;> repeat' first
    | exact Dn.ret _
    | exact Dn.fail _
    | exact Dn.want _
    | exact Dn.takes _
    | exact Dn.name
    | exact Dn.semis
    | exact Dn.bad
    | exact Dn.pass
    | exact Dn.peek
    | exact h _ _
    | (refine Dn.andThen ?_ ?_)
    | (refine Dn.ite ?_ ?_)
    | (intro _)
    | split
theorem mrun_dn : ∀ (n : Nat) (r : Rule) (d : Nat), Dn (mrun n r d)
  | 0, _, _ => by unfold Dn; intro _ _ _ h; cases h
  | n + 1, r, d => mstep_dn (mrun_dn n) r d
theorem mrun_less {n : Nat} {r : Rule} {d : Nat} {s s' : St} {t : Nd} (h : mrun n r d s = some (t, s')) : s'.l.length ≤ s.l.length := by
  have := mrun_dn n r d; unfold Dn at this; exact this _ _ _ h

theorem then_some' {α β : Type} {x : M α} {k : α → M β} {s : St} {r : β × St} (h : M.andThen x k s = some r) : ∃ a s1, x s = some (a, s1) ∧ k a s1 = some r := by
  unfold M.andThen at h
  cases hx : x s with
  | none => rw [hx] at h; cases h
  | some p => rw [hx] at h; exact ⟨p.1, p.2, rfl, h⟩
/-- A list's length. -/
theorem listLoop_len : ∀ {n : Nat} {r : Rule} {d : Nat} {acc : List Nd} {s s' : St} {t : Nd}, mrun n (.listLoop r acc) d s = some (t, s') → t.kids.length ≤ acc.length + s.l.length
  | 0, _, _, _, _, _, _, h => by cases h
  | n + 1, r, d, acc, s, s', t, h => by
    obtain ⟨b, s1, h1, hx⟩ := then_some' (show M.andThen (M.takes [44]) _ s = some (t, s') from h)
    clear h
    unfold M.takes at h1
    split at h1
    · rename_i hm
      simp only [Option.some.injEq, Prod.mk.injEq] at h1
      obtain ⟨rfl, rfl⟩ := h1
      obtain ⟨t1, s2, h2, h3⟩ := then_some' (show M.andThen (mrun n r d) _ _ = some (t, s') from hx)
      have a := mrun_less h2
      have b := listLoop_len h3
      simp only [List.length_append, List.length_cons, List.length_nil] at b
      have c : s.l.tail.length + 1 = s.l.length := by
        cases hl : s.l with
        | nil => rw [hl] at hm; simp [mark, hd] at hm
        | cons x l => simp
      simp only at a
      omega
    · simp only [Option.some.injEq, Prod.mk.injEq] at h1
      obtain ⟨rfl, rfl⟩ := h1
      obtain ⟨_, s2, _, h3⟩ := then_some' (show M.andThen (M.want [41]) _ _ = some (t, s') from hx)
      simp only [M.ret, Option.some.injEq, Prod.mk.injEq] at h3
      rw [← h3.1]
      simp [lst, Nd.kids]
theorem listed_len {n : Nat} {r : Rule} {d : Nat} {s s' : St} {t : Nd} (h : mrun n (.listed r) d s = some (t, s')) : t.kids.length ≤ s.l.length + 1 := by
  cases n with
  | zero => cases h
  | succ n =>
    obtain ⟨_, s1, h1, hx⟩ := then_some' (show M.andThen (M.want [40]) _ s = some (t, s') from h)
    have a := (show s1.l.length ≤ s.l.length from by have := Dn.want [40]; unfold Dn at this; exact this _ _ _ h1)
    replace hx : (if mark s1.l = [41] then M.andThen (M.want [41]) fun _ => M.ret (lst []) else M.andThen (mrun n r d) fun t => mrun n (.listLoop r [t]) d) s1 = some (t, s') := hx
    split at hx
    · obtain ⟨_, s2, _, h3⟩ := then_some' hx
      simp only [M.ret, Option.some.injEq, Prod.mk.injEq] at h3
      rw [← h3.1]
      simp [lst, Nd.kids]
    · obtain ⟨t1, s2, h2, h3⟩ := then_some' hx
      have b := mrun_less h2
      have c := listLoop_len h3
      simp only [List.length_cons, List.length_nil] at c
      omega
end Go.Proofs.YtemmdbjcllcelaaDoor.Pa
