/-
  Plain facts on objects laid one behind the other.
-/
import Derived.Test.YtdffjojpnonanaaHeapM
namespace Go.Proofs.Ytdffjojpnonanaa
open Go.RowKit

/-- Objects of the types t, t + 1, .. one behind the other. -/
def flat : Int → List (List Int) → List Int
  | _, [] => []
  | t, l :: r => headOf t l.length :: (l ++ flat (t + 1) r)

/-- Where object k lies. -/
def refAt : Nat → List (List Int) → Nat → Nat
  | b, l :: r, k + 1 => refAt (b + 1 + l.length) r k
  | b, _, _ => b

theorem flat_snoc (t : Int) (o : List (List Int)) (l : List Int) : flat t (o ++ [l]) = flat t o ++ headOf (t + o.length) l.length :: l := by
  induction o generalizing t with
  | nil => simp [flat]
  | cons a r ih =>
    simp only [List.cons_append, flat, ih, List.length_cons, List.append_assoc]
    rw [show t + 1 + (r.length : Int) = t + ((r.length + 1 : Nat) : Int) from by omega]

theorem refAt_len (b : Nat) (o : List (List Int)) (t : Int) : refAt b o o.length = b + (flat t o).length := by
  induction o generalizing b t with
  | nil => simp [refAt, flat]
  | cons a r ih =>
    simp only [List.length_cons, refAt, flat, List.length_append]
    rw [ih _ (t + 1)]
    omega

theorem refAt_snoc (b : Nat) (o : List (List Int)) (l : List Int) (k : Nat) (h : k ≤ o.length) : refAt b (o ++ [l]) k = refAt b o k := by
  induction o generalizing b k with
  | nil => obtain rfl : k = 0 := by simpa using h
           rfl
  | cons a r ih =>
    cases k with
    | zero => rfl
    | succ k => exact ih _ k (by simpa using h)

theorem refAt_set (b : Nat) (o : List (List Int)) (i k : Nat) (l : List Int) (hl : ∀ x, o[i]? = some x → l.length = x.length) : refAt b (o.set i l) k = refAt b o k := by
  induction o generalizing b i k with
  | nil => rfl
  | cons a r ih =>
    cases i with
    | zero =>
      cases k with
      | zero => rfl
      | succ k => simp only [List.set_cons_zero, refAt]; rw [hl a rfl]
    | succ i =>
      cases k with
      | zero => rfl
      | succ k => exact ih _ i k (fun x hx => hl x hx)

/-- The words at object k. -/
theorem flat_at (A : List Int) (t : Int) (o : List (List Int)) (k : Nat) (l : List Int) (h : o[k]? = some l) :
    ∃ X Y, A ++ flat t o = X ++ headOf (t + k) l.length :: (l ++ Y) ∧ X.length = refAt A.length o k ∧ ∀ l', l'.length = l.length → A ++ flat t (o.set k l') = X ++ headOf (t + k) l.length :: (l' ++ Y) := by
  induction o generalizing A t k with
  | nil => simp at h
  | cons a r ih =>
    cases k with
    | zero =>
      simp at h; subst h
      refine ⟨A, flat (t + 1) r, ?_, rfl, fun l' hl => ?_⟩
      · simp [flat]
      · simp [flat, hl]
    | succ k =>
      simp at h
      obtain ⟨X, Y, h1, h2, h3⟩ := ih (A ++ headOf t a.length :: a) (t + 1) k h
      have e1 : A ++ flat t (a :: r) = (A ++ headOf t a.length :: a) ++ flat (t + 1) r := by simp [flat]
      have e2 : t + ((k + 1 : Nat) : Int) = t + 1 + (k : Int) := by omega
      refine ⟨X, Y, ?_, ?_, fun l' hl => ?_⟩
      · rw [e1, e2]; exact h1
      · rw [h2]; simp only [refAt, List.length_append, List.length_cons]
        rw [show A.length + (a.length + 1) = A.length + 1 + a.length from by omega]
      · rw [e2, List.set_cons_succ]
        have := h3 l' hl
        rw [← this]; simp [flat]

section
variable (o : List (List Int)) (k : Nat) (l : List Int)

def wsOf (o : List (List Int)) : List Int := 0 :: flat 5 o
def rOf (o : List (List Int)) (k : Nat) : Nat := refAt 1 o k

theorem wsOf_at (h : o[k]? = some l) : ∃ X Y, wsOf o = X ++ headOf (5 + k) l.length :: (l ++ Y) ∧ X.length = rOf o k ∧ ∀ l', l'.length = l.length → wsOf (o.set k l') = X ++ headOf (5 + k) l.length :: (l' ++ Y) :=
  flat_at [0] 5 o k l h

theorem wsOf_len (h : o[k]? = some l) (hl : l.length ≤ 8) : lenOf (wsOf o) (rOf o k) = l.length := by
  obtain ⟨X, Y, h1, h2, _⟩ := wsOf_at o k l h
  unfold lenOf
  rw [h1, ← h2, wordAt_head, headOf_len _ _ (by omega)]

theorem wsOf_type (h : o[k]? = some l) (hl : l.length ≤ 8) : typeOf (wsOf o) (rOf o k) = 5 + k := by
  obtain ⟨X, Y, h1, h2, _⟩ := wsOf_at o k l h
  unfold typeOf
  rw [h1, ← h2, wordAt_head, headOf_type _ _ (by omega)]

theorem wsOf_word (h : o[k]? = some l) (j : Nat) (hj : j < l.length) : wordAt (wsOf o) ((rOf o k + 1 + j : Nat) : Int) = l.getD j 0 := by
  obtain ⟨X, Y, h1, h2, _⟩ := wsOf_at o k l h
  rw [h1, ← h2, wordAt_behind, List.getD_eq_getElem?_getD, List.getElem?_append_left hj, List.getD_eq_getElem?_getD]

theorem wsOf_place (h : o[k]? = some l) (hl : l.length ≤ 8) (j : Nat) : placeOf (wsOf o) (rOf o k) j = if j < l.length then ((rOf o k + 1 + j : Nat) : Int) else 0 := by
  unfold placeOf
  rw [wsOf_len o k l h hl]
  by_cases hj : j < l.length
  · rw [if_pos (by omega), if_pos hj]; omega
  · rw [if_neg (by omega), if_neg hj]

theorem wsOf_lt (h : o[k]? = some l) : rOf o k + l.length < (wsOf o).length := by
  obtain ⟨X, Y, h1, h2, _⟩ := wsOf_at o k l h
  rw [h1, ← h2]; simp; omega

theorem rOf_pos : 1 ≤ rOf o k := by
  unfold rOf
  have : ∀ (o : List (List Int)) b k, b ≤ refAt b o k := by
    intro o
    induction o with
    | nil => intro b k; cases k <;> exact Nat.le_refl _
    | cons a r ih =>
      intro b k
      cases k with
      | zero => exact Nat.le_refl _
      | succ k => have := ih (b + 1 + a.length) k; simp only [refAt]; omega
  exact this o 1 k

theorem wsOf_put (h : o[k]? = some l) (hl : l.length ≤ 8) (j : Nat) (hj : j < l.length) (v : Int) :
    putOf (wsOf o) (placeOf (wsOf o) (rOf o k) j) v = wsOf (o.set k (l.set j v)) := by
  rw [wsOf_place o k l h hl, if_pos hj]
  obtain ⟨X, Y, h1, h2, h3⟩ := wsOf_at o k l h
  rw [h3 (l.set j v) (by simp), h1]
  unfold putOf
  rw [if_pos (by omega), Int.toNat_natCast, ← h2, List.set_append_right _ _ (by omega), show X.length + 1 + j - X.length = j + 1 from by omega, List.set_cons_succ, List.set_append_left _ _ hj]

theorem wsOf_put_no (h : o[k]? = some l) (hl : l.length ≤ 8) (j : Nat) (hj : ¬ j < l.length) (v : Int) :
    putOf (wsOf o) (placeOf (wsOf o) (rOf o k) j) v = wsOf o := by
  rw [wsOf_place o k l h hl, if_neg hj]
  rfl

theorem wsOf_putB (h : o[k]? = some l) (hl : l.length ≤ 8) (j : Nat) : putB (wsOf o) (placeOf (wsOf o) (rOf o k) j) = decide (j < l.length) := by
  rw [wsOf_place o k l h hl]
  have hlt := wsOf_lt o k l h
  by_cases hj : j < l.length
  · rw [if_pos hj]; simp only [putB, hj, decide_true, decide_eq_true_eq]; omega
  · rw [if_neg hj]; simp [putB, hj]

theorem wsOf_snoc : wsOf (o ++ [l]) = wsOf o ++ headOf (5 + o.length) l.length :: l := by
  unfold wsOf
  rw [flat_snoc]; simp

theorem wsOf_alloc (n : Nat) : allocWs (wsOf o) (5 + o.length) n = wsOf (o ++ [List.replicate n 0]) := by
  rw [wsOf_snoc]
  simp [allocWs]

theorem rOf_new : rOf (o ++ [l]) o.length = (wsOf o).length := by
  unfold rOf wsOf
  rw [refAt_snoc _ _ _ _ (Nat.le_refl _), refAt_len 1 o 5]
  simp; omega

theorem rOf_old (h : k ≤ o.length) : rOf (o ++ [l]) k = rOf o k := refAt_snoc _ _ _ _ h
theorem rOf_set (i : Nat) (l' : List Int) (hl : ∀ x, o[i]? = some x → l'.length = x.length) : rOf (o.set i l') k = rOf o k := refAt_set _ _ _ _ _ hl
end
end Go.Proofs.Ytdffjojpnonanaa
