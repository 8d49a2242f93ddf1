/-
  Chapter 3's functions on bytes: lines ahead of a text move its tokens down by as many.
-/
import Derived.Test.YtemmdbjcllcelaaDoorTnSpec
namespace Go.Proofs.YtemmdbjcllcelaaDoor.Tk

def down (k : Nat) (t : Tok) : Tok := { t with line := t.line + k }
def St.down (k : Nat) (σ : St) : St := ⟨σ.l, σ.line + k, σ.col, σ.out.map (Tk.down k)⟩
def Res.down (k : Nat) : Res → Res
  | .ok o => .ok (o.map (Tk.down k))
  | .bad l c e => .bad (l + k) c e
theorem lastEnds_down (k : Nat) (o : List Tok) : lastEnds (o.map (down k)) = lastEnds o := by
  unfold lastEnds
  rw [List.getLast?_map]
  cases o.getLast? <;> rfl
theorem push_down (k : Nat) (σ : St) (kind : Nat) (text : List UInt8) (n used : Nat) : push (σ.down k) kind text n used = match push σ kind text n used with
    | .inl s => .inl (s.down k)
    | .inr r => .inr (r.down k) := by
  unfold push
  have h : (σ.down k).out.length = σ.out.length := by simp [St.down]
  rw [h]
  by_cases hf : σ.out.length = 4000
  · rw [if_pos hf, if_pos hf]; rfl
  · rw [if_neg hf, if_neg hf]
    simp [St.down, down]
theorem step_down (k : Nat) (σ : St) : step (σ.down k) = match step σ with
    | .inl s => .inl (s.down k)
    | .inr r => .inr (r.down k) := by
  have ho : (σ.down k).out = σ.out.map (down k) := rfl
  have hl : (σ.down k).l = σ.l := rfl
  have hlen : (σ.down k).out.length = σ.out.length := by simp [St.down]
  unfold step
  rw [hl, ho, lastEnds_down]
  cases hσ : σ.l with
  | nil =>
    simp only
    by_cases he : lastEnds σ.out = true
    · rw [if_pos he, if_pos he]; exact push_down k σ 1 [59] 0 0
    · rw [if_neg he, if_neg he]
      rw [List.length_map]
      by_cases hf : σ.out.length = 4000
      · rw [if_pos hf, if_pos hf]; rfl
      · rw [if_neg hf, if_neg hf]; simp [Res.down, down, St.down]
  | cons b r =>
    simp only
    by_cases h1 : b = 10
    · rw [if_pos h1, if_pos h1]
      by_cases he : lastEnds σ.out = true
      · rw [if_pos he, if_pos he]; exact push_down k σ 1 [59] 0 0
      · rw [if_neg he, if_neg he]
        simp only [St.down, Sum.inl.injEq, St.mk.injEq, true_and, and_true]
        omega
    · rw [if_neg h1, if_neg h1]
      by_cases h2 : b = 32 ∨ b = 9 ∨ b = 13
      · rw [if_pos h2, if_pos h2]; rfl
      · rw [if_neg h2, if_neg h2]
        by_cases h3 : [47, 47].isPrefixOf (b :: r) = true
        · rw [if_pos h3, if_pos h3]; rfl
        · rw [if_neg h3, if_neg h3]
          cases one (b :: r) with
          | err e => rfl
          | tok kind text n used => exact push_down k σ kind text n used
theorem runN_down (k : Nat) : ∀ (n : Nat) (σ : St), runN n (σ.down k) = (runN n σ).map (Res.down k)
  | 0, _ => rfl
  | n + 1, σ => by
    simp only [runN]
    rw [step_down]
    cases step σ with
    | inl s => exact runN_down k n s
    | inr r => rfl
/-- Lines ahead. -/
theorem Lex.lines {T : List UInt8} {r : Res} (h : Lex ⟨T, 1, 1, []⟩ r) : ∀ k : Nat, Lex ⟨List.replicate k 10 ++ T, 1, 1, []⟩ (r.down k) := by
  have key : ∀ (k line : Nat) (r : Res), Lex ⟨T, line + k, 1, []⟩ r → Lex ⟨List.replicate k 10 ++ T, line, 1, []⟩ r := by
    intro k
    induction k with
    | zero => intro line r h; exact h
    | succ k ih =>
      intro line r h
      refine Lex.next (σ' := ⟨List.replicate k 10 ++ T, line + 1, 1, []⟩) (by simp [step, List.replicate_succ, lastEnds]) (ih (line + 1) r ?_)
      rwa [show line + 1 + k = line + (k + 1) by omega]
  intro k
  refine key k 1 _ ?_
  obtain ⟨n, hn⟩ := h
  exact ⟨n, by
    have := runN_down k n ⟨T, 1, 1, []⟩
    rw [hn] at this
    exact this⟩
end Go.Proofs.YtemmdbjcllcelaaDoor.Tk
