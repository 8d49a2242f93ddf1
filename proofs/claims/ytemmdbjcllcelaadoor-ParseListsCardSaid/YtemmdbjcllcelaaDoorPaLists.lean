/-
  The text of ParseLists: what its tokens are, and its tree.
-/
import Derived.Test.YtemmdbjcllcelaaDoorPaSpec
import Derived.KernelRfl
namespace Go.Proofs.YtemmdbjcllcelaaDoor.Tk
/-- Tokens ahead, of which the last one ends nothing. -/
def St.pre (o : List Tok) (σ : St) : St := ⟨σ.l, σ.line, σ.col, o ++ σ.out⟩
def Res.pre (o : List Tok) : Res → Res
  | .ok l => .ok (o ++ l)
  | .bad l c e => .bad l c e
def Or.pre (o : List Tok) : St ⊕ Res → St ⊕ Res
  | .inl s => .inl (s.pre o)
  | .inr r => .inr (r.pre o)
theorem lastEnds_pre {o : List Tok} (h : lastEnds o = false) (l : List Tok) : lastEnds (o ++ l) = lastEnds l := by
  cases l with
  | nil => rw [List.append_nil, h]; rfl
  | cons t l =>
    unfold lastEnds
    rw [List.getLast?_append]
    cases hx : (t :: l).getLast? with
    | none => simp at hx
    | some x => rfl
theorem push_pre {o : List Tok} {σ : St} (hn : o.length + σ.out.length < 4000) (kind : Nat) (text : List UInt8) (n used : Nat) : push (σ.pre o) kind text n used = Or.pre o (push σ kind text n used) := by
  have h1 : ¬ (σ.pre o).out.length = 4000 := by simp only [St.pre, List.length_append]; omega
  have h2 : ¬ σ.out.length = 4000 := by omega
  unfold push
  rw [if_neg h1, if_neg h2]
  simp [St.pre, Or.pre]
theorem step_pre {o : List Tok} {σ : St} (h : lastEnds o = false) (hn : o.length + σ.out.length < 4000) : step (σ.pre o) = Or.pre o (step σ) := by
  have hl : (σ.pre o).l = σ.l := rfl
  have ho : (σ.pre o).out = o ++ σ.out := rfl
  have hle : lastEnds (σ.pre o).out = lastEnds σ.out := by rw [ho]; exact lastEnds_pre h _
  have h1 : ¬ (σ.pre o).out.length = 4000 := by rw [ho, List.length_append]; omega
  have h2 : ¬ σ.out.length = 4000 := by omega
  unfold step
  rw [hl, hle]
  cases hσ : σ.l with
  | nil =>
    simp only
    by_cases he : lastEnds σ.out = true
    · rw [if_pos he, if_pos he]; exact push_pre hn _ _ _ _
    · rw [if_neg he, if_neg he, if_neg h1, if_neg h2]
      simp [Or.pre, Res.pre, St.pre]
  | cons b r =>
    simp only
    by_cases h1 : b = 10
    · rw [if_pos h1, if_pos h1]
      by_cases he : lastEnds σ.out = true
      · rw [if_pos he, if_pos he]; exact push_pre hn _ _ _ _
      · rw [if_neg he, if_neg he]; rfl
    · rw [if_neg h1, if_neg h1]
      by_cases h2 : b = 32 ∨ b = 9 ∨ b = 13
      · rw [if_pos h2, if_pos h2]; rfl
      · rw [if_neg h2, if_neg h2]
        by_cases h3 : [47, 47].isPrefixOf (b :: r) = true
        · rw [if_pos h3, if_pos h3]; rfl
        · rw [if_neg h3, if_neg h3]
          cases one (b :: r) with
          | err e => rfl
          | tok kind text n used => exact push_pre hn _ _ _ _
def stepN : Nat → St → St ⊕ Res
  | 0, σ => .inl σ
  | n + 1, σ => match step σ with
    | .inl s => stepN n s
    | .inr r => .inr r
theorem push_len {σ s : St} {kind n used : Nat} {text : List UInt8} (h : push σ kind text n used = .inl s) : s.out.length ≤ σ.out.length + 1 := by
  unfold push at h
  split at h
  · cases h
  · cases h; simp
theorem step_len {σ s : St} (h : step σ = .inl s) : s.out.length ≤ σ.out.length + 1 := by
  unfold step at h
  split at h
  · split at h
    · exact push_len h
    · split at h <;> cases h
  · split at h
    · split at h
      · exact push_len h
      · cases h; simp
    · split at h
      · cases h; simp
      · split at h
        · cases h; simp
        · split at h
          · cases h
          · exact push_len h
theorem stepN_pre {o : List Tok} (h : lastEnds o = false) : ∀ (k : Nat) (σ : St), o.length + σ.out.length + k < 4000 → stepN k (σ.pre o) = Or.pre o (stepN k σ)
  | 0, _, _ => rfl
  | k + 1, σ, hn => by
    simp only [stepN]
    rw [step_pre h (by omega)]
    cases hs : step σ with
    | inl s => exact stepN_pre h k s (by have := step_len hs; omega)
    | inr r => rfl
theorem Lex.steps {r : Res} : ∀ (k : Nat) {σ s : St}, stepN k σ = .inl s → Lex s r → Lex σ r
  | 0, _, _, h, hl => by cases h; exact hl
  | k + 1, σ, s, h, hl => by
    simp only [stepN] at h
    cases hs : step σ with
    | inl s' => rw [hs] at h; exact Lex.next hs (Lex.steps k h hl)
    | inr r' => rw [hs] at h; cases h
theorem Lex.stops {r : Res} : ∀ (k : Nat) {σ : St}, stepN k σ = .inr r → Lex σ r
  | 0, _, h => by cases h
  | k + 1, σ, h => by
    simp only [stepN] at h
    cases hs : step σ with
    | inl s' => rw [hs] at h; exact Lex.next hs (Lex.stops k h)
    | inr r' => rw [hs] at h; cases h; exact Lex.done hs
/-- A chunk behind tokens of which the last one ends nothing. -/
theorem Lex.chunk {r : Res} {o o' : List Tok} {t t' : List UInt8} {line col line' col' : Nat} (k : Nat) (h : stepN k ⟨t, line, col, []⟩ = .inl ⟨t', line', col', o'⟩) (he : lastEnds o = false) (hn : o.length + k < 4000) (hl : Lex ⟨t', line', col', o ++ o'⟩ r) : Lex ⟨t, line, col, o⟩ r := by
  have := stepN_pre (σ := ⟨t, line, col, []⟩) he k (by simpa using hn)
  rw [h] at this
  have h2 : St.pre o ⟨t, line, col, []⟩ = ⟨t, line, col, o⟩ := by simp [St.pre]
  rw [h2] at this
  exact Lex.steps k this hl
theorem Lex.last {r : Res} {o : List Tok} {t : List UInt8} {line col : Nat} (k : Nat) (h : stepN k ⟨t, line, col, []⟩ = .inr r) (he : lastEnds o = false) (hn : o.length + k < 4000) : Lex ⟨t, line, col, o⟩ (r.pre o) := by
  have := stepN_pre (σ := ⟨t, line, col, []⟩) he k (by simpa using hn)
  rw [h] at this
  have h2 : St.pre o ⟨t, line, col, []⟩ = ⟨t, line, col, o⟩ := by simp [St.pre]
  rw [h2] at this
  exact Lex.stops k this
end Go.Proofs.YtemmdbjcllcelaaDoor.Tk
namespace Go.Proofs.YtemmdbjcllcelaaDoor.Pa
open Go.Proofs.YtemmdbjcllcelaaDoor.Tk (Tok St Res Lex lastEnds LexAll stepN)
set_option maxRecDepth 100000
/-- A number below a hundred, its digits. -/
def dig (i : Nat) : List UInt8 := if i < 10 then [UInt8.ofNat (48 + i)] else [UInt8.ofNat (48 + i / 10), UInt8.ofNat (48 + i % 10)]
/-- The text up to a parameter. -/
def headB : Nat → List UInt8
  | 0 => [102, 117, 110, 99, 32, 102, 40]
  | m + 1 => headB m ++ (if 0 < m then [44, 32] else []) ++ [112] ++ dig m ++ [32, 105, 110, 116]
def midB : List UInt8 := [41, 32, 123, 10]
def semB : List UInt8 := [59, 59, 10, 59]
def tailB : List UInt8 := [125, 10, 59, 59, 10]
def stmtB (i : Nat) : List UInt8 := [112, 114, 105, 110, 116, 40] ++ dig i ++ [41, 10]
/-- Statements from i on, k of them. -/
def stB (b : Nat → Bool) : Nat → Nat → List UInt8
  | _, 0 => []
  | i, k + 1 => stmtB i ++ (if b i then semB else []) ++ stB b (i + 1) k
def headT : Nat → List Tok
  | 0 => [⟨3, [102, 117, 110, 99], 0, 1, 1⟩, ⟨2, [102], 0, 1, 6⟩, ⟨6, [40], 0, 1, 7⟩, ⟨6, [41], 0, 1, 8⟩, ⟨6, [123], 0, 1, 10⟩]
  | 1 => [⟨3, [102, 117, 110, 99], 0, 1, 1⟩, ⟨2, [102], 0, 1, 6⟩, ⟨6, [40], 0, 1, 7⟩, ⟨2, [112, 48], 0, 1, 8⟩, ⟨3, [105, 110, 116], 0, 1, 11⟩, ⟨6, [41], 0, 1, 14⟩, ⟨6, [123], 0, 1, 16⟩]
  | 2 => [⟨3, [102, 117, 110, 99], 0, 1, 1⟩, ⟨2, [102], 0, 1, 6⟩, ⟨6, [40], 0, 1, 7⟩, ⟨2, [112, 48], 0, 1, 8⟩, ⟨3, [105, 110, 116], 0, 1, 11⟩, ⟨6, [44], 0, 1, 14⟩, ⟨2, [112, 49], 0, 1, 16⟩, ⟨3, [105, 110, 116], 0, 1, 19⟩, ⟨6, [41], 0, 1, 22⟩, ⟨6, [123], 0, 1, 24⟩]
  | 3 => [⟨3, [102, 117, 110, 99], 0, 1, 1⟩, ⟨2, [102], 0, 1, 6⟩, ⟨6, [40], 0, 1, 7⟩, ⟨2, [112, 48], 0, 1, 8⟩, ⟨3, [105, 110, 116], 0, 1, 11⟩, ⟨6, [44], 0, 1, 14⟩, ⟨2, [112, 49], 0, 1, 16⟩, ⟨3, [105, 110, 116], 0, 1, 19⟩, ⟨6, [44], 0, 1, 22⟩, ⟨2, [112, 50], 0, 1, 24⟩, ⟨3, [105, 110, 116], 0, 1, 27⟩, ⟨6, [41], 0, 1, 30⟩, ⟨6, [123], 0, 1, 32⟩]
  | 4 => [⟨3, [102, 117, 110, 99], 0, 1, 1⟩, ⟨2, [102], 0, 1, 6⟩, ⟨6, [40], 0, 1, 7⟩, ⟨2, [112, 48], 0, 1, 8⟩, ⟨3, [105, 110, 116], 0, 1, 11⟩, ⟨6, [44], 0, 1, 14⟩, ⟨2, [112, 49], 0, 1, 16⟩, ⟨3, [105, 110, 116], 0, 1, 19⟩, ⟨6, [44], 0, 1, 22⟩, ⟨2, [112, 50], 0, 1, 24⟩, ⟨3, [105, 110, 116], 0, 1, 27⟩, ⟨6, [44], 0, 1, 30⟩, ⟨2, [112, 51], 0, 1, 32⟩, ⟨3, [105, 110, 116], 0, 1, 35⟩, ⟨6, [41], 0, 1, 38⟩, ⟨6, [123], 0, 1, 40⟩]
  | 5 => [⟨3, [102, 117, 110, 99], 0, 1, 1⟩, ⟨2, [102], 0, 1, 6⟩, ⟨6, [40], 0, 1, 7⟩, ⟨2, [112, 48], 0, 1, 8⟩, ⟨3, [105, 110, 116], 0, 1, 11⟩, ⟨6, [44], 0, 1, 14⟩, ⟨2, [112, 49], 0, 1, 16⟩, ⟨3, [105, 110, 116], 0, 1, 19⟩, ⟨6, [44], 0, 1, 22⟩, ⟨2, [112, 50], 0, 1, 24⟩, ⟨3, [105, 110, 116], 0, 1, 27⟩, ⟨6, [44], 0, 1, 30⟩, ⟨2, [112, 51], 0, 1, 32⟩, ⟨3, [105, 110, 116], 0, 1, 35⟩, ⟨6, [44], 0, 1, 38⟩, ⟨2, [112, 52], 0, 1, 40⟩, ⟨3, [105, 110, 116], 0, 1, 43⟩, ⟨6, [41], 0, 1, 46⟩, ⟨6, [123], 0, 1, 48⟩]
  | 6 => [⟨3, [102, 117, 110, 99], 0, 1, 1⟩, ⟨2, [102], 0, 1, 6⟩, ⟨6, [40], 0, 1, 7⟩, ⟨2, [112, 48], 0, 1, 8⟩, ⟨3, [105, 110, 116], 0, 1, 11⟩, ⟨6, [44], 0, 1, 14⟩, ⟨2, [112, 49], 0, 1, 16⟩, ⟨3, [105, 110, 116], 0, 1, 19⟩, ⟨6, [44], 0, 1, 22⟩, ⟨2, [112, 50], 0, 1, 24⟩, ⟨3, [105, 110, 116], 0, 1, 27⟩, ⟨6, [44], 0, 1, 30⟩, ⟨2, [112, 51], 0, 1, 32⟩, ⟨3, [105, 110, 116], 0, 1, 35⟩, ⟨6, [44], 0, 1, 38⟩, ⟨2, [112, 52], 0, 1, 40⟩, ⟨3, [105, 110, 116], 0, 1, 43⟩, ⟨6, [44], 0, 1, 46⟩, ⟨2, [112, 53], 0, 1, 48⟩, ⟨3, [105, 110, 116], 0, 1, 51⟩, ⟨6, [41], 0, 1, 54⟩, ⟨6, [123], 0, 1, 56⟩]
  | 7 => [⟨3, [102, 117, 110, 99], 0, 1, 1⟩, ⟨2, [102], 0, 1, 6⟩, ⟨6, [40], 0, 1, 7⟩, ⟨2, [112, 48], 0, 1, 8⟩, ⟨3, [105, 110, 116], 0, 1, 11⟩, ⟨6, [44], 0, 1, 14⟩, ⟨2, [112, 49], 0, 1, 16⟩, ⟨3, [105, 110, 116], 0, 1, 19⟩, ⟨6, [44], 0, 1, 22⟩, ⟨2, [112, 50], 0, 1, 24⟩, ⟨3, [105, 110, 116], 0, 1, 27⟩, ⟨6, [44], 0, 1, 30⟩, ⟨2, [112, 51], 0, 1, 32⟩, ⟨3, [105, 110, 116], 0, 1, 35⟩, ⟨6, [44], 0, 1, 38⟩, ⟨2, [112, 52], 0, 1, 40⟩, ⟨3, [105, 110, 116], 0, 1, 43⟩, ⟨6, [44], 0, 1, 46⟩, ⟨2, [112, 53], 0, 1, 48⟩, ⟨3, [105, 110, 116], 0, 1, 51⟩, ⟨6, [44], 0, 1, 54⟩, ⟨2, [112, 54], 0, 1, 56⟩, ⟨3, [105, 110, 116], 0, 1, 59⟩, ⟨6, [41], 0, 1, 62⟩, ⟨6, [123], 0, 1, 64⟩]
  | 8 => [⟨3, [102, 117, 110, 99], 0, 1, 1⟩, ⟨2, [102], 0, 1, 6⟩, ⟨6, [40], 0, 1, 7⟩, ⟨2, [112, 48], 0, 1, 8⟩, ⟨3, [105, 110, 116], 0, 1, 11⟩, ⟨6, [44], 0, 1, 14⟩, ⟨2, [112, 49], 0, 1, 16⟩, ⟨3, [105, 110, 116], 0, 1, 19⟩, ⟨6, [44], 0, 1, 22⟩, ⟨2, [112, 50], 0, 1, 24⟩, ⟨3, [105, 110, 116], 0, 1, 27⟩, ⟨6, [44], 0, 1, 30⟩, ⟨2, [112, 51], 0, 1, 32⟩, ⟨3, [105, 110, 116], 0, 1, 35⟩, ⟨6, [44], 0, 1, 38⟩, ⟨2, [112, 52], 0, 1, 40⟩, ⟨3, [105, 110, 116], 0, 1, 43⟩, ⟨6, [44], 0, 1, 46⟩, ⟨2, [112, 53], 0, 1, 48⟩, ⟨3, [105, 110, 116], 0, 1, 51⟩, ⟨6, [44], 0, 1, 54⟩, ⟨2, [112, 54], 0, 1, 56⟩, ⟨3, [105, 110, 116], 0, 1, 59⟩, ⟨6, [44], 0, 1, 62⟩, ⟨2, [112, 55], 0, 1, 64⟩, ⟨3, [105, 110, 116], 0, 1, 67⟩, ⟨6, [41], 0, 1, 70⟩, ⟨6, [123], 0, 1, 72⟩]
  | _ => []
theorem head_lex (m : Nat) (hm : m < 9) (q : List UInt8) : ∃ k, stepN k ⟨headB m ++ midB ++ q, 1, 1, []⟩ = .inl ⟨q, 2, 1, headT m⟩ := by
  rcases m with _ | _ | _ | _ | _ | _ | _ | _ | _ | m
  · exact ⟨8, by kernel_rfl⟩
  · exact ⟨11, by kernel_rfl⟩
  · exact ⟨16, by kernel_rfl⟩
  · exact ⟨21, by kernel_rfl⟩
  · exact ⟨26, by kernel_rfl⟩
  · exact ⟨31, by kernel_rfl⟩
  · exact ⟨36, by kernel_rfl⟩
  · exact ⟨41, by kernel_rfl⟩
  · exact ⟨46, by kernel_rfl⟩
  · omega
def stmtT (i line col : Nat) : List Tok := [⟨3, [112, 114, 105, 110, 116], 0, line, col⟩, ⟨6, [40], 0, line, col + 5⟩, ⟨4, dig i, i, line, col + 5 + 1⟩, ⟨6, [41], 0, line, col + 5 + 1 + (dig i).length⟩, ⟨1, [59], 0, line, col + 5 + 1 + (dig i).length + 1⟩]
theorem stmt_lex (i : Nat) (hi : i < 30) (q : List UInt8) (line col : Nat) : stepN 6 ⟨stmtB i ++ q, line, col, []⟩ = .inl ⟨q, line + 1, 1, stmtT i line col⟩ := by
  rcases i with _ | _ | _ | _ | _ | _ | _ | _ | _ | _ | _ | _ | _ | _ | _ | _ | _ | _ | _ | _ | _ | _ | _ | _ | _ | _ | _ | _ | _ | _ | i
  · kernel_rfl
  · kernel_rfl
  · kernel_rfl
  · kernel_rfl
  · kernel_rfl
  · kernel_rfl
  · kernel_rfl
  · kernel_rfl
  · kernel_rfl
  · kernel_rfl
  · kernel_rfl
  · kernel_rfl
  · kernel_rfl
  · kernel_rfl
  · kernel_rfl
  · kernel_rfl
  · kernel_rfl
  · kernel_rfl
  · kernel_rfl
  · kernel_rfl
  · kernel_rfl
  · kernel_rfl
  · kernel_rfl
  · kernel_rfl
  · kernel_rfl
  · kernel_rfl
  · kernel_rfl
  · kernel_rfl
  · kernel_rfl
  · kernel_rfl
  · omega
theorem sem_lex (q : List UInt8) (line col : Nat) : stepN 4 ⟨semB ++ q, line, col, []⟩ = .inl ⟨q, line + 1, 1 + 1, [⟨1, [59], 0, line, col⟩, ⟨1, [59], 0, line, col + 1⟩, ⟨1, [59], 0, line + 1, 1⟩]⟩ := by kernel_rfl
def tailT (line col : Nat) : List Tok := [⟨6, [125], 0, line, col⟩, ⟨1, [59], 0, line, col + 1⟩, ⟨1, [59], 0, line + 1, 1⟩, ⟨1, [59], 0, line + 1, 1 + 1⟩, ⟨0, [], 0, line + 1 + 1, 1⟩]
theorem tail_lex (line col : Nat) : stepN 7 ⟨tailB, line, col, []⟩ = .inr (.ok (tailT line col)) := by kernel_rfl
/-- The tokens of statements from i to n, and what stands behind them. -/
inductive Sts (n : Nat) : Nat → List Tok → Prop
  | done (line col : Nat) : Sts n n (tailT line col)
  | one (i line col : Nat) (l : List Tok) (h : Sts n (i + 1) l) : Sts n i (stmtT i line col ++ l)
  | more (i line col line2 col2 : Nat) (l : List Tok) (h : Sts n (i + 1) l) : Sts n i (stmtT i line col ++ ([⟨1, [59], 0, line2, col2⟩, ⟨1, [59], 0, line2, col2 + 1⟩, ⟨1, [59], 0, line2 + 1, 1⟩] ++ l))
theorem lastEnds_app {o l : List Tok} (h : lastEnds l = false) (hl : l ≠ []) : lastEnds (o ++ l) = false := by
  unfold lastEnds at h ⊢
  rw [List.getLast?_append]
  cases hx : l.getLast? with
  | none => simp at hx; exact absurd hx hl
  | some x => rw [hx] at h; exact h
theorem stmtT_ends (i line col : Nat) : lastEnds (stmtT i line col) = false := by kernel_rfl
theorem sts_lex (b : Nat → Bool) (n : Nat) : ∀ (k i : Nat), i + k = n → n ≤ 29 → ∀ (line col : Nat) (o : List Tok), lastEnds o = false → o.length + 10 * (k + 1) < 4000 →
    ∃ S, Sts n i S ∧ Lex ⟨stB b i k ++ tailB, line, col, o⟩ (.ok (o ++ S))
  | 0, i, hi, hn, line, col, o, he, hlen => by
    obtain rfl : i = n := by omega
    have h := Lex.last (r := .ok (tailT line col)) 7 (tail_lex line col) he (by omega)
    exact ⟨tailT line col, .done line col, h⟩
  | k + 1, i, hi, hn, line, col, o, he, hlen => by
    have e1 : stB b i (k + 1) ++ tailB = stmtB i ++ ((if b i then semB else []) ++ (stB b (i + 1) k ++ tailB)) := by simp [stB]
    have h5 : (stmtT i line col).length = 5 := rfl
    rw [e1]
    cases hb : b i with
    | false =>
      obtain ⟨S, hS, hL⟩ := sts_lex b n k (i + 1) (by omega) hn (line + 1) 1 (o ++ stmtT i line col) (lastEnds_app (stmtT_ends i line col) (by simp [stmtT])) (by rw [List.length_append, h5]; omega)
      refine ⟨stmtT i line col ++ S, .one i line col S hS, ?_⟩
      rw [← List.append_assoc o]
      simp only [Bool.false_eq_true, if_false, List.nil_append]
      exact Lex.chunk 6 (stmt_lex i (by omega) (stB b (i + 1) k ++ tailB) line col) he (by omega) hL
    | true =>
      obtain ⟨X, hX⟩ : ∃ X : List Tok, X = [⟨1, [59], 0, line + 1, 1⟩, ⟨1, [59], 0, line + 1, 1 + 1⟩, ⟨1, [59], 0, line + 1 + 1, 1⟩] := ⟨_, rfl⟩
      have x3 : X.length = 3 := by rw [hX]; rfl
      have xe : lastEnds X = false := by rw [hX]; kernel_rfl
      have xn : X ≠ [] := by rw [hX]; simp
      have hs := sem_lex (stB b (i + 1) k ++ tailB) (line + 1) 1
      rw [← hX] at hs
      obtain ⟨S, hS, hL⟩ := sts_lex b n k (i + 1) (by omega) hn (line + 1 + 1) (1 + 1) (o ++ stmtT i line col ++ X) (lastEnds_app xe xn) (by rw [List.length_append, List.length_append, h5, x3]; omega)
      refine ⟨stmtT i line col ++ (X ++ S), by rw [hX]; exact .more i line col (line + 1) 1 S hS, ?_⟩
      rw [← List.append_assoc o, ← List.append_assoc (o ++ stmtT i line col)]
      simp only [if_true]
      exact Lex.chunk 6 (stmt_lex i (by omega) (semB ++ (stB b (i + 1) k ++ tailB)) line col) he (by omega) (Lex.chunk 4 hs (lastEnds_app (stmtT_ends i line col) (by simp [stmtT])) (by rw [List.length_append, h5]; omega) hL)
theorem headT_ends (m : Nat) (hm : m < 9) : lastEnds (headT m) = false ∧ (headT m).length ≤ 60 := by
  rcases m with _ | _ | _ | _ | _ | _ | _ | _ | _ | m
  · exact ⟨by kernel_rfl, by decide⟩
  · exact ⟨by kernel_rfl, by decide⟩
  · exact ⟨by kernel_rfl, by decide⟩
  · exact ⟨by kernel_rfl, by decide⟩
  · exact ⟨by kernel_rfl, by decide⟩
  · exact ⟨by kernel_rfl, by decide⟩
  · exact ⟨by kernel_rfl, by decide⟩
  · exact ⟨by kernel_rfl, by decide⟩
  · exact ⟨by kernel_rfl, by decide⟩
  · omega
theorem lists_lex (b : Nat → Bool) (m n : Nat) (hm : m < 9) (hn : n ≤ 29) (hT : (headB m ++ midB ++ (stB b 0 n ++ tailB)).length ≤ 16384) : ∃ S, Sts n 0 S ∧ LexAll (headB m ++ midB ++ (stB b 0 n ++ tailB)) (.ok (headT m ++ S)) := by
  obtain ⟨k, hk⟩ := head_lex m hm (stB b 0 n ++ tailB)
  obtain ⟨h1, h2⟩ := headT_ends m hm
  obtain ⟨S, hS, hL⟩ := sts_lex b n n 0 (by omega) hn 2 1 (headT m) h1 (by omega)
  refine ⟨S, hS, ?_⟩
  unfold LexAll
  rw [if_neg (by omega)]
  exact Lex.steps k hk hL
end Go.Proofs.YtemmdbjcllcelaaDoor.Pa
