/-
  A run that is reckoned over blocks with names of its own: nodes of sixteen: no function of a program is named here.
-/
import Derived.Test.YtjeplkbdgphfoaaDoorEvI
namespace Go.Proofs.YtjeplkbdgphfoaaDoor
noncomputable section

inductive D16
  | d0 | d1 | d2 | d3 | d4 | d5 | d6 | d7 | d8 | d9 | d10 | d11 | d12 | d13 | d14 | d15
def D16.of (n : Nat) : D16 := Nat.rec (motive := fun _ => D16) .d0 (fun n _ => Nat.rec (motive := fun _ => D16) .d1 (fun n _ => Nat.rec (motive := fun _ => D16) .d2 (fun n _ => Nat.rec (motive := fun _ => D16) .d3 (fun n _ => Nat.rec (motive := fun _ => D16) .d4 (fun n _ => Nat.rec (motive := fun _ => D16) .d5 (fun n _ => Nat.rec (motive := fun _ => D16) .d6 (fun n _ => Nat.rec (motive := fun _ => D16) .d7 (fun n _ => Nat.rec (motive := fun _ => D16) .d8 (fun n _ => Nat.rec (motive := fun _ => D16) .d9 (fun n _ => Nat.rec (motive := fun _ => D16) .d10 (fun n _ => Nat.rec (motive := fun _ => D16) .d11 (fun n _ => Nat.rec (motive := fun _ => D16) .d12 (fun n _ => Nat.rec (motive := fun _ => D16) .d13 (fun n _ => Nat.rec (motive := fun _ => D16) .d14 (fun _ _ => D16.d15) n) n) n) n) n) n) n) n) n) n) n) n) n) n) n
def D16.n : D16 → Nat
  | .d0 => 0
  | .d1 => 1
  | .d2 => 2
  | .d3 => 3
  | .d4 => 4
  | .d5 => 5
  | .d6 => 6
  | .d7 => 7
  | .d8 => 8
  | .d9 => 9
  | .d10 => 10
  | .d11 => 11
  | .d12 => 12
  | .d13 => 13
  | .d14 => 14
  | .d15 => 15
theorem D16.of_n : ∀ n : Nat, n < 16 → (D16.of n).n = n
  | 0, _ => rfl
  | 1, _ => rfl
  | 2, _ => rfl
  | 3, _ => rfl
  | 4, _ => rfl
  | 5, _ => rfl
  | 6, _ => rfl
  | 7, _ => rfl
  | 8, _ => rfl
  | 9, _ => rfl
  | 10, _ => rfl
  | 11, _ => rfl
  | 12, _ => rfl
  | 13, _ => rfl
  | 14, _ => rfl
  | 15, _ => rfl
  | n + 16, h => absurd h (by omega)
theorem D16.of_inj {a b : Nat} (ha : a < 16) (hb : b < 16) (h : D16.of a = D16.of b) : a = b := by
  have := congrArg D16.n h
  rwa [D16.of_n a ha, D16.of_n b hb] at this
structure N16 (α : Type) where
  a0 : α
  a1 : α
  a2 : α
  a3 : α
  a4 : α
  a5 : α
  a6 : α
  a7 : α
  a8 : α
  a9 : α
  a10 : α
  a11 : α
  a12 : α
  a13 : α
  a14 : α
  a15 : α
structure P16 (α : Type) where
  g : N16 α → α
  s : N16 α → α → N16 α
  m : N16 α → (α → α) → N16 α
def q16_0 (α : Type) : P16 α := ⟨fun n => n.a0, fun n x => N16.rec (motive := fun _ => N16 α) (fun _ a1 a2 a3 a4 a5 a6 a7 a8 a9 a10 a11 a12 a13 a14 a15 => ⟨x, a1, a2, a3, a4, a5, a6, a7, a8, a9, a10, a11, a12, a13, a14, a15⟩) n, fun n x => N16.rec (motive := fun _ => N16 α) (fun a0 a1 a2 a3 a4 a5 a6 a7 a8 a9 a10 a11 a12 a13 a14 a15 => ⟨x a0, a1, a2, a3, a4, a5, a6, a7, a8, a9, a10, a11, a12, a13, a14, a15⟩) n⟩
def q16_1 (α : Type) : P16 α := ⟨fun n => n.a1, fun n x => N16.rec (motive := fun _ => N16 α) (fun a0 _ a2 a3 a4 a5 a6 a7 a8 a9 a10 a11 a12 a13 a14 a15 => ⟨a0, x, a2, a3, a4, a5, a6, a7, a8, a9, a10, a11, a12, a13, a14, a15⟩) n, fun n x => N16.rec (motive := fun _ => N16 α) (fun a0 a1 a2 a3 a4 a5 a6 a7 a8 a9 a10 a11 a12 a13 a14 a15 => ⟨a0, x a1, a2, a3, a4, a5, a6, a7, a8, a9, a10, a11, a12, a13, a14, a15⟩) n⟩
def q16_2 (α : Type) : P16 α := ⟨fun n => n.a2, fun n x => N16.rec (motive := fun _ => N16 α) (fun a0 a1 _ a3 a4 a5 a6 a7 a8 a9 a10 a11 a12 a13 a14 a15 => ⟨a0, a1, x, a3, a4, a5, a6, a7, a8, a9, a10, a11, a12, a13, a14, a15⟩) n, fun n x => N16.rec (motive := fun _ => N16 α) (fun a0 a1 a2 a3 a4 a5 a6 a7 a8 a9 a10 a11 a12 a13 a14 a15 => ⟨a0, a1, x a2, a3, a4, a5, a6, a7, a8, a9, a10, a11, a12, a13, a14, a15⟩) n⟩
def q16_3 (α : Type) : P16 α := ⟨fun n => n.a3, fun n x => N16.rec (motive := fun _ => N16 α) (fun a0 a1 a2 _ a4 a5 a6 a7 a8 a9 a10 a11 a12 a13 a14 a15 => ⟨a0, a1, a2, x, a4, a5, a6, a7, a8, a9, a10, a11, a12, a13, a14, a15⟩) n, fun n x => N16.rec (motive := fun _ => N16 α) (fun a0 a1 a2 a3 a4 a5 a6 a7 a8 a9 a10 a11 a12 a13 a14 a15 => ⟨a0, a1, a2, x a3, a4, a5, a6, a7, a8, a9, a10, a11, a12, a13, a14, a15⟩) n⟩
def q16_4 (α : Type) : P16 α := ⟨fun n => n.a4, fun n x => N16.rec (motive := fun _ => N16 α) (fun a0 a1 a2 a3 _ a5 a6 a7 a8 a9 a10 a11 a12 a13 a14 a15 => ⟨a0, a1, a2, a3, x, a5, a6, a7, a8, a9, a10, a11, a12, a13, a14, a15⟩) n, fun n x => N16.rec (motive := fun _ => N16 α) (fun a0 a1 a2 a3 a4 a5 a6 a7 a8 a9 a10 a11 a12 a13 a14 a15 => ⟨a0, a1, a2, a3, x a4, a5, a6, a7, a8, a9, a10, a11, a12, a13, a14, a15⟩) n⟩
def q16_5 (α : Type) : P16 α := ⟨fun n => n.a5, fun n x => N16.rec (motive := fun _ => N16 α) (fun a0 a1 a2 a3 a4 _ a6 a7 a8 a9 a10 a11 a12 a13 a14 a15 => ⟨a0, a1, a2, a3, a4, x, a6, a7, a8, a9, a10, a11, a12, a13, a14, a15⟩) n, fun n x => N16.rec (motive := fun _ => N16 α) (fun a0 a1 a2 a3 a4 a5 a6 a7 a8 a9 a10 a11 a12 a13 a14 a15 => ⟨a0, a1, a2, a3, a4, x a5, a6, a7, a8, a9, a10, a11, a12, a13, a14, a15⟩) n⟩
def q16_6 (α : Type) : P16 α := ⟨fun n => n.a6, fun n x => N16.rec (motive := fun _ => N16 α) (fun a0 a1 a2 a3 a4 a5 _ a7 a8 a9 a10 a11 a12 a13 a14 a15 => ⟨a0, a1, a2, a3, a4, a5, x, a7, a8, a9, a10, a11, a12, a13, a14, a15⟩) n, fun n x => N16.rec (motive := fun _ => N16 α) (fun a0 a1 a2 a3 a4 a5 a6 a7 a8 a9 a10 a11 a12 a13 a14 a15 => ⟨a0, a1, a2, a3, a4, a5, x a6, a7, a8, a9, a10, a11, a12, a13, a14, a15⟩) n⟩
def q16_7 (α : Type) : P16 α := ⟨fun n => n.a7, fun n x => N16.rec (motive := fun _ => N16 α) (fun a0 a1 a2 a3 a4 a5 a6 _ a8 a9 a10 a11 a12 a13 a14 a15 => ⟨a0, a1, a2, a3, a4, a5, a6, x, a8, a9, a10, a11, a12, a13, a14, a15⟩) n, fun n x => N16.rec (motive := fun _ => N16 α) (fun a0 a1 a2 a3 a4 a5 a6 a7 a8 a9 a10 a11 a12 a13 a14 a15 => ⟨a0, a1, a2, a3, a4, a5, a6, x a7, a8, a9, a10, a11, a12, a13, a14, a15⟩) n⟩
def q16_8 (α : Type) : P16 α := ⟨fun n => n.a8, fun n x => N16.rec (motive := fun _ => N16 α) (fun a0 a1 a2 a3 a4 a5 a6 a7 _ a9 a10 a11 a12 a13 a14 a15 => ⟨a0, a1, a2, a3, a4, a5, a6, a7, x, a9, a10, a11, a12, a13, a14, a15⟩) n, fun n x => N16.rec (motive := fun _ => N16 α) (fun a0 a1 a2 a3 a4 a5 a6 a7 a8 a9 a10 a11 a12 a13 a14 a15 => ⟨a0, a1, a2, a3, a4, a5, a6, a7, x a8, a9, a10, a11, a12, a13, a14, a15⟩) n⟩
def q16_9 (α : Type) : P16 α := ⟨fun n => n.a9, fun n x => N16.rec (motive := fun _ => N16 α) (fun a0 a1 a2 a3 a4 a5 a6 a7 a8 _ a10 a11 a12 a13 a14 a15 => ⟨a0, a1, a2, a3, a4, a5, a6, a7, a8, x, a10, a11, a12, a13, a14, a15⟩) n, fun n x => N16.rec (motive := fun _ => N16 α) (fun a0 a1 a2 a3 a4 a5 a6 a7 a8 a9 a10 a11 a12 a13 a14 a15 => ⟨a0, a1, a2, a3, a4, a5, a6, a7, a8, x a9, a10, a11, a12, a13, a14, a15⟩) n⟩
def q16_10 (α : Type) : P16 α := ⟨fun n => n.a10, fun n x => N16.rec (motive := fun _ => N16 α) (fun a0 a1 a2 a3 a4 a5 a6 a7 a8 a9 _ a11 a12 a13 a14 a15 => ⟨a0, a1, a2, a3, a4, a5, a6, a7, a8, a9, x, a11, a12, a13, a14, a15⟩) n, fun n x => N16.rec (motive := fun _ => N16 α) (fun a0 a1 a2 a3 a4 a5 a6 a7 a8 a9 a10 a11 a12 a13 a14 a15 => ⟨a0, a1, a2, a3, a4, a5, a6, a7, a8, a9, x a10, a11, a12, a13, a14, a15⟩) n⟩
def q16_11 (α : Type) : P16 α := ⟨fun n => n.a11, fun n x => N16.rec (motive := fun _ => N16 α) (fun a0 a1 a2 a3 a4 a5 a6 a7 a8 a9 a10 _ a12 a13 a14 a15 => ⟨a0, a1, a2, a3, a4, a5, a6, a7, a8, a9, a10, x, a12, a13, a14, a15⟩) n, fun n x => N16.rec (motive := fun _ => N16 α) (fun a0 a1 a2 a3 a4 a5 a6 a7 a8 a9 a10 a11 a12 a13 a14 a15 => ⟨a0, a1, a2, a3, a4, a5, a6, a7, a8, a9, a10, x a11, a12, a13, a14, a15⟩) n⟩
def q16_12 (α : Type) : P16 α := ⟨fun n => n.a12, fun n x => N16.rec (motive := fun _ => N16 α) (fun a0 a1 a2 a3 a4 a5 a6 a7 a8 a9 a10 a11 _ a13 a14 a15 => ⟨a0, a1, a2, a3, a4, a5, a6, a7, a8, a9, a10, a11, x, a13, a14, a15⟩) n, fun n x => N16.rec (motive := fun _ => N16 α) (fun a0 a1 a2 a3 a4 a5 a6 a7 a8 a9 a10 a11 a12 a13 a14 a15 => ⟨a0, a1, a2, a3, a4, a5, a6, a7, a8, a9, a10, a11, x a12, a13, a14, a15⟩) n⟩
def q16_13 (α : Type) : P16 α := ⟨fun n => n.a13, fun n x => N16.rec (motive := fun _ => N16 α) (fun a0 a1 a2 a3 a4 a5 a6 a7 a8 a9 a10 a11 a12 _ a14 a15 => ⟨a0, a1, a2, a3, a4, a5, a6, a7, a8, a9, a10, a11, a12, x, a14, a15⟩) n, fun n x => N16.rec (motive := fun _ => N16 α) (fun a0 a1 a2 a3 a4 a5 a6 a7 a8 a9 a10 a11 a12 a13 a14 a15 => ⟨a0, a1, a2, a3, a4, a5, a6, a7, a8, a9, a10, a11, a12, x a13, a14, a15⟩) n⟩
def q16_14 (α : Type) : P16 α := ⟨fun n => n.a14, fun n x => N16.rec (motive := fun _ => N16 α) (fun a0 a1 a2 a3 a4 a5 a6 a7 a8 a9 a10 a11 a12 a13 _ a15 => ⟨a0, a1, a2, a3, a4, a5, a6, a7, a8, a9, a10, a11, a12, a13, x, a15⟩) n, fun n x => N16.rec (motive := fun _ => N16 α) (fun a0 a1 a2 a3 a4 a5 a6 a7 a8 a9 a10 a11 a12 a13 a14 a15 => ⟨a0, a1, a2, a3, a4, a5, a6, a7, a8, a9, a10, a11, a12, a13, x a14, a15⟩) n⟩
def q16_15 (α : Type) : P16 α := ⟨fun n => n.a15, fun n x => N16.rec (motive := fun _ => N16 α) (fun a0 a1 a2 a3 a4 a5 a6 a7 a8 a9 a10 a11 a12 a13 a14 _ => ⟨a0, a1, a2, a3, a4, a5, a6, a7, a8, a9, a10, a11, a12, a13, a14, x⟩) n, fun n x => N16.rec (motive := fun _ => N16 α) (fun a0 a1 a2 a3 a4 a5 a6 a7 a8 a9 a10 a11 a12 a13 a14 a15 => ⟨a0, a1, a2, a3, a4, a5, a6, a7, a8, a9, a10, a11, a12, a13, a14, x a15⟩) n⟩
def p16 (α : Type) (d : D16) : P16 α := D16.rec (motive := fun _ => P16 α) (q16_0 α) (q16_1 α) (q16_2 α) (q16_3 α) (q16_4 α) (q16_5 α) (q16_6 α) (q16_7 α) (q16_8 α) (q16_9 α) (q16_10 α) (q16_11 α) (q16_12 α) (q16_13 α) (q16_14 α) (q16_15 α) d
theorem p16_same {α : Type} (d : D16) (n : N16 α) (x : α) : (p16 α d).g ((p16 α d).s n x) = x := by cases d <;> rfl
theorem p16_m {α : Type} (d : D16) (n : N16 α) (x : α → α) : (p16 α d).m n x = (p16 α d).s n (x ((p16 α d).g n)) := by cases d <;> rfl
theorem p16_ne {α : Type} {d e : D16} (h : d ≠ e) (n : N16 α) (x : α) : (p16 α e).g ((p16 α d).s n x) = (p16 α e).g n := by
  cases d <;> cases e <;> first | exact absurd rfl h | rfl

end
end Go.Proofs.YtjeplkbdgphfoaaDoor
