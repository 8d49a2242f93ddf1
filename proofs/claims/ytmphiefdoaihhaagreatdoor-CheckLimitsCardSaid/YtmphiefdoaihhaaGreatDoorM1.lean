/-
  Plain facts on worlds: a frame over a set of blocks; no function of the program is named here.
-/
import Derived.WalkKit
import Derived.WalkSpells
import Derived.WalkLawsBesides
import Derived.Lib.Hide
import Derived.Lib.AppendZerosOnto
import Derived.Deep.QuietTactic
import Derived.BigQuiet
import Derived.Laws.Rows
import Derived.Laws.CopyRow
import Derived.Orders
import Derived.LoopN
import Derived.Deep.MidRow
import Derived.Laws.OwnMore
import Derived.Laws.Append
import Derived.Laws.AppendOwn
import Derived.Lib.SlBytesRow
namespace Go.Proofs.YtmphiefdoaihhaaGreatDoor
open Go.RowKit

/-- Outside the blocks of S nothing that was there has turned. -/
structure Fr (S : Nat → Prop) (w w' : World) : Prop where
  os : w'.os = w.os
  tape : w'.tape = w.tape
  output : w'.output = w.output
  size : w.heap.size ≤ w'.heap.size
  block : ∀ k, k < w.heap.size → ¬ S k → w'.heap[k]? = w.heap[k]?

theorem Fr.refl (S : Nat → Prop) (w : World) : Fr S w w := ⟨rfl, rfl, rfl, Nat.le_refl _, fun _ _ _ => rfl⟩

/-- A block of S may be a new one of the step before. -/
theorem Fr.trans {S T : Nat → Prop} {a b c : World} (h : Fr S a b) (k : Fr T b c) (hT : ∀ i, i < a.heap.size → T i → S i) : Fr S a c :=
  ⟨k.os.trans h.os, k.tape.trans h.tape, k.output.trans h.output, Nat.le_trans h.size k.size,
    fun i hi hs => (k.block i (Nat.lt_of_lt_of_le hi h.size) (fun ht => hs (hT i hi ht))).trans (h.block i hi hs)⟩

theorem Fr.mono {S T : Nat → Prop} {a b : World} (h : Fr S a b) (hT : ∀ i, i < a.heap.size → S i → T i) : Fr T a b :=
  ⟨h.os, h.tape, h.output, h.size, fun i hi ht => h.block i hi (fun hs => ht (hT i hi hs))⟩

theorem Fr.drew {S : Nat → Prop} {a b : World} (h : Fr S a b) : Fr S a b.drew := ⟨h.os, h.tape, h.output, h.size, h.block⟩

theorem Fr.alloc {S : Nat → Prop} {a b : World} (h : Fr S a b) (o : Obj) : Fr S a (b.alloc o) :=
  ⟨h.os, h.tape, h.output, Nat.le_trans h.size (by simp), fun i hi hs => (Below.heap_alloc b o i (Nat.lt_of_lt_of_le hi h.size)).trans (h.block i hi hs)⟩

theorem Fr.setCell {S : Nat → Prop} {a b : World} (h : Fr S a b) {p : Addr} (hp : p.block < a.heap.size → S p.block) (u : Value) : Fr S a (b.setCell p u) :=
  ⟨h.os, h.tape, h.output, Nat.le_trans h.size (by simp [World.setCell]), fun i hi hs =>
    (Below.heap_setCell b p u i (fun e => hs (by subst e; exact hp hi))).trans (h.block i hi hs)⟩

theorem Fr.grown {S : Nat → Prop} {a b c : World} {row : Option Nat} (h : Fr S a b) (hg : b.grownBy c row) (hr : ∀ k, row = some k → k < a.heap.size → S k) : Fr S a c :=
  ⟨hg.os.trans h.os, hg.tape.trans h.tape, hg.output.trans h.output, Nat.le_trans h.size hg.size, fun i hi hs =>
    (hg.block i (Nat.lt_of_lt_of_le hi h.size) (fun e => hs (hr i e.symm hi))).trans (h.block i hi hs)⟩

theorem Fr.below {S : Nat → Prop} {B : Nat} {w w' : World} (h : Fr S w w') (hB : B ≤ w.heap.size) (hS : ∀ k, k < B → ¬ S k) : Below B w w' :=
  ⟨h.os, h.tape, h.output, h.size, fun k hk => h.block k (by omega) (hS k hk)⟩

theorem Fr.ofBelow {B : Nat} {w w' : World} (h : Below B w w') : Fr (fun k => B ≤ k) w w' :=
  ⟨h.os, h.tape, h.output, h.size, fun k _ hk => h.block k (by omega)⟩

theorem Fr.cell {S : Nat → Prop} {w w' : World} (h : Fr S w w') {p : Addr} (hp : p.block < w.heap.size) (hs : ¬ S p.block) : w'.cell? p = w.cell? p :=
  World.cell?_of_block (w := w) (h.block p.block hp hs)
theorem Fr.frozen {S : Nat → Prop} {w w' : World} (h : Fr S w w') {p : Addr} (hp : p.block < w.heap.size) (hs : ¬ S p.block) : w'.frozen? p = w.frozen? p :=
  World.frozen?_of_block (w := w) (h.block p.block hp hs)

/-- An owned row stays owned where its block is none of S. -/
theorem Fr.owns {S : Nat → Prop} {w w' : World} {base : Nat} {e : TypeId} {size : Nat} {v : Value} {n : Nat} {xs : List Value} (h : Fr S w w') (ho : w.ownsRow base e size v n xs)
    (hs : ∀ g, v.ownBlock = some g → ¬ S g) : w'.ownsRow base e size v n xs := by
  refine ⟨ho.1, ?_⟩
  rcases ho.2 with hn | ⟨g, cap, cur, rfl, hb, hgg, rest⟩
  · exact .inl hn
  · exact .inr ⟨g, cap, cur, rfl, hb, (h.block g (Array.getElem?_eq_some_iff.1 hgg).1 (hs g rfl)).trans hgg, rest⟩

/-- A callee that leaves the world alone, met inside a region that draws its order. -/
theorem quietS {P : Program} {f : FuncId} {args : Array Value} {w : World} {n : Nat} {v : Value}
    (h : Calls P f args (w.drewN n) fun e w' => e = .returned v ∧ w.drewN n = w') : Calls P f args (w.drewN n) fun e w'' => e = .returned v ∧ ∃ m, w'' = w.drewN m :=
  h.mono fun _ _ ⟨he, hm⟩ => ⟨he, n, hm.symm⟩

theorem heap_lt {w : World} {k : Nat} {o : Obj} (h : w.heap[k]? = some o) : k < w.heap.size := (Array.getElem?_eq_some_iff.1 h).1

end Go.Proofs.YtmphiefdoaihhaaGreatDoor

/-
  A run that is reckoned over blocks with names of its own: values, blocks, what is done to them: no function of a program is named here.
-/
namespace Go.Proofs.YtmphiefdoaihhaaGreatDoor

/-- A value of one cell. -/
def one : Value → Bool
  | .agg _ => false
  | .tuple _ => false
  | _ => true

/-- A named block is a block of memory; and how many elements that block has room for, where it grew by append. -/
abbrev Rho := Nat → Option (Nat × Nat)
/-- A capacity that is not known: that of the whole block. -/
def unk : Nat := 1180591620717411303424
/-- A capacity that is not known at all. -/
def unk2 : Nat := 1180591620717411303425
/-- What a capacity is. -/
inductive CapR (κ o n : Nat) : Nat → Nat → Prop
  | same (k : Nat) (h1 : k ≠ unk) (h2 : k ≠ unk2) : CapR κ o n k k
  | whole (ho : o = 0) (hn : n ≤ κ) : CapR κ o n unk κ
  | some_ (k : Nat) (hn : n ≤ k) : CapR κ o n unk2 k

/-- A number as a name of its own. -/
def enc : Int → Nat
  | .ofNat n => 2 * n
  | .negSucc n => 2 * n + 1
theorem enc_inj {a b : Int} (h : enc a = enc b) : a = b := by
  cases a <;> cases b <;> simp only [enc] at h <;> congr 1 <;> omega
/-- A value over named blocks, and the value that lies in memory. -/
inductive V (ρ : Rho) : Value → Value → Prop
  | bool (b : Bool) : V ρ (.bool b) (.bool b)
  | int (k : IntKind) (n : Int) : V ρ (.int k n) (.int k n)
  | string (s : ByteArray) : V ρ (.string s) (.string s)
  | nilp : V ρ (.pointer none) (.pointer none)
  | ptr (b c κ o : Nat) (h : ρ b = some (c, κ)) : V ρ (.pointer (some ⟨b, o, none⟩)) (.pointer (some ⟨c, o, none⟩))
  | nils (n k : Nat) : V ρ (.slice none n k) (.slice none n k)
  | slc (b c κ o n k k' : Nat) (h : ρ b = some (c, κ)) (hk : CapR κ o n k k') : V ρ (.slice (some ⟨b, o, none⟩) n k) (.slice (some ⟨c, o, none⟩) n k')
  | slc0 (b c κ o o' k' : Nat) (h : ρ b = some (c, κ)) : V ρ (.slice (some ⟨b, o, none⟩) 0 unk2) (.slice (some ⟨c, o', none⟩) 0 k')
  | nilFunc : V ρ .nilFunc .nilFunc
  | func (f : FuncId) (l l' m m' : List Value) (hl : l.length = l'.length) (hm : m.length = m'.length) (h1 : ∀ (i : Nat) (v v' : Value), l[i]? = some v → l'[i]? = some v' → V ρ v v') (h2 : ∀ (i : Nat) (v v' : Value), m[i]? = some v → m'[i]? = some v' → V ρ v v') :
      V ρ (.func (.func f) ⟨l⟩ ⟨m⟩) (.func (.func f) ⟨l'⟩ ⟨m'⟩)
  | agg (l l' : List Value) (hl : l.length = l'.length) (h : ∀ (i : Nat) (v v' : Value), l[i]? = some v → l'[i]? = some v' → V ρ v v') : V ρ (.agg ⟨l⟩) (.agg ⟨l'⟩)
  | tuple (l l' : List Value) (hl : l.length = l'.length) (h : ∀ (i : Nat) (v v' : Value), l[i]? = some v → l'[i]? = some v' → V ρ v v') : V ρ (.tuple ⟨l⟩) (.tuple ⟨l'⟩)
  | num (b : Nat) (z : Int) (h : ρ b = some (enc z, 77)) : V ρ (.chan (some b)) (.int .i64 z)
  | nilIface : V ρ .nilIface .nilIface
  | iface (t : TypeId) (v v' : Value) (h : V ρ v v') : V ρ (.iface t v) (.iface t v')
  | nilm : V ρ (.map none) (.map none)
  | map (b c κ : Nat) (h : ρ b = some (c, κ)) : V ρ (.map (some b)) (.map (some c))

/-- Lists of values. -/
def VL (ρ : Rho) (l l' : List Value) : Prop := l.length = l'.length ∧ ∀ (i : Nat) (v v' : Value), l[i]? = some v → l'[i]? = some v' → V ρ v v'

section
variable {ρ ρ' : Rho}

theorem VL.nil : VL ρ [] [] := ⟨rfl, by simp⟩
theorem VL.cons {v v' : Value} {l l' : List Value} (h : V ρ v v') (hl : VL ρ l l') : VL ρ (v :: l) (v' :: l') := by
  refine ⟨by simp [hl.1], fun i u u' hu hu' => ?_⟩
  cases i with
  | zero => simp at hu hu'; subst hu hu'; exact h
  | succ i => simp at hu hu'; exact hl.2 i u u' hu hu'
theorem VL.head {v v' : Value} {l l' : List Value} (h : VL ρ (v :: l) (v' :: l')) : V ρ v v' := h.2 0 v v' rfl rfl
theorem VL.tail {v v' : Value} {l l' : List Value} (h : VL ρ (v :: l) (v' :: l')) : VL ρ l l' := ⟨by have := h.1; simpa using this, fun i u u' hu hu' => h.2 (i + 1) u u' (by simpa using hu) (by simpa using hu')⟩
theorem VL.cases_cons {v : Value} {l l' : List Value} (h : VL ρ (v :: l) l') : ∃ v' r', l' = v' :: r' ∧ V ρ v v' ∧ VL ρ l r' := by
  cases l' with
  | nil => have := h.1; simp at this
  | cons v' r' => exact ⟨v', r', rfl, h.head, h.tail⟩
theorem VL.cases_nil {l' : List Value} (h : VL ρ [] l') : l' = [] := by
  cases l' with
  | nil => rfl
  | cons => have := h.1; simp at this
theorem VL.append {l l' m m' : List Value} (h : VL ρ l l') (k : VL ρ m m') : VL ρ (l ++ m) (l' ++ m') := by
  refine ⟨by simp [h.1, k.1], fun i u u' hu hu' => ?_⟩
  by_cases hi : i < l.length
  · rw [List.getElem?_append_left hi] at hu
    rw [List.getElem?_append_left (by rw [← h.1]; exact hi)] at hu'
    exact h.2 i u u' hu hu'
  · rw [List.getElem?_append_right (by omega)] at hu
    rw [List.getElem?_append_right (by rw [← h.1]; omega), ← h.1] at hu'
    exact k.2 _ u u' hu hu'

theorem V.more {v v' : Value} (h : V ρ v v') (hr : ∀ b x, ρ b = some x → ρ' b = some x) : V ρ' v v' := by
  induction h with
  | bool b => exact .bool b
  | int k n => exact .int k n
  | string s => exact .string s
  | nilp => exact .nilp
  | ptr b c κ o h => exact .ptr b c κ o (hr b _ h)
  | nils n k => exact .nils n k
  | slc b c κ o n k k' h hk => exact .slc b c κ o n k k' (hr b _ h) hk
  | slc0 b c κ o o' k' h => exact .slc0 b c κ o o' k' (hr b _ h)
  | nilFunc => exact .nilFunc
  | func f l l' m m' hl hm _ _ i1 i2 => exact .func f l l' m m' hl hm i1 i2
  | agg l l' hl _ ih => exact .agg l l' hl ih
  | tuple l l' hl _ ih => exact .tuple l l' hl ih
  | num b z h => exact .num b z (hr b _ h)
  | nilIface => exact .nilIface
  | iface t v v' _ ih => exact .iface t v v' ih
  | nilm => exact .nilm
  | map b c κ h => exact .map b c κ (hr b _ h)
theorem VL.more {l l' : List Value} (h : VL ρ l l') (hr : ∀ b x, ρ b = some x → ρ' b = some x) : VL ρ' l l' := ⟨h.1, fun i v v' a b => (h.2 i v v' a b).more hr⟩

theorem V.cells {v v' : Value} (h : V ρ v v') : VL ρ v.cells.toList v'.cells.toList := by
  cases h with
  | agg l l' hl h => exact ⟨hl, h⟩
  | bool b => exact VL.cons (.bool b) VL.nil
  | int k n => exact VL.cons (.int k n) VL.nil
  | string s => exact VL.cons (.string s) VL.nil
  | nilp => exact VL.cons .nilp VL.nil
  | ptr b c κ o h => exact VL.cons (.ptr b c κ o h) VL.nil
  | nils n k => exact VL.cons (.nils n k) VL.nil
  | slc b c κ o n k k' h hk => exact VL.cons (.slc b c κ o n k k' h hk) VL.nil
  | slc0 b c κ o o' k' h => exact VL.cons (.slc0 b c κ o o' k' h) VL.nil
  | nilFunc => exact VL.cons .nilFunc VL.nil
  | func f l l' m m' hl hm h1 h2 => exact VL.cons (.func f l l' m m' hl hm h1 h2) VL.nil
  | tuple l l' hl h => exact VL.cons (.tuple l l' hl h) VL.nil
  | num b z h => exact VL.cons (.num b z h) VL.nil
  | nilIface => exact VL.cons .nilIface VL.nil
  | iface t v v' h => exact VL.cons (.iface t v v' h) VL.nil
  | nilm => exact VL.cons .nilm VL.nil
  | map b c κ h => exact VL.cons (.map b c κ h) VL.nil
theorem V.one {v v' : Value} (h : V ρ v v') : one v' = one v := by cases h <;> rfl
end

/-- A value of one cell that names no block. -/
def flat : Value → Bool
  | .bool _ => true
  | .int _ _ => true
  | .string _ => true
  | .pointer none => true
  | .slice none _ _ => true
  | .nilFunc => true
  | .nilIface => true
  | .map none => true
  | .func (.func _) ⟨[]⟩ ⟨[]⟩ => true
  | _ => false
/-- A value that names no block. -/
def ground : Value → Bool
  | .agg ⟨l⟩ => l.all flat
  | .tuple ⟨l⟩ => l.all fun | .agg ⟨m⟩ => m.all flat | v => flat v
  | v => flat v

theorem V.flat {ρ : Rho} : ∀ {v : Value}, flat v = true → V ρ v v
  | .bool b, _ => .bool b
  | .int k n, _ => .int k n
  | .string s, _ => .string s
  | .pointer none, _ => .nilp
  | .slice none n k, _ => .nils n k
  | .nilFunc, _ => .nilFunc
  | .nilIface, _ => .nilIface
  | .map none, _ => .nilm
  | .func (.func f) ⟨[]⟩ ⟨[]⟩, _ => .func f [] [] [] [] rfl rfl (by simp) (by simp)
theorem V.flat_eq {ρ : Rho} {v v' : Value} (h : V ρ v v') (hf : Proofs.YtmphiefdoaihhaaGreatDoor.flat v = true) : v' = v := by
  cases h with
  | func f l l' m m' hl hm h1 h2 =>
    match l, m, hl, hm, hf with
    | [], [], hl, hm, _ => rw [List.eq_nil_of_length_eq_zero hl.symm, List.eq_nil_of_length_eq_zero hm.symm]
  | ptr => simp [Proofs.YtmphiefdoaihhaaGreatDoor.flat] at hf
  | slc => simp [Proofs.YtmphiefdoaihhaaGreatDoor.flat] at hf
  | slc0 => simp [Proofs.YtmphiefdoaihhaaGreatDoor.flat] at hf
  | agg => simp [Proofs.YtmphiefdoaihhaaGreatDoor.flat] at hf
  | tuple => simp [Proofs.YtmphiefdoaihhaaGreatDoor.flat] at hf
  | iface => simp [Proofs.YtmphiefdoaihhaaGreatDoor.flat] at hf
  | map => simp [Proofs.YtmphiefdoaihhaaGreatDoor.flat] at hf
  | num => simp [Proofs.YtmphiefdoaihhaaGreatDoor.flat] at hf
  | _ => rfl
theorem flats_refl {ρ : Rho} {l : List Value} (h : l.all flat = true) : ∀ (i : Nat) (v v' : Value), l[i]? = some v → l[i]? = some v' → V ρ v v' := fun i v v' a b => by
  rw [a] at b; cases b
  exact V.flat (List.all_eq_true.1 h v (List.mem_of_getElem? a))
theorem flats_eq {ρ : Rho} {l l' : List Value} (hl : l.length = l'.length) (h : ∀ (i : Nat) (v v' : Value), l[i]? = some v → l'[i]? = some v' → V ρ v v') (hf : l.all flat = true) : l' = l := by
  refine List.ext_getElem? fun i => ?_
  rcases Nat.lt_or_ge i l.length with hi | hi
  · have a := List.getElem?_eq_getElem hi
    have b := List.getElem?_eq_getElem (show i < l'.length by omega)
    rw [a, b, (h i _ _ a b).flat_eq (List.all_eq_true.1 hf _ (List.getElem_mem hi))]
  · rw [List.getElem?_eq_none hi, List.getElem?_eq_none (by omega)]
theorem V.ground {ρ : Rho} {v : Value} (h : Proofs.YtmphiefdoaihhaaGreatDoor.ground v = true) : V ρ v v := by
  unfold Proofs.YtmphiefdoaihhaaGreatDoor.ground at h
  split at h
  · exact .agg _ _ rfl (flats_refl h)
  · refine .tuple _ _ rfl fun i v v' a b => ?_
    rw [a] at b; cases b
    have := List.all_eq_true.1 h v (List.mem_of_getElem? a)
    split at this
    · exact .agg _ _ rfl (flats_refl this)
    · exact V.flat this
  · exact V.flat h
theorem V.ground_eq {ρ : Rho} {v v' : Value} (h : V ρ v v') (hf : Proofs.YtmphiefdoaihhaaGreatDoor.ground v = true) : v' = v := by
  unfold Proofs.YtmphiefdoaihhaaGreatDoor.ground at hf
  split at hf
  · cases h with | agg l l' hl h => rw [flats_eq hl h hf]
  · rename_i l
    cases h with
    | tuple _ l' hl h =>
      have : l' = l := by
        refine List.ext_getElem? fun i => ?_
        rcases Nat.lt_or_ge i l.length with hi | hi
        · have a := List.getElem?_eq_getElem hi
          have b := List.getElem?_eq_getElem (show i < l'.length by omega)
          have hv := h i _ _ a b
          have hm := List.all_eq_true.1 hf _ (List.getElem_mem hi)
          rw [a, b]
          split at hm
          · rename_i m hm0
            rw [hm0] at hv ⊢
            generalize l'[i] = u at hv
            cases hv with | agg m m' h1 h2 => rw [flats_eq h1 h2 hm]
          · rw [hv.flat_eq hm]
        · rw [List.getElem?_eq_none hi, List.getElem?_eq_none (by omega)]
      rw [this]
  · exact h.flat_eq hf

/-- A block that is only read: of its type and its marks nothing is known. -/
def ro : Nat := 1099511627776
/-- A map: its one cell, at tyOff, is what it holds. -/
def mp : Nat := 2199023255552
/-- Where a block's type is told: no cell has that number. -/
def tyOff : Nat := 1208925819614629174706176
/-- A type, told as a value that no cell holds. -/
def tyV (t : TypeId) : Value := .float .f64 t
/-- A block by name; beside its type: the size of its elements if it grew by append, 'ro' if it is only read, else 0. -/
inductive Sta
  | unborn
  | dead
  | live (ty : TypeId × Nat) (cell : Nat → Option Value)
abbrev Hp := Nat → Sta
/-- What is done to blocks. 'mv': the first n cells of a, behind them cs, are block b from here on; a is no more. -/
inductive Ac
  | rd (b o : Nat) (v : Value)
  | wr (b o : Nat) (v : Value)
  | nw (b : Nat) (ty : TypeId × Nat) (cs : List Value)
  | mv (a b : Nat) (ty : TypeId × Nat) (n : Nat) (cs : List Value)

def Hp.set (H : Hp) (b : Nat) (s : Sta) : Hp := fun i => if i = b then s else H i
def cellSet (c : Nat → Option Value) (o : Nat) (v : Value) : Nat → Option Value := fun i => if i = o then some v else c i
/-- The cells of a new block; a block that does not grow tells its type. -/
def newCell (ty : TypeId × Nat) (cs : List Value) : Nat → Option Value := fun i => if i = tyOff then (if ty.2 = 0 then some (tyV ty.1) else if ty.2 = mp then cs[0]? else none) else if ty.2 = mp then none else cs[i]?
theorem newCell_of {ty : TypeId × Nat} (h : ty.2 ≠ mp) (cs : List Value) : newCell ty cs = fun i => if i = tyOff then (if ty.2 = 0 then some (tyV ty.1) else none) else cs[i]? := by
  funext i; unfold newCell; simp only [if_neg h]
def cellMore (c : Nat → Option Value) (n : Nat) (cs : List Value) : Nat → Option Value := fun i => if i < n then c i else cs[i - n]?

def Ok (H : Hp) : Ac → Prop
  | .rd b o v => ∃ (ty : TypeId × Nat) (c : Nat → Option Value), H b = .live ty c ∧ c o = some v
  | .wr b o v => (∃ (ty : TypeId × Nat) (c : Nat → Option Value) (u : Value), H b = .live ty c ∧ c o = some u ∧ ty.2 ≠ ro ∧ (o = tyOff ↔ ty.2 = mp)) ∧ one v = true
  | .nw b _ cs => H b = .unborn ∧ ∀ v ∈ cs, one v = true
  | .mv a b ty n cs => (∃ (c : Nat → Option Value) (m : Nat), H a = .live (ty.1, m) c ∧ (m ≠ 0 ∧ m ≠ ro ∧ m ≠ mp ∧ (ty.2 = m ∨ ty.2 = ro)) ∧ ∀ i, i < n → c i ≠ none) ∧ H b = .unborn ∧ ∀ v ∈ cs, one v = true
def app (H : Hp) : Ac → Hp
  | .rd _ _ _ => H
  | .wr b o v => match H b with
    | .live ty c => H.set b (.live ty (cellSet c o v))
    | _ => H
  | .nw b ty cs => H.set b (.live ty (newCell ty cs))
  | .mv a b ty n cs => match H a with
    | .live _ c => (H.set a .dead).set b (.live ty (cellMore c n cs))
    | _ => H

def Valid : Hp → List Ac → Prop
  | _, [] => True
  | H, a :: t => Ok H a ∧ Valid (app H a) t
def apps : Hp → List Ac → Hp
  | H, [] => H
  | H, a :: t => apps (app H a) t
theorem Valid.append {H : Hp} {t u : List Ac} : Valid H (t ++ u) ↔ Valid H t ∧ Valid (apps H t) u := by
  induction t generalizing H with
  | nil => simp [Valid, apps]
  | cons a t ih => simp only [List.cons_append, Valid, apps, ih, and_assoc]
theorem apps_append {H : Hp} {t u : List Ac} : apps H (t ++ u) = apps (apps H t) u := by
  induction t generalizing H with
  | nil => rfl
  | cons a t ih => simp only [List.cons_append, apps, ih]

/-- Two deeds that touch nothing in common, or read alike. -/
def Apart : Ac → Ac → Prop
  | .rd _ _ _, .rd _ _ _ => True
  | .rd b o _, .wr b' o' _ => b ≠ b' ∨ o ≠ o'
  | .wr b o _, .rd b' o' _ => b ≠ b' ∨ o ≠ o'
  | .wr b o _, .wr b' o' _ => b ≠ b' ∨ o ≠ o'
  | .rd b _ _, .nw b' _ _ => b ≠ b'
  | .wr b _ _, .nw b' _ _ => b ≠ b'
  | .nw b _ _, .rd b' _ _ => b ≠ b'
  | .nw b _ _, .wr b' _ _ => b ≠ b'
  | .nw b _ _, .nw b' _ _ => b ≠ b'
  | .rd c _ _, .mv a b _ _ _ => c ≠ a ∧ c ≠ b
  | .wr c _ _, .mv a b _ _ _ => c ≠ a ∧ c ≠ b
  | .nw c _ _, .mv a b _ _ _ => c ≠ a ∧ c ≠ b
  | .mv a b _ _ _, .rd c _ _ => c ≠ a ∧ c ≠ b
  | .mv a b _ _ _, .wr c _ _ => c ≠ a ∧ c ≠ b
  | .mv a b _ _ _, .nw c _ _ => c ≠ a ∧ c ≠ b
  | .mv a b _ _ _, .mv a' b' _ _ _ => a ≠ a' ∧ a ≠ b' ∧ b ≠ a' ∧ b ≠ b'

theorem Hp.set_ne {H : Hp} {b i : Nat} {s : Sta} (h : i ≠ b) : H.set b s i = H i := if_neg h
theorem Hp.set_eq {H : Hp} {b : Nat} {s : Sta} : H.set b s b = s := if_pos rfl
theorem Hp.set_comm {H : Hp} {a b : Nat} {s u : Sta} (h : a ≠ b) : (H.set a s).set b u = (H.set b u).set a s := by
  funext i
  unfold Hp.set
  by_cases h1 : i = a <;> by_cases h2 : i = b <;> simp_all
theorem cellSet_comm {c : Nat → Option Value} {o p : Nat} {u v : Value} (h : o ≠ p) : cellSet (cellSet c o u) p v = cellSet (cellSet c p v) o u := by
  funext i
  unfold cellSet
  by_cases h1 : i = o <;> by_cases h2 : i = p <;> simp_all

theorem swap1 {H : Hp} {a b : Ac} (hi : Apart a b) (ha : Ok H a) (hb : Ok (app H a) b) : Ok H b ∧ Ok (app H b) a ∧ app (app H a) b = app (app H b) a := by
  cases a with
  | rd b1 o1 v1 =>
    obtain ⟨t1, c1, e1, g1⟩ := ha
    cases b with
    | rd b2 o2 v2 => exact ⟨hb, ⟨t1, c1, e1, g1⟩, rfl⟩
    | wr b2 o2 v2 =>
      refine ⟨hb, ?_, rfl⟩
      obtain ⟨⟨t2, c2, u2, e2, g2⟩, h2⟩ := hb
      simp only [app] at e2
      simp only [app, e2, Ok]
      by_cases hbb : b1 = b2
      · subst hbb
        rw [e1] at e2; cases e2
        refine ⟨t1, cellSet c1 o2 v2, Hp.set_eq, ?_⟩
        unfold cellSet
        rw [if_neg (by rcases hi with h | h; exact absurd rfl h; exact h)]
        exact g1
      · exact ⟨t1, c1, by rw [Hp.set_ne hbb]; exact e1, g1⟩
    | nw b2 t2 cs =>
      refine ⟨hb, ⟨t1, c1, ?_, g1⟩, rfl⟩
      simp only [app]
      rw [Hp.set_ne hi]; exact e1
    | mv a2 b2 t2 n cs =>
      refine ⟨hb, ?_, rfl⟩
      obtain ⟨⟨c2, m2, e2, g2⟩, h2⟩ := hb
      simp only [app] at e2
      simp only [app, e2, Ok]
      exact ⟨t1, c1, by rw [Hp.set_ne hi.2, Hp.set_ne hi.1]; exact e1, g1⟩
  | wr b1 o1 v1 =>
    obtain ⟨⟨t1, c1, u1, e1, g1⟩, k1⟩ := ha
    cases b with
    | rd b2 o2 v2 =>
      obtain ⟨t2, c2, e2, g2⟩ := hb
      simp only [app, e1] at e2
      have hrd : Ok H (.rd b2 o2 v2) := by
        by_cases hbb : b2 = b1
        · subst hbb
          rw [Hp.set_eq] at e2; cases e2
          unfold cellSet at g2
          rw [if_neg (by rcases hi with h | h; exact absurd rfl h; exact fun e => h e.symm)] at g2
          exact ⟨t1, c1, e1, g2⟩
        · rw [Hp.set_ne hbb] at e2; exact ⟨t2, c2, e2, g2⟩
      exact ⟨hrd, ⟨⟨t1, c1, u1, e1, g1⟩, k1⟩, rfl⟩
    | wr b2 o2 v2 =>
      obtain ⟨⟨t2, c2, u2, e2, g2⟩, k2⟩ := hb
      simp only [app, e1] at e2
      by_cases hbb : b2 = b1
      · subst hbb
        have ho : o2 ≠ o1 := by rcases hi with h | h; exact absurd rfl h; exact fun e => h e.symm
        rw [Hp.set_eq] at e2; cases e2
        unfold cellSet at g2
        rw [if_neg ho] at g2
        have w2 : app H (.wr b2 o2 v2) = H.set b2 (.live t1 (cellSet c1 o2 v2)) := by simp only [app, e1]
        have w1 : app H (.wr b2 o1 v1) = H.set b2 (.live t1 (cellSet c1 o1 v1)) := by simp only [app, e1]
        refine ⟨⟨⟨t1, c1, u2, e1, g2⟩, k2⟩, ⟨⟨t1, cellSet c1 o2 v2, u1, by rw [w2, Hp.set_eq], ?_⟩, k1⟩, ?_⟩
        · unfold cellSet; rw [if_neg (Ne.symm ho)]; exact g1
        · rw [w1, w2]
          simp only [app, Hp.set_eq]
          rw [cellSet_comm (Ne.symm ho)]
          funext i
          unfold Hp.set
          split <;> rfl
      · rw [Hp.set_ne hbb] at e2
        have w2 : app H (.wr b2 o2 v2) = H.set b2 (.live t2 (cellSet c2 o2 v2)) := by simp only [app, e2]
        have w1 : app H (.wr b1 o1 v1) = H.set b1 (.live t1 (cellSet c1 o1 v1)) := by simp only [app, e1]
        refine ⟨⟨⟨t2, c2, u2, e2, g2⟩, k2⟩, ⟨⟨t1, c1, u1, by rw [w2, Hp.set_ne (Ne.symm hbb)]; exact e1, g1⟩, k1⟩, ?_⟩
        rw [w1, w2]
        simp only [app, Hp.set_ne hbb, Hp.set_ne (Ne.symm hbb), e1, e2]
        exact Hp.set_comm (Ne.symm hbb)
    | nw b2 t2 cs =>
      obtain ⟨e2, k2⟩ := hb
      have w1 : app H (.wr b1 o1 v1) = H.set b1 (.live t1 (cellSet c1 o1 v1)) := by simp only [app, e1]
      rw [w1, Hp.set_ne (Ne.symm hi)] at e2
      refine ⟨⟨e2, k2⟩, ⟨⟨t1, c1, u1, ?_, g1⟩, k1⟩, ?_⟩
      · simp only [app]; rw [Hp.set_ne hi]; exact e1
      · rw [w1]
        simp only [app, Hp.set_ne hi, e1]
        exact Hp.set_comm hi
    | mv a2 b2 t2 n cs =>
      obtain ⟨⟨c2, m2, e2, g2⟩, e3, k2⟩ := hb
      have w1 : app H (.wr b1 o1 v1) = H.set b1 (.live t1 (cellSet c1 o1 v1)) := by simp only [app, e1]
      rw [w1, Hp.set_ne (Ne.symm hi.1)] at e2
      rw [w1, Hp.set_ne (Ne.symm hi.2)] at e3
      have w2 : app H (.mv a2 b2 t2 n cs) = (H.set a2 .dead).set b2 (.live t2 (cellMore c2 n cs)) := by simp only [app, e2]
      refine ⟨⟨⟨c2, m2, e2, g2⟩, e3, k2⟩, ⟨⟨t1, c1, u1, by rw [w2, Hp.set_ne hi.2, Hp.set_ne hi.1]; exact e1, g1⟩, k1⟩, ?_⟩
      rw [w1, w2]
      simp only [app, Hp.set_ne hi.1, Hp.set_ne hi.2, Hp.set_ne (Ne.symm hi.1), e1, e2]
      rw [Hp.set_comm hi.1, Hp.set_comm hi.2]
  | nw b1 ty1 cs1 =>
    obtain ⟨e1, k1⟩ := ha
    cases b with
    | rd b2 o2 v2 =>
      obtain ⟨t2, c2, e2, g2⟩ := hb
      simp only [app] at e2
      rw [Hp.set_ne (Ne.symm hi)] at e2
      exact ⟨⟨t2, c2, e2, g2⟩, ⟨e1, k1⟩, rfl⟩
    | wr b2 o2 v2 =>
      obtain ⟨⟨t2, c2, u2, e2, g2⟩, k2⟩ := hb
      simp only [app] at e2
      rw [Hp.set_ne (Ne.symm hi)] at e2
      have w2 : app H (.wr b2 o2 v2) = H.set b2 (.live t2 (cellSet c2 o2 v2)) := by simp only [app, e2]
      refine ⟨⟨⟨t2, c2, u2, e2, g2⟩, k2⟩, ⟨by rw [w2, Hp.set_ne hi]; exact e1, k1⟩, ?_⟩
      rw [w2]
      simp only [app, Hp.set_ne (Ne.symm hi), e2]
      exact Hp.set_comm hi
    | nw b2 t2 cs =>
      obtain ⟨e2, k2⟩ := hb
      simp only [app] at e2
      rw [Hp.set_ne (Ne.symm hi)] at e2
      refine ⟨⟨e2, k2⟩, ⟨by simp only [app]; rw [Hp.set_ne hi]; exact e1, k1⟩, ?_⟩
      simp only [app]
      exact Hp.set_comm hi
    | mv a2 b2 t2 n cs =>
      obtain ⟨⟨c2, m2, e2, g2⟩, e3, k2⟩ := hb
      simp only [app] at e2 e3
      rw [Hp.set_ne (Ne.symm hi.1)] at e2
      rw [Hp.set_ne (Ne.symm hi.2)] at e3
      have w2 : app H (.mv a2 b2 t2 n cs) = (H.set a2 .dead).set b2 (.live t2 (cellMore c2 n cs)) := by simp only [app, e2]
      refine ⟨⟨⟨c2, m2, e2, g2⟩, e3, k2⟩, ⟨by rw [w2, Hp.set_ne hi.2, Hp.set_ne hi.1]; exact e1, k1⟩, ?_⟩
      rw [w2]
      simp only [app, Hp.set_ne (Ne.symm hi.1), e2]
      rw [Hp.set_comm hi.1, Hp.set_comm hi.2]
  | mv a1 b1 t1 n1 cs1 =>
    obtain ⟨⟨c1, m1, e1, g1⟩, f1, k1⟩ := ha
    have w1 : app H (.mv a1 b1 t1 n1 cs1) = (H.set a1 .dead).set b1 (.live t1 (cellMore c1 n1 cs1)) := by simp only [app, e1]
    cases b with
    | rd b2 o2 v2 =>
      obtain ⟨t2, c2, e2, g2⟩ := hb
      rw [w1, Hp.set_ne hi.2, Hp.set_ne hi.1] at e2
      exact ⟨⟨t2, c2, e2, g2⟩, ⟨⟨c1, m1, e1, g1⟩, f1, k1⟩, rfl⟩
    | wr b2 o2 v2 =>
      obtain ⟨⟨t2, c2, u2, e2, g2⟩, k2⟩ := hb
      rw [w1, Hp.set_ne hi.2, Hp.set_ne hi.1] at e2
      have w2 : app H (.wr b2 o2 v2) = H.set b2 (.live t2 (cellSet c2 o2 v2)) := by simp only [app, e2]
      refine ⟨⟨⟨t2, c2, u2, e2, g2⟩, k2⟩, ⟨⟨c1, m1, by rw [w2, Hp.set_ne (Ne.symm hi.1)]; exact e1, g1⟩, by rw [w2, Hp.set_ne (Ne.symm hi.2)]; exact f1, k1⟩, ?_⟩
      rw [w1, w2]
      simp only [app, Hp.set_ne hi.1, Hp.set_ne hi.2, Hp.set_ne (Ne.symm hi.1), e1, e2]
      rw [Hp.set_comm hi.1, Hp.set_comm hi.2]
    | nw b2 t2 cs =>
      obtain ⟨e2, k2⟩ := hb
      rw [w1, Hp.set_ne hi.2, Hp.set_ne hi.1] at e2
      refine ⟨⟨e2, k2⟩, ⟨⟨c1, m1, by simp only [app]; rw [Hp.set_ne (Ne.symm hi.1)]; exact e1, g1⟩, by simp only [app]; rw [Hp.set_ne (Ne.symm hi.2)]; exact f1, k1⟩, ?_⟩
      rw [w1]
      simp only [app, Hp.set_ne (Ne.symm hi.1), e1]
      rw [Hp.set_comm hi.1, Hp.set_comm hi.2]
    | mv a2 b2 t2 n cs =>
      obtain ⟨⟨c2, m2, e2, g2⟩, e3, k2⟩ := hb
      obtain ⟨i1, i2, i3, i4⟩ := hi
      rw [w1, Hp.set_ne (Ne.symm i3), Hp.set_ne (Ne.symm i1)] at e2
      rw [w1, Hp.set_ne (Ne.symm i4), Hp.set_ne (Ne.symm i2)] at e3
      have w2 : app H (.mv a2 b2 t2 n cs) = (H.set a2 .dead).set b2 (.live t2 (cellMore c2 n cs)) := by simp only [app, e2]
      refine ⟨⟨⟨c2, m2, e2, g2⟩, e3, k2⟩, ⟨⟨c1, m1, by rw [w2, Hp.set_ne i2, Hp.set_ne i1]; exact e1, g1⟩, by rw [w2, Hp.set_ne i4, Hp.set_ne i3]; exact f1, k1⟩, ?_⟩
      rw [w1, w2]
      simp only [app, Hp.set_ne i1, Hp.set_ne i2, Hp.set_ne (Ne.symm i1), Hp.set_ne (Ne.symm i3), e1, e2]
      rw [Hp.set_comm i3, Hp.set_comm i4, Hp.set_comm i1, Hp.set_comm i2]

def AllApart (t u : List Ac) : Prop := ∀ a ∈ t, ∀ b ∈ u, Apart a b
theorem swap2 {H : Hp} {a : Ac} {u : List Ac} (hi : ∀ b ∈ u, Apart a b) (h : Valid H (a :: u)) : Valid H (u ++ [a]) ∧ apps H (a :: u) = apps H (u ++ [a]) := by
  induction u generalizing H with
  | nil => exact ⟨h, rfl⟩
  | cons b u ih =>
    obtain ⟨h1, h2, h3⟩ := h
    obtain ⟨k1, k2, k3⟩ := swap1 (hi b List.mem_cons_self) h1 h2
    rw [k3] at h3
    obtain ⟨q1, q2⟩ := ih (H := app H b) (fun c hc => hi c (List.mem_cons_of_mem _ hc)) ⟨k2, h3⟩
    refine ⟨⟨k1, q1⟩, ?_⟩
    simp only [apps, List.cons_append] at q2 ⊢
    rw [k3]; exact q2
/-- Two rows of deeds that touch nothing in common may change places. -/
theorem swap {H : Hp} {t u : List Ac} (hi : AllApart t u) (h : Valid H (t ++ u)) : Valid H (u ++ t) ∧ apps H (t ++ u) = apps H (u ++ t) := by
  induction t generalizing H u with
  | nil => simpa using h
  | cons a t ih =>
    obtain ⟨h1, h2⟩ := h
    obtain ⟨k1, k2⟩ := ih (H := app H a) (u := u) (fun x hx => hi x (List.mem_cons_of_mem _ hx)) h2
    have h3 : Valid H ((a :: u) ++ t) := ⟨h1, k1⟩
    rw [Valid.append] at h3
    obtain ⟨q1, q2⟩ := swap2 (hi a List.mem_cons_self) h3.1
    have e1 : Valid H ((u ++ [a]) ++ t) := Valid.append.2 ⟨q1, by rw [← q2]; exact h3.2⟩
    rw [List.append_assoc] at e1
    refine ⟨e1, ?_⟩
    show apps (app H a) (t ++ u) = _
    rw [k2, show u ++ a :: t = (u ++ [a]) ++ t by simp, apps_append (t := u ++ [a]), ← q2, apps_append]
    rfl
end Go.Proofs.YtmphiefdoaihhaaGreatDoor

/-
  A law of no program: append of some cells on a row that the call's own code made, or on nil: the row's block is the old one or a new one.
-/
namespace Go.Proofs.YtmphiefdoaihhaaGreatDoor
open Go.RowKit

theorem run_append_own2 {P : Program} (w : World) (base : Nat) (t ty e : TypeId) (i : TypeInfo) (z : Value) (size bytes : Nat) (ht : P.underlying t = some (.slice e)) (hi : P.info? e = some i) (hz : i.zero = some z)
    (hsize : i.size = size) (hby : i.bytes = bytes) (hzs : z.cells.size = size) (hsz : 0 < size)
    (v : Value) (n : Nat) (xs : List Value) (hown : w.ownsRow base e size v n xs)
    (a : Addr) (m c : Nat) (news : List Value) (hl : news.length = m * size) (hm : 0 < m) (hnews : ∀ j u, news[j]? = some u → w.cell? (a.add j) = some u) (h1 : ∀ u ∈ news, u.oneCell' = true)
    (h63 : n + m ≤ maxLen) (hbytes : (n + m) * bytes ≤ 140737488355328) (hbase : base ≤ w.heap.size) :
    ∃ g cap w', (Builtin.append_ #[t, t] ty #[v, .slice (some a) m c]).run P w = .ok (.slice (some ⟨g, 0, none⟩) (n + m) cap) w' ∧
      w'.ownsRow base e size (.slice (some ⟨g, 0, none⟩) (n + m) cap) (n + m) (xs ++ news) ∧ w.grownBy w' v.ownBlock ∧ (v.ownBlock = some g ∨ w.heap.size ≤ g) := by
  rcases hown.2 with ⟨rfl, rfl⟩ | ⟨g, cap, cur, rfl, hbg, hg, hnc, hcm, hcs, htake⟩
  · obtain ⟨v', w', hr, ho, hgr, hv⟩ := run_append_own (P := P) w w.heap.size t ty e i z size bytes ht hi hz hsize hby hzs hsz (.slice none 0 0) 0 xs ⟨hown.1, .inl ⟨rfl, rfl⟩⟩ a m c news hl hnews h1 h63 hbytes (Nat.le_refl _)
    rcases ho.2 with ⟨rfl, h0⟩ | ⟨g', cap', cur', rfl, hb', hg', r⟩
    · omega
    · exact ⟨g', cap', w', hr, ⟨ho.1, .inr ⟨g', cap', cur', rfl, Nat.le_trans hbase hb', hg', r⟩⟩, hgr, .inr hb'⟩
  · obtain ⟨v', w', hr, ho, hgr, hv⟩ := run_append_own (P := P) w base t ty e i z size bytes ht hi hz hsize hby hzs hsz (.slice (some ⟨g, 0, none⟩) n cap) n xs hown a m c news hl hnews h1 h63 hbytes hbase
    by_cases hroom : n + m ≤ cap
    · have hr2 := run_append_room (P := P) w t ty e i ht hi g n cap cur hg a m c news (by rw [hsize]; exact hl) hnews h1 hroom (by rw [hl, hcs, hsize, ← Nat.add_mul]; exact Nat.mul_le_mul_right _ hroom)
      rw [hr2] at hr
      simp only [Result.ok.injEq] at hr
      obtain ⟨rfl, rfl⟩ := hr
      exact ⟨g, cap, _, hr2, ho, hgr, .inl rfl⟩
    · have hr2 := run_append_grow (P := P) w t ty e i z ht hi hz ⟨g, 0, none⟩ n cap xs (by rw [hsize]; exact hown.1) (hown.cells (g := g) rfl) a m c news (by rw [hsize]; exact hl) hnews (by omega) (by unfold maxLen at h63; omega)
        (growslice_fits (by omega) (by rw [hby]; exact hbytes))
      rw [hr2] at hr
      simp only [Result.ok.injEq] at hr
      obtain ⟨rfl, rfl⟩ := hr
      exact ⟨w.heap.size, _, _, hr2, ho, hgr, .inr (Nat.le_refl _)⟩

/-- The same for ONE element of one cell that the translation has laid in a block of its own: 'xs = append(xs, x)'. -/
theorem run_append_one {P : Program} (w : World) (base : Nat) (t ty e : TypeId) (i : TypeInfo) (z : Value) (bytes : Nat) (ht : P.underlying t = some (.slice e)) (hi : P.info? e = some i) (hz : i.zero = some z)
    (hsize : i.size = 1) (hby : i.bytes = bytes) (hzs : z.cells.size = 1) (v : Value) (n : Nat) (xs : List Value) (hown : w.ownsRow base e 1 v n xs) (x : Value) (hx : x.oneCell' = true)
    (h63 : n + 1 ≤ maxLen) (hbytes : (n + 1) * bytes ≤ 140737488355328) (hbase : base ≤ w.heap.size) :
    ∃ g cap w', (Builtin.append_ #[t, t] ty #[v, .slice (some ⟨w.heap.size, 0, none⟩) 1 1]).run P (w.alloc (.cells #[x] e)) = .ok (.slice (some ⟨g, 0, none⟩) (n + 1) cap) w' ∧
      w'.ownsRow base e 1 (.slice (some ⟨g, 0, none⟩) (n + 1) cap) (n + 1) (xs ++ [x]) ∧ w.grownBy w' v.ownBlock ∧ (v.ownBlock = some g ∨ w.heap.size ≤ g) := by
  obtain ⟨g, cap, w', hr, ho, hgr, hg⟩ := run_append_own2 (P := P) (w.alloc (.cells #[x] e)) base t ty e i z 1 bytes ht hi hz hsize hby hzs (by decide) v n xs (hown.alloc _) ⟨w.heap.size, 0, none⟩ 1 1 [x] rfl (by decide)
    (by
      intro j u hj
      match j, hj with
      | 0, hj =>
        simp at hj; subst hj
        rw [show (⟨w.heap.size, 0, none⟩ : Addr).add 0 = ⟨w.heap.size, 0, none⟩ from by simp [Addr.add], cell_of_row _ _ _ _ _ _ (heap_alloc_new w (.cells #[x] e))]
        rfl)
    (by intro u hu; simp at hu; subst hu; exact hx) h63 hbytes (by simp; omega)
  refine ⟨g, cap, w', hr, ho, ⟨hgr.os, hgr.tape, hgr.output, Nat.le_trans (by simp) hgr.size, fun k hk hne => ?_⟩, ?_⟩
  · exact (hgr.block k (by simp; omega) hne).trans (Below.heap_alloc w _ k hk)
  · rcases hg with h | h
    · exact .inl h
    · refine .inr (Nat.le_trans ?_ h)
      simp
end Go.Proofs.YtmphiefdoaihhaaGreatDoor

/-
  A run that is reckoned over blocks with names of its own: the memory that it speaks of: no function of a program is named here.
-/
namespace Go.Proofs.YtmphiefdoaihhaaGreatDoor
open Go.RowKit

theorem one_eq (v : Value) : one v = v.oneCell' := by cases v <;> rfl

/-- How many elements a block has room for. -/
def Room (ty : TypeId × Nat) (κ : Nat) (cs : Array Value) : Prop := ty.2 = 0 ∨ (κ ≤ maxLen ∧ cs.size = κ * ty.2)

/-- What a map holds, entry by entry; and as one value that no cell holds. -/
def flatM : List MapEntry → List Value
  | [] => []
  | e :: r => e.key :: e.val :: .int .u64 e.born :: flatM r
def mapV (clock : Nat) (l : List Value) : Value := .func (.yield clock) #[] ⟨l⟩
/-- Memory holds what is said of the named blocks. -/
structure WR (P : Program) (ρ : Rho) (H : Hp) (w : World) : Prop where
  dom : ∀ b, ρ b = none ↔ H b = .unborn
  inj : ∀ (b b' : Nat) (ty ty' : TypeId × Nat) (c c' : Nat → Option Value) (k κ κ' : Nat), H b = .live ty c → H b' = .live ty' c' → ρ b = some (k, κ) → ρ b' = some (k, κ') → b = b'
  map : ∀ (b : Nat) (ty : TypeId × Nat) (cell : Nat → Option Value), H b = .live ty cell → ty.2 = mp → ∃ (k κ : Nat) (es : Array MapEntry) (clock : Nat), ρ b = some (k, κ) ∧ w.heap[k]? = some (.map es clock) ∧ ∀ (o : Nat) (v : Value), cell o = some v → o = tyOff ∧ ∃ l, v = mapV clock l ∧ VL ρ l (flatM es.toList)
  blk : ∀ (b : Nat) (ty : TypeId × Nat) (cell : Nat → Option Value), H b = .live ty cell → ty.2 ≠ mp → ∃ (k κ : Nat) (cs : Array Value) (t' : TypeId) (fz : Nat × Nat), ρ b = some (k, κ) ∧ w.heap[k]? = some (.cells cs t' fz) ∧ (ty.2 ≠ ro → t' = ty.1 ∧ fz = (0, 0) ∧ Room ty κ cs) ∧
    ∀ (o : Nat) (v : Value), cell o = some v → (o = tyOff ∧ ty.2 = 0 ∧ v = tyV t') ∨ ∃ v', cs[o]? = some v' ∧ V ρ v v'

/-- The blocks that deeds write. -/
def wrote : List Ac → List Nat
  | [] => []
  | .wr b _ _ :: t => b :: wrote t
  | .mv a _ _ _ _ :: t => a :: wrote t
  | _ :: t => wrote t
theorem wrote_append {t u : List Ac} : wrote (t ++ u) = wrote t ++ wrote u := by
  induction t with
  | nil => rfl
  | cons a t ih => cases a <;> simp [wrote, ih]

/-- What holds behind deeds. -/
structure Went (P : Program) (ρ : Rho) (H : Hp) (w : World) (t : List Ac) (ρ' : Rho) (w' : World) : Prop where
  wr : WR P ρ' (apps H t) w'
  ext : ∀ b x, ρ b = some x → ρ' b = some x
  fr : Fr (fun k => ∃ b ∈ wrote t, ∃ κ, ρ b = some (k, κ)) w w'
  new : ∀ b k κ, ρ' b = some (k, κ) → ρ b = some (k, κ) ∨ w.heap.size ≤ k ∨ ∃ a ∈ wrote t, ∃ κ', ρ a = some (k, κ')

section
variable {P : Program} {ρ ρ' ρ'' : Rho} {H : Hp} {w w' w'' : World} {t u : List Ac}

theorem Went.refl (h : WR P ρ H w) : Went P ρ H w [] ρ w := ⟨h, fun _ _ h => h, Fr.refl _ _, fun _ _ _ h => .inl h⟩
theorem Went.drew (h : WR P ρ H w) : Went P ρ H w [] ρ w.drew := ⟨⟨h.dom, h.inj, h.map, h.blk⟩, fun _ _ h => h, (Fr.refl _ _).drew, fun _ _ _ h => .inl h⟩
theorem Went.trans (h : Went P ρ H w t ρ' w') (k : Went P ρ' (apps H t) w' u ρ'' w'') : Went P ρ H w (t ++ u) ρ'' w'' := by
  have back : ∀ b k κ, ρ' b = some (k, κ) → k < w.heap.size → ∃ b' ∈ b :: wrote t, ∃ κ', ρ b' = some (k, κ') := by
    intro b k κ hb hk
    rcases h.new b k κ hb with h1 | h1 | ⟨a, ha, κ', h1⟩
    · exact ⟨b, List.mem_cons_self, κ, h1⟩
    · omega
    · exact ⟨a, List.mem_cons_of_mem _ ha, κ', h1⟩
  refine ⟨by rw [apps_append]; exact k.wr, fun b x hb => k.ext b x (h.ext b x hb), ?_, ?_⟩
  · refine Fr.trans (h.fr.mono fun i _ hi => ?_) k.fr fun i hi ht => ?_
    · obtain ⟨b, hb, κ, hr⟩ := hi
      exact ⟨b, by rw [wrote_append]; exact List.mem_append_left _ hb, κ, hr⟩
    · obtain ⟨b, hb, κ, hr⟩ := ht
      obtain ⟨b', hb', κ', hr'⟩ := back b i κ hr hi
      refine ⟨b', ?_, κ', hr'⟩
      rw [wrote_append]
      rcases List.mem_cons.1 hb' with rfl | h1
      · exact List.mem_append_right _ hb
      · exact List.mem_append_left _ h1
  · intro b k2 κ hb
    rw [wrote_append]
    rcases k.new b k2 κ hb with h1 | h1 | ⟨a, ha, κ', h1⟩
    · rcases h.new b k2 κ h1 with h2 | h2 | ⟨a, ha, κ', h2⟩
      · exact .inl h2
      · exact .inr (.inl h2)
      · exact .inr (.inr ⟨a, List.mem_append_left _ ha, κ', h2⟩)
    · exact .inr (.inl (Nat.le_trans h.fr.size h1))
    · rcases Nat.lt_or_ge k2 w.heap.size with hlt | hge
      · obtain ⟨b', hb', κ'', hr'⟩ := back a k2 κ' h1 hlt
        refine .inr (.inr ⟨b', ?_, κ'', hr'⟩)
        rcases List.mem_cons.1 hb' with rfl | h2
        · exact List.mem_append_right _ ha
        · exact List.mem_append_left _ h2
      · exact .inr (.inl hge)

theorem WR.of_tape (h : WR P ρ H w) {f : Nat → Question → Nat} {n : Nat} : WR P ρ H { w with tape := f, drawn := n } := ⟨h.dom, h.inj, h.map, h.blk⟩

/-- What is told of a cell that is no type, or no map: the block is a row. -/
theorem WR.row (h : WR P ρ H w) {b o : Nat} {ty : TypeId × Nat} {c : Nat → Option Value} {v : Value} (e : H b = .live ty c) (hc : c o = some v) (hv : o ≠ tyOff ∨ ∀ k l, v ≠ mapV k l) : ty.2 ≠ mp := by
  intro hm
  obtain ⟨_, _, _, cl, _, _, hx⟩ := h.map b ty c e hm
  obtain ⟨h1, l, h2, _⟩ := hx o v hc
  rcases hv with hv | hv
  · exact hv h1
  · exact hv _ _ h2
theorem WR.at (h : WR P ρ H w) {b : Nat} {ty : TypeId × Nat} {c : Nat → Option Value} (e : H b = .live ty c) : ∃ k κ o, ρ b = some (k, κ) ∧ w.heap[k]? = some o := by
  by_cases hm : ty.2 = mp
  · obtain ⟨k, κ, es, cl, h1, h2, _⟩ := h.map b ty c e hm
    exact ⟨k, κ, _, h1, h2⟩
  · obtain ⟨k, κ, cs, t', fz, h1, h2, _⟩ := h.blk b ty c e hm
    exact ⟨k, κ, _, h1, h2⟩
/-- What a map holds is read. -/
theorem WR.mrd (h : WR P ρ H w) {b cl : Nat} {l : List Value} (hk : Ok H (.rd b tyOff (mapV cl l))) : ∃ k κ es, ρ b = some (k, κ) ∧ w.heap[k]? = some (.map es cl) ∧ VL ρ l (flatM es.toList) := by
  obtain ⟨ty, c, e, hc⟩ := hk
  by_cases hm : ty.2 = mp
  · obtain ⟨k, κ, es, cl', h1, h2, hx⟩ := h.map b ty c e hm
    obtain ⟨_, l', h3, h4⟩ := hx _ _ hc
    unfold mapV at h3
    cases h3
    exact ⟨k, κ, es, h1, h2, h4⟩
  · exfalso
    obtain ⟨k, κ, cs, t', fz, h1, h2, _, hx⟩ := h.blk b ty c e hm
    rcases hx _ _ hc with ⟨_, _, h3⟩ | ⟨v', _, h3⟩
    · unfold tyV mapV at h3; cases h3
    · unfold mapV at h3; cases h3

/-- A cell is read. -/
theorem WR.rd (h : WR P ρ H w) {b o : Nat} {v : Value} (ho : o ≠ tyOff) (hk : Ok H (.rd b o v)) : ∃ k κ v', ρ b = some (k, κ) ∧ w.cell? ⟨k, o, none⟩ = some v' ∧ V ρ v v' := by
  obtain ⟨ty, c, e, hc⟩ := hk
  obtain ⟨k, κ, cs, t', fz, hr, hw, _, hx⟩ := h.blk b ty c e (h.row e hc (.inl ho))
  obtain ⟨v', h1, h2⟩ := (hx o v hc).resolve_left (fun h => ho h.1)
  exact ⟨k, κ, v', hr, by rw [cell_of_row _ _ _ _ _ _ hw]; exact h1, h2⟩

/-- A block's type is told. -/
theorem WR.tq (h : WR P ρ H w) {b : Nat} {t : TypeId} (hk : Ok H (.rd b tyOff (tyV t))) : ∃ k κ cs fz, ρ b = some (k, κ) ∧ w.heap[k]? = some (.cells cs t fz) := by
  obtain ⟨ty, c, e, hc⟩ := hk
  obtain ⟨k, κ, cs, t', fz, hr, hw, _, hx⟩ := h.blk b ty c e (h.row e hc (.inr fun k l h => by unfold tyV mapV at h; cases h))
  rcases hx _ _ hc with ⟨_, _, h1⟩ | ⟨v', _, h2⟩
  · obtain rfl : t = t' := by unfold tyV at h1; cases h1; rfl
    exact ⟨k, κ, cs, fz, hr, hw⟩
  · unfold tyV at h2; cases h2

theorem blkset {w : World} {g : Nat} {t : TypeId} {cs : Array Value} (h : w.heap[g]? = some (.cells cs t (0, 0))) (i : Nat) (u : Value) : (w.setCell ⟨g, i, none⟩ u).heap[g]? = some (.cells (cs.setIfInBounds i u) t (0, 0)) := by
  simp [World.setCell, Array.getElem?_modify, h]

/-- A cell is written. -/
theorem WR.wrt (h : WR P ρ H w) {b o : Nat} {v v' : Value} (hot : o ≠ tyOff) (hk : Ok H (.wr b o v)) (hv : V ρ v v') :
    ∃ k κ u, ρ b = some (k, κ) ∧ w.cell? ⟨k, o, none⟩ = some u ∧ w.frozen? ⟨k, o, none⟩ = false ∧ Went P ρ H w [.wr b o v] ρ (w.setCell ⟨k, o, none⟩ v') := by
  obtain ⟨⟨ty, c, u, e, hc, hro, hmp⟩, _⟩ := hk
  have hnm : ty.2 ≠ mp := fun e => hot (hmp.2 e)
  obtain ⟨k, κ, cs, t', fz, hr, hw, hq, hx⟩ := h.blk b ty c e hnm
  obtain ⟨rfl, rfl, hR⟩ := hq hro
  obtain ⟨u', h1, h2⟩ := (hx o u hc).resolve_left (fun h => hot h.1)
  have ea : app H (.wr b o v) = H.set b (.live ty (cellSet c o v)) := by simp only [app, e]
  have lt : o < cs.size := (Array.getElem?_eq_some_iff.1 h1).1
  refine ⟨k, κ, u', hr, by rw [cell_of_row _ _ _ _ _ _ hw]; exact h1, frozen_of_row _ _ _ _ _ hw, ⟨?_, fun _ _ h => h, ?_, fun _ _ _ h => .inl h⟩⟩
  · show WR P ρ (app H (.wr b o v)) _
    rw [ea]
    refine ⟨fun b' => ?_, ?_, ?_, ?_⟩
    · by_cases hb : b' = b
      · subst hb; rw [Hp.set_eq, hr]; simp
      · rw [Hp.set_ne hb]; exact h.dom b'
    · intro b1 b2 t1 t2 c1 c2 k' κ1 κ2 g1 g2 r1 r2
      have live : ∀ b' t' c', H.set b (.live ty (cellSet c o v)) b' = .live t' c' → ∃ t'' c'', H b' = .live t'' c'' := by
        intro b' t' c' g
        by_cases hb : b' = b
        · subst hb; exact ⟨ty, c, e⟩
        · rw [Hp.set_ne hb] at g; exact ⟨t', c', g⟩
      obtain ⟨_, _, q1⟩ := live _ _ _ g1
      obtain ⟨_, _, q2⟩ := live _ _ _ g2
      exact h.inj b1 b2 _ _ _ _ k' κ1 κ2 q1 q2 r1 r2
    · intro b' t' c' g hm
      by_cases hb : b' = b
      · subst hb
        rw [Hp.set_eq] at g
        cases g
        exact absurd hm hnm
      · rw [Hp.set_ne hb] at g
        obtain ⟨k2, κ2, es, cl, r2, w2, x2⟩ := h.map b' t' c' g hm
        have hne : k2 ≠ k := fun e2 => hb (h.inj b' b t' ty c' c k2 κ2 κ g e r2 (by rw [e2]; exact hr))
        exact ⟨k2, κ2, es, cl, r2, by rw [Below.heap_setCell _ _ _ _ hne]; exact w2, x2⟩
    · intro b' t' c' g hm'
      by_cases hb : b' = b
      · subst hb
        rw [Hp.set_eq] at g
        cases g
        refine ⟨k, κ, cs.setIfInBounds o v', _, _, hr, blkset hw o v', fun _ => ⟨rfl, rfl, ?_⟩, fun i x hi => ?_⟩
        · rcases hR with h0 | ⟨h1, h2⟩
          · exact .inl h0
          · exact .inr ⟨h1, by simpa using h2⟩
        · unfold cellSet at hi
          split at hi
          · rename_i hio
            subst hio
            cases hi
            exact .inr ⟨v', by rw [Array.getElem?_setIfInBounds]; simp [lt], hv⟩
          · rename_i hio
            rcases hx i x hi with hl | ⟨x', y1, y2⟩
            · exact .inl hl
            · exact .inr ⟨x', by rw [Array.getElem?_setIfInBounds_ne (fun e => hio e.symm)]; exact y1, y2⟩
      · rw [Hp.set_ne hb] at g
        obtain ⟨k2, κ2, cs2, t2', fz2, r2, w2, R2, x2⟩ := h.blk b' t' c' g hm'
        have hne : k2 ≠ k := fun e2 => hb (h.inj b' b t' ty c' c k2 κ2 κ g e r2 (by rw [e2]; exact hr))
        exact ⟨k2, κ2, cs2, t2', fz2, r2, by rw [Below.heap_setCell _ _ _ _ hne]; exact w2, R2, x2⟩
  · exact (Fr.refl _ w).setCell (p := ⟨k, o, none⟩) (fun _ => ⟨b, List.mem_cons_self, κ, hr⟩) v'

/-- A name for a new block. -/
def Rho.add (ρ : Rho) (b k κ : Nat) : Rho := fun i => if i = b then some (k, κ) else ρ i
theorem Rho.add_ext {b k κ : Nat} (hb : ρ b = none) : ∀ i x, ρ i = some x → Rho.add ρ b k κ i = some x := by
  intro i x hi
  unfold Rho.add
  split
  · rename_i h; subst h; rw [hb] at hi; cases hi
  · exact hi
theorem Rho.add_eq {b k κ : Nat} : Rho.add ρ b k κ b = some (k, κ) := by simp [Rho.add]
theorem Rho.add_ne {b k κ i : Nat} (h : i ≠ b) : Rho.add ρ b k κ i = ρ i := by simp [Rho.add, h]

theorem WR.lt (h : WR P ρ H w) {b k κ : Nat} {ty : TypeId × Nat} {c : Nat → Option Value} (e : H b = .live ty c) (hr : ρ b = some (k, κ)) : k < w.heap.size := by
  obtain ⟨k', κ', o, hr', hw⟩ := h.at e
  rw [hr] at hr'; cases hr'
  exact heap_lt hw

/-- A block is made. -/
theorem WR.nw (h : WR P ρ H w) {b : Nat} {ty : TypeId × Nat} {cs : List Value} {cs' : Array Value} {κ : Nat} (hnm : ty.2 ≠ mp) (hk : Ok H (.nw b ty cs)) (hl : cs.length ≤ cs'.size)
    (hv : ∀ (i : Nat) (v v' : Value), cs[i]? = some v → cs'[i]? = some v' → V ρ v v') (hR : Room ty κ cs') :
    Went P ρ H w [.nw b ty cs] (Rho.add ρ b w.heap.size κ) (w.alloc (.cells cs' ty.1)) := by
  have hb : ρ b = none := (h.dom b).2 hk.1
  refine ⟨?_, Rho.add_ext hb, (Fr.refl _ w).alloc _, ?_⟩
  · show WR P _ (H.set b (.live ty (newCell ty cs))) _
    refine ⟨fun b' => ?_, ?_, ?_, ?_⟩
    · by_cases e : b' = b
      · subst e; rw [Hp.set_eq, Rho.add_eq]; simp
      · rw [Hp.set_ne e, Rho.add_ne e]; exact h.dom b'
    · intro b1 b2 t1 t2 c1 c2 k' κ1 κ2 g1 g2 r1 r2
      by_cases e1 : b1 = b <;> by_cases e2 : b2 = b
      · rw [e1, e2]
      · subst e1
        rw [Hp.set_ne e2] at g2
        rw [Rho.add_eq] at r1
        rw [Rho.add_ne e2] at r2
        have := h.lt g2 r2
        cases r1; omega
      · subst e2
        rw [Hp.set_ne e1] at g1
        rw [Rho.add_eq] at r2
        rw [Rho.add_ne e1] at r1
        have := h.lt g1 r1
        cases r2; omega
      · rw [Hp.set_ne e1] at g1
        rw [Hp.set_ne e2] at g2
        rw [Rho.add_ne e1] at r1
        rw [Rho.add_ne e2] at r2
        exact h.inj b1 b2 _ _ _ _ k' κ1 κ2 g1 g2 r1 r2
    · intro b' t' c' g hm
      by_cases e : b' = b
      · subst e
        rw [Hp.set_eq] at g
        cases g
        exact absurd hm hnm
      · rw [Hp.set_ne e] at g
        obtain ⟨k2, κ2, es, cl, r2, w2, x2⟩ := h.map b' t' c' g hm
        exact ⟨k2, κ2, es, cl, by rw [Rho.add_ne e]; exact r2, by rw [Below.heap_alloc _ _ _ (heap_lt w2)]; exact w2, fun o v ho => by
          obtain ⟨h1, l, h2, h3⟩ := x2 o v ho
          exact ⟨h1, l, h2, h3.more (Rho.add_ext hb)⟩⟩
    · intro b' t' c' g hm'
      by_cases e : b' = b
      · subst e
        rw [Hp.set_eq, newCell_of hnm] at g
        cases g
        refine ⟨w.heap.size, κ, cs', _, _, Rho.add_eq, heap_alloc_new _ _, fun _ => ⟨rfl, rfl, hR⟩, fun o v ho => ?_⟩
        dsimp only at ho
        split at ho
        · rename_i ht
          split at ho
          · rename_i h0
            cases ho
            exact .inl ⟨ht, h0, rfl⟩
          · cases ho
        have hlt : o < cs'.size := Nat.lt_of_lt_of_le (List.getElem?_eq_some_iff.1 ho).1 hl
        exact .inr ⟨cs'[o], Array.getElem?_eq_getElem hlt, (hv o v _ ho (Array.getElem?_eq_getElem hlt)).more (Rho.add_ext hb)⟩
      · rw [Hp.set_ne e] at g
        obtain ⟨k2, κ2, cs2, t2', fz2, r2, w2, R2, x2⟩ := h.blk b' t' c' g hm'
        refine ⟨k2, κ2, cs2, t2', fz2, by rw [Rho.add_ne e]; exact r2, by rw [Below.heap_alloc _ _ _ (heap_lt w2)]; exact w2, R2, fun o v ho => ?_⟩
        rcases x2 o v ho with hl | ⟨v', y1, y2⟩
        · exact .inl hl
        · exact .inr ⟨v', y1, y2.more (Rho.add_ext hb)⟩
  · intro b' k κ' hr
    by_cases e : b' = b
    · subst e; rw [Rho.add_eq] at hr; cases hr; exact .inr (.inl (Nat.le_refl _))
    · rw [Rho.add_ne e] at hr; exact .inl hr

/-- A block grows: it stays where it is, or lies anew. -/
theorem WR.mv (h : WR P ρ H w) {a b n : Nat} {cs cs' : List Value} {k κ g κ' : Nat} {ty ty0 : TypeId × Nat} {c : Nat → Option Value} {cur : Array Value} {fz : Nat × Nat} (hk : Ok H (.mv a b ty n cs)) (ha : H a = .live ty0 c) (hra : ρ a = some (k, κ))
    (hg : g = k ∨ w.heap.size ≤ g) (hl : VL ρ cs cs') (hold : ∀ (i : Nat) (v : Value), i < n → c i = some v → ∃ v', cur[i]? = some v' ∧ V ρ v v') (hnew : ∀ (i : Nat) (v' : Value), cs'[i]? = some v' → cur[n + i]? = some v')
    (hw : w'.heap[g]? = some (.cells cur ty.1 fz)) (hR : ty.2 ≠ ro → fz = (0, 0) ∧ Room ty κ' cur) (hf : Fr (fun i => i = k) w w') :
    Went P ρ H w [.mv a b ty n cs] (Rho.add ρ b g κ') w' := by
  obtain ⟨⟨c0, m0, hq1, ⟨_, _, hq2, hq3⟩, _⟩, hub, _⟩ := hk
  have hnm : ty.2 ≠ mp := by
    rcases hq3 with h | h
    · rw [h]; exact hq2
    · rw [h]; decide
  have hb : ρ b = none := (h.dom b).2 hub
  have hab : a ≠ b := fun e => by rw [e, hub] at ha; cases ha
  have klt := h.lt ha hra
  have ea : app H (.mv a b ty n cs) = (H.set a .dead).set b (.live ty (cellMore c n cs)) := by simp only [app, ha]
  refine ⟨?_, Rho.add_ext hb, hf.mono fun i _ hi => ⟨a, List.mem_cons_self, κ, by rw [hi]; exact hra⟩, ?_⟩
  · show WR P _ (app H (.mv a b ty n cs)) _
    rw [ea]
    have other : ∀ b' t' c', b' ≠ b → ((H.set a .dead).set b (.live ty (cellMore c n cs))) b' = .live t' c' → b' ≠ a ∧ H b' = .live t' c' := by
      intro b' t' c' hne g'
      rw [Hp.set_ne hne] at g'
      by_cases e : b' = a
      · subst e; rw [Hp.set_eq] at g'; cases g'
      · rw [Hp.set_ne e] at g'; exact ⟨e, g'⟩
    have apart : ∀ b' t' c' κ1, b' ≠ b → ((H.set a .dead).set b (.live ty (cellMore c n cs))) b' = .live t' c' → ρ b' = some (g, κ1) → False := by
      intro b' t' c' κ1 hne g' hr
      obtain ⟨hna, g2⟩ := other b' t' c' hne g'
      rcases hg with rfl | hg
      · exact hna (h.inj b' a t' ty0 c' c g κ1 κ g2 ha hr hra)
      · have := h.lt g2 hr; omega
    refine ⟨fun b' => ?_, ?_, ?_, ?_⟩
    · by_cases e : b' = b
      · subst e; rw [Hp.set_eq, Rho.add_eq]; simp
      · rw [Hp.set_ne e, Rho.add_ne e]
        by_cases e2 : b' = a
        · subst e2; rw [Hp.set_eq, hra]; simp
        · rw [Hp.set_ne e2]; exact h.dom b'
    · intro b1 b2 t1 t2 c1 c2 k' κ1 κ2 g1 g2 r1 r2
      by_cases e1 : b1 = b <;> by_cases e2 : b2 = b
      · rw [e1, e2]
      · subst e1
        rw [Rho.add_eq] at r1
        rw [Rho.add_ne e2] at r2
        cases r1
        exact (apart _ _ _ _ e2 g2 r2).elim
      · subst e2
        rw [Rho.add_eq] at r2
        rw [Rho.add_ne e1] at r1
        cases r2
        exact (apart _ _ _ _ e1 g1 r1).elim
      · rw [Rho.add_ne e1] at r1
        rw [Rho.add_ne e2] at r2
        exact h.inj b1 b2 _ _ _ _ k' κ1 κ2 (other _ _ _ e1 g1).2 (other _ _ _ e2 g2).2 r1 r2
    · intro b' t' c' g' hm
      by_cases e : b' = b
      · subst e
        rw [Hp.set_eq] at g'
        cases g'
        exact absurd hm hnm
      · obtain ⟨hna, g2⟩ := other b' t' c' e g'
        obtain ⟨k2, κ2, es, cl, r2, w2, x2⟩ := h.map b' t' c' g2 hm
        have hne : k2 ≠ k := fun e2 => hna (h.inj b' a t' ty0 c' c k2 κ2 κ g2 ha r2 (by rw [e2]; exact hra))
        exact ⟨k2, κ2, es, cl, by rw [Rho.add_ne e]; exact r2, (hf.block k2 (heap_lt w2) hne).trans w2, fun o v ho => by
          obtain ⟨h1, l, h2, h3⟩ := x2 o v ho
          exact ⟨h1, l, h2, h3.more (Rho.add_ext hb)⟩⟩
    · intro b' t' c' g' hm'
      by_cases e : b' = b
      · subst e
        rw [Hp.set_eq] at g'
        cases g'
        refine ⟨g, κ', cur, _, _, Rho.add_eq, hw, fun hro => ⟨rfl, (hR hro).1, (hR hro).2⟩, fun o v ho => ?_⟩
        unfold cellMore at ho
        split at ho
        · rename_i hlt
          obtain ⟨v', y1, y2⟩ := hold o v hlt ho
          exact .inr ⟨v', y1, y2.more (Rho.add_ext hb)⟩
        · rename_i hge
          have hlt : o - n < cs'.length := by rw [← hl.1]; exact (List.getElem?_eq_some_iff.1 ho).1
          refine .inr ⟨cs'[o - n], ?_, (hl.2 (o - n) v _ ho (List.getElem?_eq_getElem hlt)).more (Rho.add_ext hb)⟩
          have := hnew (o - n) _ (List.getElem?_eq_getElem hlt)
          rwa [show n + (o - n) = o by omega] at this
      · obtain ⟨hna, g2⟩ := other b' t' c' e g'
        obtain ⟨k2, κ2, cs2, t2', fz2, r2, w2, R2, x2⟩ := h.blk b' t' c' g2 hm'
        have hne : k2 ≠ k := fun e2 => hna (h.inj b' a t' ty0 c' c k2 κ2 κ g2 ha r2 (by rw [e2]; exact hra))
        refine ⟨k2, κ2, cs2, t2', fz2, by rw [Rho.add_ne e]; exact r2, (hf.block k2 (heap_lt w2) hne).trans w2, R2, fun o v ho => ?_⟩
        rcases x2 o v ho with hl | ⟨v', y1, y2⟩
        · exact .inl hl
        · exact .inr ⟨v', y1, y2.more (Rho.add_ext hb)⟩
  · intro b' k2 κ2 hr
    by_cases e : b' = b
    · subst e
      rw [Rho.add_eq] at hr
      cases hr
      rcases hg with rfl | hg
      · exact .inr (.inr ⟨a, List.mem_cons_self, κ, hra⟩)
      · exact .inr (.inl hg)
    · rw [Rho.add_ne e] at hr; exact .inl hr

theorem heap_setObj {w : World} {g k : Nat} (o : Obj) (h : k ≠ g) : (w.heap.setIfInBounds g o)[k]? = w.heap[k]? := by
  rw [Array.getElem?_setIfInBounds_ne (Ne.symm h)]
/-- What a map holds is written. -/
theorem WR.mwr (h : WR P ρ H w) {b cl k κ cl0 : Nat} {l : List Value} {es es0 : Array MapEntry} (hk : Ok H (.wr b tyOff (mapV cl l))) (hr : ρ b = some (k, κ)) (hh : w.heap[k]? = some (.map es0 cl0)) (hl : VL ρ l (flatM es.toList)) :
    Went P ρ H w [.wr b tyOff (mapV cl l)] ρ { w with heap := w.heap.setIfInBounds k (.map es cl) } := by
  obtain ⟨⟨ty, c, u, e, hc, hro, hmp⟩, _⟩ := hk
  have hm0 : ty.2 = mp := hmp.1 rfl
  have ea : app H (.wr b tyOff (mapV cl l)) = H.set b (.live ty (cellSet c tyOff (mapV cl l))) := by simp only [app, e]
  have klt := heap_lt hh
  refine ⟨?_, fun _ _ h => h, ?_, fun _ _ _ h => .inl h⟩
  · show WR P ρ (app H (.wr b tyOff (mapV cl l))) _
    rw [ea]
    have live : ∀ b' t' c', b' ≠ b → H.set b (.live ty (cellSet c tyOff (mapV cl l))) b' = .live t' c' → H b' = .live t' c' := fun b' t' c' hb g => by rw [Hp.set_ne hb] at g; exact g
    have liv2 : ∀ b' t' c', H.set b (.live ty (cellSet c tyOff (mapV cl l))) b' = .live t' c' → ∃ t'' c'', H b' = .live t'' c'' := by
      intro b' t' c' g
      by_cases hb : b' = b
      · subst hb; exact ⟨ty, c, e⟩
      · exact ⟨_, _, live _ _ _ hb g⟩
    refine ⟨fun b' => ?_, ?_, ?_, ?_⟩
    · by_cases hb : b' = b
      · subst hb; rw [Hp.set_eq, hr]; simp
      · rw [Hp.set_ne hb]; exact h.dom b'
    · intro b1 b2 t1 t2 c1 c2 k' κ1 κ2 g1 g2 r1 r2
      obtain ⟨_, _, q1⟩ := liv2 _ _ _ g1
      obtain ⟨_, _, q2⟩ := liv2 _ _ _ g2
      exact h.inj b1 b2 _ _ _ _ k' κ1 κ2 q1 q2 r1 r2
    · intro b' t' c' g hm
      by_cases hb : b' = b
      · subst hb
        rw [Hp.set_eq] at g
        cases g
        refine ⟨k, κ, es, cl, hr, by simp [klt], fun o v ho => ?_⟩
        unfold cellSet at ho
        split at ho
        · rename_i hio
          cases ho
          exact ⟨hio, l, rfl, hl⟩
        · rename_i hio
          obtain ⟨_, _, _, _, _, _, hx⟩ := h.map _ _ _ e hm0
          exact absurd (hx o v ho).1 hio
      · have g := live _ _ _ hb g
        obtain ⟨k2, κ2, es2, cl2, r2, w2, x2⟩ := h.map b' t' c' g hm
        have hne : k2 ≠ k := fun e2 => hb (h.inj b' b t' ty c' c k2 κ2 κ g e r2 (by rw [e2]; exact hr))
        exact ⟨k2, κ2, es2, cl2, r2, by rw [heap_setObj _ hne]; exact w2, x2⟩
    · intro b' t' c' g hm'
      by_cases hb : b' = b
      · subst hb
        rw [Hp.set_eq] at g
        cases g
        exact absurd hm0 hm'
      · have g := live _ _ _ hb g
        obtain ⟨k2, κ2, cs2, t2', fz2, r2, w2, R2, x2⟩ := h.blk b' t' c' g hm'
        have hne : k2 ≠ k := fun e2 => hb (h.inj b' b t' ty c' c k2 κ2 κ g e r2 (by rw [e2]; exact hr))
        exact ⟨k2, κ2, cs2, t2', fz2, r2, by rw [heap_setObj _ hne]; exact w2, R2, x2⟩
  · refine ⟨rfl, rfl, rfl, by simp, fun i _ hi => ?_⟩
    have hne : i ≠ k := fun e => hi ⟨b, List.mem_cons_self, κ, by rw [e]; exact hr⟩
    exact heap_setObj _ hne
/-- A map is made. -/
theorem WR.mnw (h : WR P ρ H w) {b t : Nat} {v : Value} (hv : v = mapV 0 []) (hk : Ok H (.nw b (t, mp) [v])) :
    Went P ρ H w [.nw b (t, mp) [v]] (Rho.add ρ b w.heap.size 0) (w.alloc (.map #[] 0)) := by
  subst hv
  have hb : ρ b = none := (h.dom b).2 hk.1
  refine ⟨?_, Rho.add_ext hb, (Fr.refl _ w).alloc _, ?_⟩
  · show WR P _ (H.set b (.live (t, mp) (newCell (t, mp) [mapV 0 []]))) _
    refine ⟨fun b' => ?_, ?_, ?_, ?_⟩
    · by_cases e : b' = b
      · subst e; rw [Hp.set_eq, Rho.add_eq]; simp
      · rw [Hp.set_ne e, Rho.add_ne e]; exact h.dom b'
    · intro b1 b2 t1 t2 c1 c2 k' κ1 κ2 g1 g2 r1 r2
      by_cases e1 : b1 = b <;> by_cases e2 : b2 = b
      · rw [e1, e2]
      · subst e1
        rw [Hp.set_ne e2] at g2
        rw [Rho.add_eq] at r1
        rw [Rho.add_ne e2] at r2
        have := h.lt g2 r2
        cases r1; omega
      · subst e2
        rw [Hp.set_ne e1] at g1
        rw [Rho.add_eq] at r2
        rw [Rho.add_ne e1] at r1
        have := h.lt g1 r1
        cases r2; omega
      · rw [Hp.set_ne e1] at g1
        rw [Hp.set_ne e2] at g2
        rw [Rho.add_ne e1] at r1
        rw [Rho.add_ne e2] at r2
        exact h.inj b1 b2 _ _ _ _ k' κ1 κ2 g1 g2 r1 r2
    · intro b' t' c' g hm
      by_cases e : b' = b
      · subst e
        rw [Hp.set_eq] at g
        cases g
        refine ⟨w.heap.size, 0, #[], 0, Rho.add_eq, heap_alloc_new _ _, fun o v ho => ?_⟩
        unfold newCell at ho
        simp only [if_true] at ho
        split at ho
        · rename_i hio
          rw [if_neg (show ¬ mp = 0 by decide)] at ho
          cases ho
          exact ⟨hio, [], rfl, VL.nil⟩
        · cases ho
      · rw [Hp.set_ne e] at g
        obtain ⟨k2, κ2, es, cl, r2, w2, x2⟩ := h.map b' t' c' g hm
        exact ⟨k2, κ2, es, cl, by rw [Rho.add_ne e]; exact r2, by rw [Below.heap_alloc _ _ _ (heap_lt w2)]; exact w2, fun o v ho => by
          obtain ⟨h1, l, h2, h3⟩ := x2 o v ho
          exact ⟨h1, l, h2, h3.more (Rho.add_ext hb)⟩⟩
    · intro b' t' c' g hm'
      by_cases e : b' = b
      · subst e
        rw [Hp.set_eq] at g
        cases g
        exact absurd rfl hm'
      · rw [Hp.set_ne e] at g
        obtain ⟨k2, κ2, cs2, t2', fz2, r2, w2, R2, x2⟩ := h.blk b' t' c' g hm'
        refine ⟨k2, κ2, cs2, t2', fz2, by rw [Rho.add_ne e]; exact r2, by rw [Below.heap_alloc _ _ _ (heap_lt w2)]; exact w2, R2, fun o v ho => ?_⟩
        rcases x2 o v ho with hl | ⟨v', y1, y2⟩
        · exact .inl hl
        · exact .inr ⟨v', y1, y2.more (Rho.add_ext hb)⟩
  · intro b' k κ' hr
    by_cases e : b' = b
    · subst e; rw [Rho.add_eq] at hr; cases hr; exact .inr (.inl (Nat.le_refl _))
    · rw [Rho.add_ne e] at hr; exact .inl hr
end
end Go.Proofs.YtmphiefdoaihhaaGreatDoor

/-
  A run that is reckoned over blocks with names of its own: operations, regions in every order, code, calls: no function of a program is named here.
-/
namespace Go.Proofs.YtmphiefdoaihhaaGreatDoor
open Go.RowKit

/-- What an operation does, said of named blocks. -/
inductive Prog
  | val (v : Value)
  | skip
  | enter (f : FuncId) (args : List Value)
  | fail
  | rd (b o : Nat) (k : Value → Prog)
  | wr (b o : Nat) (v : Value) (k : Prog)
  | nw (ty : TypeId × Nat) (cs : List Value) (k : Nat → Prog)
  | mv (a : Nat) (ty : TypeId × Nat) (n : Nat) (cs : List Value) (k : Nat → Prog)
  | tq (b : Nat) (k : TypeId → Prog)
  | mrd (b : Nat) (k : Nat → List Value → Prog)
  | mwr (b cl : Nat) (l : List Value) (k : Prog)
  | mnw (ty : TypeId) (k : Nat → Prog)
inductive Out
  | val (v : Value)
  | skip
  | enter (f : FuncId) (args : List Value)

inductive PR : Prog → List Ac → Out → Prop
  | val (v : Value) : PR (.val v) [] (.val v)
  | skip : PR .skip [] .skip
  | enter (f : FuncId) (l : List Value) : PR (.enter f l) [] (.enter f l)
  | rd {b o : Nat} {v : Value} {k : Value → Prog} {t : List Ac} {r : Out} (ho : o ≠ tyOff) (h : PR (k v) t r) : PR (.rd b o k) (.rd b o v :: t) r
  | tq {b : Nat} {ty : TypeId} {k : TypeId → Prog} {t : List Ac} {r : Out} (h : PR (k ty) t r) : PR (.tq b k) (.rd b tyOff (tyV ty) :: t) r
  | wr {b o : Nat} {v : Value} {ho : o ≠ tyOff} {k : Prog} {t : List Ac} {r : Out} (h : PR k t r) : PR (.wr b o v k) (.wr b o v :: t) r
  | nw {ty : TypeId × Nat} {hnm : ty.2 ≠ mp} {b : Nat} {cs : List Value} {k : Nat → Prog} {t : List Ac} {r : Out} (h : PR (k b) t r) : PR (.nw ty cs k) (.nw b ty cs :: t) r
  | mv {a b n : Nat} {ty : TypeId × Nat} {cs : List Value} {k : Nat → Prog} {t : List Ac} {r : Out} (h : PR (k b) t r) : PR (.mv a ty n cs k) (.mv a b ty n cs :: t) r
  | mrd {b cl : Nat} {l : List Value} {k : Nat → List Value → Prog} {t : List Ac} {r : Out} (h : PR (k cl l) t r) : PR (.mrd b k) (.rd b tyOff (mapV cl l) :: t) r
  | mwr {b cl : Nat} {l : List Value} {k : Prog} {t : List Ac} {r : Out} (h : PR k t r) : PR (.mwr b cl l k) (.wr b tyOff (mapV cl l) :: t) r
  | mnw {ty : TypeId} {b : Nat} {k : Nat → Prog} {t : List Ac} {r : Out} (h : PR (k b) t r) : PR (.mnw ty k) (.nw b (ty, mp) [mapV 0 []] :: t) r

def NextR (ρ : Rho) : Out → Next → Prop
  | .val v, .value v' => V ρ v v'
  | .skip, .skip => True
  | .enter f l, .enter f' l' => f = f' ∧ VL ρ l l'.toList
  | _, _ => False

def Sim (P : Program) (p : Prog) (s : Sem Next) (ρ : Rho) (w : World) : Prop :=
  ∀ H t r, PR p t r → Valid H t → WR P ρ H w → ∃ n w' ρ', s.run P w = .ok n w' ∧ Went P ρ H w t ρ' w' ∧ NextR ρ' r n

/-- A frame over named blocks, and the frame that runs. -/
structure ER (ρ : Rho) (e a : Act) : Prop where
  size : e.tmps.size = a.tmps.size
  tm : ∀ (i : Nat) (v v' : Value), e.tmps[i]? = some v → a.tmps[i]? = some v' → V ρ v v'
  de : e.defers = []
  da : a.defers = []

def opdOk (ng : Nat) : Operand → Bool
  | .const v => ground v
  | .global g => Nat.blt g ng
  | _ => true
/-- What is known of the names besides, and stays so. -/
class Fx where
  holds : Rho → Prop
  more : ∀ ρ ρ' : Rho, (∀ b x, ρ b = some x → ρ' b = some x) → holds ρ → holds ρ'
structure GL [Fx] (ρ : Rho) (ng : Nat) : Prop where
  gl : ∀ g, g < ng → ∃ κ, ρ g = some (g, κ)
  fx : Fx.holds ρ

theorem V.undef {ρ : Rho} : V ρ undef undef := .tuple [] [] rfl (by simp)
section
variable {P : Program} {ρ ρ' : Rho} {H : Hp} {w w' : World} {e a : Act} {ng : Nat}

theorem ER.more (h : ER ρ e a) (hr : ∀ b x, ρ b = some x → ρ' b = some x) : ER ρ' e a := ⟨h.size, fun i v v' x y => (h.tm i v v' x y).more hr, h.de, h.da⟩
theorem GL.more [Fx] (h : GL ρ ng) (hr : ∀ b x, ρ b = some x → ρ' b = some x) : GL ρ' ng := ⟨fun g hg => by obtain ⟨κ, e⟩ := h.gl g hg; exact ⟨κ, hr _ _ e⟩, Fx.more ρ ρ' hr h.fx⟩
theorem ER.eval [Fx] (h : ER ρ e a) (g : GL ρ ng) {x : Operand} (hx : opdOk ng x = true) : V ρ (e.eval x) (a.eval x) := by
  cases x with
  | tmp t =>
    simp only [Act.eval]
    rcases Nat.lt_or_ge t e.tmps.size with ht | ht
    · have h1 := Array.getElem?_eq_getElem ht
      have h2 := Array.getElem?_eq_getElem (show t < a.tmps.size by rw [← h.size]; exact ht)
      rw [Array.getD_eq_getD_getElem?, Array.getD_eq_getD_getElem?, h1, h2]
      exact h.tm t _ _ h1 h2
    · rw [Array.getD_eq_getD_getElem?, Array.getD_eq_getD_getElem?, Array.getElem?_eq_none ht, Array.getElem?_eq_none (by rw [← h.size]; exact ht)]
      exact V.undef
  | const v => exact V.ground hx
  | global k =>
    obtain ⟨κ, hk⟩ := g.gl k (by simpa [opdOk, Nat.blt_eq] using hx)
    exact .ptr k k κ 0 hk
  | func f => exact .func f [] [] [] [] rfl rfl (by simp) (by simp)
theorem ER.put (h : ER ρ e a) (d : Option Tmp) {v v' : Value} (hv : V ρ v v') : ER ρ (e.put d v) (a.put d v') := by
  cases d with
  | none => exact h
  | some d =>
    refine ⟨by simp [Act.put, h.size], fun i u u' x y => ?_, h.de, h.da⟩
    simp only [Act.put] at x y
    rw [Array.getElem?_setIfInBounds] at x y
    by_cases hi : d = i
    · subst hi
      rw [if_pos rfl] at x y
      split at x
      · cases x
        rw [if_pos (by rw [← h.size]; assumption)] at y
        cases y
        exact hv
      · cases x
    · rw [if_neg hi] at x y
      exact h.tm i u u' x y
theorem V.bool_eq {b : Bool} {v' : Value} (h : V ρ (.bool b) v') : v' = .bool b := by cases h; rfl
theorem ER.yield_eq (h : ER ρ e a) (ops : Array Oper) (j : Nat) : yielded ops a.tmps j = yielded ops e.tmps j := by
  unfold yielded
  cases hd : (ops[j]?).bind (·.dst) with
  | none => rfl
  | some d =>
    simp only [Option.bind_some]
    rcases Nat.lt_or_ge d e.tmps.size with ht | ht
    · have h1 := Array.getElem?_eq_getElem ht
      have h2 := Array.getElem?_eq_getElem (show d < a.tmps.size by rw [← h.size]; exact ht)
      have hv := h.tm d _ _ h1 h2
      rw [h1, h2]
      revert hv
      generalize e.tmps[d]'ht = v
      generalize a.tmps[d]'_ = v'
      intro hv
      cases hv <;> rfl
    · rw [Array.getElem?_eq_none ht, Array.getElem?_eq_none (by rw [← h.size]; exact ht)]
theorem ER.wanted (h : ER ρ e a) (ops : Array Oper) (o : Oper) : Region.wanted o (yielded ops a.tmps) = Region.wanted o (yielded ops e.tmps) := by
  unfold Region.wanted
  cases o.guard with
  | none => rfl
  | some g => obtain ⟨j, b⟩ := g; simp only [h.yield_eq]
end

/-- What an operation does, for all operations: it hangs on its operands alone, and it is what the operation does. -/
structure OpA (P : Program) (ng : Nat) where
  f : Oper → (Operand → Value) → Prog
  congr : ∀ (o : Oper) (ρ ρ' : Operand → Value), (∀ x ∈ o.op.operands, ρ x = ρ' x) → f o ρ = f o ρ'
  sound : ∀ (o : Oper) (e a : Act) (ρ : Rho) (w : World), (∀ x ∈ o.op.operands, V ρ (e.eval x) (a.eval x)) → Sim P (f o e.eval) (execOp a.eval o) ρ w

abbrev CallK := FuncId → List Value → List Ac → Value → Prop

section
variable {P : Program} {ng : Nat} (A : OpA P ng) (K : CallK)

def OpR (o : Oper) (e : Act) (t : List Ac) (v : Value) : Prop :=
  (∀ x ∈ o.op.operands, opdOk ng x = true) ∧ ∃ t1 r, PR (A.f o e.eval) t1 r ∧ match r with
    | .val u => t = t1 ∧ v = u
    | .skip => t = t1 ∧ v = undef
    | .enter f l => ∃ t2, t = t1 ++ t2 ∧ K f l t2 v

def StepR (ops : Array Oper) (i : Nat) (e : Act) (t : List Ac) (v : Value) : Prop :=
  match ops[i]? with
  | none => False
  | some o => if Region.wanted o (yielded ops e.tmps) = true then OpR A K o e t v else t = [] ∧ v = undef

def dstOf (ops : Array Oper) (i : Nat) : Option Tmp := (ops[i]?).bind (·.dst)

/-- A step: which operation, its deeds, its value. -/
structure Stp where
  i : Nat
  t : List Ac
  v : Value
def SeqR (ops : Array Oper) : List Stp → Act → Prop
  | [], _ => True
  | s :: l, e => StepR A K ops s.i e s.t s.v ∧ SeqR ops l (e.put (dstOf ops s.i) s.v)
end
def acts : List Stp → List Ac
  | [] => []
  | s :: l => s.t ++ acts l
def fin (ops : Array Oper) : List Stp → Act → Act
  | [], e => e
  | s :: l, e => fin ops l (e.put (dstOf ops s.i) s.v)
theorem acts_append {l m : List Stp} : acts (l ++ m) = acts l ++ acts m := by
  induction l with
  | nil => rfl
  | cons s l ih => simp [acts, ih]

/-- What calls do is so. -/
def KSound [Fx] (P : Program) (ng : Nat) (K : CallK) : Prop :=
  ∀ f l t v, K f l t v → ∀ ρ H w (l' : Array Value), Valid H t → WR P ρ H w → GL ρ ng → VL ρ l l'.toList →
    Calls P f l' w fun e w' => ∃ v' ρ', e = .returned v' ∧ V ρ' v v' ∧ Went P ρ H w t ρ' w'

section
variable {P : Program} {ng : Nat} {A : OpA P ng} {K : CallK} {Q : Exit → Act → World → Prop}

theorem step_sound [Fx] (hK : KSound P ng K) {ops : Array Oper} {i : Nat} {e a : Act} {t : List Ac} {v : Value} {ρ : Rho} {H : Hp} {w : World} {N : Act → World → Prop}
    (h : StepR A K ops i e t v) (hv : Valid H t) (hw : WR P ρ H w) (he : ER ρ e a) (hg : GL ρ ng)
    (hn : ∀ a' w' ρ', Went P ρ H w t ρ' w' → ER ρ' (e.put (dstOf ops i) v) a' → N a' w') : wpOp P ops Q i N a w := by
  unfold StepR at h
  unfold wpOp
  cases ho : ops[i]? with
  | none => rw [ho] at h; exact h.elim
  | some o =>
    rw [ho] at h
    simp only at h ⊢
    have hd : dstOf ops i = o.dst := by simp [dstOf, ho]
    rw [hd] at hn
    rw [he.wanted]
    by_cases hwt : Region.wanted o (yielded ops e.tmps) = true
    · rw [if_pos hwt] at h ⊢
      obtain ⟨hok, t1, r, hpr, hm⟩ := h
      left
      have hs := A.sound o e a ρ w (fun x hx => he.eval hg (hok x hx)) H t1 r hpr
      unfold Oper.wp
      cases r with
      | val u =>
        obtain ⟨rfl, rfl⟩ := hm
        obtain ⟨n, w', ρ', hrun, hwent, hnx⟩ := hs hv hw
        rw [hrun]
        cases n <;> simp only [NextR] at hnx <;> try exact hnx.elim
        exact hn _ _ ρ' hwent ((he.more hwent.ext).put _ hnx)
      | skip =>
        obtain ⟨rfl, rfl⟩ := hm
        obtain ⟨n, w', ρ', hrun, hwent, hnx⟩ := hs hv hw
        rw [hrun]
        cases n <;> simp only [NextR] at hnx <;> try exact hnx.elim
        exact hn _ _ ρ' hwent ((he.more hwent.ext).put _ V.undef)
      | enter f l =>
        obtain ⟨t2, rfl, hk⟩ := hm
        rw [Valid.append] at hv
        obtain ⟨n, w', ρ', hrun, hwent, hnx⟩ := hs hv.1 hw
        rw [hrun]
        cases n <;> simp only [NextR] at hnx <;> try exact hnx.elim
        rename_i f' l'
        obtain ⟨rfl, hl⟩ := hnx
        rw [Oper.upon_enter]
        refine (hK f l t2 v hk ρ' _ w' l' hv.2 hwent.wr (hg.more hwent.ext) hl).mono ?_
        rintro e' w'' ⟨v', ρ'', rfl, hvv, hwent2⟩
        have hw2 := hwent.trans hwent2
        exact hn _ _ ρ'' hw2 ((he.more hw2.ext).put _ hvv)
    · rw [if_neg hwt] at h ⊢
      obtain ⟨rfl, rfl⟩ := h
      exact hn _ _ ρ (Went.refl hw) (he.put _ V.undef)

/-- A region, operation by operation. -/
theorem seq_sound [Fx] (hK : KSound P ng K) {ops : Array Oper} : ∀ {l : List Stp} {e a : Act} {ρ : Rho} {H : Hp} {w : World}, SeqR A K ops l e → Valid H (acts l) → WR P ρ H w → ER ρ e a → GL ρ ng →
    (∀ a' w' ρ', Went P ρ H w (acts l) ρ' w' → ER ρ' (fin ops l e) a' → Q .normal a' w') → wpOps P ops Q (l.map (·.i)) a w
  | [], e, a, ρ, H, w, _, _, hw, he, _, hq => hq a w ρ (Went.refl hw) he
  | s :: l, e, a, ρ, H, w, hs, hv, hw, he, hg, hq => by
    simp only [acts] at hv hq
    rw [Valid.append] at hv
    rw [List.map_cons, wpOps_cons]
    refine step_sound hK hs.1 hv.1 hw he hg fun a' w' ρ' h1 h2 => ?_
    exact seq_sound hK hs.2 hv.2 h1.wr h2 (hg.more h1.ext) fun a'' w'' ρ'' h3 h4 => hq a'' w'' ρ'' (h1.trans h3) h4

/-- A step that looks at nothing of another's. -/
theorem step_put {ops : Array Oper} {i : Nat} {e : Act} {t : List Ac} {v : Value} {d : Option Tmp} {u : Value} {o : Oper} (ho : ops[i]? = some o) (h : ∀ x, d = some x → x ∉ o.looksAt ops) :
    StepR A K ops i (e.put d u) t v ↔ StepR A K ops i e t v := by
  unfold StepR
  rw [ho]
  simp only [wanted_put o e d u h]
  have hc : A.f o (e.put d u).eval = A.f o e.eval := A.congr o _ _ fun x hx => Act.eval_put fun y hy hxy => h y hy (by
    subst hxy
    exact List.mem_append_left _ (List.mem_filterMap.2 ⟨.tmp y, by simpa using hx, rfl⟩))
  unfold OpR
  rw [hc]

/-- Two steps that have nothing in common. -/
def StpApart (ops : Array Oper) (s u : Stp) : Prop := AllApart s.t u.t ∧ ∃ x y, ops[s.i]? = some x ∧ ops[u.i]? = some y ∧ x.apart ops y = true

theorem seq_swap1 {ops : Array Oper} {s u : Stp} {l : List Stp} {e : Act} (ha : StpApart ops s u) (h : SeqR A K ops (s :: u :: l) e) :
    SeqR A K ops (u :: s :: l) e ∧ fin ops (u :: s :: l) e = fin ops (s :: u :: l) e := by
  obtain ⟨_, x, y, hx, hy, hap⟩ := ha
  obtain ⟨h1, h2, h3⟩ := Oper.apart_spec hap
  obtain ⟨k1, k2, k3⟩ := h
  have dx : dstOf ops s.i = x.dst := by simp [dstOf, hx]
  have dy : dstOf ops u.i = y.dst := by simp [dstOf, hy]
  rw [dx] at k2 k3
  rw [dy] at k3
  rw [step_put hy h1] at k2
  have hc := Act.put_comm e s.v u.v h2
  rw [hc] at k3
  refine ⟨⟨k2, ?_, ?_⟩, ?_⟩
  · rw [dy, step_put hx h3]; exact k1
  · rw [dx, dy]; exact k3
  · simp only [fin]; rw [dx, dy, hc]

theorem bring {ops : Array Oper} {s : Stp} {m : List Stp} : ∀ {l : List Stp} {e : Act} {H : Hp}, (∀ x ∈ l, StpApart ops x s) → SeqR A K ops (l ++ s :: m) e → Valid H (acts (l ++ s :: m)) →
    SeqR A K ops (s :: (l ++ m)) e ∧ fin ops (s :: (l ++ m)) e = fin ops (l ++ s :: m) e ∧ Valid H (acts (s :: (l ++ m))) ∧ apps H (acts (s :: (l ++ m))) = apps H (acts (l ++ s :: m))
  | [], e, H, _, hs, hv => ⟨hs, rfl, hv, rfl⟩
  | x :: l, e, H, ha, hs, hv => by
    have hx := ha x List.mem_cons_self
    obtain ⟨k1, k2⟩ := hs
    have hv2 : Valid H (x.t ++ acts (l ++ s :: m)) := hv
    rw [Valid.append] at hv2
    obtain ⟨q1, q2, q3, q4⟩ := bring (l := l) (H := apps H x.t) (fun y hy => ha y (List.mem_cons_of_mem _ hy)) k2 hv2.2
    obtain ⟨r1, r2⟩ := seq_swap1 (l := l ++ m) hx ⟨k1, q1⟩
    refine ⟨r1, ?_, ?_, ?_⟩
    · show fin ops (s :: x :: (l ++ m)) e = _
      rw [r2]
      show fin ops (s :: (l ++ m)) _ = _
      rw [q2]
      rfl
    · show Valid H (s.t ++ (x.t ++ acts (l ++ m)))
      have : Valid H (x.t ++ (s.t ++ acts (l ++ m))) := Valid.append.2 ⟨hv2.1, q3⟩
      rw [← List.append_assoc, Valid.append] at this ⊢
      obtain ⟨sw1, sw2⟩ := swap hx.1 this.1
      exact ⟨sw1, by rw [← sw2]; exact this.2⟩
    · show apps H (s.t ++ (x.t ++ acts (l ++ m))) = apps H (x.t ++ acts (l ++ s :: m))
      have : Valid H (x.t ++ (s.t ++ acts (l ++ m))) := Valid.append.2 ⟨hv2.1, q3⟩
      rw [← List.append_assoc, Valid.append] at this
      obtain ⟨sw1, sw2⟩ := swap hx.1 this.1
      rw [apps_append (t := x.t), ← q4]
      simp only [acts]
      rw [← apps_append, ← List.append_assoc, ← List.append_assoc, apps_append, apps_append (t := x.t ++ s.t), sw2]

/-- One operation stands ahead of another by the edges. -/
inductive Anc (ops : Array Oper) : Nat → Nat → Prop
  | edge {i j : Nat} {o : Oper} {g : Edge} (ho : ops[j]? = some o) (hg : g ∈ o.after) (hb : Region.binds .any g = true) (he : g.on = i) : Anc ops i j
  | more {i k j : Nat} (h1 : Anc ops i k) (h2 : Anc ops k j) : Anc ops i j

/-- Steps of which each two are in order, or have nothing in common. -/
def PairsOk (ops : Array Oper) : List Stp → Prop
  | [] => True
  | s :: l => (∀ u ∈ l, Anc ops s.i u.i ∨ StpApart ops s u) ∧ PairsOk ops l
theorem PairsOk.drop {ops : Array Oper} {s : Stp} {m : List Stp} : ∀ {l : List Stp}, PairsOk ops (l ++ s :: m) → (∀ x ∈ l, Anc ops x.i s.i ∨ StpApart ops x s) ∧ PairsOk ops (l ++ m)
  | [], h => ⟨by simp, h.2⟩
  | x :: l, h => by
    obtain ⟨h1, h2⟩ := h
    obtain ⟨k1, k2⟩ := PairsOk.drop h2
    refine ⟨fun y hy => ?_, fun u hu => h1 u ?_, k2⟩
    · rcases List.mem_cons.1 hy with rfl | hy
      · exact h1 s (by simp)
      · exact k1 y hy
    · rcases List.mem_append.1 hu with hu | hu
      · exact List.mem_append_left _ hu
      · exact List.mem_append_right _ (List.mem_cons_of_mem _ hu)

/-- Edges lead back. -/
def Backs (ops : Array Oper) : Prop := ∀ (j : Nat) (o : Oper) (g : Edge), ops[j]? = some o → g ∈ o.after → Region.binds .any g = true → g.on < j

theorem anc_listed {ops : Array Oper} {listed : Array Bool} (hc : ∀ (j : Nat) (o : Oper) (g : Edge), ops[j]? = some o → listed.getD j true = true → g ∈ o.after → Region.binds .any g = true → listed.getD g.on true = true) {i j : Nat}
    (h : Anc ops i j) (hj : ∀ (o : Oper) (g : Edge), ops[j]? = some o → g ∈ o.after → Region.binds .any g = true → listed.getD g.on true = true) : listed.getD i true = true := by
  induction h with
  | edge ho hg hb he => rw [← he]; exact hj _ _ ho hg hb
  | more _ _ ih1 ih2 => exact ih1 fun o g ho hg hb => hc _ o g ho (ih2 hj) hg hb

theorem Went.congr {ρ ρ' : Rho} {H : Hp} {w w' : World} {t u : List Ac} (h : Went P ρ H w t ρ' w') (h1 : apps H t = apps H u) (h2 : ∀ b, b ∈ wrote t → b ∈ wrote u) : Went P ρ H w u ρ' w' :=
  ⟨by rw [← h1]; exact h.wr, h.ext, h.fr.mono fun i _ ⟨b, hb, κ, hr⟩ => ⟨b, h2 b hb, κ, hr⟩, fun b k κ hb => by
    rcases h.new b k κ hb with h3 | h3 | ⟨a, ha, κ', h3⟩
    · exact .inl h3
    · exact .inr (.inl h3)
    · exact .inr (.inr ⟨a, h2 a ha, κ', h3⟩)⟩

theorem getD_flip {listed : Array Bool} {j : Nat} (hj : j < listed.size) : listed.getD j false = listed.getD j true := by
  rw [Array.getD_eq_getD_getElem?, Array.getD_eq_getD_getElem?, Array.getElem?_eq_getElem hj]; rfl

theorem any_sound [Fx] (hK : KSound P ng K) {ops : Array Oper} (hB : Backs ops) : ∀ (fuel : Nat) (l : List Stp) (listed : Array Bool) (e a : Act) (ρ : Rho) (H : Hp) (w : World), l.length ≤ fuel → listed.size = ops.size →
    (∀ j, j < ops.size → (listed.getD j true = false ↔ j ∈ l.map (·.i))) → (l.map (·.i)).Pairwise (· < ·) →
    (∀ (j : Nat) (o : Oper) (g : Edge), ops[j]? = some o → listed.getD j true = true → g ∈ o.after → Region.binds .any g = true → listed.getD g.on true = true) →
    PairsOk ops l → SeqR A K ops l e → Valid H (acts l) → WR P ρ H w → ER ρ e a → GL ρ ng →
    (∀ a' w' ρ', Went P ρ H w (acts l) ρ' w' → ER ρ' (fin ops l e) a' → Q .normal a' w') →
    wpAny P .any ops Q fuel listed a w := by
  intro fuel
  induction fuel with
  | zero =>
    intro l listed e a ρ H w hl hsz hmem _ _ _ _ _ hw he _ hq
    obtain rfl : l = [] := List.eq_nil_of_length_eq_zero (by omega)
    refine ⟨List.eq_nil_iff_forall_not_mem.2 fun j hj => ?_, hq a w ρ (Went.refl hw) he⟩
    obtain ⟨h0, o, ho, _⟩ := mem_ready.1 hj
    have := (hmem j (Array.getElem?_eq_some_iff.1 ho).1).1 h0
    simp at this
  | succ fuel ih =>
    intro l listed e a ρ H w hl hsz hmem hsort hclos hpair hseq hval hw he hg hq
    refine ⟨fun hr => ?_, fun i hi => ?_⟩
    · cases l with
      | nil => exact hq a w ρ (Went.refl hw) he
      | cons s l =>
        exfalso
        have hs := hseq.1
        unfold StepR at hs
        cases ho : ops[s.i]? with
        | none => rw [ho] at hs; exact hs
        | some o =>
          have hlt := (Array.getElem?_eq_some_iff.1 ho).1
          have : s.i ∈ Region.ready .any ops listed := by
            refine mem_ready.2 ⟨(hmem s.i hlt).2 (by simp), o, ho, fun g hge hb => ?_⟩
            have hlt2 := hB s.i o g ho hge hb
            rw [getD_flip (by omega)]
            cases hgt : listed.getD g.on true with
            | true => rfl
            | false =>
              exfalso
              have hm := (hmem g.on (by omega)).1 hgt
              rw [List.map_cons] at hm hsort
              rcases List.mem_cons.1 hm with h1 | h1
              · omega
              · have := (List.pairwise_cons.1 hsort).1 _ h1
                omega
          rw [hr] at this
          cases this
    · obtain ⟨hun, o, ho, hall⟩ := mem_ready.1 hi
      have hlt := (Array.getElem?_eq_some_iff.1 ho).1
      have him := (hmem i hlt).1 hun
      obtain ⟨s, hsl, rfl⟩ := List.mem_map.1 him
      obtain ⟨l1, l2, rfl⟩ := List.append_of_mem hsl
      obtain ⟨hp1, hp2⟩ := PairsOk.drop hpair
      have hpre : ∀ (o' : Oper) (g : Edge), ops[s.i]? = some o' → g ∈ o'.after → Region.binds .any g = true → listed.getD g.on true = true := by
        intro o' g ho' hge hb
        rw [ho] at ho'; cases ho'
        have := hall g hge hb
        have hlt2 := hB s.i o g ho hge hb
        rwa [getD_flip (by omega)] at this
      have hap : ∀ x ∈ l1, StpApart ops x s := by
        intro x hx
        rcases hp1 x hx with h1 | h1
        · exfalso
          have h2 := anc_listed hclos h1 hpre
          have hxl : x.i < ops.size := by
            rcases Nat.lt_or_ge x.i ops.size with h3 | h3
            · exact h3
            · exfalso
              have : x.i < s.i := by
                have hs2 := hsort
                rw [List.map_append, List.map_cons, List.pairwise_append] at hs2
                exact hs2.2.2 x.i (List.mem_map.2 ⟨x, hx, rfl⟩) s.i (by simp)
              omega
          have h3 := (hmem x.i hxl).2 (List.mem_map.2 ⟨x, by simp [hx], rfl⟩)
          rw [h2] at h3
          cases h3
        · exact h1
      obtain ⟨b1, b2, b3, b4⟩ := bring hap hseq hval
      have hv3 : Valid H (s.t ++ acts (l1 ++ l2)) := b3
      rw [Valid.append] at hv3
      have hni : s.i ∉ (l1 ++ l2).map (·.i) := by
        intro hm
        have hs2 := hsort
        rw [List.map_append, List.map_cons, List.pairwise_append] at hs2
        rw [List.map_append] at hm
        rcases List.mem_append.1 hm with h1 | h1
        · have := hs2.2.2 s.i h1 s.i (by simp); omega
        · have := (List.pairwise_cons.1 hs2.2.1).1 s.i h1; omega
      refine step_sound hK b1.1 hv3.1 hw he hg fun a' w' ρ' h1 h2 => ?_
      refine ih (l1 ++ l2) _ _ a' ρ' _ w' (by simp at hl ⊢; omega) (by simpa using hsz) (fun j hj => ?_) (hsort.sublist (by simp [List.map_append])) (fun j o' g ho' hj hge hb => ?_) hp2 b1.2 hv3.2 h1.wr h2 (hg.more h1.ext) fun a'' w'' ρ'' h3 h4 => ?_
      · by_cases hjs : s.i = j
        · subst hjs
          have : (listed.setIfInBounds s.i true).getD s.i true = true := by
            rw [Array.getD_eq_getD_getElem?, Array.getElem?_setIfInBounds, if_pos rfl, if_pos (by omega)]; rfl
          rw [this]
          exact ⟨fun h => (by cases h), fun h => absurd h hni⟩
        · rw [getD_set_ne true hjs, hmem j hj]
          simp only [List.map_append, List.map_cons, List.mem_append, List.mem_cons]
          constructor
          · rintro (h | h | h)
            · exact .inl h
            · exact absurd h.symm hjs
            · exact .inr h
          · rintro (h | h)
            · exact .inl h
            · exact .inr (.inr h)
      · have keep : ∀ k, listed.getD k true = true → (listed.setIfInBounds s.i true).getD k true = true := by
          intro k hk
          by_cases hks : s.i = k
          · subst hks
            rw [Array.getD_eq_getD_getElem?, Array.getElem?_setIfInBounds, if_pos rfl, if_pos (by omega)]; rfl
          · rw [getD_set_ne true hks]; exact hk
        by_cases hjs : s.i = j
        · subst hjs; exact keep _ (hpre o' g ho' hge hb)
        · rw [getD_set_ne true hjs] at hj
          exact keep _ (hclos j o' g ho' hj hge hb)
      · refine hq a'' w'' ρ'' ((h1.trans h3).congr b4 fun b hb => ?_) (by rw [← b2]; exact h4)
        rw [acts_append]
        rw [acts_append] at hb
        simp only [acts, wrote_append, List.mem_append] at hb ⊢
        rcases hb with h5 | h5 | h5
        · exact .inr (.inl h5)
        · exact .inl h5
        · exact .inr (.inr h5)
end
end Go.Proofs.YtmphiefdoaihhaaGreatDoor

/-
  A run that is reckoned over blocks with names of its own: code and calls: no function of a program is named here.
-/
namespace Go.Proofs.YtmphiefdoaihhaaGreatDoor
open Go.RowKit

/-- n cells are read. -/
def rdN (b : Nat) : Nat → Nat → List Value → (List Value → Prog) → Prog
  | 0, _, acc, k => k acc.reverse
  | n + 1, o, acc, k => .rd b o fun v => rdN b n (o + 1) (v :: acc) k
def loadP (P : Program) (t : TypeId) (v : Value) (k : Value → Prog) : Prog :=
  match v with
  | .pointer (some ⟨b, o, none⟩) =>
    match P.underlying t with
    | some d => if d.isRow then (match P.info? t with | some i => rdN b i.size o [] fun l => k (.agg ⟨l⟩) | none => .fail) else .rd b o k
    | none => .fail
  | _ => .fail

section
variable {P : Program} {ρ : Rho} {H : Hp} {w : World}
theorem rdN_sound {b c κ : Nat} (hr : ρ b = some (c, κ)) (hw : WR P ρ H w) {k : List Value → Prog} {r : Out} : ∀ {n o : Nat} {acc : List Value} {t : List Ac}, PR (rdN b n o acc k) t r → Valid H t →
    ∃ us us' t1 t2, t = t1 ++ t2 ∧ us.length = n ∧ PR (k (acc.reverse ++ us)) t2 r ∧ VL ρ us us' ∧ w.rangeAt c o us' ∧ apps H t1 = H ∧ wrote t1 = [] ∧ Valid H t2
  | 0, o, acc, t, h, hv => ⟨[], [], [], t, rfl, rfl, by simpa [rdN] using h, VL.nil, fun j v hj => by simp at hj, rfl, rfl, hv⟩
  | n + 1, o, acc, t, h, hv => by
    cases h with
    | rd ho h =>
      rename_i v t
      obtain ⟨h1, h2⟩ := hv
      obtain ⟨c', κ', v', e1, e2, e3⟩ := hw.rd ho h1
      rw [hr] at e1; cases e1
      obtain ⟨us, us', t1, t2, rfl, q1, q2, q3, q4, q5, q6, q7⟩ := rdN_sound hr hw h h2
      refine ⟨v :: us, v' :: us', .rd b o v :: t1, t2, rfl, by simp [q1], by simpa using q2, VL.cons e3 q3, fun j u hj => ?_, q5, q6, q7⟩
      cases j with
      | zero => simp at hj; subst hj; exact e2
      | succ j =>
        simp only [List.getElem?_cons_succ] at hj
        have := q4 j u hj
        rwa [show o + (j + 1) = o + 1 + j by omega]

theorem loadP_sound (hw : WR P ρ H w) {ty : TypeId} {v v' : Value} {k : Value → Prog} {r : Out} {t : List Ac} (hvv : V ρ v v') (h : PR (loadP P ty v k) t r) (hv : Valid H t) :
    ∃ c o u u' t1 t2, v' = .pointer (some ⟨c, o, none⟩) ∧ t = t1 ++ t2 ∧ PR (k u) t2 r ∧ V ρ u u' ∧ (loadVar ty ⟨c, o, none⟩).run P w = .ok u' w ∧ apps H t1 = H ∧ wrote t1 = [] ∧ Valid H t2 := by
  unfold loadP at h
  split at h
  · rename_i b o
    cases hvv with
    | ptr _ c κ _ hr =>
      cases hd : P.underlying ty with
      | none => rw [hd] at h; cases h
      | some d =>
        rw [hd] at h
        simp only at h
        by_cases hrow : d.isRow = true
        · rw [if_pos hrow] at h
          cases hi : P.info? ty with
          | none => rw [hi] at h; cases h
          | some i =>
            rw [hi] at h
            obtain ⟨us, us', t1, t2, rfl, q1, q2, q3, q4, q5, q6, q7⟩ := rdN_sound hr hw h hv
            refine ⟨c, o, .agg ⟨us⟩, .agg ⟨us'⟩, t1, t2, rfl, rfl, by simpa using q2, .agg _ _ q3.1 q3.2, ?_, q5, q6, q7⟩
            exact run_loadVar_mid w c o ty us' d q4 hd hrow (by rw [hi]; simp [← q1, q3.1])
        · rw [if_neg hrow] at h
          cases h with
          | rd ho h =>
            rename_i u t2
            obtain ⟨h1, h2⟩ := hv
            obtain ⟨c', κ', u', e1, e2, e3⟩ := hw.rd ho h1
            rw [hr] at e1; cases e1
            refine ⟨c, o, u, u', [.rd b o u], t2, rfl, rfl, h, e3, ?_, rfl, rfl, h2⟩
            have hagg : (isAgg ty).run P w = .ok false w := by
              unfold isAgg
              rw [Sem.run_bind, run_underlying hd w]
              cases d <;> simp_all
            simp only [loadVar, Sem.run_bind, hagg, Result.andThen_ok]
            simp [load, Sem.run, e2]
  · cases h
end

/-- The results of a function. -/
def resP (P : Program) (tm : Tmp → Value) : List ResultVar → List Value → (List Value → Prog) → Prog
  | [], acc, k => k acc.reverse
  | .tmp t :: l, acc, k => resP P tm l (tm t :: acc) k
  | .cell a t :: l, acc, k => loadP P t (tm a) fun v => resP P tm l (v :: acc) k
def packed (l : List Value) : Value := match l with
  | [v] => v
  | l => .tuple ⟨l⟩

section
variable {P : Program} {ng : Nat} (A : OpA P ng) (K : CallK)

inductive CodeR : Code → Act → List Ac → Exit → Act → Prop
  | skip (e : Act) : CodeR .skip e [] .normal e
  | label (l : Nat) (e : Act) : CodeR (.label l) e [] .normal e
  | ret (e : Act) : CodeR .ret e [] .ret e
  | exit (id : Nat) (e : Act) : CodeR (.exit id) e [] (.exit id) e
  | seq {x y : Code} {e e1 e2 : Act} {t u : List Ac} {ex : Exit} (h1 : CodeR x e t .normal e1) (h2 : CodeR y e1 u ex e2) : CodeR (.seq x y) e (t ++ u) ex e2
  | seqx {x y : Code} {e e1 : Act} {t : List Ac} {ex : Exit} (h : CodeR x e t ex e1) (hx : ex ≠ .normal) : CodeR (.seq x y) e t ex e1
  | cond {c : Operand} {x y : Code} {e e1 : Act} {t : List Ac} {ex : Exit} {b : Bool} (ho : opdOk ng c = true) (hc : e.eval c = .bool b) (h : CodeR (if b then x else y) e t ex e1) : CodeR (.cond c x y) e t ex e1
  | hit {id : Nat} {c : Code} {e e1 : Act} {t : List Ac} (h : CodeR c e t (.exit id) e1) : CodeR (.block id c) e t .normal e1
  | block {id : Nat} {c : Code} {e e1 : Act} {t : List Ac} {ex : Exit} (h : CodeR c e t ex e1) (hx : ex ≠ .exit id) : CodeR (.block id c) e t ex e1
  | loop {c : Code} {e e1 e2 : Act} {t u : List Ac} {ex : Exit} (h1 : CodeR c e t .normal e1) (h2 : CodeR (.loop c) e1 u ex e2) : CodeR (.loop c) e (t ++ u) ex e2
  | loopx {c : Code} {e e1 : Act} {t : List Ac} {ex : Exit} (h : CodeR c e t ex e1) (hx : ex ≠ .normal) : CodeR (.loop c) e t ex e1
  | reg {id : Nat} {ops : Array Oper} {e : Act} {l : List Stp} (hl : l.map (·.i) = List.range ops.size) (h : SeqR A K ops l e) : CodeR (.region id ops false) e (acts l) .normal (fin ops l e)
  | regd {id : Nat} {ops : Array Oper} {e : Act} {l : List Stp} (hl : l.map (·.i) = List.range ops.size) (hb : Backs ops) (hp : PairsOk ops l) (h : SeqR A K ops l e) : CodeR (.region id ops true) e (acts l) .normal (fin ops l e)

/-- From every memory that holds what is said, R holds. -/
def Good [Fx] (P : Program) (ng : Nat) (e : Act) (t : List Ac) (x : Exit) (e1 : Act) (R : (Exit → Act → World → Prop) → Act → World → Prop) : Prop :=
  ∀ (Q : Exit → Act → World → Prop) (a : Act) (ρ : Rho) (H : Hp) (w : World), Valid H t → WR P ρ H w → ER ρ e a → GL ρ ng →
    (∀ a' w' ρ', Went P ρ H w t ρ' w' → ER ρ' e1 a' → Q x a' w') → R Q a w
def Concl [Fx] (P : Program) (ng : Nat) (e : Act) (t : List Ac) (x : Exit) (e1 : Act) : Code → Prop
  | .loop c => ∃ n, Good P ng e t x e1 fun Q a w => Code.rounds P c Q n a w
  | c => Good P ng e t x e1 fun Q a w => c.wp P Q a w
end
theorem Concl.wp [Fx] {P : Program} {ng : Nat} {e e1 : Act} {t : List Ac} {x : Exit} {c : Code} (h : Concl P ng e t x e1 c) : Good P ng e t x e1 fun Q a w => c.wp P Q a w := by
  cases c
  case loop c => obtain ⟨n, h⟩ := h; exact fun Q a ρ H w h1 h2 h3 h4 h5 => wp_loop_rounds n (h Q a ρ H w h1 h2 h3 h4 h5)
  all_goals exact h

section
variable {P : Program} {ng : Nat} {A : OpA P ng} {K : CallK}

theorem Went.tape {ρ ρ' : Rho} {H : Hp} {w w' : World} {t : List Ac} {n : Nat} (h : Went P ρ H { w with drawn := n } t ρ' w') : Went P ρ H w t ρ' w' :=
  ⟨h.wr, h.ext, ⟨h.fr.os, h.fr.tape, h.fr.output, h.fr.size, h.fr.block⟩, h.new⟩

theorem code_sound [Fx] (hm : P.follows .mixedOrders = true) (hK : KSound P ng K) {c : Code} {e e1 : Act} {t : List Ac} {x : Exit} (h : CodeR A K c e t x e1) : Concl P ng e t x e1 c := by
  induction h with
  | skip e => intro Q a ρ H w _ hw he _ hq; exact wp_skip (hq a w ρ (Went.refl hw) he)
  | label l e => intro Q a ρ H w _ hw he _ hq; exact wp_label (hq a w ρ (Went.refl hw) he)
  | ret e => intro Q a ρ H w _ hw he _ hq; exact wp_ret (hq a w ρ (Went.refl hw) he)
  | exit id e => intro Q a ρ H w _ hw he _ hq; exact wp_exit (hq a w ρ (Went.refl hw) he)
  | seq _ _ ih1 ih2 =>
    intro Q a ρ H w hv hw he hg hq
    rw [Valid.append] at hv
    refine wp_seq (ih1.wp _ a ρ H w hv.1 hw he hg fun a' w' ρ' h1 h2 => ?_)
    exact (ih2.wp Q a' ρ' _ w' hv.2 h1.wr h2 (hg.more h1.ext) fun a'' w'' ρ'' h3 h4 => hq a'' w'' ρ'' (h1.trans h3) h4)
  | seqx _ hx ih =>
    intro Q a ρ H w hv hw he hg hq
    refine wp_seq (ih.wp _ a ρ H w hv hw he hg fun a' w' ρ' h1 h2 => ?_)
    have := hq a' w' ρ' h1 h2
    rename_i ex _
    cases ex <;> first | exact absurd rfl hx | exact this
  | cond ho hc _ ih =>
    intro Q a ρ H w hv hw he hg hq
    have hcv := he.eval hg ho
    rw [hc] at hcv
    exact wp_cond hcv.bool_eq (ih.wp Q a ρ H w hv hw he hg hq)
  | hit _ ih =>
    intro Q a ρ H w hv hw he hg hq
    refine wp_block (ih.wp _ a ρ H w hv hw he hg fun a' w' ρ' h1 h2 => ?_)
    simp only [Exit.inBlock, if_true]
    exact hq a' w' ρ' h1 h2
  | block _ hx ih =>
    intro Q a ρ H w hv hw he hg hq
    refine wp_block (ih.wp _ a ρ H w hv hw he hg fun a' w' ρ' h1 h2 => ?_)
    have := hq a' w' ρ' h1 h2
    rename_i id _ _ _ _ ex _
    cases ex with
    | exit i => simp only [Exit.inBlock]; rw [if_neg (fun h => hx (by rw [h]))]; exact this
    | _ => exact this
  | loop _ _ ih1 ih2 =>
    obtain ⟨n, hn⟩ := ih2
    refine ⟨n + 1, ?_⟩
    intro Q a ρ H w hv hw he hg hq
    rw [Valid.append] at hv
    rw [rounds_succ]
    refine ih1.wp _ a ρ H w hv.1 hw he hg fun a' w' ρ' h1 h2 => ?_
    exact hn Q a' ρ' _ w' hv.2 h1.wr h2 (hg.more h1.ext) fun a'' w'' ρ'' h3 h4 => hq a'' w'' ρ'' (h1.trans h3) h4
  | loopx _ hx ih =>
    refine ⟨1, ?_⟩
    intro Q a ρ H w hv hw he hg hq
    rw [rounds_succ]
    refine (ih.wp _ a ρ H w hv hw he hg fun a' w' ρ' h1 h2 => ?_)
    have := hq a' w' ρ' h1 h2
    rename_i ex _
    cases ex <;> first | exact absurd rfl hx | exact this
  | reg hl h =>
    intro Q a ρ H w hv hw he hg hq
    refine wp_region ?_
    rw [← hl]
    exact seq_sound hK h hv hw he hg hq
  | regd hl hb hp h =>
    intro Q a ρ H w hv hw he hg hq
    refine wp_region_any hm ?_
    rename_i id ops e l
    have hlen : l.length = ops.size := by have := congrArg List.length hl; simpa using this
    refine any_sound hK hb ops.size l (Array.replicate ops.size false) e a ρ H { w with drawn := w.drawn + 1 } (by omega) (by simp) (fun j hj => ?_) (by rw [hl]; exact List.pairwise_lt_range) (fun j o g ho hj => ?_) hp h hv hw.of_tape he hg
      fun a' w' ρ' h1 h2 => hq a' w' ρ' h1.tape h2
    · rw [hl, List.mem_range]
      simp [hj]
    · exfalso
      have := (Array.getElem?_eq_some_iff.1 ho).1
      simp [this] at hj

/-- A call: its frame, its code, its results. -/
def CallR (A : OpA P ng) : Nat → CallK
  | 0 => fun _ _ _ _ => False
  | n + 1 => fun f l t v => ∃ fn c x t1 t2 e1, P.funcs[f]? = some fn ∧ fn.body = some c ∧ CodeR A (CallR A n) c { tmps := ⟨l⟩ ++ Array.replicate (fn.ntmps - l.length) undef, defers := [] } t1 x e1 ∧
      (x = .normal ∨ x = .ret) ∧ PR (resP P (fun t => e1.tmps.getD t undef) fn.results.toList [] fun l => .val (packed l)) t2 (.val v) ∧ t = t1 ++ t2

theorem ER.getD {ρ : Rho} {e a : Act} (h : ER ρ e a) (t : Tmp) : V ρ (e.tmps.getD t undef) (a.tmps.getD t undef) := by
  letI : Fx := ⟨fun _ => True, fun _ _ _ _ => trivial⟩
  have := h.eval (ng := 0) ⟨fun g hg => absurd hg (Nat.not_lt_zero _), trivial⟩ (x := .tmp t) rfl
  exact this

def resM (a : Act) : ResultVar → Sem Value
  | .tmp t => pure (a.tmps.getD t undef)
  | .cell x t => do loadVar t (← asAddr (a.tmps.getD x undef))
theorem resP_sound {ρ : Rho} {H : Hp} {w : World} {e a : Act} (hw : WR P ρ H w) (he : ER ρ e a) {k : List Value → Prog} {r : Out} : ∀ {l : List ResultVar} {acc : List Value} {t : List Ac}, PR (resP P (fun t => e.tmps.getD t undef) l acc k) t r → Valid H t →
    ∃ us us' t1 t2, t = t1 ++ t2 ∧ PR (k (acc.reverse ++ us)) t2 r ∧ VL ρ us us' ∧ (l.mapM (resM a)).run P w = .ok us' w ∧ apps H t1 = H ∧ wrote t1 = [] ∧ Valid H t2
  | [], acc, t, h, hv => ⟨[], [], [], t, rfl, by simpa [resP] using h, VL.nil, by simp, rfl, rfl, hv⟩
  | .tmp x :: l, acc, t, h, hv => by
    obtain ⟨us, us', t1, t2, rfl, q1, q2, q3, q4, q5, q6⟩ := resP_sound hw he (l := l) h hv
    exact ⟨_ :: us, _ :: us', t1, t2, rfl, by simpa using q1, VL.cons (he.getD x) q2, by simp only [List.mapM_cons, resM, Sem.run_bind, Sem.run_pure, Result.andThen_ok, q3], q4, q5, q6⟩
  | .cell x ty :: l, acc, t, h, hv => by
    obtain ⟨c, o, u, u', s1, s2, p1, rfl, p3, p4, p5, p6, p7, p8⟩ := loadP_sound hw (he.getD x) h hv
    obtain ⟨us, us', t1, t2, rfl, q1, q2, q3, q4, q5, q6⟩ := resP_sound hw he (l := l) p3 p8
    refine ⟨u :: us, u' :: us', s1 ++ t1, t2, by simp, by simpa using q1, VL.cons p4 q2, ?_, by rw [apps_append, p6, q4], by rw [wrote_append, p7, q5]; rfl, q6⟩
    simp only [List.mapM_cons, resM, Sem.run_bind, Sem.run_pure, Result.andThen_ok, p1, asAddr, p5, q3]

theorem call_sound [Fx] (hm : P.follows .mixedOrders = true) (A : OpA P ng) : ∀ n, KSound P ng (CallR A n)
  | 0 => fun f l t v h => h.elim
  | n + 1 => by
    intro f l t v h ρ H w l' hv hw hg hl
    obtain ⟨fn, c, x, t1, t2, e1, hf, hb, hc, hx, hr, rfl⟩ := h
    rw [Valid.append] at hv
    have he : ER ρ { tmps := ⟨l⟩ ++ Array.replicate (fn.ntmps - l.length) undef, defers := [] } { tmps := l' ++ Array.replicate (fn.ntmps - l'.size) undef, defers := [] } := by
      have hs : l.length = l'.size := by rw [hl.1]; simp
      refine ⟨by simp [hs], fun i v v' a b => ?_, rfl, rfl⟩
      have hl2 : VL ρ (l ++ List.replicate (fn.ntmps - l.length) undef) (l'.toList ++ List.replicate (fn.ntmps - l.length) undef) := hl.append ⟨rfl, fun i v v' a b => by
        rw [a] at b; cases b
        have := List.mem_of_getElem? a
        rw [List.eq_of_mem_replicate this]; exact V.undef⟩
      refine hl2.2 i v v' ?_ ?_
      · rw [← a]; simp [← Array.getElem?_toList]
      · rw [← b]; simp [← Array.getElem?_toList, hs]
    refine calls_of_wp hf hb ((code_sound hm (call_sound hm A n) hc).wp _ _ ρ H w hv.1 hw he hg fun a' w' ρ' h1 h2 => ?_)
    obtain ⟨us, us', s1, s2, rfl, q1, q2, q3, q4, q5, q6⟩ := resP_sound h1.wr h2 hr hv.2
    cases q1
    have hres : (results fn a'.tmps).run P w' = .ok (packed us') w' := by
      have e : results fn a'.tmps = (do
          let vs ← fn.results.mapM (resM a')
          pure (if h : vs.size = 1 then vs[0] else .tuple vs)) := by
        unfold results
        congr 1
      rw [e, Array.mapM_eq_mapM_toList, map_eq_pure_bind]
      simp only [Sem.run_bind, Sem.run_pure, Result.andThen_ok, q3]
      unfold packed
      cases us' with
      | nil => rfl
      | cons x r => cases r <;> simp
    have hR : ∃ v' ρ'', (Ending.returned (packed us')) = .returned v' ∧ V ρ'' (packed ([].reverse ++ us)) v' ∧ Went P ρ H w (t1 ++ (s1 ++ [])) ρ'' w' := by
      refine ⟨_, ρ', rfl, ?_, ?_⟩
      · have q : VL ρ' us us' := q2
        unfold packed
        cases us with
        | nil => rw [q.cases_nil]; exact .tuple [] [] rfl (by simp)
        | cons x r =>
          obtain ⟨x', r', rfl, qx, qr⟩ := q.cases_cons
          cases r with
          | nil => rw [qr.cases_nil]; exact qx
          | cons y r =>
            obtain ⟨y', r'', rfl, qy, qs⟩ := qr.cases_cons
            exact .tuple _ _ q.1 q.2
      · refine h1.congr ?_ ?_
        · rw [apps_append, apps_append, q4]; rfl
        · intro b hb; rw [wrote_append]; exact List.mem_append_left _ hb
    rcases hx with rfl | rfl
    · exact ⟨h2.da, _, hres, hR⟩
    · exact ⟨h2.da, _, hres, hR⟩
end
end Go.Proofs.YtmphiefdoaihhaaGreatDoor

/-
  A run that is reckoned over blocks with names of its own: what single operations do: no function of a program is named here.
-/
namespace Go.Proofs.YtmphiefdoaihhaaGreatDoor
open Go.RowKit

/-- A computation that looks at the program alone. -/
def pureRun {α : Type} (P : Program) : Sem α → Option α
  | .pure a => some a
  | .program k => pureRun P (k P)
  | _ => none
theorem pureRun_run {α : Type} {P : Program} : ∀ {s : Sem α} {a : α}, pureRun P s = some a → ∀ w, s.run P w = .ok a w
  | .pure b, a, h, w => by simp only [pureRun, Option.some.injEq] at h; subst h; rfl
  | .program k, a, h, w => by
    simp only [pureRun] at h
    exact pureRun_run (s := k P) h w
  | .load .., _, h, _ => by simp [pureRun] at h
  | .store .., _, h, _ => by simp [pureRun] at h
  | .new .., _, h, _ => by simp [pureRun] at h
  | .shape .., _, h, _ => by simp [pureRun] at h
  | .freeze .., _, h, _ => by simp [pureRun] at h
  | .frozen .., _, h, _ => by simp [pureRun] at h
  | .getObj .., _, h, _ => by simp [pureRun] at h
  | .setObj .., _, h, _ => by simp [pureRun] at h
  | .choose .., _, h, _ => by simp [pureRun] at h
  | .sys .., _, h, _ => by simp [pureRun] at h
  | .mark .., _, h, _ => by simp [pureRun] at h
  | .halt .., _, h, _ => by simp [pureRun] at h

/-- Cells are written. -/
def wrL (b : Nat) : Nat → List Value → Prog → Prog
  | _, [], k => k
  | o, v :: l, k => .wr b o v (wrL b (o + 1) l k)
def storeP (P : Program) (t : TypeId) (p v : Value) : Prog :=
  match p with
  | .pointer (some ⟨b, o, none⟩) => match P.info? t with
    | some i => if v.cells.size = i.size then wrL b o v.cells.toList .skip else .fail
    | none => .fail
  | _ => .fail

section
variable {P : Program} {ρ : Rho} {H : Hp} {w : World}
theorem Sim.val {p : Prog} {s : Sem Next} {v v' : Value} (hp : p = .val v) (hs : ∀ w, s.run P w = .ok (.value v') w) (hv : V ρ v v') : Sim P p s ρ w := by
  subst hp
  intro H t r hpr _ hw
  cases hpr
  exact ⟨_, w, ρ, hs w, Went.refl hw, hv⟩
theorem Sim.fail {s : Sem Next} : Sim P .fail s ρ w := fun H t r hpr _ _ => by cases hpr

theorem wrL_sound {b c κ o0 : Nat} (hr : ρ b = some (c, κ)) {k : Prog} {r : Out} : ∀ {l l' : List Value} {i : Nat} {t : List Ac} {H : Hp} {w : World}, VL ρ l l' → PR (wrL b (o0 + i) l k) t r → Valid H t → WR P ρ H w →
    ∃ w' t1 t2, t = t1 ++ t2 ∧ PR k t2 r ∧ (storeCells ⟨c, o0, none⟩ l' i).run P w = .ok () w' ∧ Went P ρ H w t1 ρ w' ∧ Valid (apps H t1) t2
  | [], l', i, t, H, w, hl, h, hv, hw => by
    rw [hl.cases_nil]
    exact ⟨w, [], t, rfl, h, rfl, Went.refl hw, hv⟩
  | v :: l, l', i, t, H, w, hl, h, hv, hw => by
    obtain ⟨v', r', rfl, hvv, hlr⟩ := hl.cases_cons
    simp only [wrL] at h
    cases h with
    | wr h =>
      rename_i t
      obtain ⟨h1, h2⟩ := hv
      obtain ⟨c', κ', u, e1, e2, e3, e4⟩ := hw.wrt (by assumption) h1 hvv
      rw [hr] at e1; cases e1
      have hone : v'.oneCell' = true := by rw [← one_eq, hvv.one]; exact h1.2
      rw [Nat.add_assoc] at h
      obtain ⟨w', t1, t2, rfl, q1, q2, q3, q4⟩ := wrL_sound hr hlr h h2 e4.wr
      refine ⟨w', .wr b (o0 + i) v :: t1, t2, rfl, q1, ?_, e4.trans q3, q4⟩
      simp only [storeCells, Sem.run_bind]
      rw [Addr.add_mid, run_store P w _ v' _ hone, e2]
      simp [e3, q2]

theorem V.cells_size {v v' : Value} (h : V ρ v v') : v'.cells.size = v.cells.size := by
  have := h.cells.1
  simpa using this.symm

theorem storeP_sound {t : TypeId} {p v p' v' : Value} (hp : V ρ p p') (hv : V ρ v v') : Sim P (storeP P t p v) (do Instr.storeAt t p' v'; pure .skip) ρ w := by
  unfold storeP
  split
  · rename_i b o
    cases hp with
    | ptr _ c κ _ hr =>
      cases hi : P.info? t with
      | none => exact Sim.fail
      | some i =>
        simp only
        by_cases hs : v.cells.size = i.size
        · rw [if_pos hs]
          intro H tr r hpr hval hw
          obtain ⟨w', t1, t2, rfl, q1, q2, q3, q4⟩ := wrL_sound (o0 := o) (i := 0) hr hv.cells hpr hval hw
          cases q1
          refine ⟨.skip, w', ρ, ?_, by simpa using q3, trivial⟩
          simp only [Instr.storeAt, Instr.sureAddr, storeVar, Sem.run_bind, Sem.run_pure, Result.andThen_ok, sizeOf, typeInfo, program]
          simp only [Sem.run, Result.andThen_ok, hi]
          simp [hv.cells_size, hs, q2]
        · rw [if_neg hs]; exact Sim.fail
  · exact Sim.fail

/-- A block is made of a value's cells. -/
def newP (ty : TypeId) (v : Value) : Prog := .nw (ty, 0) v.cells.toList fun b => .val (.pointer (some ⟨b, 0, none⟩))
theorem newP_sound {ty : TypeId} {v v' : Value} (hv : V ρ v v') {s : Sem Next} (hs : ∀ w, s.run P w = .ok (.value (.pointer (some ⟨w.heap.size, 0, none⟩))) (w.alloc (.cells v'.cells ty))) : Sim P (newP ty v) s ρ w := by
  intro H t r hpr hval hw
  unfold newP at hpr
  cases hpr with
  | nw h =>
    rename_i b t
    cases h
    have hl : v.cells.toList.length = v'.cells.toList.length := hv.cells.1
    have hw2 := hw.nw (κ := 0) (cs' := v'.cells) (by assumption) hval.1 (by simp at hl ⊢; omega) (fun i x x' hx hx' => hv.cells.2 i x x' hx (by simpa using hx')) (.inl rfl)
    exact ⟨_, _, _, hs w, hw2, .ptr _ _ _ _ Rho.add_eq⟩

theorem run_new {ty : TypeId} {cs : Array Value} : (newRow ty cs).run P w = .ok ⟨w.heap.size, 0, none⟩ (w.alloc (.cells cs ty)) := by
  rfl
end
end Go.Proofs.YtmphiefdoaihhaaGreatDoor

/-
  A run that is reckoned over blocks with names of its own: what single operations do, the second part: no function of a program is named here.
-/
namespace Go.Proofs.YtmphiefdoaihhaaGreatDoor
open Go.RowKit

section
variable {P : Program} {ρ : Rho} {w : World}

theorem Sim.v {p : Prog} {S : Sem Value} (h : ∀ H t r, PR p t r → Valid H t → WR P ρ H w → ∃ v v' w' ρ', r = .val v ∧ S.run P w = .ok v' w' ∧ Went P ρ H w t ρ' w' ∧ V ρ' v v') : Sim P p (do pure (.value (← S))) ρ w := by
  intro H t r hpr hval hw
  obtain ⟨v, v', w', ρ', rfl, h1, h2, h3⟩ := h H t r hpr hval hw
  exact ⟨.value v', w', ρ', by simp [h1], h2, h3⟩
/-- An operation that only reckons. -/
theorem Sim.vv {p : Prog} {S : Sem Value} {v v' : Value} (hp : p = .val v) (hs : S.run P w = .ok v' w) (hv : V ρ v v') : Sim P p (do pure (.value (← S))) ρ w := by
  subst hp
  refine Sim.v fun H t r hpr _ hw => ?_
  cases hpr
  exact ⟨_, _, w, ρ, rfl, hs, Went.refl hw, hv⟩

theorem load_sim {t : TypeId} {p p' : Value} (hp : V ρ p p') : Sim P (loadP P t p .val) (do pure (.value (← Instr.loadAt t p'))) ρ w := by
  refine Sim.v fun H tr r hpr hval hw => ?_
  obtain ⟨c, o, u, u', t1, t2, rfl, rfl, q1, q2, q3, q4, q5, q6⟩ := loadP_sound hw hp hpr hval
  cases q1
  refine ⟨u, u', w, ρ, rfl, by simp [Instr.loadAt, Instr.sureAddr, q3], ?_, q2⟩
  exact (Went.refl hw).congr (by rw [List.append_nil, q4]; rfl) (fun b hb => by cases hb)

/-- Zero of a type, if it names no block. -/
def zeroP (P : Program) (t : TypeId) : Option Value := match P.info? t with
  | some i => match i.zero with
    | some z => if ground z then some z else none
    | none => none
  | none => none
theorem zeroP_spec {t : TypeId} {z : Value} (h : zeroP P t = some z) : ∃ i, P.info? t = some i ∧ i.zero = some z ∧ ground z = true := by
  unfold zeroP at h
  cases hi : P.info? t with
  | none => rw [hi] at h; cases h
  | some i =>
    rw [hi] at h
    simp only at h
    cases hz : i.zero with
    | none => rw [hz] at h; cases h
    | some z' =>
      rw [hz] at h
      simp only at h
      split at h
      · cases h; exact ⟨i, rfl, hz, by assumption⟩
      · cases h
def allocP (P : Program) (t : TypeId) : Prog := match zeroP P t with
  | some z => newP t z
  | none => .fail
theorem alloc_sim {t : TypeId} : Sim P (allocP P t) (do pure (.value (← Instr.alloc t true (.tuple #[])))) ρ w := by
  unfold allocP
  cases h : zeroP P t with
  | none => exact Sim.fail
  | some z =>
    obtain ⟨i, h1, h2, h3⟩ := zeroP_spec h
    refine newP_sound (V.ground h3) fun w => ?_
    simp only [Instr.alloc, zeroValue, typeInfo, Sem.run_bind, Sem.run_pure, newVar]
    simp [h1, h2, run_new, program, Sem.run]
theorem box_sim {t : TypeId} {v v' : Value} (hv : V ρ v v') : Sim P (newP t v) (do pure (.value (← Instr.box t v'))) ρ w := by
  refine newP_sound hv fun w => ?_
  simp only [Instr.box, newVar, Sem.run_bind, Sem.run_pure, run_new, Result.andThen_ok]

def fieldP (P : Program) (s : TypeId) (v : Value) (f : Nat) : Prog := match v with
  | .pointer (some ⟨b, o, none⟩) => match P.underlying s with
    | some (.struct fields) => match fields[f]? with
      | some fd => match P.info? fd.type with
        | some i => if Nat.beq i.size 0 then .fail else .val (.pointer (some ⟨b, o + fd.offset, none⟩))
        | none => .fail
      | none => .fail
    | _ => .fail
  | _ => .fail
theorem field_sim {s : TypeId} {v v' : Value} {f : Nat} (hv : V ρ v v') : Sim P (fieldP P s v f) (do pure (.value (← Instr.fieldAt s v' f))) ρ w := by
  unfold fieldP
  split
  · rename_i b o
    cases hv with
    | ptr _ c κ _ hr =>
      split
      · rename_i fields hu
        split
        · rename_i fd hf
          split
          · rename_i i hi
            split
            · exact Sim.fail
            · rename_i hz
              have hz' : ¬ i.size = 0 := fun e => hz (by rw [e]; rfl)
              refine Sim.vv rfl (v' := .pointer (some ⟨c, o + fd.offset, none⟩)) ?_ (.ptr b c κ _ hr)
              simp only [Instr.fieldAt, Sem.run_bind, run_underlying hu, Result.andThen_ok, hf, Instr.sureAddr, Sem.run_pure, fieldPlace, sizeOf, typeInfo]
              simp [program, Sem.run, hi, hz', Addr.add_mid]
          · exact Sim.fail
        · exact Sim.fail
      · exact Sim.fail
  · exact Sim.fail

def ixP (P : Program) (t : TypeId) (v ix : Value) : Prog := match v, ix with
  | .slice (some ⟨b, o, none⟩) len _, .int _ i => match P.underlying t with
    | some (.slice e) => match P.info? e with
      | some inf => if 0 ≤ i ∧ i < len then .val (.pointer (some ⟨b, o + i.toNat * inf.size, none⟩)) else .fail
      | none => .fail
    | _ => .fail
  | .pointer (some ⟨b, o, none⟩), .int _ i => match P.underlying t with
    | some (.array len e) => match P.info? e with
      | some inf => if 0 ≤ i ∧ i < len then .val (.pointer (some ⟨b, o + i.toNat * inf.size, none⟩)) else .fail
      | none => .fail
    | _ => .fail
  | _, _ => .fail
theorem ix_sim {t : TypeId} {v v' ix ix' : Value} (hv : V ρ v v') (hx : V ρ ix ix') : Sim P (ixP P t v ix) (do pure (.value (← Instr.indexAt t v' ix'))) ρ w := by
  unfold ixP
  split
  · rename_i b o len k kd i
    cases hx
    split
    · rename_i e hu
      split
      · rename_i inf hi
        split
        · rename_i hb
          cases hv with
          | slc _ c κ _ _ _ k' hr hk =>
            refine Sim.vv rfl (v' := .pointer (some ⟨c, o + i.toNat * inf.size, none⟩)) ?_ (.ptr b c κ _ hr)
            simp only [Instr.indexAt, asIntOf, Sem.run_bind, Sem.run_pure, Result.andThen_ok, run_underlying hu]
            simp [hb, sizeOf, typeInfo, program, Sem.run, hi, Addr.add_mid]
          | slc0 => exact absurd hb (by simp)
        · exact Sim.fail
      · exact Sim.fail
    · exact Sim.fail
  · rename_i b o kd i
    cases hx
    split
    · rename_i len e hu
      split
      · rename_i inf hi
        split
        · rename_i hb
          cases hv with
          | ptr _ c κ _ hr =>
            refine Sim.vv rfl (v' := .pointer (some ⟨c, o + i.toNat * inf.size, none⟩)) ?_ (.ptr b c κ _ hr)
            simp only [Instr.indexAt, asIntOf, Sem.run_bind, Sem.run_pure, Result.andThen_ok, run_underlying hu]
            simp [hb, sizeOf, typeInfo, program, Sem.run, hi, Addr.add_mid, Instr.sureAddr]
        · exact Sim.fail
      · exact Sim.fail
    · exact Sim.fail
  · exact Sim.fail

/-- A slice of a slice. -/
def boundOf : Option Value → Nat → Option Nat
  | none, d => some d
  | some (.int _ i), _ => if 0 ≤ i then some i.toNat else none
  | some _, _ => none
def slP (P : Program) (t : TypeId) (x : Value) (lo hi : Option Value) : Prog := match x, P.underlying t with
  | .slice (some ⟨b, o, none⟩) n k, some (.slice e) => match P.info? e, boundOf lo 0, boundOf hi n with
    | some inf, some l, some h =>
      if Nat.ble l h then
        if Nat.beq k unk then (if Nat.ble h n then (if Nat.beq l 0 then .val (.slice (some ⟨b, o, none⟩) h unk) else (if Nat.blt l n then .val (.slice (some ⟨b, o + l * inf.size, none⟩) (h - l) unk2) else .val (.slice (some ⟨b, o, none⟩) 0 unk2))) else .fail)
        else if Nat.beq k unk2 then (if Nat.ble h n then (if Nat.blt l n then .val (.slice (some ⟨b, o + l * inf.size, none⟩) (h - l) unk2) else .val (.slice (some ⟨b, o, none⟩) 0 unk2)) else .fail)
        else if Nat.ble h k then (if Nat.blt k unk then .val (.slice (some ⟨b, if Nat.beq k l then o else o + l * inf.size, none⟩) (h - l) (k - l)) else .fail) else .fail
      else .fail
    | _, _, _ => .fail
  | _, _ => .fail

def VO (ρ : Rho) : Option Value → Option Value → Prop
  | none, none => True
  | some v, some v' => V ρ v v'
  | _, _ => False
theorem boundOf_rel {x x' : Option Value} {d l : Nat} (h : boundOf x d = some l) (hr : VO ρ x x') :
    (x = none ∧ x' = none ∧ l = d) ∨ ∃ k i, x' = some (.int k i) ∧ 0 ≤ i ∧ l = i.toNat := by
  cases x with
  | none =>
    cases x' with
    | none => simp only [boundOf, Option.some.injEq] at h; exact .inl ⟨rfl, rfl, h.symm⟩
    | some v' => exact hr.elim
  | some v =>
    cases x' with
    | none => exact hr.elim
    | some v' =>
      right
      cases v <;> simp only [boundOf] at h <;> try cases h
      rename_i k i
      cases hr
      split at h
      · cases h; exact ⟨k, i, rfl, by assumption, rfl⟩
      · cases h

theorem run_bounds {P : Program} {lo hi : Option Value} {n cap l h : Nat} (hl : (lo = none ∧ l = 0) ∨ ∃ k i, lo = some (.int k i) ∧ 0 ≤ i ∧ l = i.toNat) (hh : (hi = none ∧ h = n) ∨ ∃ k i, hi = some (.int k i) ∧ 0 ≤ i ∧ h = i.toNat)
    (h1 : l ≤ h) (h2 : h ≤ cap) : (Instr.sliceBounds true n cap lo hi none).run P w = .ok (l, h, cap) w := by
  have c1 : ∀ i : Int, 0 ≤ i → h = i.toNat → (0 ≤ i ∧ i ≤ (cap : Int)) := fun i a b => ⟨a, by omega⟩
  have c2 : ∀ i : Int, 0 ≤ i → l = i.toNat → (0 ≤ i ∧ i ≤ (h : Int)) := fun i a b => ⟨a, by omega⟩
  rcases hl with ⟨rfl, rfl⟩ | ⟨k, i, rfl, a, b⟩ <;> rcases hh with ⟨rfl, rfl⟩ | ⟨k', i', rfl, a', b'⟩
  · simp [Instr.sliceBounds]
  · simp [Instr.sliceBounds, Instr.sliceBound, asIntOf, c1 i' a' b', ← b']
  · simp [Instr.sliceBounds, Instr.sliceBound, asIntOf, c2 i a b, ← b]
  · simp [Instr.sliceBounds, Instr.sliceBound, asIntOf, c1 i' a' b', ← b', c2 i a b, ← b]

theorem slP_run {t e : TypeId} {inf : TypeInfo} {lo hi : Option Value} {c o n cap l h : Nat} (hu : P.underlying t = some (.slice e)) (hi2 : P.info? e = some inf)
    (hl : (lo = none ∧ l = 0) ∨ ∃ k i, lo = some (.int k i) ∧ 0 ≤ i ∧ l = i.toNat) (hh : (hi = none ∧ h = n) ∨ ∃ k i, hi = some (.int k i) ∧ 0 ≤ i ∧ h = i.toNat)
    (h1 : l ≤ h) (h2 : h ≤ cap) :
    (Instr.sliceAt t (.slice (some ⟨c, o, none⟩) n cap) lo hi none).run P w = .ok (.slice (some ⟨c, if cap = l then o else o + l * inf.size, none⟩) (h - l) (cap - l)) w := by
  have hb := run_bounds (P := P) (w := w) hl hh h1 h2
  simp only [Instr.sliceAt, Sem.run_bind, run_underlying hu, Result.andThen_ok, Instr.slice, hb, sizeOf, typeInfo, Sem.run_pure]
  simp only [program, Sem.run, Result.andThen_ok, hi2, Sem.run_pure]
  congr 3
  split <;> simp [Addr.add_mid]

theorem sl_sim {t : TypeId} {x x' : Value} {lo hi lo' hi' : Option Value} (hx : V ρ x x') (hlo : VO ρ lo lo') (hhi : VO ρ hi hi') : Sim P (slP P t x lo hi) (do pure (.value (← Instr.sliceAt t x' lo' hi' none))) ρ w := by
  unfold slP
  split
  · rename_i b o n k e hu
    split
    · rename_i inf l h hinf hl hh
      have hl2 : (lo' = none ∧ l = 0) ∨ ∃ k i, lo' = some (.int k i) ∧ 0 ≤ i ∧ l = i.toNat := by
        rcases boundOf_rel hl hlo with ⟨_, a, b⟩ | h
        · exact .inl ⟨a, b⟩
        · exact .inr h
      have hh2 : (hi' = none ∧ h = n) ∨ ∃ k i, hi' = some (.int k i) ∧ 0 ≤ i ∧ h = i.toNat := by
        rcases boundOf_rel hh hhi with ⟨_, a, b⟩ | h
        · exact .inl ⟨a, b⟩
        · exact .inr h
      clear hl hh hlo hhi
      split
      · rename_i hlh
        have hlh := Nat.le_of_ble_eq_true hlh
        cases hx with
        | slc0 _ c κ _ o' k' hr =>
          rw [if_neg (by decide), if_pos (by decide)]
          split
          · rename_i hhn
            have hhn := Nat.le_of_ble_eq_true hhn
            rw [if_neg (by simp [Nat.blt])]
            obtain rfl : h = 0 := by omega
            obtain rfl : l = 0 := by omega
            exact Sim.vv rfl (slP_run hu hinf hl2 hh2 (Nat.le_refl _) (Nat.zero_le _)) (.slc0 b c κ o _ _ hr)
          · exact Sim.fail
        | slc _ c κ _ _ _ k' hr hk =>
          cases hk with
          | whole ho hn =>
            rw [if_pos (by decide)]
            split
            · rename_i hhn
              have hhn := Nat.le_of_ble_eq_true hhn
              have hrun := slP_run (w := w) (c := c) (o := o) (cap := κ) hu hinf hl2 hh2 hlh (by omega)
              split
              · rename_i hl0
                obtain rfl : l = 0 := Nat.eq_of_beq_eq_true hl0
                refine Sim.vv rfl hrun ?_
                rw [show (if κ = 0 then o else o + 0 * inf.size) = o by split <;> simp]
                exact .slc b c κ o _ _ _ hr (.whole ho (by omega))
              · split
                · rename_i hln
                  have hln : l < n := by simpa [Nat.blt_eq] using hln
                  refine Sim.vv rfl hrun ?_
                  rw [if_neg (by omega)]
                  exact .slc b c κ _ _ _ _ hr (.some_ _ (by omega))
                · rename_i hln
                  have hln : ¬ l < n := by simpa [Nat.blt_eq] using hln
                  refine Sim.vv rfl hrun ?_
                  rw [show h - l = 0 by omega]
                  exact .slc0 b c κ o _ _ hr
            · exact Sim.fail
          | some_ _ hn =>
            rw [if_neg (by decide), if_pos (by decide)]
            split
            · rename_i hhn
              have hhn := Nat.le_of_ble_eq_true hhn
              have hrun := slP_run (w := w) (c := c) (o := o) (cap := k') hu hinf hl2 hh2 hlh (by omega)
              split
              · rename_i hln
                have hln : l < n := by simpa [Nat.blt_eq] using hln
                refine Sim.vv rfl hrun ?_
                rw [if_neg (by omega)]
                exact .slc b c κ _ _ _ _ hr (.some_ _ (by omega))
              · rename_i hln
                have hln : ¬ l < n := by simpa [Nat.blt_eq] using hln
                refine Sim.vv rfl hrun ?_
                rw [show h - l = 0 by omega]
                exact .slc0 b c κ o _ _ hr
            · exact Sim.fail
          | same _ q1 q2 =>
            rw [if_neg (fun e => q1 (Nat.eq_of_beq_eq_true e)), if_neg (fun e => q2 (Nat.eq_of_beq_eq_true e))]
            split
            · rename_i hhk
              have hhk := Nat.le_of_ble_eq_true hhk
              split
              · rename_i hku
                have hku : k < unk := by simpa [Nat.blt_eq] using hku
                have hrun := slP_run (w := w) (c := c) (o := o) hu hinf hl2 hh2 hlh hhk
                refine Sim.vv rfl hrun ?_
                have e : (if Nat.beq k l = true then o else o + l * inf.size) = (if k = l then o else o + l * inf.size) := by
                  by_cases hkl : k = l
                  · rw [if_pos (by rw [hkl]; exact Nat.beq_refl l), if_pos hkl]
                  · rw [if_neg (fun e => hkl (Nat.eq_of_beq_eq_true e)), if_neg hkl]
                rw [e]
                exact .slc b c κ _ _ _ _ hr (.same _ (by omega) (by unfold unk2; unfold unk at hku; omega))
              · exact Sim.fail
            · exact Sim.fail
      · exact Sim.fail
    · exact Sim.fail
  · exact Sim.fail
end
end Go.Proofs.YtmphiefdoaihhaaGreatDoor

/-
  A run that is reckoned over blocks with names of its own: what single operations do, the third part: no function of a program is named here.
-/
namespace Go.Proofs.YtmphiefdoaihhaaGreatDoor
open Go.RowKit

section
variable {P : Program} {ρ : Rho} {w : World}

theorem VL.drop {l l' : List Value} (h : VL ρ l l') (n : Nat) : VL ρ (l.drop n) (l'.drop n) :=
  ⟨by simp [h.1], fun i v v' a b => h.2 (n + i) v v' (by rw [List.getElem?_drop] at a; exact a) (by rw [List.getElem?_drop] at b; exact b)⟩
theorem VL.take {l l' : List Value} (h : VL ρ l l') (n : Nat) : VL ρ (l.take n) (l'.take n) :=
  ⟨by simp [h.1], fun i v v' a b => by
    rw [List.getElem?_take] at a b
    split at a
    · rw [if_pos (by assumption)] at b; exact h.2 i v v' a b
    · cases a⟩
theorem VL.set {l l' : List Value} (h : VL ρ l l') (n : Nat) {v v' : Value} (hv : V ρ v v') : VL ρ (l.set n v) (l'.set n v') :=
  ⟨by simp [h.1], fun i u u' a b => by
    rw [List.getElem?_set] at a b
    by_cases hi : n = i
    · rw [if_pos hi] at a b
      split at a
      · rw [if_pos (by rw [← h.1]; assumption)] at b
        cases a; cases b; exact hv
      · cases a
    · rw [if_neg hi] at a b; exact h.2 i u u' a b⟩
theorem VL.get {l l' : List Value} (h : VL ρ l l') {i : Nat} {v : Value} (hi : l[i]? = some v) : ∃ v', l'[i]? = some v' ∧ V ρ v v' := by
  have hlt : i < l'.length := by rw [← h.1]; exact (List.getElem?_eq_some_iff.1 hi).1
  exact ⟨_, List.getElem?_eq_getElem hlt, h.2 i v _ hi (List.getElem?_eq_getElem hlt)⟩

/-- A part of a struct by value. -/
def fieldVP (P : Program) (t : TypeId) (x : Value) (f : Nat) : Prog := match x, P.underlying t with
  | .agg ⟨l⟩, some (.struct fields) => match fields[f]? with
    | some fd => match P.underlying fd.type, P.info? fd.type with
      | some d, some i => if d.isRow then .val (.agg ⟨(l.drop fd.offset).take i.size⟩) else match l[fd.offset]? with
        | some v => .val v
        | none => .fail
      | _, _ => .fail
    | none => .fail
  | _, _ => .fail
theorem fieldV_sim {t : TypeId} {x x' : Value} {f : Nat} (hx : V ρ x x') : Sim P (fieldVP P t x f) (do pure (.value (← Instr.field t x' f))) ρ w := by
  unfold fieldVP
  split
  · rename_i l fields hu
    cases hx with
    | agg _ l' hl h =>
      have hL : VL ρ l l' := ⟨hl, h⟩
      split
      · rename_i fd hf
        split
        · rename_i d i hd hi
          have hagg : (isAgg fd.type).run P w = .ok d.isRow w := by
            unfold isAgg
            rw [Sem.run_bind, run_underlying hd w]
            cases d <;> simp_all
          split
          · rename_i hrow
            refine Sim.vv rfl (v' := .agg ⟨(l'.drop fd.offset).take i.size⟩) ?_ (.agg _ _ ((hL.drop _).take _).1 ((hL.drop _).take _).2)
            simp only [Instr.field, Sem.run_bind, run_underlying hu, Result.andThen_ok, hf, asAgg, Sem.run_pure, part, hagg, hrow]
            simp [sizeOf, typeInfo, program, Sem.run, hi]
          · rename_i hrow
            split
            · rename_i v hv
              obtain ⟨v', hv', hvv⟩ := hL.get hv
              refine Sim.vv rfl (v' := v') ?_ hvv
              simp only [Instr.field, Sem.run_bind, run_underlying hu, Result.andThen_ok, hf, asAgg, Sem.run_pure, part, hagg]
              simp [hrow, hv']
            · exact Sim.fail
        · exact Sim.fail
      · exact Sim.fail
  · exact Sim.fail

def extractP (x : Value) (i : Nat) : Prog := match x with
  | .tuple ⟨l⟩ => match l[i]? with
    | some v => .val v
    | none => .fail
  | _ => .fail
theorem extract_sim {x x' : Value} {i : Nat} (hx : V ρ x x') : Sim P (extractP x i) (do pure (.value (← Instr.extract x' i))) ρ w := by
  unfold extractP
  split
  · rename_i l
    cases hx with
    | tuple _ l' hl h =>
      have hL : VL ρ l l' := ⟨hl, h⟩
      split
      · rename_i v hv
        obtain ⟨v', hv', hvv⟩ := hL.get hv
        exact Sim.vv rfl (v' := v') (by simp [Instr.extract, hv']) hvv
      · exact Sim.fail
  · exact Sim.fail

/-- Cells of zeros. -/
def mkL (z : List Value) (n : Nat) : List Value := (List.range n).map fun i => z[i % z.length]?.getD default
theorem mkL_eq (z : Array Value) (n : Nat) : (madeCells z n).toList = mkL z.toList n := by
  unfold madeCells mkL
  simp only [Array.toList_map, Array.toList_range]
  refine List.map_congr_left fun i _ => ?_
  rw [Array.length_toList, Array.getElem?_toList]
  simp [getElem!_def]
  split <;> simp_all
theorem flats_V {l : List Value} (h : l.all flat = true) : VL ρ l l := ⟨rfl, flats_refl h⟩

/-- make of a slice. -/
def mkP (P : Program) (t : TypeId) (l c : Value) : Prog := match l, c, P.underlying t with
  | .int _ l, .int _ c, some (.slice e) => match P.info? e, zeroP P e with
    | some i, some z =>
      if 0 ≤ l ∧ l ≤ c ∧ c < 4294967296 ∧ (i.bytes : Int) * c ≤ 281474976710656 ∧ (mkL z.cells.toList (c.toNat * i.size)).all flat = true then
        .nw (e, 0) (mkL z.cells.toList (c.toNat * i.size)) fun b => .val (.slice (some ⟨b, 0, none⟩) l.toNat c.toNat)
      else .fail
    | _, _ => .fail
  | _, _, _ => .fail
theorem mk_sim {t : TypeId} {l l' c c' : Value} (hl : V ρ l l') (hc : V ρ c c') : Sim P (mkP P t l c) (do pure (.value (← Instr.makeSlice t l' c'))) ρ w := by
  unfold mkP
  split
  · rename_i kl l kc c e hu
    cases hl
    cases hc
    split
    · rename_i i z hi hz
      split
      · rename_i hb
        obtain ⟨h1, h2, h3, h4, h5⟩ := hb
        refine Sim.v fun H tr r hpr hval hw => ?_
        cases hpr with
        | nw h =>
          rename_i b tr
          cases h
          obtain ⟨i', hi', hz', _⟩ := zeroP_spec hz
          rw [hi] at hi'; cases hi'
          have hrun := run_make (P := P) w t e i z hu hi hz' kl kc l c h1 h2 h4 (by omega)
          have hw2 := hw.nw (κ := 0) (cs' := madeCells z.cells (c.toNat * i.size)) (by assumption) hval.1 (by rw [← mkL_eq]; simp) (fun j x x' hx hx' => by
            rw [← Array.getElem?_toList, mkL_eq] at hx'
            exact (flats_V h5).2 j x x' hx hx') (.inl rfl)
          exact ⟨_, _, _, _, rfl, hrun, hw2, .slc _ _ _ _ _ _ _ Rho.add_eq (.same _ (by unfold unk; omega) (by unfold unk2; omega))⟩
      · exact Sim.fail
    · exact Sim.fail
  · exact Sim.fail

/-- Cells laid over others. -/
def putL (cs : List Value) : Nat → List Value → List Value
  | _, [] => cs
  | o, v :: l => putL (cs.set o v) (o + 1) l
theorem putL_length : ∀ {l : List Value} {cs : List Value} {o : Nat}, (putL cs o l).length = cs.length
  | [], _, _ => rfl
  | v :: l, cs, o => by simp only [putL]; rw [putL_length]; simp
theorem putL_rel : ∀ {l l' cs cs' : List Value} {o : Nat}, VL ρ cs cs' → VL ρ l l' → VL ρ (putL cs o l) (putL cs' o l')
  | [], l', cs, cs', o, h, hl => by rw [hl.cases_nil]; exact h
  | v :: l, l', cs, cs', o, h, hl => by
    obtain ⟨v', r', rfl, hv, hr⟩ := hl.cases_cons
    simp only [putL]
    exact putL_rel (h.set o hv) hr
theorem putL_eq (cs : Array Value) (o : Nat) (l : Array Value) : (l.zipIdx.foldl (fun cs (c, j) => cs.setIfInBounds (o + j) c) cs).toList = putL cs.toList o l.toList := by
  have key : ∀ (l : List Value) (k : Nat) (cs : Array Value), ((l.zipIdx k).foldl (fun cs (c, j) => cs.setIfInBounds (o + j) c) cs).toList = putL cs.toList (o + k) l := by
    intro l
    induction l with
    | nil => intro k cs; rfl
    | cons v l ih =>
      intro k cs
      rw [List.zipIdx_cons, List.foldl_cons, ih]
      simp only [putL, Array.toList_setIfInBounds]
      rw [Nat.add_assoc]
  rw [← Array.foldl_toList, Array.toList_zipIdx]
  exact key l.toList 0 cs

def fillL (place : Nat → Option (Nat × Nat)) (cs : List Value) : List (Nat × Value) → Option (List Value)
  | [] => some cs
  | (i, v) :: rest => match place i with
    | none => none
    | some (off, size) => if Nat.beq v.cells.size size && Nat.ble (off + v.cells.size) cs.length then fillL place (putL cs off v.cells.toList) rest else none

theorem fillL_sound {place : Nat → Option (Nat × Nat)} : ∀ {parts parts' : List (Nat × Value)} {cs out : List Value} {cs' : Array Value}, fillL place cs parts = some out → VL ρ cs cs'.toList → parts.length = parts'.length →
    (∀ (i : Nat) (p p' : Nat × Value), parts[i]? = some p → parts'[i]? = some p' → p.1 = p'.1 ∧ V ρ p.2 p'.2) → ∃ out', Instr.fill place cs' parts' = some out' ∧ VL ρ out out'.toList
  | [], parts', cs, out, cs', h, hc, hl, _ => by
    obtain rfl : parts' = [] := List.eq_nil_of_length_eq_zero hl.symm
    cases h
    exact ⟨cs', rfl, hc⟩
  | (i, v) :: rest, parts', cs, out, cs', h, hc, hl, hp => by
    match parts', hl, hp with
    | [], hl, _ => simp at hl
    | (i', v') :: rest', hl, hp =>
    obtain ⟨e1, hv⟩ := hp 0 (i, v) (i', v') rfl rfl
    simp only at e1 hv
    subst e1
    simp only [fillL] at h
    cases hpl : place i with
    | none => rw [hpl] at h; cases h
    | some q =>
      obtain ⟨off, size⟩ := q
      rw [hpl] at h
      simp only at h
      split at h
      · rename_i hb
        rw [Bool.and_eq_true] at hb
        have h1 := Nat.eq_of_beq_eq_true hb.1
        have h2 := Nat.le_of_ble_eq_true hb.2
        have hsz := hv.cells_size
        have hle : cs.length = cs'.size := by have := hc.1; simpa using this
        have hnot : ¬ (v'.cells.size ≠ size ∨ cs'.size < off + v'.cells.size) := by omega
        have := fillL_sound (cs' := v'.cells.zipIdx.foldl (fun cs (c, j) => cs.setIfInBounds (off + j) c) cs') h (by rw [putL_eq]; exact putL_rel hc hv.cells) (by simpa using hl) (fun j p p' a b => hp (j + 1) p p' (by simpa using a) (by simpa using b))
        obtain ⟨out', q1, q2⟩ := this
        refine ⟨out', ?_, q2⟩
        simp only [Instr.fill, hpl]
        rw [if_neg (by simpa using hnot)]
        exact q1
      · cases h

def placeOf (P : Program) (fields : Array Field) (i : Nat) : Option (Nat × Nat) := match fields[i]? with
  | some f => match P.info? f.type with
    | some inf => some (f.offset, inf.size)
    | none => none
  | none => none
def partsOf (ρ : Operand → Value) (parts : Array (Nat × Operand)) : List (Nat × Value) := parts.toList.map fun (i, x) => (i, ρ x)
/-- A struct by value, from parts. -/
def buildP (P : Program) (t : TypeId) (parts : List (Nat × Value)) : Prog := match P.underlying t, zeroP P t with
  | some (.struct fields), some z =>
    if fields.toList.all fun f => (P.info? f.type).isSome then
      if z.cells.toList.all flat then match fillL (placeOf P fields) z.cells.toList parts with
        | some cs => .val (.agg ⟨cs⟩)
        | none => .fail
      else .fail
    else .fail
  | some (.array _ e), some z => match P.info? e with
    | some inf => if z.cells.toList.all flat then match fillL (fun i => some (i * inf.size, inf.size)) z.cells.toList parts with
        | some cs => .val (.agg ⟨cs⟩)
        | none => .fail
      else .fail
    | none => .fail
  | _, _ => .fail

theorem run_places (l : List Field) (h : l.all fun f => (P.info? f.type).isSome) : (l.mapM (m := Sem) fun f => do pure (f.offset, ← sizeOf f.type)).run P w = .ok (l.map fun f => (f.offset, ((P.info? f.type).map (·.size)).getD 0)) w := by
  induction l with
  | nil => simp
  | cons f l ih =>
    rw [List.all_cons, Bool.and_eq_true] at h
    obtain ⟨i, hi⟩ := Option.isSome_iff_exists.1 h.1
    have hs : (sizeOf f.type).run P w = .ok i.size w := by simp [sizeOf, typeInfo, program, Sem.run, hi]
    simp only [List.mapM_cons, Sem.run_bind, Sem.run_pure, Result.andThen_ok, hs, ih h.2, List.map_cons, hi, Option.map_some, Option.getD_some]

theorem build_sim {t : TypeId} {parts : List (Nat × Value)} {parts' : Array (Nat × Value)} (hl : parts.length = parts'.toList.length) (hp : ∀ (i : Nat) (p p' : Nat × Value), parts[i]? = some p → parts'.toList[i]? = some p' → p.1 = p'.1 ∧ V ρ p.2 p'.2) :
    Sim P (buildP P t parts) (do pure (.value (← Instr.build t parts'))) ρ w := by
  unfold buildP
  split
  · rename_i fields z hu hz
    obtain ⟨i, hi, hz', _⟩ := zeroP_spec hz
    split
    · rename_i hall
      split
      · rename_i hf
        split
        · rename_i cs hcs
          have hpl : (fun i : Nat => (Array.map (fun f : Field => (f.offset, ((P.info? f.type).map (·.size)).getD 0)) fields)[i]?) = placeOf P fields := by
            funext j
            unfold placeOf
            cases hj : fields[j]? with
            | none => simp [hj]
            | some f =>
              have : (P.info? f.type).isSome = true := List.all_eq_true.1 hall f (Array.mem_toList_iff.2 (Array.mem_of_getElem? hj))
              obtain ⟨inf, hinf⟩ := Option.isSome_iff_exists.1 this
              simp [hj, hinf]
          obtain ⟨out', h1, h2⟩ := fillL_sound (cs' := z.cells) hcs (flats_V hf) hl hp
          refine Sim.vv rfl (v' := .agg out') ?_ (.agg _ _ h2.1 h2.2)
          have hm : (fields.mapM (m := Sem) fun f => do pure (f.offset, ← sizeOf f.type)).run P w = .ok (Array.map (fun f : Field => (f.offset, ((P.info? f.type).map (·.size)).getD 0)) fields) w := by
            rw [Array.mapM_eq_mapM_toList, map_eq_pure_bind]
            simp only [Sem.run_bind, Sem.run_pure, run_places fields.toList hall, Result.andThen_ok]
            rw [← Array.toList_map]
          have hzr : (zeroValue t).run P w = .ok z w := by
            simp only [zeroValue, typeInfo, Sem.run_bind]
            simp [program, Sem.run, hi, hz']
          simp only [Instr.build, Sem.run_bind, hzr, Result.andThen_ok, run_underlying hu, hm, hpl, h1, Sem.run_pure]
        · exact Sim.fail
      · exact Sim.fail
    · exact Sim.fail
  · rename_i n e z hu hz
    obtain ⟨i, hi, hz', _⟩ := zeroP_spec hz
    split
    · rename_i inf hinf
      split
      · rename_i hf
        split
        · rename_i cs hcs
          obtain ⟨out', h1, h2⟩ := fillL_sound (cs' := z.cells) hcs (flats_V hf) hl hp
          refine Sim.vv rfl (v' := .agg out') ?_ (.agg _ _ h2.1 h2.2)
          have hzr : (zeroValue t).run P w = .ok z w := by
            simp only [zeroValue, typeInfo, Sem.run_bind]
            simp [program, Sem.run, hi, hz']
          have hsz : (sizeOf e).run P w = .ok inf.size w := by simp [sizeOf, typeInfo, program, Sem.run, hinf]
          simp only [Instr.build, Sem.run_bind, hzr, Result.andThen_ok, run_underlying hu, hsz, h1, Sem.run_pure]
        · exact Sim.fail
      · exact Sim.fail
    · exact Sim.fail
  · exact Sim.fail

/-- A slice, from parts. -/
def buildSP (P : Program) (t : TypeId) (n : Nat) (parts : List (Nat × Value)) : Prog := match P.underlying t with
  | some (.slice e) => match P.info? e, zeroP P e with
    | some inf, some z =>
      if n < 65536 ∧ 0 < n * inf.size ∧ n * inf.size ≤ 16777216 ∧ (mkL z.cells.toList (n * inf.size)).all flat = true then match fillL (fun i => some (i * inf.size, inf.size)) (mkL z.cells.toList (n * inf.size)) parts with
        | some cs => .nw (e, 0) cs fun b => .val (.slice (some ⟨b, 0, none⟩) n n)
        | none => .fail
      else .fail
    | _, _ => .fail
  | _ => .fail
theorem buildS_sim {t : TypeId} {n : Nat} {parts : List (Nat × Value)} {parts' : Array (Nat × Value)} (hl : parts.length = parts'.toList.length) (hp : ∀ (i : Nat) (p p' : Nat × Value), parts[i]? = some p → parts'.toList[i]? = some p' → p.1 = p'.1 ∧ V ρ p.2 p'.2) :
    Sim P (buildSP P t n parts) (do pure (.value (← Instr.buildSlice t n parts'))) ρ w := by
  unfold buildSP
  split
  · rename_i e hu
    split
    · rename_i inf z hinf hz
      obtain ⟨i, hi, hz', _⟩ := zeroP_spec hz
      rw [hinf] at hi; cases hi
      split
      · rename_i hb
        obtain ⟨h0, h1, h2, h3⟩ := hb
        split
        · rename_i cs hcs
          refine Sim.v fun H tr r hpr hval hw => ?_
          obtain ⟨out', q1, q2⟩ := fillL_sound (cs' := madeCells z.cells (n * inf.size)) hcs (by rw [mkL_eq]; exact flats_V h3) hl hp
          cases hpr with
          | nw h =>
            rename_i b tr
            cases h
            have hw2 := hw.nw (κ := 0) (cs' := out') (by assumption) hval.1 (by have := q2.1; simp at this; omega) (fun j x x' hx hx' => q2.2 j x x' hx (by rw [Array.getElem?_toList]; exact hx')) (.inl rfl)
            refine ⟨_, _, _, _, rfl, ?_, hw2, .slc _ _ _ _ _ _ _ Rho.add_eq (.same _ (by unfold unk; omega) (by unfold unk2; omega))⟩
            have hzr : (zeroValue e).run P w = .ok z w := by
              simp only [zeroValue, typeInfo, Sem.run_bind]
              simp [program, Sem.run, hinf, hz']
            have hsz : (sizeOf e).run P w = .ok inf.size w := by simp [sizeOf, typeInfo, program, Sem.run, hinf]
            have n1 : ¬ n * inf.size > 2 ^ 24 := by omega
            have n2 : ¬ n * inf.size = 0 := by omega
            have q1' : Instr.fill (fun i => some (i * inf.size, inf.size)) ((Array.range (n * inf.size)).map (z.cells[· % z.cells.size]!)) parts'.toList = some out' := q1
            simp only [Instr.buildSlice, Sem.run_bind, run_underlying hu, Result.andThen_ok, hsz, n1, n2, if_false, hzr, Sem.run_pure, q1', run_new]
        · exact Sim.fail
      · exact Sim.fail
    · exact Sim.fail
  · exact Sim.fail
end
end Go.Proofs.YtmphiefdoaihhaaGreatDoor

/-
  A run that is reckoned over blocks with names of its own: append, copy, calls, all operations: no function of a program is named here.
-/
namespace Go.Proofs.YtmphiefdoaihhaaGreatDoor
open Go.RowKit

section
variable {P : Program} {ρ : Rho} {w : World}

/-- The cells of a slice that is handed in are read. -/
def srcP (sz : Nat) (x : Value) (k : Nat → List Value → Prog) : Prog := match x with
  | .slice (some ⟨b, o, none⟩) m _ => rdN b (m * sz) o [] (k m)
  | .slice none m _ => if Nat.beq m 0 then k 0 [] else .fail
  | _ => .fail
theorem src_sound {H : Hp} {sz : Nat} {x x' : Value} (hx : V ρ x x') (hw : WR P ρ H w) {k : Nat → List Value → Prog} {r : Out} {t : List Ac} (h : PR (srcP sz x k) t r) (hv : Valid H t) :
    ∃ (A : Option Addr) (m c : Nat) (us us' : List Value) (t1 t2 : List Ac), x' = .slice A m c ∧ t = t1 ++ t2 ∧ PR (k m us) t2 r ∧ VL ρ us us' ∧ us.length = m * sz ∧ (m ≠ 0 → ∃ c o, A = some ⟨c, o, none⟩ ∧ w.rangeAt c o us') ∧ apps H t1 = H ∧ wrote t1 = [] ∧ Valid H t2 := by
  unfold srcP at h
  split at h
  · rename_i b o m k'
    cases hx with
    | slc _ c κ _ _ _ k' hr hk =>
      obtain ⟨us, us', t1, t2, rfl, q1, q2, q3, q4, q5, q6, q7⟩ := rdN_sound hr hw h hv
      exact ⟨_, _, _, us, us', t1, t2, rfl, rfl, by simpa using q2, q3, q1, fun _ => ⟨c, o, rfl, q4⟩, q5, q6, q7⟩
    | slc0 _ c κ _ o' k' hr =>
      obtain ⟨us, us', t1, t2, rfl, q1, q2, q3, q4, q5, q6, q7⟩ := rdN_sound hr hw h hv
      exact ⟨_, _, _, us, us', t1, t2, rfl, rfl, by simpa using q2, q3, q1, fun h => absurd rfl h, q5, q6, q7⟩
  · rename_i m k'
    cases hx
    split at h
    · rename_i hm
      obtain rfl : m = 0 := Nat.eq_of_beq_eq_true hm
      exact ⟨none, 0, _, [], [], [], t, rfl, rfl, h, VL.nil, by simp, fun h => absurd rfl h, rfl, rfl, hv⟩
    · cases h
  · cases h

/-- append. -/
def appendP (P : Program) (t : TypeId) (s x : Value) : Prog := match P.underlying t with
  | some (.slice e) => match P.info? e, zeroP P e with
    | some inf, some z =>
      if 0 < inf.size ∧ z.cells.size = inf.size ∧ inf.size < ro then
        srcP inf.size x fun m us =>
          if Nat.beq m 0 then (match s with
            | .slice none n k => if Nat.ble n k then .val (.slice none n k) else .fail
            | .slice (some ⟨a, o, none⟩) n k => if Nat.beq k unk2 then .fail else if Nat.ble n k then .val (.slice (some ⟨a, o, none⟩) n k) else .fail
            | _ => .fail)
          else match s with
          | .slice none n k => if Nat.beq n 0 && Nat.beq k 0 && Nat.ble m 4294967296 && Nat.ble (m * inf.bytes) 140737488355328 && us.all one then .nw (e, inf.size) us fun b => .val (.slice (some ⟨b, 0, none⟩) m unk) else .fail
          | .slice (some ⟨a, o, none⟩) n k =>
            if Nat.ble (n + m) 4294967296 && Nat.ble ((n + m) * inf.bytes) 140737488355328 && us.all one then
              if Nat.beq k unk then .mv a (e, inf.size) (n * inf.size) us fun b => .val (.slice (some ⟨b, 0, none⟩) (n + m) unk)
              else if Nat.beq k unk2 then .fail
              else if Nat.ble (n + m) k then wrL a (o + n * inf.size) us (.val (.slice (some ⟨a, o, none⟩) (n + m) k))
              else rdN a (n * inf.size) o [] fun olds => .nw (e, inf.size) (olds ++ us) fun b => .val (.slice (some ⟨b, 0, none⟩) (n + m) unk)
            else .fail
          | _ => .fail
      else .fail
    | _, _ => .fail
  | _ => .fail

theorem size_zeroC (z : Array Value) (n : Nat) : (Builtin.zeroCells z n).size = n * z.size := by simp [Builtin.zeroCells]

theorem run_append_zero {t ty e : TypeId} {i : TypeInfo} (ht : P.underlying t = some (.slice e)) (hi : P.info? e = some i) {B A : Option Addr} {n k c : Nat} (h : n ≤ k) :
    (Builtin.append_ #[t, t] ty #[.slice B n k, .slice A 0 c]).run P w = .ok (.slice B n k) w := by
  have hf : (Builtin.firstCells i.size 0 (.slice A 0 c)).run P w = .ok #[] w := by
    cases A <;> simp [Builtin.firstCells, loadCells, loadCellsFrom]
  simp [Builtin.append_, run_underlying ht, sizeOf, typeInfo, hi, Builtin.lenOf, h, hf]
  cases B <;> simp [storeCells]

theorem run_append_in {t ty e : TypeId} {i : TypeInfo} (ht : P.underlying t = some (.slice e)) (hi : P.info? e = some i) {b a : Addr} {n k m c : Nat} {us : List Value} {w' : World} (hl : us.length = m * i.size)
    (hus : ∀ j v, us[j]? = some v → w.cell? (a.add j) = some v) (h : n + m ≤ k) (hst : (storeCells (b.add (n * i.size)) us).run P w = .ok () w') :
    (Builtin.append_ #[t, t] ty #[.slice (some b) n k, .slice (some a) m c]).run P w = .ok (.slice (some b) (n + m) k) w' := by
  have hf := run_firstCells_some (P := P) w i.size m a m c us hl hus
  simp [Builtin.append_, run_underlying ht, sizeOf, typeInfo, hi, Builtin.lenOf, h, hf, hst]

theorem le_grownCap (w : World) (need old : Nat) (e : TypeId) : need ≤ grownCap w need old e := by
  unfold grownCap Question.cut
  exact Nat.le_add_right _ _

theorem Fr.setRow {S : Nat → Prop} {w w' : World} (h : Fr S w w') (g : Nat) (hg : g < w.heap.size → S g) (cs : Array Value) : Fr S w (w'.setRow g cs) :=
  ⟨h.os, h.tape, h.output, by rw [size_setRow]; exact h.size, fun i hi hs => by
    rw [← h.block i hi hs]
    simp only [World.setRow, Array.getElem?_modify]
    rw [if_neg (fun e => hs (by subst e; exact hg hi))]⟩

theorem all_one {us us' : List Value} (h : VL ρ us us') (ha : us.all one = true) : ∀ u ∈ us', u.oneCell' = true := by
  intro u hu
  obtain ⟨j, hj⟩ := List.mem_iff_getElem?.1 hu
  have hlt : j < us.length := by rw [h.1]; exact (List.getElem?_eq_some_iff.1 hj).1
  have := h.2 j _ u (List.getElem?_eq_getElem hlt) hj
  rw [← one_eq, this.one]
  exact List.all_eq_true.1 ha _ (List.getElem_mem hlt)

theorem append_sim {t ty : TypeId} {s s' x x' : Value} (hs : V ρ s s') (hx : V ρ x x') : Sim P (appendP P t s x) (do pure (.value (← Builtin.append_ #[t, t] ty #[s', x']))) ρ w := by
  refine Sim.v fun H tr r hpr hval hw => ?_
  unfold appendP at hpr
  split at hpr
  case h_2 => cases hpr
  rename_i e hu
  split at hpr
  case h_2 => cases hpr
  rename_i inf z hinf hz
  obtain ⟨inf', hinf', hz', _⟩ := zeroP_spec hz
  rw [hinf] at hinf'; cases hinf'
  split at hpr
  case isFalse => cases hpr
  rename_i hsz
  obtain ⟨hsz, hzs, hro⟩ := hsz
  obtain ⟨A, m, c, us, us', t1, t2, rfl, rfl, q2, q3, q4, q5, q6, q7, q8⟩ := src_sound hx hw hpr hval
  have e1 : Went P ρ H w t1 ρ w := (Went.refl hw).congr (by rw [q6]; rfl) (fun b hb => by cases hb)
  have back : ∀ {t ρ' w'}, Went P ρ H w t ρ' w' → Went P ρ H w (t1 ++ t) ρ' w' := fun h => h.congr (by rw [apps_append, q6]) (fun b hb => by rw [wrote_append, q7]; exact hb)
  clear hval hpr hx
  split at q2
  · rename_i hm
    obtain rfl : m = 0 := Nat.eq_of_beq_eq_true hm
    split at q2
    · rename_i n k
      cases hs
      split at q2
      · rename_i hn
        cases q2
        exact ⟨_, _, w, ρ, rfl, run_append_zero hu hinf (Nat.le_of_ble_eq_true hn), by simpa using e1, .nils _ _⟩
      · cases q2
    · rename_i a o n k
      split at q2
      · cases q2
      · rename_i hk2
        split at q2
        · rename_i hn
          have hn := Nat.le_of_ble_eq_true hn
          cases q2
          cases hs with
          | slc0 => exact absurd rfl hk2
          | slc _ c κ _ _ _ k' hr hk =>
            refine ⟨_, _, w, ρ, rfl, run_append_zero hu hinf ?_, by simpa using e1, .slc _ c κ _ _ _ k' hr hk⟩
            cases hk with
            | same => exact hn
            | whole _ h => exact h
            | some_ => exact absurd rfl hk2
        · cases q2
    · cases q2
  · rename_i hm
    have hm0 : m ≠ 0 := fun e => hm (by rw [e]; rfl)
    obtain ⟨cx, ox, rfl, hrange⟩ := q5 hm0
    have hul : us'.length = m * inf.size := by rw [← q3.1]; exact q4
    have hus : ∀ j v, us'[j]? = some v → w.cell? ((⟨cx, ox, none⟩ : Addr).add j) = some v := fun j v h => by rw [Addr.add_mid]; exact hrange j v h
    split at q2
    · rename_i n k
      split at q2
      · rename_i hb
        simp only [Bool.and_eq_true] at hb
        obtain ⟨⟨⟨⟨b1, b2⟩, b3⟩, b4⟩, b5⟩ := hb
        obtain rfl : n = 0 := Nat.eq_of_beq_eq_true b1
        obtain rfl : k = 0 := Nat.eq_of_beq_eq_true b2
        have b3 := Nat.le_of_ble_eq_true b3
        have b4 := Nat.le_of_ble_eq_true b4
        cases hs
        cases q2 with
        | nw h =>
          rename_i b tr hnm
          cases h
          have hrun := run_append_nil (P := P) w t ty e inf z hu hinf hz' ⟨cx, ox, none⟩ m c us' hul hus (by omega) (by omega) (by omega)
          have hle := le_grownCap w m 0 e
          have hmx := grownCap_le_maxLen w m 0 e (by unfold maxLen; omega)
          have wd := Went.drew hw
          have hw2 := wd.wr.nw (b := b) (ty := (e, inf.size)) (cs := us) (κ := grownCap w m 0 e) (cs' := us'.toArray ++ Builtin.zeroCells z.cells (grownCap w m 0 e - m)) (by assumption) q8.1 (by simp [q3.1]) (fun j v v' h1 h2 => q3.2 j v v' h1 (by
            rw [Array.getElem?_append_left (by have := (List.getElem?_eq_some_iff.1 h1).1; simp; rw [← q3.1]; exact this)] at h2
            simpa using h2)) (.inr ⟨hmx, by simp only [Array.size_append, size_zeroC, List.size_toArray, hul, hzs]; rw [← Nat.add_mul]; congr 1; omega⟩)
          exact ⟨_, _, _, _, rfl, hrun, back (wd.trans hw2), .slc _ _ _ _ _ _ _ Rho.add_eq (.whole rfl hle)⟩
      · cases q2
    · rename_i a o n k
      split at q2
      case isFalse => cases q2
      rename_i hb
      simp only [Bool.and_eq_true] at hb
      obtain ⟨⟨b3, b4⟩, b5⟩ := hb
      have b3 := Nat.le_of_ble_eq_true b3
      have b4 := Nat.le_of_ble_eq_true b4
      have h1 := all_one q3 b5
      split at q2
      · rename_i hk
        obtain rfl : k = unk := Nat.eq_of_beq_eq_true hk
        cases hs with
        | slc _ c0 κ _ _ _ k' hr hk =>
          cases hk with
          | same _ h _ => exact absurd rfl h
          | whole ho hn =>
            subst ho
            cases q2 with
            | mv h =>
              rename_i b tr
              cases h
              obtain ⟨hok, _⟩ := q8
              obtain ⟨⟨cell, m0, hlive, hz2, hcells⟩, hub, _⟩ := hok
              obtain ⟨z1, z2, z4, z3⟩ := hz2
              have hz2 : inf.size ≠ 0 ∧ inf.size ≠ ro := ⟨by omega, by omega⟩
              obtain rfl : m0 = inf.size := by rcases z3 with h | h; exact h.symm; exact absurd h hz2.2
              obtain ⟨k1, κ1, cs, t1', fz1, hr1, hheap, hq1, hx1⟩ := hw.blk a _ _ hlive z4
              obtain ⟨ht1, hfz1, hR⟩ := hq1 hz2.2
              rw [ht1, hfz1] at hheap
              rw [hr] at hr1; cases hr1
              have hR2 : κ ≤ maxLen ∧ cs.size = κ * inf.size := by
                rcases hR with h0 | h0
                · exact absurd h0 hz2.1
                · exact h0
              have hmul : n * inf.size ≤ κ * inf.size := Nat.mul_le_mul_right _ hn
              by_cases hroom : n + m ≤ κ
              · have hmul2 : n * inf.size + us'.length ≤ cs.size := by rw [hul, ← Nat.add_mul, hR2.2]; exact Nat.mul_le_mul_right _ hroom
                have hrun := run_append_room (P := P) w t ty e inf hu hinf c0 n κ cs hheap ⟨cx, ox, none⟩ m c us' hul hus h1 hroom hmul2
                have hlt : (cs.toList.take (n * inf.size)).length = n * inf.size := by rw [List.length_take]; simp; omega
                have hw2 := hw.mv (b := b) (n := n * inf.size) (cs := us) (cs' := us') (g := c0) (κ' := κ) (cur := (cs.toList.take (n * inf.size) ++ us' ++ cs.toList.drop (n * inf.size + us'.length)).toArray) ⟨⟨cell, _, hlive, ⟨z1, z2, z4, z3⟩, hcells⟩, hub, ‹_›⟩ hlive hr (.inl rfl) q3
                  (fun j v hj hv => by
                    obtain ⟨v', y1, y2⟩ := (hx1 j v hv).resolve_left (fun h => hz2.1 h.2.1)
                    refine ⟨v', ?_, y2⟩
                    rw [List.getElem?_toArray, List.append_assoc, List.getElem?_append_left (by omega), List.getElem?_take, if_pos hj]
                    simpa using y1)
                  (fun j v' hj => by
                    rw [List.getElem?_toArray, List.append_assoc, List.getElem?_append_right (by omega), hlt, Nat.add_sub_cancel_left, List.getElem?_append_left (List.getElem?_eq_some_iff.1 hj).1]
                    exact hj)
                  (setRow_heap w c0 cs _ e (0, 0) hheap) (fun _ => ⟨rfl, .inr ⟨hR2.1, by simp; omega⟩⟩) ((Fr.refl (fun i => i = c0) w).setRow c0 (fun _ => rfl) _)
                exact ⟨_, _, _, _, rfl, hrun, back hw2, .slc _ _ _ _ _ _ _ Rho.add_eq (.whole rfl hroom)⟩
              · have hlt : (cs.toList.take (n * inf.size)).length = n * inf.size := by rw [List.length_take]; simp; omega
                have hrun := run_append_grow (P := P) w t ty e inf z hu hinf hz' ⟨c0, 0, none⟩ n κ (cs.toList.take (n * inf.size)) hlt (fun j v hj => by
                    rw [Addr.add_mid, Nat.zero_add, cell_of_row _ _ _ _ _ _ hheap]
                    rw [List.getElem?_take] at hj
                    split at hj
                    · simpa using hj
                    · cases hj) ⟨cx, ox, none⟩ m c us' hul hus (by omega) (by omega) (growslice_fits (by omega) b4)
                have hle := le_grownCap w (n + m) κ e
                have hmx := grownCap_le_maxLen w (n + m) κ e (by unfold maxLen; omega)
                generalize grownCap w (n + m) κ e = κ' at hrun hle hmx
                have hw2 := hw.mv (b := b) (n := n * inf.size) (cs := us) (cs' := us') (g := w.heap.size) (κ' := κ') (cur := (cs.toList.take (n * inf.size)).toArray ++ us'.toArray ++ Builtin.zeroCells z.cells (κ' - (n + m)))
                  (w' := w.drew.alloc (.cells ((cs.toList.take (n * inf.size)).toArray ++ us'.toArray ++ Builtin.zeroCells z.cells (κ' - (n + m))) e)) ⟨⟨cell, _, hlive, ⟨z1, z2, z4, z3⟩, hcells⟩, hub, ‹_›⟩ hlive hr (.inr (Nat.le_refl _)) q3
                  (fun j v hj hv => by
                    obtain ⟨v', y1, y2⟩ := (hx1 j v hv).resolve_left (fun h => hz2.1 h.2.1)
                    refine ⟨v', ?_, y2⟩
                    rw [Array.getElem?_append_left (by simp; omega), Array.getElem?_append_left (by simp; omega), List.getElem?_toArray, List.getElem?_take, if_pos hj]
                    simpa using y1)
                  (fun j v' hj => by
                    have hjl := (List.getElem?_eq_some_iff.1 hj).1
                    rw [Array.getElem?_append_left (by simp; omega), Array.getElem?_append_right (by simp; omega), List.getElem?_toArray]
                    rw [show n * inf.size + j - (cs.toList.take (n * inf.size)).toArray.size = j by simp; omega]
                    exact hj)
                  (show (w.drew.alloc _).heap[w.drew.heap.size]? = _ from heap_alloc_new w.drew _) (fun _ => ⟨rfl, .inr ⟨hmx, by
                    simp only [Array.size_append, size_zeroC, List.size_toArray, hul, hzs, hlt]
                    rw [← Nat.add_mul, ← Nat.add_mul, Nat.add_sub_cancel' hle]⟩⟩) (Fr.alloc (Fr.drew (Fr.refl (fun i => i = c0) w)) _)
                exact ⟨_, _, _, _, rfl, hrun, back hw2, .slc _ _ _ _ _ _ _ Rho.add_eq (.whole rfl hle)⟩
      · rename_i hku
        split at q2
        · cases q2
        · rename_i hku2
          cases hs with
          | slc0 => exact absurd rfl hku2
          | slc _ c0 κ _ _ _ k' hr hk =>
            cases hk with
            | whole => exact absurd rfl hku
            | some_ => exact absurd rfl hku2
            | same _ g1 g2 =>
              split at q2
              · rename_i hroom
                have hroom := Nat.le_of_ble_eq_true hroom
                have q2' : PR (wrL a (o + n * inf.size + 0) us (.val (.slice (some ⟨a, o, none⟩) (n + m) k))) t2 r := q2
                obtain ⟨w', s1, s2, rfl, p1, p2, p3, p4⟩ := wrL_sound (o0 := o + n * inf.size) (i := 0) hr q3 q2' q8 hw
                cases p1
                refine ⟨_, _, w', ρ, rfl, run_append_in hu hinf hul hus hroom ?_, by simpa using back p3, .slc _ c0 κ _ _ _ _ hr (.same _ g1 g2)⟩
                rw [Addr.add_mid]; exact p2
              · rename_i hroom
                have hroom : ¬ n + m ≤ k := fun h => hroom (Nat.ble_eq_true_of_le h)
                obtain ⟨os, os', s1, s2, rfl, p1, p2, p3, p4, p5, p6, p7⟩ := rdN_sound hr hw q2 q8
                cases p2 with
                | nw h =>
                  rename_i b tr hnm
                  cases h
                  have hol : os'.length = n * inf.size := by rw [← p3.1]; exact p1
                  have hrun := run_append_grow (P := P) w t ty e inf z hu hinf hz' ⟨c0, o, none⟩ n k os' hol (fun j v hj => by rw [Addr.add_mid]; exact p4 j v hj) ⟨cx, ox, none⟩ m c us' hul hus (by omega) (by omega) (growslice_fits (by omega) b4)
                  have hle := le_grownCap w (n + m) k e
                  have hmx := grownCap_le_maxLen w (n + m) k e (by unfold maxLen; omega)
                  have wd := Went.drew hw
                  have hap : VL ρ (os ++ us) (os' ++ us') := p3.append q3
                  have hw2 := wd.wr.nw (b := b) (ty := (e, inf.size)) (cs := [].reverse ++ os ++ us) (κ := grownCap w (n + m) k e) (cs' := os'.toArray ++ us'.toArray ++ Builtin.zeroCells z.cells (grownCap w (n + m) k e - (n + m))) (by assumption) p7.1 (by simp [q3.1, p3.1])
                    (fun j v v' h1 h2 => hap.2 j v v' (by simpa using h1) (by
                      rw [Array.getElem?_append_left (by have h3 := (List.getElem?_eq_some_iff.1 h1).1; have := hap.1; simp at h3 this ⊢; omega)] at h2
                      rw [← List.getElem?_toArray]
                      simpa using h2)) (.inr ⟨hmx, by
                      simp only [Array.size_append, size_zeroC, List.size_toArray, hul, hzs, hol]
                      rw [← Nat.add_mul, ← Nat.add_mul]; congr 1; omega⟩)
                  refine ⟨_, _, _, _, rfl, hrun, back ((wd.trans hw2).congr (by rw [apps_append (t := s1), p5]; rfl) fun b hb => ?_), .slc _ _ _ _ _ _ _ Rho.add_eq (.whole rfl hle)⟩
                  rw [wrote_append, p6]; exact hb
    · cases q2
end
end Go.Proofs.YtmphiefdoaihhaaGreatDoor
