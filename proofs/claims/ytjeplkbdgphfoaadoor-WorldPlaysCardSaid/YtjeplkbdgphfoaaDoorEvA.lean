/-
  A run that is reckoned over blocks with names of its own: values, blocks, what is done to them: no function of a program is named here.
-/
import Derived.Test.YtjeplkbdgphfoaaDoorBase
namespace Go.Proofs.YtjeplkbdgphfoaaDoor

/-- A value of one cell. -/
def one : Value → Bool
  | .agg _ => false
  | .tuple _ => false
  | _ => true

/-- A named block is a block of memory; and how many elements that block has room for, where it grew by append. -/
abbrev Rho := Nat → Option (Nat × Nat)
/-- A capacity that is not known: that of the whole block. -/
def unk : Nat := 1180591620717411303424
/-- A capacity that is not known at all. -/
def unk2 : Nat := 1180591620717411303425
/-- What a capacity is. -/
inductive CapR (κ o n : Nat) : Nat → Nat → Prop
  | same (k : Nat) (h1 : k ≠ unk) (h2 : k ≠ unk2) : CapR κ o n k k
  | whole (ho : o = 0) (hn : n ≤ κ) : CapR κ o n unk κ
  | some_ (k : Nat) (hn : n ≤ k) : CapR κ o n unk2 k

/-- A number as a name of its own. -/
def enc : Int → Nat
  | .ofNat n => 2 * n
  | .negSucc n => 2 * n + 1
theorem enc_inj {a b : Int} (h : enc a = enc b) : a = b := by
  cases a <;> cases b <;> simp only [enc] at h <;> congr 1 <;> omega
/-- A value over named blocks, and the value that lies in memory. -/
inductive V (ρ : Rho) : Value → Value → Prop
  | bool (b : Bool) : V ρ (.bool b) (.bool b)
  | int (k : IntKind) (n : Int) : V ρ (.int k n) (.int k n)
  | string (s : ByteArray) : V ρ (.string s) (.string s)
  | nilp : V ρ (.pointer none) (.pointer none)
  | ptr (b c κ o : Nat) (h : ρ b = some (c, κ)) : V ρ (.pointer (some ⟨b, o, none⟩)) (.pointer (some ⟨c, o, none⟩))
  | nils (n k : Nat) : V ρ (.slice none n k) (.slice none n k)
  | slc (b c κ o n k k' : Nat) (h : ρ b = some (c, κ)) (hk : CapR κ o n k k') : V ρ (.slice (some ⟨b, o, none⟩) n k) (.slice (some ⟨c, o, none⟩) n k')
  | slc0 (b c κ o o' k' : Nat) (h : ρ b = some (c, κ)) : V ρ (.slice (some ⟨b, o, none⟩) 0 unk2) (.slice (some ⟨c, o', none⟩) 0 k')
  | nilFunc : V ρ .nilFunc .nilFunc
  | func (f : FuncId) (l l' m m' : List Value) (hl : l.length = l'.length) (hm : m.length = m'.length) (h1 : ∀ (i : Nat) (v v' : Value), l[i]? = some v → l'[i]? = some v' → V ρ v v') (h2 : ∀ (i : Nat) (v v' : Value), m[i]? = some v → m'[i]? = some v' → V ρ v v') :
      V ρ (.func (.func f) ⟨l⟩ ⟨m⟩) (.func (.func f) ⟨l'⟩ ⟨m'⟩)
  | agg (l l' : List Value) (hl : l.length = l'.length) (h : ∀ (i : Nat) (v v' : Value), l[i]? = some v → l'[i]? = some v' → V ρ v v') : V ρ (.agg ⟨l⟩) (.agg ⟨l'⟩)
  | tuple (l l' : List Value) (hl : l.length = l'.length) (h : ∀ (i : Nat) (v v' : Value), l[i]? = some v → l'[i]? = some v' → V ρ v v') : V ρ (.tuple ⟨l⟩) (.tuple ⟨l'⟩)
  | num (b : Nat) (z : Int) (h : ρ b = some (enc z, 77)) : V ρ (.chan (some b)) (.int .i64 z)
  | nilIface : V ρ .nilIface .nilIface
  | iface (t : TypeId) (v v' : Value) (h : V ρ v v') : V ρ (.iface t v) (.iface t v')
  | nilm : V ρ (.map none) (.map none)
  | map (b c κ : Nat) (h : ρ b = some (c, κ)) : V ρ (.map (some b)) (.map (some c))

/-- Lists of values. -/
def VL (ρ : Rho) (l l' : List Value) : Prop := l.length = l'.length ∧ ∀ (i : Nat) (v v' : Value), l[i]? = some v → l'[i]? = some v' → V ρ v v'

section
variable {ρ ρ' : Rho}

theorem VL.nil : VL ρ [] [] := ⟨rfl, by simp⟩
theorem VL.cons {v v' : Value} {l l' : List Value} (h : V ρ v v') (hl : VL ρ l l') : VL ρ (v :: l) (v' :: l') := by
  refine ⟨by simp [hl.1], fun i u u' hu hu' => ?_⟩
  cases i with
  | zero => simp at hu hu'; subst hu hu'; exact h
  | succ i => simp at hu hu'; exact hl.2 i u u' hu hu'
theorem VL.head {v v' : Value} {l l' : List Value} (h : VL ρ (v :: l) (v' :: l')) : V ρ v v' := h.2 0 v v' rfl rfl
theorem VL.tail {v v' : Value} {l l' : List Value} (h : VL ρ (v :: l) (v' :: l')) : VL ρ l l' := ⟨by have := h.1; simpa using this, fun i u u' hu hu' => h.2 (i + 1) u u' (by simpa using hu) (by simpa using hu')⟩
theorem VL.cases_cons {v : Value} {l l' : List Value} (h : VL ρ (v :: l) l') : ∃ v' r', l' = v' :: r' ∧ V ρ v v' ∧ VL ρ l r' := by
  cases l' with
  | nil => have := h.1; simp at this
  | cons v' r' => exact ⟨v', r', rfl, h.head, h.tail⟩
theorem VL.cases_nil {l' : List Value} (h : VL ρ [] l') : l' = [] := by
  cases l' with
  | nil => rfl
  | cons => have := h.1; simp at this
theorem VL.append {l l' m m' : List Value} (h : VL ρ l l') (k : VL ρ m m') : VL ρ (l ++ m) (l' ++ m') := by
  refine ⟨by simp [h.1, k.1], fun i u u' hu hu' => ?_⟩
  by_cases hi : i < l.length
  · rw [List.getElem?_append_left hi] at hu
    rw [List.getElem?_append_left (by rw [← h.1]; exact hi)] at hu'
    exact h.2 i u u' hu hu'
  · rw [List.getElem?_append_right (by omega)] at hu
    rw [List.getElem?_append_right (by rw [← h.1]; omega), ← h.1] at hu'
    exact k.2 _ u u' hu hu'

theorem V.more {v v' : Value} (h : V ρ v v') (hr : ∀ b x, ρ b = some x → ρ' b = some x) : V ρ' v v' := by
  induction h with
  | bool b => exact .bool b
  | int k n => exact .int k n
  | string s => exact .string s
  | nilp => exact .nilp
  | ptr b c κ o h => exact .ptr b c κ o (hr b _ h)
  | nils n k => exact .nils n k
  | slc b c κ o n k k' h hk => exact .slc b c κ o n k k' (hr b _ h) hk
  | slc0 b c κ o o' k' h => exact .slc0 b c κ o o' k' (hr b _ h)
  | nilFunc => exact .nilFunc
  | func f l l' m m' hl hm _ _ i1 i2 => exact .func f l l' m m' hl hm i1 i2
  | agg l l' hl _ ih => exact .agg l l' hl ih
  | tuple l l' hl _ ih => exact .tuple l l' hl ih
  | num b z h => exact .num b z (hr b _ h)
  | nilIface => exact .nilIface
  | iface t v v' _ ih => exact .iface t v v' ih
  | nilm => exact .nilm
  | map b c κ h => exact .map b c κ (hr b _ h)
theorem VL.more {l l' : List Value} (h : VL ρ l l') (hr : ∀ b x, ρ b = some x → ρ' b = some x) : VL ρ' l l' := ⟨h.1, fun i v v' a b => (h.2 i v v' a b).more hr⟩

theorem V.cells {v v' : Value} (h : V ρ v v') : VL ρ v.cells.toList v'.cells.toList := by
  cases h with
  | agg l l' hl h => exact ⟨hl, h⟩
  | bool b => exact VL.cons (.bool b) VL.nil
  | int k n => exact VL.cons (.int k n) VL.nil
  | string s => exact VL.cons (.string s) VL.nil
  | nilp => exact VL.cons .nilp VL.nil
  | ptr b c κ o h => exact VL.cons (.ptr b c κ o h) VL.nil
  | nils n k => exact VL.cons (.nils n k) VL.nil
  | slc b c κ o n k k' h hk => exact VL.cons (.slc b c κ o n k k' h hk) VL.nil
  | slc0 b c κ o o' k' h => exact VL.cons (.slc0 b c κ o o' k' h) VL.nil
  | nilFunc => exact VL.cons .nilFunc VL.nil
  | func f l l' m m' hl hm h1 h2 => exact VL.cons (.func f l l' m m' hl hm h1 h2) VL.nil
  | tuple l l' hl h => exact VL.cons (.tuple l l' hl h) VL.nil
  | num b z h => exact VL.cons (.num b z h) VL.nil
  | nilIface => exact VL.cons .nilIface VL.nil
  | iface t v v' h => exact VL.cons (.iface t v v' h) VL.nil
  | nilm => exact VL.cons .nilm VL.nil
  | map b c κ h => exact VL.cons (.map b c κ h) VL.nil
theorem V.one {v v' : Value} (h : V ρ v v') : one v' = one v := by cases h <;> rfl
end

/-- A value of one cell that names no block. -/
def flat : Value → Bool
  | .bool _ => true
  | .int _ _ => true
  | .string _ => true
  | .pointer none => true
  | .slice none _ _ => true
  | .nilFunc => true
  | .nilIface => true
  | .map none => true
  | .func (.func _) ⟨[]⟩ ⟨[]⟩ => true
  | _ => false
/-- A value that names no block. -/
def ground : Value → Bool
  | .agg ⟨l⟩ => l.all flat
  | .tuple ⟨l⟩ => l.all fun | .agg ⟨m⟩ => m.all flat | v => flat v
  | v => flat v

theorem V.flat {ρ : Rho} : ∀ {v : Value}, flat v = true → V ρ v v
  | .bool b, _ => .bool b
  | .int k n, _ => .int k n
  | .string s, _ => .string s
  | .pointer none, _ => .nilp
  | .slice none n k, _ => .nils n k
  | .nilFunc, _ => .nilFunc
  | .nilIface, _ => .nilIface
  | .map none, _ => .nilm
  | .func (.func f) ⟨[]⟩ ⟨[]⟩, _ => .func f [] [] [] [] rfl rfl (by simp) (by simp)
theorem V.flat_eq {ρ : Rho} {v v' : Value} (h : V ρ v v') (hf : Proofs.YtjeplkbdgphfoaaDoor.flat v = true) : v' = v := by
  cases h with
  | func f l l' m m' hl hm h1 h2 =>
    match l, m, hl, hm, hf with
    | [], [], hl, hm, _ => rw [List.eq_nil_of_length_eq_zero hl.symm, List.eq_nil_of_length_eq_zero hm.symm]
  | ptr => simp [Proofs.YtjeplkbdgphfoaaDoor.flat] at hf
  | slc => simp [Proofs.YtjeplkbdgphfoaaDoor.flat] at hf
  | slc0 => simp [Proofs.YtjeplkbdgphfoaaDoor.flat] at hf
  | agg => simp [Proofs.YtjeplkbdgphfoaaDoor.flat] at hf
  | tuple => simp [Proofs.YtjeplkbdgphfoaaDoor.flat] at hf
  | iface => simp [Proofs.YtjeplkbdgphfoaaDoor.flat] at hf
  | map => simp [Proofs.YtjeplkbdgphfoaaDoor.flat] at hf
  | num => simp [Proofs.YtjeplkbdgphfoaaDoor.flat] at hf
  | _ => rfl
theorem flats_refl {ρ : Rho} {l : List Value} (h : l.all flat = true) : ∀ (i : Nat) (v v' : Value), l[i]? = some v → l[i]? = some v' → V ρ v v' := fun i v v' a b => by
  rw [a] at b; cases b
  exact V.flat (List.all_eq_true.1 h v (List.mem_of_getElem? a))
theorem flats_eq {ρ : Rho} {l l' : List Value} (hl : l.length = l'.length) (h : ∀ (i : Nat) (v v' : Value), l[i]? = some v → l'[i]? = some v' → V ρ v v') (hf : l.all flat = true) : l' = l := by
  refine List.ext_getElem? fun i => ?_
  rcases Nat.lt_or_ge i l.length with hi | hi
  · have a := List.getElem?_eq_getElem hi
    have b := List.getElem?_eq_getElem (show i < l'.length by omega)
    rw [a, b, (h i _ _ a b).flat_eq (List.all_eq_true.1 hf _ (List.getElem_mem hi))]
  · rw [List.getElem?_eq_none hi, List.getElem?_eq_none (by omega)]
theorem V.ground {ρ : Rho} {v : Value} (h : Proofs.YtjeplkbdgphfoaaDoor.ground v = true) : V ρ v v := by
  unfold Proofs.YtjeplkbdgphfoaaDoor.ground at h
  split at h
  · exact .agg _ _ rfl (flats_refl h)
  · refine .tuple _ _ rfl fun i v v' a b => ?_
    rw [a] at b; cases b
    have := List.all_eq_true.1 h v (List.mem_of_getElem? a)
    split at this
    · exact .agg _ _ rfl (flats_refl this)
    · exact V.flat this
  · exact V.flat h
theorem V.ground_eq {ρ : Rho} {v v' : Value} (h : V ρ v v') (hf : Proofs.YtjeplkbdgphfoaaDoor.ground v = true) : v' = v := by
  unfold Proofs.YtjeplkbdgphfoaaDoor.ground at hf
  split at hf
  · cases h with | agg l l' hl h => rw [flats_eq hl h hf]
  · rename_i l
    cases h with
    | tuple _ l' hl h =>
      have : l' = l := by
        refine List.ext_getElem? fun i => ?_
        rcases Nat.lt_or_ge i l.length with hi | hi
        · have a := List.getElem?_eq_getElem hi
          have b := List.getElem?_eq_getElem (show i < l'.length by omega)
          have hv := h i _ _ a b
          have hm := List.all_eq_true.1 hf _ (List.getElem_mem hi)
          rw [a, b]
          split at hm
          · rename_i m hm0
            rw [hm0] at hv ⊢
            generalize l'[i] = u at hv
            cases hv with | agg m m' h1 h2 => rw [flats_eq h1 h2 hm]
          · rw [hv.flat_eq hm]
        · rw [List.getElem?_eq_none hi, List.getElem?_eq_none (by omega)]
      rw [this]
  · exact h.flat_eq hf

/-- A block that is only read: of its type and its marks nothing is known. -/
def ro : Nat := 1099511627776
/-- A map: its one cell, at tyOff, is what it holds. -/
def mp : Nat := 2199023255552
/-- Where a block's type is told: no cell has that number. -/
def tyOff : Nat := 1208925819614629174706176
/-- A type, told as a value that no cell holds. -/
def tyV (t : TypeId) : Value := .float .f64 t
/-- A block by name; beside its type: the size of its elements if it grew by append, 'ro' if it is only read, else 0. -/
inductive Sta
  | unborn
  | dead
  | live (ty : TypeId × Nat) (cell : Nat → Option Value)
abbrev Hp := Nat → Sta
/-- What is done to blocks. 'mv': the first n cells of a, behind them cs, are block b from here on; a is no more. -/
inductive Ac
  | rd (b o : Nat) (v : Value)
  | wr (b o : Nat) (v : Value)
  | nw (b : Nat) (ty : TypeId × Nat) (cs : List Value)
  | mv (a b : Nat) (ty : TypeId × Nat) (n : Nat) (cs : List Value)

def Hp.set (H : Hp) (b : Nat) (s : Sta) : Hp := fun i => if i = b then s else H i
def cellSet (c : Nat → Option Value) (o : Nat) (v : Value) : Nat → Option Value := fun i => if i = o then some v else c i
/-- The cells of a new block; a block that does not grow tells its type. -/
def newCell (ty : TypeId × Nat) (cs : List Value) : Nat → Option Value := fun i => if i = tyOff then (if ty.2 = 0 then some (tyV ty.1) else if ty.2 = mp then cs[0]? else none) else if ty.2 = mp then none else cs[i]?
theorem newCell_of {ty : TypeId × Nat} (h : ty.2 ≠ mp) (cs : List Value) : newCell ty cs = fun i => if i = tyOff then (if ty.2 = 0 then some (tyV ty.1) else none) else cs[i]? := by
  funext i; unfold newCell; simp only [if_neg h]
def cellMore (c : Nat → Option Value) (n : Nat) (cs : List Value) : Nat → Option Value := fun i => if i < n then c i else cs[i - n]?

def Ok (H : Hp) : Ac → Prop
  | .rd b o v => ∃ (ty : TypeId × Nat) (c : Nat → Option Value), H b = .live ty c ∧ c o = some v
  | .wr b o v => (∃ (ty : TypeId × Nat) (c : Nat → Option Value) (u : Value), H b = .live ty c ∧ c o = some u ∧ ty.2 ≠ ro ∧ (o = tyOff ↔ ty.2 = mp)) ∧ one v = true
  | .nw b _ cs => H b = .unborn ∧ ∀ v ∈ cs, one v = true
  | .mv a b ty n cs => (∃ (c : Nat → Option Value) (m : Nat), H a = .live (ty.1, m) c ∧ (m ≠ 0 ∧ m ≠ ro ∧ m ≠ mp ∧ (ty.2 = m ∨ ty.2 = ro)) ∧ ∀ i, i < n → c i ≠ none) ∧ H b = .unborn ∧ ∀ v ∈ cs, one v = true
def app (H : Hp) : Ac → Hp
  | .rd _ _ _ => H
  | .wr b o v => match H b with
    | .live ty c => H.set b (.live ty (cellSet c o v))
    | _ => H
  | .nw b ty cs => H.set b (.live ty (newCell ty cs))
  | .mv a b ty n cs => match H a with
    | .live _ c => (H.set a .dead).set b (.live ty (cellMore c n cs))
    | _ => H

def Valid : Hp → List Ac → Prop
  | _, [] => True
  | H, a :: t => Ok H a ∧ Valid (app H a) t
def apps : Hp → List Ac → Hp
  | H, [] => H
  | H, a :: t => apps (app H a) t
theorem Valid.append {H : Hp} {t u : List Ac} : Valid H (t ++ u) ↔ Valid H t ∧ Valid (apps H t) u := by
  induction t generalizing H with
  | nil => simp [Valid, apps]
  | cons a t ih => simp only [List.cons_append, Valid, apps, ih, and_assoc]
theorem apps_append {H : Hp} {t u : List Ac} : apps H (t ++ u) = apps (apps H t) u := by
  induction t generalizing H with
  | nil => rfl
  | cons a t ih => simp only [List.cons_append, apps, ih]

/-- Two deeds that touch nothing in common, or read alike. -/
def Apart : Ac → Ac → Prop
  | .rd _ _ _, .rd _ _ _ => True
  | .rd b o _, .wr b' o' _ => b ≠ b' ∨ o ≠ o'
  | .wr b o _, .rd b' o' _ => b ≠ b' ∨ o ≠ o'
  | .wr b o _, .wr b' o' _ => b ≠ b' ∨ o ≠ o'
  | .rd b _ _, .nw b' _ _ => b ≠ b'
  | .wr b _ _, .nw b' _ _ => b ≠ b'
  | .nw b _ _, .rd b' _ _ => b ≠ b'
  | .nw b _ _, .wr b' _ _ => b ≠ b'
  | .nw b _ _, .nw b' _ _ => b ≠ b'
  | .rd c _ _, .mv a b _ _ _ => c ≠ a ∧ c ≠ b
  | .wr c _ _, .mv a b _ _ _ => c ≠ a ∧ c ≠ b
  | .nw c _ _, .mv a b _ _ _ => c ≠ a ∧ c ≠ b
  | .mv a b _ _ _, .rd c _ _ => c ≠ a ∧ c ≠ b
  | .mv a b _ _ _, .wr c _ _ => c ≠ a ∧ c ≠ b
  | .mv a b _ _ _, .nw c _ _ => c ≠ a ∧ c ≠ b
  | .mv a b _ _ _, .mv a' b' _ _ _ => a ≠ a' ∧ a ≠ b' ∧ b ≠ a' ∧ b ≠ b'

theorem Hp.set_ne {H : Hp} {b i : Nat} {s : Sta} (h : i ≠ b) : H.set b s i = H i := if_neg h
theorem Hp.set_eq {H : Hp} {b : Nat} {s : Sta} : H.set b s b = s := if_pos rfl
theorem Hp.set_comm {H : Hp} {a b : Nat} {s u : Sta} (h : a ≠ b) : (H.set a s).set b u = (H.set b u).set a s := by
  funext i
  unfold Hp.set
  by_cases h1 : i = a <;> by_cases h2 : i = b <;> simp_all
theorem cellSet_comm {c : Nat → Option Value} {o p : Nat} {u v : Value} (h : o ≠ p) : cellSet (cellSet c o u) p v = cellSet (cellSet c p v) o u := by
  funext i
  unfold cellSet
  by_cases h1 : i = o <;> by_cases h2 : i = p <;> simp_all

theorem swap1 {H : Hp} {a b : Ac} (hi : Apart a b) (ha : Ok H a) (hb : Ok (app H a) b) : Ok H b ∧ Ok (app H b) a ∧ app (app H a) b = app (app H b) a := by
  cases a with
  | rd b1 o1 v1 =>
    obtain ⟨t1, c1, e1, g1⟩ := ha
    cases b with
    | rd b2 o2 v2 => exact ⟨hb, ⟨t1, c1, e1, g1⟩, rfl⟩
    | wr b2 o2 v2 =>
      refine ⟨hb, ?_, rfl⟩
      obtain ⟨⟨t2, c2, u2, e2, g2⟩, h2⟩ := hb
      simp only [app] at e2
      simp only [app, e2, Ok]
      by_cases hbb : b1 = b2
      · subst hbb
        rw [e1] at e2; cases e2
        refine ⟨t1, cellSet c1 o2 v2, Hp.set_eq, ?_⟩
        unfold cellSet
        rw [if_neg (by rcases hi with h | h; exact absurd rfl h; exact h)]
        exact g1
      · exact ⟨t1, c1, by rw [Hp.set_ne hbb]; exact e1, g1⟩
    | nw b2 t2 cs =>
      refine ⟨hb, ⟨t1, c1, ?_, g1⟩, rfl⟩
      simp only [app]
      rw [Hp.set_ne hi]; exact e1
    | mv a2 b2 t2 n cs =>
      refine ⟨hb, ?_, rfl⟩
      obtain ⟨⟨c2, m2, e2, g2⟩, h2⟩ := hb
      simp only [app] at e2
      simp only [app, e2, Ok]
      exact ⟨t1, c1, by rw [Hp.set_ne hi.2, Hp.set_ne hi.1]; exact e1, g1⟩
  | wr b1 o1 v1 =>
    obtain ⟨⟨t1, c1, u1, e1, g1⟩, k1⟩ := ha
    cases b with
    | rd b2 o2 v2 =>
      obtain ⟨t2, c2, e2, g2⟩ := hb
      simp only [app, e1] at e2
      have hrd : Ok H (.rd b2 o2 v2) := by
        by_cases hbb : b2 = b1
        · subst hbb
          rw [Hp.set_eq] at e2; cases e2
          unfold cellSet at g2
          rw [if_neg (by rcases hi with h | h; exact absurd rfl h; exact fun e => h e.symm)] at g2
          exact ⟨t1, c1, e1, g2⟩
        · rw [Hp.set_ne hbb] at e2; exact ⟨t2, c2, e2, g2⟩
      exact ⟨hrd, ⟨⟨t1, c1, u1, e1, g1⟩, k1⟩, rfl⟩
    | wr b2 o2 v2 =>
      obtain ⟨⟨t2, c2, u2, e2, g2⟩, k2⟩ := hb
      simp only [app, e1] at e2
      by_cases hbb : b2 = b1
      · subst hbb
        have ho : o2 ≠ o1 := by rcases hi with h | h; exact absurd rfl h; exact fun e => h e.symm
        rw [Hp.set_eq] at e2; cases e2
        unfold cellSet at g2
        rw [if_neg ho] at g2
        have w2 : app H (.wr b2 o2 v2) = H.set b2 (.live t1 (cellSet c1 o2 v2)) := by simp only [app, e1]
        have w1 : app H (.wr b2 o1 v1) = H.set b2 (.live t1 (cellSet c1 o1 v1)) := by simp only [app, e1]
        refine ⟨⟨⟨t1, c1, u2, e1, g2⟩, k2⟩, ⟨⟨t1, cellSet c1 o2 v2, u1, by rw [w2, Hp.set_eq], ?_⟩, k1⟩, ?_⟩
        · unfold cellSet; rw [if_neg (Ne.symm ho)]; exact g1
        · rw [w1, w2]
          simp only [app, Hp.set_eq]
          rw [cellSet_comm (Ne.symm ho)]
          funext i
          unfold Hp.set
          split <;> rfl
      · rw [Hp.set_ne hbb] at e2
        have w2 : app H (.wr b2 o2 v2) = H.set b2 (.live t2 (cellSet c2 o2 v2)) := by simp only [app, e2]
        have w1 : app H (.wr b1 o1 v1) = H.set b1 (.live t1 (cellSet c1 o1 v1)) := by simp only [app, e1]
        refine ⟨⟨⟨t2, c2, u2, e2, g2⟩, k2⟩, ⟨⟨t1, c1, u1, by rw [w2, Hp.set_ne (Ne.symm hbb)]; exact e1, g1⟩, k1⟩, ?_⟩
        rw [w1, w2]
        simp only [app, Hp.set_ne hbb, Hp.set_ne (Ne.symm hbb), e1, e2]
        exact Hp.set_comm (Ne.symm hbb)
    | nw b2 t2 cs =>
      obtain ⟨e2, k2⟩ := hb
      have w1 : app H (.wr b1 o1 v1) = H.set b1 (.live t1 (cellSet c1 o1 v1)) := by simp only [app, e1]
      rw [w1, Hp.set_ne (Ne.symm hi)] at e2
      refine ⟨⟨e2, k2⟩, ⟨⟨t1, c1, u1, ?_, g1⟩, k1⟩, ?_⟩
      · simp only [app]; rw [Hp.set_ne hi]; exact e1
      · rw [w1]
        simp only [app, Hp.set_ne hi, e1]
        exact Hp.set_comm hi
    | mv a2 b2 t2 n cs =>
      obtain ⟨⟨c2, m2, e2, g2⟩, e3, k2⟩ := hb
      have w1 : app H (.wr b1 o1 v1) = H.set b1 (.live t1 (cellSet c1 o1 v1)) := by simp only [app, e1]
      rw [w1, Hp.set_ne (Ne.symm hi.1)] at e2
      rw [w1, Hp.set_ne (Ne.symm hi.2)] at e3
      have w2 : app H (.mv a2 b2 t2 n cs) = (H.set a2 .dead).set b2 (.live t2 (cellMore c2 n cs)) := by simp only [app, e2]
      refine ⟨⟨⟨c2, m2, e2, g2⟩, e3, k2⟩, ⟨⟨t1, c1, u1, by rw [w2, Hp.set_ne hi.2, Hp.set_ne hi.1]; exact e1, g1⟩, k1⟩, ?_⟩
      rw [w1, w2]
      simp only [app, Hp.set_ne hi.1, Hp.set_ne hi.2, Hp.set_ne (Ne.symm hi.1), e1, e2]
      rw [Hp.set_comm hi.1, Hp.set_comm hi.2]
  | nw b1 ty1 cs1 =>
    obtain ⟨e1, k1⟩ := ha
    cases b with
    | rd b2 o2 v2 =>
      obtain ⟨t2, c2, e2, g2⟩ := hb
      simp only [app] at e2
      rw [Hp.set_ne (Ne.symm hi)] at e2
      exact ⟨⟨t2, c2, e2, g2⟩, ⟨e1, k1⟩, rfl⟩
    | wr b2 o2 v2 =>
      obtain ⟨⟨t2, c2, u2, e2, g2⟩, k2⟩ := hb
      simp only [app] at e2
      rw [Hp.set_ne (Ne.symm hi)] at e2
      have w2 : app H (.wr b2 o2 v2) = H.set b2 (.live t2 (cellSet c2 o2 v2)) := by simp only [app, e2]
      refine ⟨⟨⟨t2, c2, u2, e2, g2⟩, k2⟩, ⟨by rw [w2, Hp.set_ne hi]; exact e1, k1⟩, ?_⟩
      rw [w2]
      simp only [app, Hp.set_ne (Ne.symm hi), e2]
      exact Hp.set_comm hi
    | nw b2 t2 cs =>
      obtain ⟨e2, k2⟩ := hb
      simp only [app] at e2
      rw [Hp.set_ne (Ne.symm hi)] at e2
      refine ⟨⟨e2, k2⟩, ⟨by simp only [app]; rw [Hp.set_ne hi]; exact e1, k1⟩, ?_⟩
      simp only [app]
      exact Hp.set_comm hi
    | mv a2 b2 t2 n cs =>
      obtain ⟨⟨c2, m2, e2, g2⟩, e3, k2⟩ := hb
      simp only [app] at e2 e3
      rw [Hp.set_ne (Ne.symm hi.1)] at e2
      rw [Hp.set_ne (Ne.symm hi.2)] at e3
      have w2 : app H (.mv a2 b2 t2 n cs) = (H.set a2 .dead).set b2 (.live t2 (cellMore c2 n cs)) := by simp only [app, e2]
      refine ⟨⟨⟨c2, m2, e2, g2⟩, e3, k2⟩, ⟨by rw [w2, Hp.set_ne hi.2, Hp.set_ne hi.1]; exact e1, k1⟩, ?_⟩
      rw [w2]
      simp only [app, Hp.set_ne (Ne.symm hi.1), e2]
      rw [Hp.set_comm hi.1, Hp.set_comm hi.2]
  | mv a1 b1 t1 n1 cs1 =>
    obtain ⟨⟨c1, m1, e1, g1⟩, f1, k1⟩ := ha
    have w1 : app H (.mv a1 b1 t1 n1 cs1) = (H.set a1 .dead).set b1 (.live t1 (cellMore c1 n1 cs1)) := by simp only [app, e1]
    cases b with
    | rd b2 o2 v2 =>
      obtain ⟨t2, c2, e2, g2⟩ := hb
      rw [w1, Hp.set_ne hi.2, Hp.set_ne hi.1] at e2
      exact ⟨⟨t2, c2, e2, g2⟩, ⟨⟨c1, m1, e1, g1⟩, f1, k1⟩, rfl⟩
    | wr b2 o2 v2 =>
      obtain ⟨⟨t2, c2, u2, e2, g2⟩, k2⟩ := hb
      rw [w1, Hp.set_ne hi.2, Hp.set_ne hi.1] at e2
      have w2 : app H (.wr b2 o2 v2) = H.set b2 (.live t2 (cellSet c2 o2 v2)) := by simp only [app, e2]
      refine ⟨⟨⟨t2, c2, u2, e2, g2⟩, k2⟩, ⟨⟨c1, m1, by rw [w2, Hp.set_ne (Ne.symm hi.1)]; exact e1, g1⟩, by rw [w2, Hp.set_ne (Ne.symm hi.2)]; exact f1, k1⟩, ?_⟩
      rw [w1, w2]
      simp only [app, Hp.set_ne hi.1, Hp.set_ne hi.2, Hp.set_ne (Ne.symm hi.1), e1, e2]
      rw [Hp.set_comm hi.1, Hp.set_comm hi.2]
    | nw b2 t2 cs =>
      obtain ⟨e2, k2⟩ := hb
      rw [w1, Hp.set_ne hi.2, Hp.set_ne hi.1] at e2
      refine ⟨⟨e2, k2⟩, ⟨⟨c1, m1, by simp only [app]; rw [Hp.set_ne (Ne.symm hi.1)]; exact e1, g1⟩, by simp only [app]; rw [Hp.set_ne (Ne.symm hi.2)]; exact f1, k1⟩, ?_⟩
      rw [w1]
      simp only [app, Hp.set_ne (Ne.symm hi.1), e1]
      rw [Hp.set_comm hi.1, Hp.set_comm hi.2]
    | mv a2 b2 t2 n cs =>
      obtain ⟨⟨c2, m2, e2, g2⟩, e3, k2⟩ := hb
      obtain ⟨i1, i2, i3, i4⟩ := hi
      rw [w1, Hp.set_ne (Ne.symm i3), Hp.set_ne (Ne.symm i1)] at e2
      rw [w1, Hp.set_ne (Ne.symm i4), Hp.set_ne (Ne.symm i2)] at e3
      have w2 : app H (.mv a2 b2 t2 n cs) = (H.set a2 .dead).set b2 (.live t2 (cellMore c2 n cs)) := by simp only [app, e2]
      refine ⟨⟨⟨c2, m2, e2, g2⟩, e3, k2⟩, ⟨⟨c1, m1, by rw [w2, Hp.set_ne i2, Hp.set_ne i1]; exact e1, g1⟩, by rw [w2, Hp.set_ne i4, Hp.set_ne i3]; exact f1, k1⟩, ?_⟩
      rw [w1, w2]
      simp only [app, Hp.set_ne i1, Hp.set_ne i2, Hp.set_ne (Ne.symm i1), Hp.set_ne (Ne.symm i3), e1, e2]
      rw [Hp.set_comm i3, Hp.set_comm i4, Hp.set_comm i1, Hp.set_comm i2]

def AllApart (t u : List Ac) : Prop := ∀ a ∈ t, ∀ b ∈ u, Apart a b
theorem swap2 {H : Hp} {a : Ac} {u : List Ac} (hi : ∀ b ∈ u, Apart a b) (h : Valid H (a :: u)) : Valid H (u ++ [a]) ∧ apps H (a :: u) = apps H (u ++ [a]) := by
  induction u generalizing H with
  | nil => exact ⟨h, rfl⟩
  | cons b u ih =>
    obtain ⟨h1, h2, h3⟩ := h
    obtain ⟨k1, k2, k3⟩ := swap1 (hi b List.mem_cons_self) h1 h2
    rw [k3] at h3
    obtain ⟨q1, q2⟩ := ih (H := app H b) (fun c hc => hi c (List.mem_cons_of_mem _ hc)) ⟨k2, h3⟩
    refine ⟨⟨k1, q1⟩, ?_⟩
    simp only [apps, List.cons_append] at q2 ⊢
    rw [k3]; exact q2
/-- Two rows of deeds that touch nothing in common may change places. -/
theorem swap {H : Hp} {t u : List Ac} (hi : AllApart t u) (h : Valid H (t ++ u)) : Valid H (u ++ t) ∧ apps H (t ++ u) = apps H (u ++ t) := by
  induction t generalizing H u with
  | nil => simpa using h
  | cons a t ih =>
    obtain ⟨h1, h2⟩ := h
    obtain ⟨k1, k2⟩ := ih (H := app H a) (u := u) (fun x hx => hi x (List.mem_cons_of_mem _ hx)) h2
    have h3 : Valid H ((a :: u) ++ t) := ⟨h1, k1⟩
    rw [Valid.append] at h3
    obtain ⟨q1, q2⟩ := swap2 (hi a List.mem_cons_self) h3.1
    have e1 : Valid H ((u ++ [a]) ++ t) := Valid.append.2 ⟨q1, by rw [← q2]; exact h3.2⟩
    rw [List.append_assoc] at e1
    refine ⟨e1, ?_⟩
    show apps (app H a) (t ++ u) = _
    rw [k2, show u ++ a :: t = (u ++ [a]) ++ t by simp, apps_append (t := u ++ [a]), ← q2, apps_append]
    rfl
end Go.Proofs.YtjeplkbdgphfoaaDoor
