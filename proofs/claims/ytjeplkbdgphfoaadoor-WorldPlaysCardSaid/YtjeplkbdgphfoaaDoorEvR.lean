/-
  A run that is reckoned over blocks with names of its own: frames of slots: no function of a program is named here.
-/
import Derived.Test.YtjeplkbdgphfoaaDoorEvQ
namespace Go.Proofs.YtjeplkbdgphfoaaDoor
open Go.RowKit
noncomputable section

/-- A frame: 256 slots, and others. -/
structure Frm where
  lo : N16 (N16 Value)
  hi : Tr Value
structure Slot where
  g : Frm → Value
  s : Frm → Value → Frm
def loSlot (d e : D16) : Slot := P16.rec (motive := fun _ => Slot) (fun g1 _ m1 => P16.rec (motive := fun _ => Slot) (fun g2 s2 _ =>
  ⟨fun f => g2 (g1 f.lo), fun f x => Frm.rec (motive := fun _ => Frm) (fun lo hi => ⟨m1 lo (fun a => s2 a x), hi⟩) f⟩) (p16 Value e)) (p16 (N16 Value) d)
def hiSlot (i : Nat) : Slot := ⟨fun f => Option.rec (motive := fun _ => Value) undef (fun v => v) (Tr.get 30 f.hi i), fun f x => Frm.rec (motive := fun _ => Frm) (fun lo hi => ⟨lo, Tr.set 30 hi i x⟩) f⟩
def slotOf (i : Nat) : Slot := Bool.rec (motive := fun _ => Slot) (hiSlot i) (loSlot (D16.of (Nat.div i 16)) (D16.of (Nat.mod i 16))) (Nat.blt i 256)
theorem loSlot_g (d e : D16) (f : Frm) : (loSlot d e).g f = (p16 Value e).g ((p16 (N16 Value) d).g f.lo) := rfl
theorem loSlot_s (d e : D16) (f : Frm) (x : Value) : (loSlot d e).s f x = ⟨(p16 (N16 Value) d).s f.lo ((p16 Value e).s ((p16 (N16 Value) d).g f.lo) x), f.hi⟩ := by
  rw [← p16_m d f.lo (fun a => (p16 Value e).s a x)]; rfl
theorem slotOf_lo {i : Nat} (h : Nat.blt i 256 = true) : slotOf i = loSlot (D16.of (i / 16)) (D16.of (i % 16)) := by unfold slotOf; rw [h]; rfl
theorem slotOf_hi {i : Nat} (h : Nat.blt i 256 = false) : slotOf i = hiSlot i := by unfold slotOf; rw [h]
theorem slot_same (i : Nat) (f : Frm) (x : Value) : (slotOf i).g ((slotOf i).s f x) = x := by
  cases h : Nat.blt i 256 with
  | true => rw [slotOf_lo h, loSlot_s, loSlot_g]; simp only [p16_same]
  | false =>
    rw [slotOf_hi h]
    simp only [hiSlot, Tr.get_set_same]
theorem slot_ne {i j : Nat} (hij : i ≠ j) (f : Frm) (x : Value) : (slotOf j).g ((slotOf i).s f x) = (slotOf j).g f := by
  cases h : Nat.blt i 256 with
  | true =>
    rw [slotOf_lo h, loSlot_s]
    cases k : Nat.blt j 256 with
    | true =>
      rw [slotOf_lo k, loSlot_g, loSlot_g]
      have h' : i < 256 := by simpa [Nat.blt_eq] using h
      have k' : j < 256 := by simpa [Nat.blt_eq] using k
      simp only
      by_cases hd : D16.of (i / 16) = D16.of (j / 16)
      · rw [hd, p16_same]
        have h1 : i / 16 = j / 16 := D16.of_inj (by omega) (by omega) hd
        refine p16_ne (fun he => ?_) _ _
        have h2 : i % 16 = j % 16 := D16.of_inj (by omega) (by omega) he
        omega
      · rw [p16_ne hd]
    | false => rw [slotOf_hi k]; rfl
  | false =>
    rw [slotOf_hi h]
    cases k : Nat.blt j 256 with
    | true => rw [slotOf_lo k]; rfl
    | false =>
      rw [slotOf_hi k]
      simp only [hiSlot]
      rw [Tr.get_set_ne _ _ _ _ _ hij]

/-- The frame that it stands for: its first n slots. -/
def Frm.act (n : Nat) (f : Frm) : Act := { tmps := ⟨(List.range n).map fun i => (slotOf i).g f⟩, defers := [] }
theorem act_eval {n t : Nat} {f : Frm} (h : t < n) : (f.act n).eval (.tmp t) = (slotOf t).g f := by
  simp only [Act.eval, Frm.act]
  rw [Array.getD_eq_getD_getElem?]
  simp [h]
theorem act_put {n d : Nat} {f : Frm} {v : Value} (hd : d < n) : ((slotOf d).s f v).act n = (f.act n).put (some d) v := by
  simp only [Frm.act, Act.put]
  congr 1
  apply Array.toList_inj.1
  rw [Array.toList_setIfInBounds]
  refine List.ext_getElem? fun i => ?_
  rw [List.getElem?_set]
  by_cases hi : d = i
  · subst hi
    rw [if_pos rfl, if_pos (by simpa using hd)]
    simp only [List.getElem?_map, List.getElem?_range hd, Option.map_some, slot_same]
  · rw [if_neg hi]
    simp only [List.getElem?_map]
    cases hr : (List.range n)[i]? with
    | none => rfl
    | some j =>
      have hj : j = i := by
        have hlt := (List.getElem?_eq_some_iff.1 hr).1
        simp at hlt
        rw [List.getElem?_range hlt] at hr
        exact (Option.some.inj hr).symm
      subst hj
      simp only [Option.map_some, slot_ne hi]

/-- Operands, results. -/
structure Opd where
  v : Frm → Value
def opd (x : Operand) : Opd := Operand.rec (motive := fun _ => Opd) (fun t => Slot.rec (motive := fun _ => Opd) (fun g _ => ⟨g⟩) (slotOf t)) (fun v => ⟨fun _ => v⟩) (fun g => ⟨fun _ => .pointer (some ⟨g, 0, none⟩)⟩) (fun f => ⟨fun _ => .func (.func f) #[] #[]⟩) x
structure Dst where
  s : Frm → Value → Frm
def dstZ (d : Option Tmp) : Dst := Option.rec (motive := fun _ => Dst) ⟨fun f _ => f⟩ (fun t => Slot.rec (motive := fun _ => Dst) (fun _ s => ⟨s⟩) (slotOf t)) d
def opdT (n : Nat) (x : Operand) : Bool := Operand.rec (motive := fun _ => Bool) (fun t => Nat.blt t n) (fun _ => true) (fun _ => true) (fun _ => true) x
def dstT (n : Nat) (d : Option Tmp) : Bool := Option.rec (motive := fun _ => Bool) true (fun t => Nat.blt t n) d
theorem opd_eval {n : Nat} {x : Operand} (h : opdT n x = true) (f : Frm) : (opd x).v f = (f.act n).eval x := by
  cases x with
  | tmp t => rw [act_eval (by simpa [opdT, Nat.blt_eq] using h)]; rfl
  | const v => rfl
  | global g => rfl
  | func g => rfl
theorem dst_put {n : Nat} {d : Option Tmp} (h : dstT n d = true) (f : Frm) (v : Value) : ((dstZ d).s f v).act n = (f.act n).put d v := by
  cases d with
  | none => rfl
  | some t => exact act_put (by simpa [dstT, Nat.blt_eq] using h)

def u16 : N16 Value := ⟨undef, undef, undef, undef, undef, undef, undef, undef, undef, undef, undef, undef, undef, undef, undef, undef⟩
def uFrm : Frm := ⟨⟨u16, u16, u16, u16, u16, u16, u16, u16, u16, u16, u16, u16, u16, u16, u16, u16⟩, .e⟩
theorem uFrm_g (i : Nat) : (slotOf i).g uFrm = undef := by
  cases h : Nat.blt i 256 with
  | true =>
    rw [slotOf_lo h, loSlot_g]
    have h1 : ∀ d : D16, (p16 (N16 Value) d).g uFrm.lo = u16 := by intro d; cases d <;> rfl
    have h2 : ∀ d : D16, (p16 Value d).g u16 = undef := by intro d; cases d <;> rfl
    rw [h1, h2]
  | false =>
    rw [slotOf_hi h]
    simp only [hiSlot, uFrm, Tr.get_e]
def fillZ (l : List Value) : Nat → Frm → Frm := List.rec (motive := fun _ => Nat → Frm → Frm) (fun _ f => f) (fun v _ ih i f => ih (Nat.succ i) ((slotOf i).s f v)) l
theorem fillZ_g : ∀ (l : List Value) (i j : Nat) (f : Frm), (slotOf j).g (fillZ l i f) = if j < i then (slotOf j).g f else if j < i + l.length then (l[j - i]?).getD undef else (slotOf j).g f
  | [], i, j, f => by simp only [fillZ, List.length_nil, Nat.add_zero]; split <;> simp
  | v :: l, i, j, f => by
    show (slotOf j).g (fillZ l (i + 1) ((slotOf i).s f v)) = _
    rw [fillZ_g l (i + 1) j]
    simp only [List.length_cons]
    by_cases h1 : j < i
    · rw [if_pos (by omega), if_pos h1, slot_ne (by omega)]
    · rw [if_neg h1]
      by_cases h2 : j = i
      · subst h2
        rw [if_pos (by omega), if_pos (by omega), slot_same]
        simp
      · rw [if_neg (by omega)]
        by_cases h3 : j < i + 1 + l.length
        · rw [if_pos h3, if_pos (by omega), show j - i = (j - (i + 1)) + 1 by omega]
          rfl
        · rw [if_neg h3, if_neg (by omega), slot_ne (by omega)]
theorem fillZ_act {l : List Value} {n : Nat} (h : l.length ≤ n) : (fillZ l 0 uFrm).act n = { tmps := ⟨l⟩ ++ Array.replicate (n - l.length) undef, defers := [] } := by
  unfold Frm.act
  congr 1
  apply Array.toList_inj.1
  simp only [Array.toList_append, Array.toList_replicate]
  refine List.ext_getElem? fun i => ?_
  rw [List.getElem?_map]
  by_cases h1 : i < l.length
  · rw [List.getElem?_append_left h1, List.getElem?_range (by omega)]
    simp only [Option.map_some]
    rw [fillZ_g, if_neg (Nat.not_lt_zero _), if_pos (by omega), Nat.sub_zero, List.getElem?_eq_getElem h1]
    rfl
  · rw [List.getElem?_append_right (by omega)]
    by_cases h2 : i < n
    · rw [List.getElem?_range h2, List.getElem?_replicate, if_pos (by omega)]
      simp only [Option.map_some]
      rw [fillZ_g, if_neg (Nat.not_lt_zero _), if_neg (by omega), uFrm_g]
    · rw [List.getElem?_eq_none (by simpa using h2), List.getElem?_eq_none (by simp; omega)]
      rfl
end
end Go.Proofs.YtjeplkbdgphfoaaDoor
