/-
  KindsSame: two boxes with a type each.
-/
import Derived.Test.YtjlljfeledapaaaDoorKOpen
import Derived.Test.YtjlljfeledapaaaDoorRefSame
namespace Go.Proofs.YtjlljfeledapaaaDoor
open Go.RowKit

/-- The five cells of a type as they lie in a box. -/
abbrev tv (x : Typ) (Af : Option Addr) (cf : Nat) (Am : Option Addr) (cm : Nat) : Array Value := #[.int .i64 x.kind, .string x.name, .int .i64 x.elem, .slice Af x.fields.length cf, .slice Am x.methods.length cm]

/-- One box. -/
structure Bx (wx : World) (p : Nat) (x : Typ) (Af : Option Addr) (cf : Nat) (Am : Option Addr) (cm : Nat) : Prop where
  blk : wx.heap[p]? = some (.cells (tv x Af cf Am cm) 25 (0, 0))
  fl : FldsP wx (fun _ => True) Af cf x.fields
  ml : MthsP wx (fun _ => True) Am cm x.methods

theorem Bx.up {wx wy : World} {p : Nat} {x : Typ} {Af Am : Option Addr} {cf cm : Nat} (h : Bx wx p x Af cf Am cm) (u : Up wx wy) : Bx wy p x Af cf Am cm :=
  ⟨(u.block p (heap_lt h.blk) (fun h => h)).trans h.blk, FldsP.kept h.fl u (fun _ _ h => h) (fun _ h => h), MthsP.kept h.ml u (fun _ _ h => h) (fun _ h => h)⟩
theorem Bx.cells {wx : World} {p : Nat} {x : Typ} {Af Am : Option Addr} {cf cm : Nat} (h : Bx wx p x Af cf Am cm) :
    wx.cell? ⟨p, 0, none⟩ = some (.int .i64 x.kind) ∧ wx.cell? ⟨p, 1, none⟩ = some (.string x.name) ∧ wx.cell? ⟨p, 2, none⟩ = some (.int .i64 x.elem) ∧ wx.cell? ⟨p, 3, none⟩ = some (.slice Af x.fields.length cf) ∧ wx.cell? ⟨p, 4, none⟩ = some (.slice Am x.methods.length cm) := by
  refine ⟨?_, ?_, ?_, ?_, ?_⟩ <;> (rw [cell_of_row _ _ _ _ _ _ h.blk]; rfl)
theorem Bx.free {wx : World} {p : Nat} {x : Typ} {Af Am : Option Addr} {cf cm : Nat} (h : Bx wx p x Af cf Am cm) (i : Nat) : wx.frozen? ⟨p, i, none⟩ = false := frozen_of_row _ _ i _ _ h.blk

/-- The box of a type that is one of a list, when it was stored. -/
abbrev sto5 (w' : World) (q : Nat) (x : Typ) (Af : Option Addr) (cf : Nat) (Am : Option Addr) (cm : Nat) : World := ((((w'.setCell ⟨q, 0, none⟩ (.int .i64 x.kind)).setCell ⟨q, 1, none⟩ (.string x.name)).setCell ⟨q, 2, none⟩ (.int .i64 x.elem)).setCell ⟨q, 3, none⟩ (.slice Af x.fields.length cf)).setCell ⟨q, 4, none⟩ (.slice Am x.methods.length cm)
theorem sto5_fr (w' : World) (q : Nat) (x : Typ) (Af : Option Addr) (cf : Nat) (Am : Option Addr) (cm : Nat) : Fr (fun b => b = q) w' (sto5 w' q x Af cf Am cm) :=
  (((((Fr.refl (fun b => b = q) w').setCell (p := ⟨q, 0, none⟩) (fun _ => rfl) _).setCell (p := ⟨q, 1, none⟩) (fun _ => rfl) _).setCell (p := ⟨q, 2, none⟩) (fun _ => rfl) _).setCell (p := ⟨q, 3, none⟩) (fun _ => rfl) _).setCell (p := ⟨q, 4, none⟩) (fun _ => rfl) _
theorem sto5_blk {w' : World} {q : Nat} {c0 c1 c2 c3 c4 : Value} {t : TypeId} (h : w'.heap[q]? = some (.cells #[c0, c1, c2, c3, c4] t (0, 0))) (x : Typ) (Af : Option Addr) (cf : Nat) (Am : Option Addr) (cm : Nat) :
    (sto5 w' q x Af cf Am cm).heap[q]? = some (.cells (tv x Af cf Am cm) t (0, 0)) := by
  simp [sto5, World.setCell, Array.getElem?_modify, h]

/-- Both boxes. -/
structure Two (w wx : World) (p q : Nat) (x y : Typ) (Af Am Af' Am' : Option Addr) (cf cm cf' cm' : Nat) : Prop where
  up : Up w wx
  X : Bx wx p x Af cf Am cm
  Y : Bx wx q y Af' cf' Am' cm'

theorem Two.start {w : World} {x y : Typ} {Af Am Af' Am' : Option Addr} {cf cm cf' cm' : Nat} (hf : FldsP w (fun _ => True) Af cf x.fields) (hm : MthsP w (fun _ => True) Am cm x.methods) (hf' : FldsP w (fun _ => True) Af' cf' y.fields) (hm' : MthsP w (fun _ => True) Am' cm' y.methods) :
    Two w ((w.alloc (.cells (tv x Af cf Am cm) 25)).alloc (.cells (tv y Af' cf' Am' cm') 25)) w.heap.size (w.heap.size + 1) x y Af Am Af' Am' cf cm cf' cm' := by
  have u1 : Up w (w.alloc (.cells (tv x Af cf Am cm) 25)) := up_.alloc _
  have u2 : Up (w.alloc (.cells (tv x Af cf Am cm) 25)) ((w.alloc (.cells (tv x Af cf Am cm) 25)).alloc (.cells (tv y Af' cf' Am' cm') 25)) := up_.alloc _
  have hz : (w.alloc (.cells (tv x Af cf Am cm) 25)).heap.size = w.heap.size + 1 := by simp
  have b1 : Bx (w.alloc (.cells (tv x Af cf Am cm) 25)) w.heap.size x Af cf Am cm := ⟨heap_alloc_new _ _, FldsP.kept hf u1 (fun _ _ h => h) (fun _ h => h), MthsP.kept hm u1 (fun _ _ h => h) (fun _ h => h)⟩
  refine ⟨Up.trans u1 u2, b1.up u2, ?_, FldsP.kept hf' (Up.trans u1 u2) (fun _ _ h => h) (fun _ h => h), MthsP.kept hm' (Up.trans u1 u2) (fun _ _ h => h) (fun _ h => h)⟩
  have := heap_alloc_new (w.alloc (.cells (tv x Af cf Am cm) 25)) (.cells (tv y Af' cf' Am' cm') 25)
  rw [hz] at this
  exact this

/-- The list's types, one after another, into the boxes. -/
theorem Two.first {w w2 w3 : World} {p q c : Nat} {x y : Typ} {Af Am Af' Am' A : Option Addr} {cf cm cf' cm' : Nat} (h : Two w w2 p q x y Af Am Af' Am' cf cm cf' cm') (u : Up w2 w3) (hp : w.heap.size ≤ p) (hpq : p < q) {ts : List Typ} (hT : TypsP w3 (fun b => w2.heap.size ≤ b) A c ts)
    {z : Typ} {Bf Bm : Option Addr} {df dm : Nat} :
    Up w (sto5 w3 p z Bf df Bm dm) ∧ TypsP (sto5 w3 p z Bf df Bm dm) (fun b => w2.heap.size ≤ b) A c ts ∧ Bx w3 p x Af cf Am cm ∧ (sto5 w3 p z Bf df Bm dm).heap[q]? = some (.cells (tv y Af' cf' Am' cm') 25 (0, 0)) ∧
      (sto5 w3 p z Bf df Bm dm).heap[p]? = some (.cells (tv z Bf df Bm dm) 25 (0, 0)) := by
  have hlt := heap_lt h.X.blk
  have b3 := h.X.up u
  have hf := sto5_fr w3 p z Bf df Bm dm
  refine ⟨?_, TypsP.kept hT hf (fun b hb e => by omega) (fun _ h => h), b3, ?_, sto5_blk b3.blk _ _ _ _ _⟩
  · exact Fr.trans (Fr.trans h.up u (fun _ _ h => h)) hf (fun i hi e => by omega)
  · exact (hf.block q (heap_lt (h.Y.up u).blk) (by omega)).trans (h.Y.up u).blk
theorem Two.second {w w2 w4 : World} {p q : Nat} {y z z' : Typ} {Af' Am' Bf Bm Bf' Bm' : Option Addr} {cf' cm' df dm df' dm' : Nat} (u : Up w w4) (hq : w.heap.size ≤ q) (hpq : p < q) (hq2 : q < w2.heap.size)
    (hy : w4.heap[q]? = some (.cells (tv y Af' cf' Am' cm') 25 (0, 0))) (hx : w4.heap[p]? = some (.cells (tv z Bf df Bm dm) 25 (0, 0)))
    (hf : FldsP w4 (fun b => w2.heap.size ≤ b) Bf df z.fields) (hm : MthsP w4 (fun b => w2.heap.size ≤ b) Bm dm z.methods) (hf' : FldsP w4 (fun b => w2.heap.size ≤ b) Bf' df' z'.fields) (hm' : MthsP w4 (fun b => w2.heap.size ≤ b) Bm' dm' z'.methods) :
    Two w (sto5 w4 q z' Bf' df' Bm' dm') p q z z' Bf Bm Bf' Bm' df dm df' dm' := by
  have fr := sto5_fr w4 q z' Bf' df' Bm' dm'
  have hn : ∀ b, w2.heap.size ≤ b → ¬ b = q := fun b hb e => by omega
  refine ⟨Fr.trans u fr (fun i hi e => by omega), ⟨(fr.block p (heap_lt hx) (by omega)).trans hx, FldsP.kept hf fr hn (fun _ _ => trivial), MthsP.kept hm fr hn (fun _ _ => trivial)⟩, ⟨sto5_blk hy _ _ _ _ _, FldsP.kept hf' fr hn (fun _ _ => trivial), MthsP.kept hm' fr hn (fun _ _ => trivial)⟩⟩
end Go.Proofs.YtjlljfeledapaaaDoor
