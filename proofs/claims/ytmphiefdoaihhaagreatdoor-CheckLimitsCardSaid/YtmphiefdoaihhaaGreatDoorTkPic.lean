/-
  Package token: what All leaves of a text, as a picture (EvP), by its contract.
-/
import Derived.Test.YtmphiefdoaihhaaGreatDoorTnT
import Derived.Test.YtmphiefdoaihhaaGreatDoorEvP
namespace Go.Proofs.YtmphiefdoaihhaaGreatDoor
open Go.RowKit

def tokVals (t : Tk.Tok) : List Value := [.int .i64 t.kind, .string (Tk.bs t.text), .int .i64 t.n, .int .i64 t.line, .int .i64 t.col]
def tokRow (outs : List Tk.Tok) : List SC := (outs.flatMap tokVals).map .g
def tokRes (n : Nat) : ST := .tup [.c (.s 0 0 n), .a [.g (.int .i64 0), .g (.string (Tk.bs [])), .g (.int .i64 0), .g (.int .i64 0), .g (.int .i64 0)], .c (.g (.int .i64 0))]
theorem LRel.nil {α β : Type} {r : α → β → Prop} : LRel r [] [] := ⟨rfl, fun i x y h => by simp at h⟩
theorem LRel.cons {α β : Type} {r : α → β → Prop} {x : α} {y : β} {l : List α} {m : List β} (h : r x y) (t : LRel r l m) : LRel r (x :: l) (y :: m) := ⟨by simp [t.1], fun i a b ha hb => by
  cases i with
  | zero => simp at ha hb; subst ha hb; exact h
  | succ i => simp only [List.getElem?_cons_succ] at ha hb; exact t.2 i a b ha hb⟩
theorem LexAllPic.det {T : List UInt8} {r r' : Tk.Res} (h : Tk.LexAll T r) (h' : Tk.LexAll T r') : r = r' := by
  unfold Tk.LexAll at h h'
  split at h
  · rw [if_pos (by assumption)] at h'; exact h.trans h'.symm
  · rw [if_neg (by assumption)] at h'; exact h.det h'
theorem LexAllPic.run {T : List UInt8} {r : Tk.Res} (n : Nat) (hl : T.length ≤ 16384) (h : Tk.runN n ⟨T, 1, 1, []⟩ = some r) : Tk.LexAll T r := by
  unfold Tk.LexAll; rw [if_neg (by omega)]; exact ⟨n, h⟩
theorem tokVals_flat {outs : List Tk.Tok} : ∀ u ∈ outs.flatMap tokVals, flat u = true := by
  intro u hu
  obtain ⟨t, _, h⟩ := List.mem_flatMap.1 hu
  simp only [tokVals, List.mem_cons, List.not_mem_nil, or_false] at h
  rcases h with rfl | rfl | rfl | rfl | rfl <;> rfl
theorem all_pic {ks : List (Nat × List Value)} (hks : ∀ w : World, (∀ x ∈ ks, w.rangeAt x.1 0 x.2) → Tk.Laid w ∧ 1 + 0 + 1 ≤ w.heap.size) {T : List UInt8} {outs : List Tk.Tok} (hl : Tk.LexAll T (.ok outs)) (hne : 0 < outs.length) :
    SnOk Tryz.prog ks ⟨10, [.string (Tk.bs T)], [tokRow outs], tokRes outs.length⟩ := by
  refine ⟨rfl, fun w hw => ?_⟩
  obtain ⟨hL, hsz⟩ := hks w hw
  refine (Tk.all_any T hL hsz).mono ?_
  rintro e w' ⟨hu, R, hR, h⟩
  obtain rfl := LexAllPic.det hR hl
  obtain ⟨v, rfl, ho⟩ := h
  refine ⟨hu, _, rfl, ?_⟩
  obtain ⟨css, ⟨hcl, hcz, hC⟩, ho1, ho2⟩ := ho.ex
  rcases ho2 with ⟨_, h0⟩ | ⟨g, cap, cur, rfl, hb, hg, hnc, hcm, hcs, hcur⟩
  · omega
  · have hflat : css.flatten = outs.flatMap tokVals := by
      have : css = outs.map tokVals := by
        apply List.ext_getElem?
        intro j
        rw [List.getElem?_map]
        cases hx : outs[j]? with
        | none =>
          rw [List.getElem?_eq_none_iff] at hx
          rw [List.getElem?_eq_none (by omega)]; rfl
        | some t =>
          have hj : j < css.length := by have := (List.getElem?_eq_some_iff.1 hx).1; omega
          rw [List.getElem?_eq_getElem hj, hC j t _ hx (List.getElem?_eq_getElem hj)]
          rfl
      rw [this, List.flatMap_def]
    refine ⟨g, cur, _, _, by omega, by simp, hg, fun o c hc => ?_, ?_⟩
    · unfold tokRow at hc
      rw [List.getElem?_map] at hc
      cases hu2 : (outs.flatMap tokVals)[o]? with
      | none => rw [hu2] at hc; cases hc
      | some u =>
        rw [hu2] at hc
        cases hc
        refine ⟨u, ?_, tokVals_flat u (List.mem_of_getElem? hu2), rfl⟩
        rw [← hflat, ← hcur, List.getElem?_take] at hu2
        split at hu2
        · rw [← Array.getElem?_toList]; exact hu2
        · cases hu2
    · refine ⟨_, rfl, LRel.cons ⟨g, cap, rfl, hnc, rfl⟩ (LRel.cons ⟨_, rfl, ?_⟩ (LRel.cons ⟨rfl, rfl⟩ LRel.nil))⟩
      exact LRel.cons ⟨rfl, rfl⟩ (LRel.cons ⟨rfl, rfl⟩ (LRel.cons ⟨rfl, rfl⟩ (LRel.cons ⟨rfl, rfl⟩ (LRel.cons ⟨rfl, rfl⟩ LRel.nil))))
end Go.Proofs.YtmphiefdoaihhaaGreatDoor
