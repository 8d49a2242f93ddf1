/-
  Where an instruction goes on.
-/
import Derived.Test.YtomononppbjnnaaDoorCdT
import Derived.Test.YtomononppbjnnaaDoorDat
namespace Go.Proofs.YtomononppbjnnaaDoor
open Go.RowKit

def natOf : Value → Nat
  | .int _ i => i.toNat
  | _ => 0
def targetsOf (op a pc : Int) : List Int := if op == 26 then [a] else if op == 27 then [wrap64 (pc + 1), a] else if op == 41 then [] else [wrap64 (pc + 1)]
theorem targets_le (op a pc : Int) : (targetsOf op a pc).length ≤ 2 := by
  unfold targetsOf; repeat' split
  all_goals simp
theorem range_kept {S : Nat → Prop} {w w' : World} {b o : Nat} {cs : List Value} (h : w.rangeAt b o cs) (hf : Fr S w w') (hb : ¬ S b) : w'.rangeAt b o cs :=
  fun j v hj => (hf.cell (p := ⟨b, o + j, none⟩) (World.block_lt_of_cell? w _ (h j v hj)) hb).trans (h j v hj)
theorem Fr.drewN {S : Nat → Prop} {a b : World} (h : Fr S a b) (n : Nat) : Fr S a (b.drewN n) := ⟨h.os, h.tape, h.output, h.size, h.block⟩
/-- A slice's numbers. -/
structure NumsAt (w : World) (A : Option Addr) (l : List Int) : Prop where
  at_ : ∀ (j : Nat) (x : Int), l[j]? = some x → ∃ g, A = some ⟨g, 0, none⟩ ∧ w.cell? ⟨g, j, none⟩ = some (.int .i64 x)
theorem NumsAt.kept {w w' : World} {A : Option Addr} {l : List Int} (h : NumsAt w A l) (k : Up w w') : NumsAt w' A l :=
  ⟨fun j x hj => by
    obtain ⟨g, rfl, h2⟩ := h.at_ j x hj
    exact ⟨g, rfl, by rw [k.cell (World.block_lt_of_cell? w _ h2) (fun h => h)]; exact h2⟩⟩
theorem ints_new {w : World} {o : Obj} {cs : Array Value} {t : TypeId} {l : List Int} (hc : cs.toList = l.map (.int .i64 ·)) : NumsAt ((w.alloc o).alloc (.cells cs t)) (some ⟨w.heap.size + 1, 0, none⟩) l :=
  ⟨fun j x hj => ⟨_, rfl, by
    have hn : (w.alloc o).heap.size = w.heap.size + 1 := by simp
    have := heap_alloc_new (w.alloc o) (.cells cs t)
    rw [hn] at this
    rw [cell_of_row _ _ _ _ _ _ this, ← Array.getElem?_toList, hc, List.getElem?_map, hj]
    rfl⟩⟩
theorem ints_none {w : World} : NumsAt w none [] := ⟨fun j x hj => by simp at hj⟩
def sl3 (A : Option Addr) (l : List Int) : Value := .slice A l.length l.length

set_option maxHeartbeats 400000 in
theorem targets_any (op a b pc : Int) (w : World) :
    Calls Tryd.prog 11 #[.agg #[.int .i64 op, .int .i64 a, .int .i64 b], .int .i64 pc] w fun e w' => Up w w' ∧ ∃ A, e = .returned (sl3 A (targetsOf op a pc)) ∧ NumsAt w' A (targetsOf op a pc) := by
  go_enter Tryd.func11, Tryd.ntmps11
  go_wp2_with fail
  · go_ret
    have e : targetsOf op a pc = [a] := by simp_all [targetsOf]
    rw [e]
    exact ⟨((Fr.refl _ _).alloc _).alloc _, _, rfl, ints_new rfl⟩
  · go_ret
    have e : targetsOf op a pc = [wrap64 (pc + 1), a] := by simp_all [targetsOf]
    rw [e]
    exact ⟨((Fr.refl _ _).alloc _).alloc _, _, rfl, ints_new rfl⟩
  · go_ret
    have e : targetsOf op a pc = [] := by simp_all [targetsOf]
    rw [e]
    exact ⟨(Fr.refl _ _).alloc _, _, rfl, ints_none⟩
  · go_ret
    have e : targetsOf op a pc = [wrap64 (pc + 1)] := by simp_all [targetsOf]
    rw [e]
    exact ⟨((Fr.refl _ _).alloc _).alloc _, _, rfl, ints_new rfl⟩
set_option maxHeartbeats 400000 in
theorem rtargets_any (op a b pc : Int) (w : World) :
    Calls Tryd.prog 15 #[.agg #[.int .i64 op, .int .i64 a, .int .i64 b], .int .i64 pc] w fun e w' => Up w w' ∧ ∃ A, e = .returned (sl3 A (targetsOf op a pc)) ∧ NumsAt w' A (targetsOf op a pc) := by
  go_enter Tryd.func15, Tryd.ntmps15
  go_wp2_with fail
  · go_ret
    have e : targetsOf op a pc = [a] := by simp_all [targetsOf]
    rw [e]
    exact ⟨((Fr.refl _ _).alloc _).alloc _, _, rfl, ints_new rfl⟩
  · go_ret
    have e : targetsOf op a pc = [wrap64 (pc + 1), a] := by simp_all [targetsOf]
    rw [e]
    exact ⟨((Fr.refl _ _).alloc _).alloc _, _, rfl, ints_new rfl⟩
  · go_ret
    have e : targetsOf op a pc = [] := by simp_all [targetsOf]
    rw [e]
    exact ⟨(Fr.refl _ _).alloc _, _, rfl, ints_none⟩
  · go_ret
    have e : targetsOf op a pc = [wrap64 (pc + 1)] := by simp_all [targetsOf]
    rw [e]
    exact ⟨((Fr.refl _ _).alloc _).alloc _, _, rfl, ints_new rfl⟩
end Go.Proofs.YtomononppbjnnaaDoor
