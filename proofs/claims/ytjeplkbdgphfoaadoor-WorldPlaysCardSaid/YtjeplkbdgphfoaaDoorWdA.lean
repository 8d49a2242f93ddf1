/-
  A World of package world as it lies in memory, and its readers.
-/
import Derived.Test.YtjeplkbdgphfoaaDoorTxtAt
import Derived.Test.YtjeplkbdgphfoaaDoorApp2
import Derived.Test.YtjeplkbdgphfoaaDoorDat
import Derived.Deep.RegionHeld3
import Derived.Lib.SliceRun
namespace Go.Proofs.YtjeplkbdgphfoaaDoor
open Go.RowKit

structure WSt where
  q : Nat
  p : Nat
  g : Nat
  cap : Nat
  room : Int
  ws : List Int
  vl : Value
  vs : Value
  vi : Value
  vt : Value
  lits : List Int
  sizes : List Int
  ins : List Int
  taken : Nat
  lines : List ByteArray

def WSt.Mut (s : WSt) (b : Nat) : Prop := b = s.q ∨ b = s.p ∨ b = s.g ∨ s.vt.ownBlock = some b
def WSt.Fix (s : WSt) (b : Nat) : Prop := s.vl.ownBlock = some b ∨ s.vs.ownBlock = some b ∨ s.vi.ownBlock = some b
def WSt.Blk (s : WSt) (b : Nat) : Prop := s.Mut b ∨ s.Fix b
def i64b (n : Int) : Prop := -9223372036854775808 ≤ n ∧ n ≤ 9223372036854775807
def u64b (n : Int) : Prop := 0 ≤ n ∧ n ≤ 18446744073709551615

structure Wd (B : Nat) (w : World) (s : WSt) : Prop where
  obj : w.heap[s.q]? = some (.cells #[.pointer (some ⟨s.p, 0, none⟩), s.vl, s.vs, s.vi, .int .i64 s.taken, s.vt] 81 (0, 0))
  heap : HeapAt w s.p s.g s.cap s.room s.ws
  lits : w.ownsRow B 38 1 s.vl s.lits.length (s.lits.map (Value.int .u64))
  sizes : w.ownsRow B 3 1 s.vs s.sizes.length (s.sizes.map (Value.int .i64))
  ins : w.ownsRow B 2 1 s.vi s.ins.length (s.ins.map (Value.int .i64))
  lines : w.ownsRow B 9 1 s.vt s.lines.length (s.lines.map Value.string)
  lo : B ≤ s.q ∧ B ≤ s.p ∧ B ≤ s.g
  qp : s.q ≠ s.p ∧ s.q ≠ s.g
  tq : ∀ b, s.vt.ownBlock = some b → b ≠ s.q ∧ b ≠ s.p ∧ b ≠ s.g
  fx : ∀ b, s.Fix b → ¬ s.Mut b
  z : wordAt s.ws 0 = 0
  few : s.lines.length ≤ 4096
  tk : s.taken ≤ s.ins.length
  wl : ∀ x ∈ s.lits, u64b x
  wsz : ∀ x ∈ s.sizes, i64b x
  wi : ∀ x ∈ s.ins, i64b x
  wt : ∀ x ∈ s.lines, x.size ≤ 65536

/-- A row of a call's own, laid out. -/
theorem row_parts {w : World} {B n : Nat} {e : TypeId} {v : Value} {xs : List Value} (h : w.ownsRow B e 1 v n xs) :
    ∃ a c, v = .slice a n c ∧ n ≤ c ∧ c ≤ 9223372036854775807 ∧ (0 < n → ∃ g, a = some ⟨g, 0, none⟩ ∧ v.ownBlock = some g ∧ g < w.heap.size ∧ ∀ k u, xs[k]? = some u → w.cell? ⟨g, k, none⟩ = some u) := by
  rcases h.2 with ⟨rfl, h0⟩ | ⟨g, cap, cur, rfl, hb, hg, hnc, hcm, _, _⟩
  · subst h0
    exact ⟨none, 0, rfl, Nat.le_refl _, by decide, fun hh => absurd hh (Nat.lt_irrefl _)⟩
  · refine ⟨_, _, rfl, hnc, by unfold maxLen at hcm; omega, fun _ => ⟨g, rfl, rfl, (Array.getElem?_eq_some_iff.1 hg).1, fun k u hu => ?_⟩⟩
    have := h.cells (g := g) rfl k u hu
    rw [Go.WideShapes.add_plain, Nat.zero_add] at this
    exact this

section
variable {B : Nat} {w w' : World} {s : WSt}
theorem Wd.c (h : Wd B w s) (k : Nat) : w.cell? ⟨s.q, k, none⟩ = #[Value.pointer (some ⟨s.p, 0, none⟩), s.vl, s.vs, s.vi, .int .i64 s.taken, s.vt][k]? := by
  rw [cell_of_row w s.q k _ _ _ h.obj]
theorem Wd.c0 (h : Wd B w s) : w.cell? ⟨s.q, 0, none⟩ = some (.pointer (some ⟨s.p, 0, none⟩)) := h.c 0
theorem Wd.c1 (h : Wd B w s) : w.cell? ⟨s.q, 1, none⟩ = some s.vl := h.c 1
theorem Wd.c2 (h : Wd B w s) : w.cell? ⟨s.q, 2, none⟩ = some s.vs := h.c 2
theorem Wd.c3 (h : Wd B w s) : w.cell? ⟨s.q, 3, none⟩ = some s.vi := h.c 3
theorem Wd.c4 (h : Wd B w s) : w.cell? ⟨s.q, 4, none⟩ = some (.int .i64 s.taken) := h.c 4
theorem Wd.c5 (h : Wd B w s) : w.cell? ⟨s.q, 5, none⟩ = some s.vt := h.c 5
theorem Wd.fq (h : Wd B w s) (j : Nat) : w.frozen? ⟨s.q, j, none⟩ = false := frozen_of_row w s.q j _ _ h.obj
theorem Wd.ltq (h : Wd B w s) : s.q < w.heap.size := heap_lt h.obj
theorem Wd.lt (h : Wd B w s) : ∀ b, s.Blk b → B ≤ b ∧ b < w.heap.size := by
  intro b hb
  rcases hb with (rfl | rfl | rfl | hb) | hb | hb | hb
  · exact ⟨h.lo.1, h.ltq⟩
  · exact ⟨h.lo.2.1, h.heap.ltp⟩
  · exact ⟨h.lo.2.2, h.heap.ltg⟩
  · exact h.lines.lt b hb
  · exact h.lits.lt b hb
  · exact h.sizes.lt b hb
  · exact h.ins.lt b hb
theorem Wd.few_ins (h : Wd B w s) : s.ins.length ≤ 9223372036854775807 := by
  obtain ⟨a, c, _, h1, h2, _⟩ := row_parts h.ins
  omega

/-- What touches no block of the World leaves it. -/
theorem Wd.kept {S : Nat → Prop} (h : Wd B w s) (f : Fr S w w') (hS : ∀ b, s.Blk b → ¬ S b) : Wd B w' s :=
  ⟨(f.block s.q h.ltq (hS _ (.inl (.inl rfl)))).trans h.obj, h.heap.kept f (hS _ (.inl (.inr (.inl rfl)))) (hS _ (.inl (.inr (.inr (.inl rfl))))),
    f.owns h.lits (fun b hb => hS b (.inr (.inl hb))), f.owns h.sizes (fun b hb => hS b (.inr (.inr (.inl hb)))), f.owns h.ins (fun b hb => hS b (.inr (.inr (.inr hb)))),
    f.owns h.lines (fun b hb => hS b (.inl (.inr (.inr (.inr hb))))), h.lo, h.qp, h.tq, h.fx, h.z, h.few, h.tk, h.wl, h.wsz, h.wi, h.wt⟩
theorem Wd.up (h : Wd B w s) (f : Up w w') : Wd B w' s := h.kept f (fun _ _ h => h)
theorem Wd.drewN (h : Wd B w s) (n : Nat) : Wd B (w.drewN n) s := h.up ((Fr.refl _ w).drewN n)

/-- The World's own steps: only its changing blocks have turned, and what it has now it had, or it is new. -/
structure WStp (s s' : WSt) (w w' : World) : Prop where
  fr : Fr s.Mut w w'
  new : ∀ b, s'.Blk b → s.Blk b ∨ w.heap.size ≤ b
theorem WStp.of_up (f : Up w w') : WStp s s w w' := ⟨f.mono (fun _ _ h => h.elim), fun _ h => .inl h⟩

/-- Behind a step of its heap. -/
theorem Wd.heapStep {g' c' : Nat} {ws' : List Int} (h : Wd B w s) (hh : HeapAt w' s.p g' c' s.room ws') (hg : g' = s.g ∨ w.heap.size ≤ g') (f : Fr (fun b => b = s.p ∨ b = s.g) w w') (hz : wordAt ws' 0 = 0) :
    Wd B w' { s with g := g', cap := c', ws := ws' } ∧ WStp s { s with g := g', cap := c', ws := ws' } w w' := by
  have hlt := h.lt
  have hB : B ≤ w.heap.size := by have := h.lo.1; have := h.ltq; omega
  have nS : ∀ b, s.Blk b → (b ≠ s.p) → (b ≠ s.g) → ¬ (b = s.p ∨ b = s.g) := fun b _ h1 h2 h3 => by rcases h3 with e | e; exact h1 e; exact h2 e
  have fxm : ∀ b, s.Fix b → b ≠ s.p ∧ b ≠ s.g := fun b hb => ⟨fun e => h.fx b hb (.inr (.inl e)), fun e => h.fx b hb (.inr (.inr (.inl e)))⟩
  have ng : ∀ b, s.Blk b → b ≠ s.g → b ≠ g' := fun b hb hne e => by
    rcases hg with e' | e'
    · exact hne (e.trans e')
    · have := (hlt b hb).2; omega
  have nf : ∀ b, s.Fix b → ¬ (b = s.p ∨ b = s.g) := fun b hb => nS b (.inr hb) (fxm b hb).1 (fxm b hb).2
  refine ⟨⟨?_, hh, ?_, ?_, ?_, ?_, ⟨h.lo.1, h.lo.2.1, ?_⟩, ⟨h.qp.1, ?_⟩, ?_, ?_, hz, h.few, h.tk, h.wl, h.wsz, h.wi, h.wt⟩, ?_, ?_⟩
  · exact (f.block s.q h.ltq (nS _ (.inl (.inl rfl)) h.qp.1 h.qp.2)).trans h.obj
  · exact f.owns h.lits (fun b hb => nf b (.inl hb))
  · exact f.owns h.sizes (fun b hb => nf b (.inr (.inl hb)))
  · exact f.owns h.ins (fun b hb => nf b (.inr (.inr hb)))
  · exact f.owns h.lines (fun b hb => nS b (.inl (.inr (.inr (.inr hb)))) (h.tq b hb).2.1 (h.tq b hb).2.2)
  · rcases hg with e | e
    · rw [e]; exact h.lo.2.2
    · exact Nat.le_trans hB e
  · exact ng _ (.inl (.inl rfl)) h.qp.2
  · intro b hb
    have := h.tq b hb
    exact ⟨this.1, this.2.1, ng b (.inl (.inr (.inr (.inr hb)))) this.2.2⟩
  · intro b hb hm
    rcases hm with e | e | e | e
    · exact h.fx b hb (.inl e)
    · exact h.fx b hb (.inr (.inl e))
    · exact ng b (.inr hb) (fxm b hb).2 e
    · exact h.fx b hb (.inr (.inr (.inr e)))
  · exact f.mono (fun b _ hb => by rcases hb with e | e; exact .inr (.inl e); exact .inr (.inr (.inl e)))
  · intro b hb
    rcases hb with (e | e | e | e) | e
    · exact .inl (.inl (.inl e))
    · exact .inl (.inl (.inr (.inl e)))
    · rcases hg with e' | e'
      · exact .inl (.inl (.inr (.inr (.inl (e.trans e')))))
      · have e2 : b = g' := e
        exact .inr (by omega)
    · exact .inl (.inl (.inr (.inr (.inr e))))
    · exact .inl (.inr e)
end

set_option maxHeartbeats 400000 in
theorem full_any {B : Nat} {w : World} {s : WSt} (h : Wd B w s) :
    Calls Tryd.prog 32 #[.pointer (some ⟨s.q, 0, none⟩)] w fun e w' => e = .returned (.bool (decide (4096 ≤ s.lines.length))) ∧ w = w' := by
  have c5 := h.c5
  obtain ⟨a, c, hv, hc1, hc2, _⟩ := row_parts h.lines
  rw [hv] at c5
  have hf := h.few
  have E : decide ((4096 : Int) ≤ s.lines.length) = decide (4096 ≤ s.lines.length) := by
    rw [decide_eq_decide]; omega
  clear h hv
  go_enter Tryd.func32, Tryd.ntmps32
  go_wp2_with fail
  go_ret
  exact ⟨by rw [← E]; rfl, rfl⟩

set_option maxHeartbeats 400000 in
theorem taken_any {B : Nat} {w : World} {s : WSt} (h : Wd B w s) :
    Calls Tryd.prog 30 #[.pointer (some ⟨s.q, 0, none⟩)] w fun e w' => e = .returned (.int .i64 s.taken) ∧ w = w' := by
  have c4 := h.c4
  clear h
  go_enter Tryd.func30, Tryd.ntmps30
  go_wp2_with fail
  go_ret
  exact ⟨rfl, rfl⟩

set_option maxHeartbeats 400000 in
theorem heapof_any {B : Nat} {w : World} {s : WSt} (h : Wd B w s) :
    Calls Tryd.prog 25 #[.pointer (some ⟨s.q, 0, none⟩)] w fun e w' => e = .returned (.pointer (some ⟨s.p, 0, none⟩)) ∧ w = w' := by
  have c0 := h.c0
  clear h
  go_enter Tryd.func25, Tryd.ntmps25
  go_wp2_with fail
  go_ret
  exact ⟨rfl, rfl⟩

theorem wordAt_lt {xs : List Int} {k : Nat} (h : k < xs.length) : xs[k]? = some (wordAt xs k) := by
  rw [wordAt_nat, List.getD_eq_getElem?_getD, List.getElem?_eq_getElem h]; rfl
theorem wordAt_neg {xs : List Int} {k : Int} (h : k < 0) : wordAt xs k = 0 := by unfold wordAt; rw [if_neg (by omega)]

set_option maxHeartbeats 400000 in
theorem atu_any {B n : Nat} {w : World} {v : Value} {xs : List Int} (hn : xs.length = n) (h : w.ownsRow B 38 1 v n (xs.map (Value.int .u64))) (k : Int) :
    Calls Tryd.prog 58 #[v, .int .i64 k] w fun e w' => e = .returned (.int .u64 (wordAt xs k)) ∧ w = w' := by
  obtain ⟨a, c, rfl, hc1, hc2, hx⟩ := row_parts h
  by_cases h0 : 0 ≤ k
  · obtain ⟨m, rfl⟩ := Int.eq_ofNat_of_zero_le h0
    by_cases h1 : m < n
    · obtain ⟨g, rfl, _, hg, hcell⟩ := hx (by omega)
      have hm := hcell m (.int .u64 (wordAt xs m)) (by rw [List.getElem?_map, wordAt_lt (by omega)]; rfl)
      generalize wordAt xs m = y at *
      clear h hx hcell
      go_enter Tryd.func58, Tryd.ntmps58
      go_wp2_with fail
      go_ret
      exact ⟨rfl, rfl⟩
    · have hw := Lib.hid (wordAt_out (ws := xs) (a := m) (by omega))
      clear h hx
      go_enter Tryd.func58, Tryd.ntmps58
      go_wp2_with fail
      go_ret
      exact ⟨ret_eq hw.out.symm, rfl⟩
  · have hw := Lib.hid (wordAt_neg (xs := xs) (k := k) (by omega))
    clear h hx
    go_enter Tryd.func58, Tryd.ntmps58
    go_wp2_with fail
    go_ret
    exact ⟨ret_eq hw.out.symm, rfl⟩

set_option maxHeartbeats 400000 in
theorem ati_any {B n : Nat} {w : World} {v : Value} {xs : List Int} (hn : xs.length = n) (h : w.ownsRow B 3 1 v n (xs.map (Value.int .i64))) (k : Int) :
    Calls Tryd.prog 50 #[v, .int .i64 k] w fun e w' => e = .returned (.int .i64 (wordAt xs k)) ∧ w = w' := by
  obtain ⟨a, c, rfl, hc1, hc2, hx⟩ := row_parts h
  by_cases h0 : 0 ≤ k
  · obtain ⟨m, rfl⟩ := Int.eq_ofNat_of_zero_le h0
    by_cases h1 : m < n
    · obtain ⟨g, rfl, _, hg, hcell⟩ := hx (by omega)
      have hm := hcell m (.int .i64 (wordAt xs m)) (by rw [List.getElem?_map, wordAt_lt (by omega)]; rfl)
      generalize wordAt xs m = y at *
      clear h hx hcell
      go_enter Tryd.func50, Tryd.ntmps50
      go_wp2_with fail
      go_ret
      exact ⟨rfl, rfl⟩
    · have hw := Lib.hid (wordAt_out (ws := xs) (a := m) (by omega))
      clear h hx
      go_enter Tryd.func50, Tryd.ntmps50
      go_wp2_with fail
      go_ret
      exact ⟨ret_eq hw.out.symm, rfl⟩
  · have hw := Lib.hid (wordAt_neg (xs := xs) (k := k) (by omega))
    clear h hx
    go_enter Tryd.func50, Tryd.ntmps50
    go_wp2_with fail
    go_ret
    exact ⟨ret_eq hw.out.symm, rfl⟩

set_option maxHeartbeats 400000 in
theorem lit_any {B : Nat} {w : World} {s : WSt} (h : Wd B w s) (k : Int) :
    Calls Tryd.prog 31 #[.pointer (some ⟨s.q, 0, none⟩), .int .i64 k] w fun e w' => e = .returned (.int .u64 (wordAt s.lits k)) ∧ w = w' := by
  have c1 := h.c1
  have H := Lib.hid h
  clear h
  go_enter Tryd.func31, Tryd.ntmps31
  go_wp2_with fail
  refine (atu_any rfl H.out.lits k).mono ?_
  rintro e w' ⟨rfl, rfl⟩
  go_wp2_with fail
  go_ret
  exact ⟨rfl, rfl⟩
end Go.Proofs.YtjeplkbdgphfoaaDoor
