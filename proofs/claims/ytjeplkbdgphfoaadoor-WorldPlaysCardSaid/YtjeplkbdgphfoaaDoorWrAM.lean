/-
  The reference's World as it lies in memory.
  The reference's World: its calls.
  The reference's World: objects, texts, lines.
  The reference's World: Print; the inputs.
  The reference's World, made; the inputs.
  The reference's World, made.
  The law's own comparisons; Copy.
-/
import Derived.Test.YtjeplkbdgphfoaaDoorWdNM
import Derived.Test.YtjeplkbdgphfoaaDoorWdQ
namespace Go.Proofs.YtjeplkbdgphfoaaDoor
open Go.RowKit
set_option maxRecDepth 100000


structure RSt where
  q : Nat
  p : Nat
  g : Nat
  cap : Nat
  room : Int
  ws : List Int
  tg : Nat
  tc : Nat
  vx : Value
  vl : Value
  vi : Value
  vt : Value
  lits : List Int
  ins : List Int
  taken : Nat
  lines : List ByteArray

def RSt.Mut (s : RSt) (b : Nat) : Prop := b = s.q ∨ b = s.p ∨ b = s.g ∨ s.vt.ownBlock = some b
def RSt.Fix (s : RSt) (b : Nat) : Prop := s.vl.ownBlock = some b ∨ b = s.tg ∨ s.vi.ownBlock = some b
def RSt.Blk (s : RSt) (b : Nat) : Prop := s.Mut b ∨ s.Fix b

structure RWd (B : Nat) (w : World) (s : RSt) : Prop where
  obj : w.heap[s.q]? = some (.cells #[.slice (some ⟨s.tg, 0, none⟩) 7 s.tc, .slice none 0 0, .int .i64 0, s.vx, .slice none 0 0, .pointer (some ⟨s.p, 0, none⟩), s.vl, s.vi, .int .i64 s.taken, s.vt] 52 (0, 0))
  heap : RefAt w s.p s.g s.cap s.room s.ws
  lits : w.ownsRow B 38 1 s.vl s.lits.length (s.lits.map (Value.int .u64))
  types : OwnSl w B 71 5 TyC (.slice (some ⟨s.tg, 0, none⟩) 7 s.tc) fieldsOf
  ins : w.ownsRow B 2 1 s.vi s.ins.length (s.ins.map (Value.int .i64))
  lines : w.ownsRow B 9 1 s.vt s.lines.length (s.lines.map Value.string)
  lo : B ≤ s.q ∧ B ≤ s.p ∧ B ≤ s.g
  qp : s.q ≠ s.p ∧ s.q ≠ s.g
  tq : ∀ b, s.vt.ownBlock = some b → b ≠ s.q ∧ b ≠ s.p ∧ b ≠ s.g
  fx : ∀ b, s.Fix b → ¬ s.Mut b
  z : wordAt s.ws 0 = 0
  few : s.lines.length ≤ 4096
  tk : s.taken ≤ s.ins.length
  wl : ∀ x ∈ s.lits, u64b x
  wi : ∀ x ∈ s.ins, i64b x
  wt : ∀ x ∈ s.lines, x.size ≤ 65536

section
variable {B : Nat} {w w' : World} {s : RSt}
theorem RWd.c (h : RWd B w s) (k : Nat) : w.cell? ⟨s.q, k, none⟩ = #[Value.slice (some ⟨s.tg, 0, none⟩) 7 s.tc, .slice none 0 0, .int .i64 0, s.vx, .slice none 0 0, .pointer (some ⟨s.p, 0, none⟩), s.vl, s.vi, .int .i64 s.taken, s.vt][k]? := by
  rw [cell_of_row w s.q k _ _ _ h.obj]
theorem RWd.c0 (h : RWd B w s) : w.cell? ⟨s.q, 0, none⟩ = some (.slice (some ⟨s.tg, 0, none⟩) 7 s.tc) := h.c 0
theorem RWd.c5 (h : RWd B w s) : w.cell? ⟨s.q, 5, none⟩ = some (.pointer (some ⟨s.p, 0, none⟩)) := h.c 5
theorem RWd.c6 (h : RWd B w s) : w.cell? ⟨s.q, 6, none⟩ = some s.vl := h.c 6
theorem RWd.c7 (h : RWd B w s) : w.cell? ⟨s.q, 7, none⟩ = some s.vi := h.c 7
theorem RWd.c8 (h : RWd B w s) : w.cell? ⟨s.q, 8, none⟩ = some (.int .i64 s.taken) := h.c 8
theorem RWd.c9 (h : RWd B w s) : w.cell? ⟨s.q, 9, none⟩ = some s.vt := h.c 9
theorem RWd.fq (h : RWd B w s) (j : Nat) : w.frozen? ⟨s.q, j, none⟩ = false := frozen_of_row w s.q j _ _ h.obj
theorem RWd.ltq (h : RWd B w s) : s.q < w.heap.size := heap_lt h.obj
theorem RWd.lt (h : RWd B w s) : ∀ b, s.Blk b → B ≤ b ∧ b < w.heap.size := by
  intro b hb
  rcases hb with (rfl | rfl | rfl | hb) | hb | hb | hb
  · exact ⟨h.lo.1, h.ltq⟩
  · exact ⟨h.lo.2.1, h.heap.ltp⟩
  · exact ⟨h.lo.2.2, h.heap.ltg⟩
  · exact h.lines.lt b hb
  · exact h.lits.lt b hb
  · subst hb; exact h.types.lt _ rfl
  · exact h.ins.lt b hb
theorem RWd.few_ins (h : RWd B w s) : s.ins.length ≤ 9223372036854775807 := by
  obtain ⟨a, c, _, h1, h2, _⟩ := row_parts h.ins
  omega

/-- What touches no block of the World leaves it. -/
theorem RWd.kept {S : Nat → Prop} (h : RWd B w s) (f : Fr S w w') (hS : ∀ b, s.Blk b → ¬ S b) : RWd B w' s :=
  ⟨(f.block s.q h.ltq (hS _ (.inl (.inl rfl)))).trans h.obj, h.heap.kept f (hS _ (.inl (.inr (.inl rfl)))) (hS _ (.inl (.inr (.inr (.inl rfl))))),
    f.owns h.lits (fun b hb => hS b (.inr (.inl hb))), h.types.kept f (fun b hb => hS b (.inr (.inr (.inl (by simpa [Value.ownBlock] using hb.symm))))) (fun _ _ _ h => h), f.owns h.ins (fun b hb => hS b (.inr (.inr (.inr hb)))),
    f.owns h.lines (fun b hb => hS b (.inl (.inr (.inr (.inr hb))))), h.lo, h.qp, h.tq, h.fx, h.z, h.few, h.tk, h.wl, h.wi, h.wt⟩
theorem RWd.up (h : RWd B w s) (f : Up w w') : RWd B w' s := h.kept f (fun _ _ h => h)
theorem RWd.drewN (h : RWd B w s) (n : Nat) : RWd B (w.drewN n) s := h.up ((Fr.refl _ w).drewN n)

/-- The World's own steps: only its changing blocks have turned, and what it has now it had, or it is new. -/
structure RStp (s s' : RSt) (w w' : World) : Prop where
  fr : Fr s.Mut w w'
  new : ∀ b, s'.Blk b → s.Blk b ∨ w.heap.size ≤ b
theorem RStp.of_up (f : Up w w') : RStp s s w w' := ⟨f.mono (fun _ _ h => h.elim), fun _ h => .inl h⟩

/-- Behind a step of its heap. -/
theorem RWd.heapStep {g' c' : Nat} {ws' : List Int} (h : RWd B w s) (hh : RefAt w' s.p g' c' s.room ws') (hg : g' = s.g ∨ w.heap.size ≤ g') (f : Fr (fun b => b = s.p ∨ b = s.g) w w') (hz : wordAt ws' 0 = 0) :
    RWd B w' { s with g := g', cap := c', ws := ws' } ∧ RStp s { s with g := g', cap := c', ws := ws' } w w' := by
  have hlt := h.lt
  have hB : B ≤ w.heap.size := by have := h.lo.1; have := h.ltq; omega
  have nS : ∀ b, s.Blk b → (b ≠ s.p) → (b ≠ s.g) → ¬ (b = s.p ∨ b = s.g) := fun b _ h1 h2 h3 => by rcases h3 with e | e; exact h1 e; exact h2 e
  have fxm : ∀ b, s.Fix b → b ≠ s.p ∧ b ≠ s.g := fun b hb => ⟨fun e => h.fx b hb (.inr (.inl e)), fun e => h.fx b hb (.inr (.inr (.inl e)))⟩
  have ng : ∀ b, s.Blk b → b ≠ s.g → b ≠ g' := fun b hb hne e => by
    rcases hg with e' | e'
    · exact hne (e.trans e')
    · have := (hlt b hb).2; omega
  have nf : ∀ b, s.Fix b → ¬ (b = s.p ∨ b = s.g) := fun b hb => nS b (.inr hb) (fxm b hb).1 (fxm b hb).2
  refine ⟨⟨?_, hh, ?_, ?_, ?_, ?_, ⟨h.lo.1, h.lo.2.1, ?_⟩, ⟨h.qp.1, ?_⟩, ?_, ?_, hz, h.few, h.tk, h.wl, h.wi, h.wt⟩, ?_, ?_⟩
  · exact (f.block s.q h.ltq (nS _ (.inl (.inl rfl)) h.qp.1 h.qp.2)).trans h.obj
  · exact f.owns h.lits (fun b hb => nf b (.inl hb))
  · exact h.types.kept f (fun b hb => nf b (.inr (.inl (by simpa [Value.ownBlock] using hb.symm)))) (fun _ _ _ h => h)
  · exact f.owns h.ins (fun b hb => nf b (.inr (.inr hb)))
  · exact f.owns h.lines (fun b hb => nS b (.inl (.inr (.inr (.inr hb)))) (h.tq b hb).2.1 (h.tq b hb).2.2)
  · rcases hg with e | e
    · rw [e]; exact h.lo.2.2
    · exact Nat.le_trans hB e
  · exact ng _ (.inl (.inl rfl)) h.qp.2
  · intro b hb
    have := h.tq b hb
    exact ⟨this.1, this.2.1, ng b (.inl (.inr (.inr (.inr hb)))) this.2.2⟩
  · intro b hb hm
    rcases hm with e | e | e | e
    · exact h.fx b hb (.inl e)
    · exact h.fx b hb (.inr (.inl e))
    · exact ng b (.inr hb) (fxm b hb).2 e
    · exact h.fx b hb (.inr (.inr (.inr e)))
  · exact f.mono (fun b _ hb => by rcases hb with e | e; exact .inr (.inl e); exact .inr (.inr (.inl e)))
  · intro b hb
    rcases hb with (e | e | e | e) | e
    · exact .inl (.inl (.inl e))
    · exact .inl (.inl (.inr (.inl e)))
    · rcases hg with e' | e'
      · exact .inl (.inl (.inr (.inr (.inl (e.trans e')))))
      · have e2 : b = g' := e
        exact .inr (by omega)
    · exact .inl (.inl (.inr (.inr (.inr e))))
    · exact .inl (.inr e)
end


theorem RWd.pushLine {B : Nat} {w w2 : World} {s : RSt} {t : ByteArray} {g' c' : Nat} (h : RWd B w s) (ht : t.size ≤ 65536) (hf : s.lines.length < 4096)
    (ho : w2.ownsRow B 9 1 (.slice (some ⟨g', 0, none⟩) (s.lines.length + 1) c') (s.lines.length + 1) (s.lines.map Value.string ++ [.string t])) (hg : w.grownBy w2 s.vt.ownBlock) (hb : s.vt.ownBlock = some g' ∨ w.heap.size ≤ g') :
    RWd B (w2.setCell ⟨s.q, 9, none⟩ (.slice (some ⟨g', 0, none⟩) (s.lines.length + 1) c')) { s with vt := .slice (some ⟨g', 0, none⟩) (s.lines.length + 1) c', lines := s.lines ++ [t] } ∧
      RStp s { s with vt := .slice (some ⟨g', 0, none⟩) (s.lines.length + 1) c', lines := s.lines ++ [t] } w (w2.setCell ⟨s.q, 9, none⟩ (.slice (some ⟨g', 0, none⟩) (s.lines.length + 1) c')) := by
  have hlt := h.lt
  have hq := h.ltq
  have f2 : Fr (fun b => s.vt.ownBlock = some b ∨ b = s.q) w w2 := (Fr.refl _ w).grown hg (fun k hk _ => .inl hk)
  have f3 : Fr (fun b => s.vt.ownBlock = some b ∨ b = s.q) w (w2.setCell ⟨s.q, 9, none⟩ (.slice (some ⟨g', 0, none⟩) (s.lines.length + 1) c')) := f2.setCell (p := ⟨s.q, 9, none⟩) (fun _ => .inr rfl) _
  have nq : ∀ b, s.vt.ownBlock = some b → b ≠ s.q := fun b hb => (h.tq b hb).1
  have g'q : g' ≠ s.q ∧ g' ≠ s.p ∧ g' ≠ s.g := by
    rcases hb with e | e
    · exact h.tq g' e
    · have := (hlt s.p (.inl (.inr (.inl rfl)))).2
      have := (hlt s.g (.inl (.inr (.inr (.inl rfl))))).2
      omega
  have ho2 : w2.heap[s.q]? = _ := (hg.block s.q hq (fun e => nq s.q e.symm rfl)).trans h.obj
  have fxs : ∀ b, s.Fix b → ¬ (s.vt.ownBlock = some b ∨ b = s.q) := fun b hb hh => by
    rcases hh with e | e
    · exact h.fx b hb (.inr (.inr (.inr e)))
    · exact h.fx b hb (.inl e)
  have hlen : (s.lines ++ [t]).length = s.lines.length + 1 := by simp
  refine ⟨⟨?_, ?_, f3.owns h.lits (fun b hb => fxs b (.inl hb)), h.types.kept f3 (fun b hb => fxs b (.inr (.inl (by simpa [Value.ownBlock] using hb.symm)))) (fun _ _ _ h => h), f3.owns h.ins (fun b hb => fxs b (.inr (.inr hb))), ?_, h.lo, h.qp, ?_, ?_, h.z, ?_, h.tk, h.wl, h.wi, ?_⟩, ?_, ?_⟩
  · rw [heap_setCell_same w2 s.q 9 _ _ _ ho2]; rfl
  · refine h.heap.kept f3 ?_ ?_
    · rintro (e | e)
      · exact (h.tq _ e).2.1 rfl
      · exact h.qp.1 e.symm
    · rintro (e | e)
      · exact (h.tq _ e).2.2 rfl
      · exact h.qp.2 e.symm
  · simp only [hlen, List.map_append, List.map_cons, List.map_nil]
    have f : Fr (fun k => k = s.q) w2 (w2.setCell ⟨s.q, 9, none⟩ (.slice (some ⟨g', 0, none⟩) (s.lines.length + 1) c')) := (Fr.refl (fun k => k = s.q) w2).setCell (p := ⟨s.q, 9, none⟩) (fun _ => rfl) _
    exact f.owns ho (fun b hb' hh => by simp [Value.ownBlock] at hb'; subst hb'; exact g'q.1 hh)
  · intro b hb'
    simp [Value.ownBlock] at hb'
    subst hb'
    exact g'q
  · intro b hb' hm
    rcases hm with e | e | e | e
    · exact h.fx b hb' (.inl e)
    · exact h.fx b hb' (.inr (.inl e))
    · exact h.fx b hb' (.inr (.inr (.inl e)))
    · simp [Value.ownBlock] at e
      subst e
      rcases hb with e | e
      · exact h.fx _ hb' (.inr (.inr (.inr e)))
      · have := (hlt _ (.inr hb')).2; omega
  · simp only [hlen]; omega
  · intro x hx
    rcases List.mem_append.1 hx with hx | hx
    · exact h.wt x hx
    · rw [List.mem_singleton.1 hx]; exact ht
  · exact f3.mono (fun b _ hb => by rcases hb with e | e; exact .inr (.inr (.inr e)); exact .inl e)
  · intro b hb'
    rcases hb' with (e | e | e | e) | e
    · exact .inl (.inl (.inl e))
    · exact .inl (.inl (.inr (.inl e)))
    · exact .inl (.inl (.inr (.inr (.inl e))))
    · simp [Value.ownBlock] at e
      subst e
      rcases hb with e | e
      · exact .inl (.inl (.inr (.inr (.inr e))))
      · exact .inr e
    · exact .inl (.inr e)

/-- What a call leaves of the reference's World. -/
def RDoes (B : Nat) (w : World) (s s' : RSt) (w' : World) : Prop := RWd B w' s' ∧ RStp s s' w w'
theorem RDoes.up {B : Nat} {w w' : World} {s : RSt} (h : RWd B w s) (u : Up w w') : RDoes B w s s w' := ⟨h.up u, .of_up u⟩
theorem RWd.took {B : Nat} {w : World} {s : RSt} (h : RWd B w s) (hl : s.taken < s.ins.length) : RDoes B w s { s with taken := s.taken + 1 } (w.setCell ⟨s.q, 8, none⟩ (.int .i64 (s.taken + 1 : Nat))) := by
  have hlt := h.lt
  have f : Fr (fun b => b = s.q) w (w.setCell ⟨s.q, 8, none⟩ (.int .i64 (s.taken + 1 : Nat))) := Fr.setCell (S := fun b => b = s.q) (Fr.refl _ w) (p := ⟨s.q, 8, none⟩) (fun _ => rfl) _
  have fxs : ∀ b, s.Fix b → ¬ b = s.q := fun b hb e => h.fx b hb (.inl e)
  refine ⟨⟨?_, h.heap.kept f (fun e => h.qp.1 e.symm) (fun e => h.qp.2 e.symm), f.owns h.lits (fun b hb => fxs b (.inl hb)), h.types.kept f (fun b hb => fxs b (.inr (.inl (by simpa [Value.ownBlock] using hb.symm)))) (fun _ _ _ h => h), f.owns h.ins (fun b hb => fxs b (.inr (.inr hb))),
    f.owns h.lines (fun b hb => (h.tq b hb).1), h.lo, h.qp, h.tq, h.fx, h.z, h.few, hl, h.wl, h.wi, h.wt⟩, ⟨f.mono (fun b _ e => .inl e), fun b hb => .inl hb⟩⟩
  rw [heap_setCell_same w s.q 8 _ _ _ h.obj]; rfl

theorem RDoes.after {B : Nat} {w w1 w' : World} {s s' : RSt} (u : Up w w1) (h : RDoes B w1 s s' w') : RDoes B w s s' w' := by
  have z := u.size
  refine ⟨h.1, ⟨?_, fun b hb => ?_⟩⟩
  · exact (u.mono (fun _ _ h => h.elim)).trans h.2.fr (fun _ _ h => h)
  · rcases h.2.new b hb with e | e
    · exact .inl e
    · exact .inr (by omega)





def rgrow (s : RSt) (g c : Nat) (ws : List Int) : RSt := { s with g := g, cap := c, ws := ws }

set_option maxHeartbeats 400000 in
theorem rfull_any {B : Nat} {w : World} {s : RSt} (h : RWd B w s) :
    Calls Tryd.prog 33 #[.pointer (some ⟨s.q, 0, none⟩)] w fun e w' => e = .returned (.bool (decide (4096 ≤ s.lines.length))) ∧ w = w' := by
  have c9 := h.c9
  obtain ⟨a, c, hv, hc1, hc2, _⟩ := row_parts h.lines
  rw [hv] at c9
  have hf := h.few
  have E : decide ((4096 : Int) ≤ s.lines.length) = decide (4096 ≤ s.lines.length) := by
    rw [decide_eq_decide]; omega
  clear h hv
  go_enter Tryd.func33, Tryd.ntmps33
  go_wp2_with fail
  go_ret
  exact ⟨by rw [← E]; rfl, rfl⟩

set_option maxHeartbeats 1000000 in
theorem rlit_any {B : Nat} {w : World} {s : RSt} (h : RWd B w s) (k : Int) :
    Calls Tryd.prog 10 #[.pointer (some ⟨s.q, 0, none⟩), .int .i64 k] w fun e w' => e = .returned (.int .u64 (wordAt s.lits k)) ∧ w = w' := by
  have c6 := h.c6
  obtain ⟨a, c, hv, hc1, hc2, hx⟩ := row_parts h.lits
  rw [hv] at c6
  by_cases h0 : 0 ≤ k
  · obtain ⟨m, rfl⟩ := Int.eq_ofNat_of_zero_le h0
    by_cases h1 : m < s.lits.length
    · obtain ⟨g, rfl, _, hg, hcell⟩ := hx (by omega)
      have hm := hcell m (.int .u64 (wordAt s.lits m)) (by rw [List.getElem?_map, wordAt_lt (by omega)]; rfl)
      generalize wordAt s.lits m = y at *
      clear h hx hcell hv
      go_enter Tryd.func10, Tryd.ntmps10
      go_wp2_with fail
      go_ret
      exact ⟨rfl, rfl⟩
    · have hw := Lib.hid (wordAt_out (ws := s.lits) (a := m) (by omega))
      clear h hx hv
      go_enter Tryd.func10, Tryd.ntmps10
      go_wp2_with fail
      go_ret
      exact ⟨ret_eq hw.out.symm, rfl⟩
  · have hw := Lib.hid (wordAt_neg (xs := s.lits) (k := k) (by omega))
    clear h hx hv
    go_enter Tryd.func10, Tryd.ntmps10
    go_wp2_with fail
    go_ret
    exact ⟨ret_eq hw.out.symm, rfl⟩

/-- The next input, as a word. -/
def rinputOf (s : RSt) : Int := if s.taken < s.ins.length then IntKind.u64.wrap (wordAt s.ins s.taken) else 0
def rnextSt (s : RSt) : RSt := if s.taken < s.ins.length then { s with taken := s.taken + 1 } else s

set_option maxHeartbeats 1000000 in
theorem rinput_any {B : Nat} {w : World} {s : RSt} (h : RWd B w s) :
    Calls Tryd.prog 14 #[.pointer (some ⟨s.q, 0, none⟩)] w fun e w' => e = .returned (.int .u64 (rinputOf s)) ∧ RDoes B w s (rnextSt s) w' := by
  have c7 := h.c7
  have c8 := h.c8
  have fq := h.fq 8
  have hfi := h.few_ins
  have htk := h.tk
  have H := Lib.hid h
  obtain ⟨a, c, hv, hc1, hc2, hx⟩ := row_parts h.ins
  rw [hv] at c7
  by_cases hl : s.taken < s.ins.length
  · obtain ⟨g, rfl, hgo, hg, hcell⟩ := hx (by omega)
    have hm := hcell s.taken (.int .i64 (wordAt s.ins s.taken)) (by rw [List.getElem?_map, wordAt_lt hl]; rfl)
    have E : Hid (rinputOf s = IntKind.u64.wrap (wordAt s.ins s.taken) ∧ rnextSt s = { s with taken := s.taken + 1 }) := Lib.hid ⟨by unfold rinputOf; rw [if_pos hl], by unfold rnextSt; rw [if_pos hl]⟩
    have k0 : decide ((s.ins.length : Int) ≤ (s.taken : Int)) = false := decide_eq_false (by omega)
    have HD : ∀ m k, Hid (RDoes B w s { s with taken := s.taken + 1 } (((w.drewN m).setCell ⟨s.q, 8, none⟩ (.int .i64 ((s.taken : Int) + 1))).drewN k)) := fun m k => Lib.hid (by
      have := (h.drewN m).took hl
      exact ⟨this.1.drewN k, ⟨this.2.fr.os, this.2.fr.tape, this.2.fr.output, this.2.fr.size, this.2.fr.block⟩, this.2.new⟩)
    have hgq : g ≠ s.q := fun e => by
      have := h.fx g (.inr (.inr hgo))
      exact this (.inl e)
    have w1 : IntKind.i64.wrap ((s.taken : Int) + 1) = (s.taken : Int) + 1 := IntWalk.i64_in _ (by omega)
    have w2 : (s.taken : Int) + 1 - 1 = s.taken := by omega
    generalize hy : wordAt s.ins s.taken = y at *
    clear h hv hx hcell hy
    go_enter Tryd.func14, Tryd.ntmps14
    go_wp2_with fail
    go_quiet (fail)
    go_wp2_with fail
    go_quiet (fail)
    go_wp2_with fail
    go_ret
    rw [E.out.1, E.out.2]
    exact ⟨rfl, (HD _ _).out⟩
  · have k0 : decide ((s.ins.length : Int) ≤ (s.taken : Int)) = true := decide_eq_true (by omega)
    have E : Hid (rinputOf s = 0 ∧ rnextSt s = s) := Lib.hid ⟨by unfold rinputOf; rw [if_neg hl], by unfold rnextSt; rw [if_neg hl]⟩
    have k1 : (s.ins.length : Int) ≤ (s.taken : Int) := by omega
    clear h hv hx hl
    go_enter Tryd.func14, Tryd.ntmps14
    go_wp2_with fail
    go_quiet (fail)
    go_wp2_with fail
    go_ret
    rw [E.out.1, E.out.2]
    exact ⟨rfl, H.out.drewN _, .of_up ((Fr.refl _ w).drewN _)⟩

/-- What an allocation leaves. -/
def RAllocW (B : Nat) (w : World) (s : RSt) (t n : Int) (e : Ending) (w' : World) : Prop :=
  (allocB s.ws s.room t n = true ∧ e = .returned (.tuple #[.int .u64 s.ws.length, .bool true]) ∧ ∃ g c, RDoes B w s (rgrow s g c (allocWs s.ws t n)) w') ∨
  (allocB s.ws s.room t n = false ∧ e = .returned (.tuple #[.int .u64 0, .bool false]) ∧ RDoes B w s s w')

set_option maxHeartbeats 1000000 in
theorem rslice_any {B : Nat} {w : World} {s : RSt} (h : RWd B w s) (t n : Int) :
    Calls Tryd.prog 18 #[.pointer (some ⟨s.q, 0, none⟩), .int .i64 t, .int .i64 n] w (RAllocW B w s t n) := by
  have c5 := h.c5
  have H := Lib.hid h
  have hm := h.heap.most
  clear h
  by_cases h0 : n < 0
  · have Hb := Lib.hid (alloc_big (ws := s.ws) (t := t) hm (.inl h0))
    go_enter Tryd.func18, Tryd.ntmps18
    go_wp2_with fail
    go_ret2
    exact .inr ⟨Hb.out, rfl, .up H.out (Fr.refl _ w)⟩
  · by_cases h1 : 1048576 < n
    · have Hb := Lib.hid (alloc_big (ws := s.ws) (t := t) hm (.inr (show 65536 < n by omega)))
      go_enter Tryd.func18, Tryd.ntmps18
      go_wp2_with fail
      go_ret2
      exact .inr ⟨Hb.out, rfl, .up H.out (Fr.refl _ w)⟩
    · have h2 : 0 ≤ n := by omega
      have h3 : n ≤ 1048576 := by omega
      clear h0 h1
      cases hb : allocB s.ws s.room t n with
      | true =>
        have Hb := Lib.hid hb
        clear hb
        go_enter Tryd.func18, Tryd.ntmps18
        go_wp2_with fail
        refine (ralloc_y H.out.heap t n Hb.out).mono ?_
        rintro e w3 ⟨rfl, g', c', h3, hg3, f3⟩
        have D3 := Lib.hid (H.out.heapStep h3 hg3 f3 (z_alloc H.out.heap.pos H.out.z))
        clear h3 hg3 f3
        go_wp2_with fail
        go_ret2
        exact .inl ⟨Hb.out, rfl, _, _, D3.out⟩
      | false =>
        have Hb := Lib.hid hb
        clear hb
        go_enter Tryd.func18, Tryd.ntmps18
        go_wp2_with fail
        refine (ralloc_n H.out.heap t n Hb.out).mono ?_
        rintro e w3 ⟨rfl, m, rfl⟩
        go_wp2_with fail
        go_ret2
        exact .inr ⟨Hb.out, rfl, .up H.out ((Fr.refl _ w).drewN m)⟩


theorem sizes_at {k : Nat} (h : k < fieldsOf.length) : wordAt sizesI (k : Nat) = ((fieldsOf[k]'h : Nat) : Int) := by
  have e := wordAt_lt (xs := sizesI) (k := k) (by unfold sizesI; simpa using h)
  unfold sizesI at e ⊢
  rw [List.getElem?_map, List.getElem?_eq_getElem h] at e
  exact (Option.some.inj e).symm

set_option maxHeartbeats 2000000 in
theorem robject_any {B : Nat} {w : World} {s : RSt} (h : RWd B w s) (t : Int) :
    Calls Tryd.prog 16 #[.pointer (some ⟨s.q, 0, none⟩), .int .i64 t] w (RAllocW B w s t (wordAt sizesI t)) := by
  have c0 := h.c0
  have c5 := h.c5
  have H := Lib.hid h
  obtain ⟨A, cc, hA, hp⟩ := h.types.reads.parts
  simp only [Value.slice.injEq] at hA
  obtain ⟨rfl, h7, rfl⟩ := hA
  have HC : ∀ n, wordAt sizesI t = n → Hid (∀ w', RWd B w' s → Calls Tryd.prog 51 #[.pointer (some ⟨s.p, 0, none⟩), .int .i64 t, .int .i64 n] w' (fun e w2 => RAllocW B w' s t (wordAt sizesI t) e w2)) := fun n hn => Lib.hid (fun w' h' => by
    rw [hn]
    cases hb : allocB s.ws s.room t n with
    | true =>
      exact (ralloc_y h'.heap t n hb).mono fun e w3 ⟨he, g', c', h3, hg3, f3⟩ => .inl ⟨hb, he, g', c', h'.heapStep h3 hg3 f3 (z_alloc h'.heap.pos h'.z)⟩
    | false =>
      exact (ralloc_n h'.heap t n hb).mono fun e w3 ⟨he, m, hm⟩ => .inr ⟨hb, he, by rw [hm]; exact .up h' ((Fr.refl _ w').drewN m)⟩)
  by_cases h0 : 0 ≤ t
  · obtain ⟨k, rfl⟩ := Int.eq_ofNat_of_zero_le h0
    by_cases h1 : k < 7
    · obtain ⟨b, o, cs, hb0, _, _, hcs, _, hcell⟩ := hp.elem (k := k) (by show k < 7; exact h1)
      obtain ⟨q1, q2, q3, a, c, a2, n2, c2, rfl, hx⟩ := hcs
      simp only [Option.some.injEq, Addr.mk.injEq, and_true] at hb0
      obtain ⟨rfl, rfl⟩ := hb0
      have d3 := hcell 3 _ rfl
      have e7 := sizes_at (k := k) (by show k < 7; exact h1)
      have HC1 := HC _ e7
      generalize fieldsOf[k]'(by show k < 7; exact h1) = x at *
      have k1 : (k : Int) < 7 := by omega
      rw [Nat.zero_add] at d3
      clear h hp hcell HC h7
      go_enter Tryd.func16, Tryd.ntmps16
      go_wp2_with fail
      refine (HC1.out w H.out).mono ?_
      intro e w3 hd
      have HD := Lib.hid hd
      rcases hd with ⟨_, rfl, _⟩ | ⟨_, rfl, _⟩
      all_goals
        go_wp2_with fail
        go_ret2
        exact HD.out
    · have e0 : wordAt sizesI (k : Nat) = 0 := wordAt_out (by show ((7 : Nat) : Int) ≤ _; omega)
      have HC1 := HC 0 e0
      have k1 : decide ((k : Int) < 7) = false := decide_eq_false (by omega)
      have k2 : (7 : Int) ≤ (k : Int) := by omega
      clear h hp HC h7
      go_enter Tryd.func16, Tryd.ntmps16
      go_wp2_with fail
      refine (HC1.out w H.out).mono ?_
      intro e w3 hd
      have HD := Lib.hid hd
      rcases hd with ⟨_, rfl, _⟩ | ⟨_, rfl, _⟩
      all_goals
        go_wp2_with fail
        go_ret2
        exact HD.out
  · have e0 : wordAt sizesI t = 0 := wordAt_neg (by omega)
    have HC1 := HC 0 e0
    clear h hp HC h7
    go_enter Tryd.func16, Tryd.ntmps16
    go_wp2_with fail
    refine (HC1.out w H.out).mono ?_
    intro e w3 hd
    have HD := Lib.hid hd
    rcases hd with ⟨_, rfl, _⟩ | ⟨_, rfl, _⟩
    all_goals
      go_wp2_with fail
      go_ret2
      exact HD.out

theorem str_zero {ws : List Int} (hz : wordAt ws 0 = 0) : strAt ws 0 = ⟨#[]⟩ := by
  unfold strAt
  rw [show hlenOf ws 0 = 0 by unfold hlenOf; rw [hz]; rfl]
  simp [readOf, strOfNums]

/-- What Cat leaves. -/
def RCatW (B : Nat) (w : World) (s : RSt) (x : ByteArray) (e : Ending) (w' : World) : Prop :=
  (2000 < x.size ∧ e = .returned (.tuple #[.int .u64 0, .bool false]) ∧ RDoes B w s s w') ∨
  (x.size = 0 ∧ e = .returned (.tuple #[.int .u64 0, .bool true]) ∧ RDoes B w s s w') ∨
  (x.size ≤ 2000 ∧ 0 < x.size ∧ allocB s.ws s.room 3 x.size = true ∧ e = .returned (.tuple #[.int .u64 s.ws.length, .bool true]) ∧ ∃ g c, RDoes B w s (rgrow s g c (textWs s.ws x)) w') ∨
  (x.size ≤ 2000 ∧ 0 < x.size ∧ allocB s.ws s.room 3 x.size = false ∧ e = .returned (.tuple #[.int .u64 0, .bool false]) ∧ RDoes B w s s w')

set_option maxHeartbeats 2000000 in
theorem rcat_any {B : Nat} {w : World} {s : RSt} (h : RWd B w s) (a b : Int) (ha : 0 ≤ a) (hb : 0 ≤ b) :
    Calls Tryd.prog 20 #[.pointer (some ⟨s.q, 0, none⟩), .int .u64 a, .int .u64 b] w (RCatW B w s (strAt s.ws a ++ strAt s.ws b)) := by
  have c5 := h.c5
  have H := Lib.hid h
  have hs1 := strAt_size s.ws a
  have hs2 := strAt_size s.ws b
  have hsm := h.heap.small
  have hz := h.z
  clear h
  by_cases hab : a = 0 ∧ b = 0
  · obtain ⟨rfl, rfl⟩ := hab
    have hx : (strAt s.ws 0 ++ strAt s.ws 0).size = 0 := by rw [str_zero hz]; rfl
    have HX := Lib.hid hx
    clear hx hs1 hs2 hz
    go_enter Tryd.func20, Tryd.ntmps20
    go_wp2_with fail
    go_ret2
    exact .inr (.inl ⟨HX.out, rfl, .up H.out (Fr.refl _ w)⟩)
  · have CA : ∀ w', RWd B w' s → Calls Tryd.prog 22 #[.pointer (some ⟨s.p, 0, none⟩), .int .u64 a] w' _ := fun w' h => rstring_any h.heap a ha
    have CB : ∀ w', RWd B w' s → Calls Tryd.prog 22 #[.pointer (some ⟨s.p, 0, none⟩), .int .u64 b] w' _ := fun w' h => rstring_any h.heap b hb
    have CA1 := Lib.hid CA
    have CB1 := Lib.hid CB
    have sz : (strAt s.ws a).size + (strAt s.ws b).size ≤ 9223372036854775807 := by omega
    have szx : (strAt s.ws a ++ strAt s.ws b).size ≤ 200000 := by rw [ByteArray.size_append]; omega
    generalize strAt s.ws a = s1 at *
    generalize strAt s.ws b = s2 at *
    have hadd : ∀ w : World, (Op.stringOp .add s1 s2).run Tryd.prog w = .ok (.string (s1 ++ s2)) w := fun w => run_string_add_sum w s1 s2 sz
    have Z := Lib.hid szx
    have HAB := Lib.hid hab
    clear CA CB hs1 hs2 szx hz
    by_cases hb0 : a = 0
    all_goals
      try (have hb1 : ¬ b = 0 := fun e => hab ⟨hb0, e⟩)
      clear hab
      try (have k1 : (a == 0) = false := beq_eq_false_iff_ne.2 hb0)
      try (have k1 : (a == 0) = true := beq_iff_eq.2 hb0)
      try (have k2 : (b == 0) = false := beq_eq_false_iff_ne.2 hb1)
      clear hb0
      go_enter Tryd.func20, Tryd.ntmps20
      go_wp2_with fail
      go_region_held3 (fun W' => W'.cell? ⟨s.q, 5, none⟩ = some (.pointer (some ⟨s.p, 0, none⟩))) (first | exact c54 | exact c53 | exact c5)
          (first
            | (go_at_call 22; refine (CB1.out _ H3.out).mono ?_; rintro e w4 ⟨rfl, u⟩; have H4 := Lib.hid (H3.out.up u); have U4 := Lib.hid (Fr.trans U3.out u (fun _ _ h => h)); have c54 := H4.out.c5; clear u)
            | (go_at_call 22; refine (CA1.out _ (H.out.drewN 1)).mono ?_; rintro e w3 ⟨rfl, u⟩; have H3 := Lib.hid (H.out.up (Fr.trans ((Fr.refl _ w).drewN 1) u (fun _ _ h => h))); have U3 := Lib.hid (Fr.trans ((Fr.refl _ w).drewN 1) u (fun _ _ h => h)); have c53 := H3.out.c5; clear u))
      have szx := Z.out
      generalize s1 ++ s2 = x at *
      by_cases hbig : 2000 < x.size
      · go_wp2_with fail
        go_ret2
        exact .inl ⟨hbig, rfl, .up H.out U4.out⟩
      · have hle : x.size ≤ 2000 := by omega
        by_cases h0 : x.size = 0
        · go_wp2_with fail
          refine (rtext_empty s.p x h0).mono ?_
          rintro e w5 ⟨rfl, rfl⟩
          go_wp2_with fail
          go_ret2
          exact .inr (.inl ⟨h0, rfl, .up H.out U4.out⟩)
        · have h1 : 0 < x.size := by omega
          cases hal : allocB s.ws s.room 3 x.size with
          | true =>
            have Hal := Lib.hid hal
            clear hal
            go_wp2_with fail
            refine (rtext_any H4.out.heap x h1 Hal.out).mono ?_
            rintro e w5 ⟨rfl, g', c', h3, hg3, f3⟩
            have D3 := Lib.hid (H4.out.heapStep h3 hg3 f3 (z_text H4.out.heap.pos H4.out.z))
            clear h3 hg3 f3
            go_wp2_with fail
            go_ret2
            exact .inr (.inr (.inl ⟨hle, h1, Hal.out, rfl, _, _, RDoes.after U4.out D3.out⟩))
          | false =>
            have Hal := Lib.hid hal
            clear hal
            go_wp2_with fail
            refine (rtext_no H4.out.heap x (by omega) h1 Hal.out).mono ?_
            rintro e w5 ⟨rfl, m, rfl⟩
            go_wp2_with fail
            go_ret2
            exact .inr (.inr (.inr ⟨hle, h1, Hal.out, rfl, .up H.out (U4.out.drewN m)⟩))


def rlineText (s : RSt) (kind v : Int) : Option ByteArray :=
  if kind = 1 then some (bsv (Lib.itoa (IntKind.i64.wrap v))) else if kind = 2 then some (boolT (v != 0)) else if kind = 3 then some (strAt s.ws v) else none
def rprinted (s : RSt) (kind v : Int) : List ByteArray :=
  if s.lines.length < 4096 then (match rlineText s kind v with
    | some t => s.lines ++ [t]
    | none => s.lines) else s.lines
def RPrintW (B : Nat) (w : World) (s : RSt) (kind v : Int) (e : Ending) (w' : World) : Prop :=
  e = .returned (.tuple #[]) ∧ ∃ vt, RDoes B w s { s with vt := vt, lines := rprinted s kind v } w'

theorem rpush_facts {B : Nat} {w : World} {s : RSt} (h : RWd B w s) (t : ByteArray) (ht : t.size ≤ 65536) (hf : s.lines.length < 4096) :
    ∃ a c g' c' w2, w.cell? ⟨s.q, 9, none⟩ = some (.slice a s.lines.length c) ∧
      (Builtin.append_ #[22, 22] 22 #[.slice a s.lines.length c, .slice (some ⟨w.heap.size, 0, none⟩) 1 1]).run Tryd.prog (w.alloc (.cells #[.string t] 9)) = .ok (.slice (some ⟨g', 0, none⟩) (s.lines.length + 1) c') w2 ∧
      w2.cell? ⟨s.q, 9, none⟩ = some (.slice a s.lines.length c) ∧ w2.frozen? ⟨s.q, 9, none⟩ = false ∧
      RDoes B w s { s with vt := .slice (some ⟨g', 0, none⟩) (s.lines.length + 1) c', lines := s.lines ++ [t] } (w2.setCell ⟨s.q, 9, none⟩ (.slice (some ⟨g', 0, none⟩) (s.lines.length + 1) c')) := by
  have c9 := h.c9
  obtain ⟨i, hi, hz, hz1, hz2⟩ := info_parts info_s
  have hB : B ≤ w.heap.size := by have := h.lo.1; have := h.ltq; omega
  obtain ⟨g', c', w2, hrun, hown, hgrow, hg2⟩ := run_append_one (P := Tryd.prog) w B 22 22 9 i (.string ⟨#[]⟩) 16 Tryd.underlying22 hi hz hz1 hz2 rfl s.vt s.lines.length _ h.lines (.string t) rfl
    (by unfold maxLen; omega) (by omega) hB
  have HN := h.pushLine ht hf hown hgrow hg2
  have hqn : s.vt.ownBlock ≠ some s.q := fun e => (h.tq _ e).1 rfl
  have c92 := hgrow.cell (a := ⟨s.q, 9, none⟩) h.c9 (fun e => hqn e.symm)
  have f92 := (World.frozen?_of_block (a := ⟨s.q, 9, none⟩) (hgrow.block s.q h.ltq (fun e => hqn e.symm))).trans (h.fq 9)
  obtain ⟨a, c, hv, _⟩ := row_parts h.lines
  rw [hv] at c9 c92 hrun
  exact ⟨a, c, g', c', w2, c9, hrun, c92, f92, HN⟩

set_option maxHeartbeats 4000000 in
theorem rprint_any {B : Nat} {w : World} {s : RSt} (h : RWd B w s) (kind v : Int) (hv : u64b v) :
    Calls Tryd.prog 12 #[.pointer (some ⟨s.q, 0, none⟩), .int .i64 kind, .int .u64 v] w (RPrintW B w s kind v) := by
  have H := Lib.hid h
  have hv0 := hv.1
  have hv1 := hv.2
  have c5 := h.c5
  have U0 : Hid (Up w w) := Lib.hid (Fr.refl _ w)
  clear h hv
  by_cases k1 : kind = 1
  · obtain ⟨z, hz⟩ : ∃ z, IntKind.i64.wrap v = z := ⟨_, rfl⟩
    have hz2 : -9223372036854775808 ≤ z ∧ z ≤ 9223372036854775807 := by rw [← hz, IntKind.wrap_i64]; omega
    have hl := itoa_le hz2.1 hz2.2
    have HZ := Lib.hid hz
    subst k1
    go_enter Tryd.func12, Tryd.ntmps12
    go_wp2_with fail
    refine (digits_any z hz2.1 hz2.2 _).mono ?_
    rintro e w1 ⟨rfl, u⟩
    have H1 := Lib.hid (H.out.up u)
    have U1 := Lib.hid u
    clear u
    go_wp2_with fail
    refine (rfull_any H1.out).mono ?_
    rintro e w5 ⟨rfl, rfl⟩
    by_cases hf : s.lines.length < 4096
    · have D : decide (4096 ≤ s.lines.length) = false := decide_eq_false (by omega)
      rw [D]
      have P : Hid (rprinted s 1 v = s.lines ++ [(bsv (Lib.itoa z))]) := Lib.hid (by unfold rprinted rlineText; rw [if_pos hf]; rw [if_pos rfl, HZ.out])
      obtain ⟨a, c, g', c', w2, c9, hrun, c92, f92, hd⟩ := rpush_facts H1.out (bsv (Lib.itoa z)) (by rw [bsv_size]; omega) hf
      have HA := Lib.hid hrun
      have HD := Lib.hid (RDoes.after U1.out hd)
      clear hrun hd D hf
      go_wp2_with (at_builtin; refine Lib.wpList_append_run _ rfl (.tmp 32) (.tmp 34) 22 22 rfl _ _ rfl rfl _ _ HA.out ?_)
      go_end0
      refine ⟨rfl, .slice (some ⟨g', 0, none⟩) (s.lines.length + 1) c', ?_⟩
      rw [P.out]
      exact HD.out
    · have D : decide (4096 ≤ s.lines.length) = true := decide_eq_true (by omega)
      rw [D]
      have P : Hid (rprinted s 1 v = s.lines) := Lib.hid (by unfold rprinted; rw [if_neg hf])
      clear D hf
      go_wp2_with fail
      go_end0
      refine ⟨rfl, s.vt, ?_⟩
      rw [P.out]
      exact RDoes.up H.out U1.out
  · by_cases k2 : kind = 2
    · subst k2
      by_cases hv2 : v = 0
      · have hv3 := Lib.hid hv2
        have b0 : (v == 0) = true := beq_iff_eq.2 hv2
        go_enter Tryd.func12, Tryd.ntmps12
        go_wp2_with fail
        refine (rfull_any H.out).mono ?_
        rintro e w5 ⟨rfl, rfl⟩
        by_cases hf : s.lines.length < 4096
        · have D : decide (4096 ≤ s.lines.length) = false := decide_eq_false (by omega)
          rw [D]
          have P : Hid (rprinted s 2 v = s.lines ++ [⟨#[102, 97, 108, 115, 101]⟩]) := Lib.hid (by unfold rprinted rlineText; rw [if_pos hf]; rw [if_neg (by decide), if_pos rfl, hv3.out]; rfl)
          obtain ⟨a, c, g', c', w2, c9, hrun, c92, f92, hd⟩ := rpush_facts H.out ⟨#[102, 97, 108, 115, 101]⟩ (by decide) hf
          have HA := Lib.hid hrun
          have HD := Lib.hid (RDoes.after U0.out hd)
          clear hrun hd D hf
          go_wp2_with (at_builtin; refine Lib.wpList_append_run _ rfl (.tmp 32) (.tmp 34) 22 22 rfl _ _ rfl rfl _ _ HA.out ?_)
          go_end0
          refine ⟨rfl, .slice (some ⟨g', 0, none⟩) (s.lines.length + 1) c', ?_⟩
          rw [P.out]
          exact HD.out
        · have D : decide (4096 ≤ s.lines.length) = true := decide_eq_true (by omega)
          rw [D]
          have P : Hid (rprinted s 2 v = s.lines) := Lib.hid (by unfold rprinted; rw [if_neg hf])
          clear D hf
          go_wp2_with fail
          go_end0
          refine ⟨rfl, s.vt, ?_⟩
          rw [P.out]
          exact RDoes.up H.out U0.out
      · have hv3 := Lib.hid hv2
        have b0 : (v == 0) = false := beq_eq_false_iff_ne.2 hv2
        clear hv2
        go_enter Tryd.func12, Tryd.ntmps12
        go_wp2_with fail
        refine (rfull_any H.out).mono ?_
        rintro e w5 ⟨rfl, rfl⟩
        by_cases hf : s.lines.length < 4096
        · have D : decide (4096 ≤ s.lines.length) = false := decide_eq_false (by omega)
          rw [D]
          have P : Hid (rprinted s 2 v = s.lines ++ [⟨#[116, 114, 117, 101]⟩]) := Lib.hid (by unfold rprinted rlineText; rw [if_pos hf]; rw [if_neg (by decide), if_pos rfl, show (v != 0) = true from by simpa using hv3.out]; rfl)
          obtain ⟨a, c, g', c', w2, c9, hrun, c92, f92, hd⟩ := rpush_facts H.out ⟨#[116, 114, 117, 101]⟩ (by decide) hf
          have HA := Lib.hid hrun
          have HD := Lib.hid (RDoes.after U0.out hd)
          clear hrun hd D hf
          go_wp2_with (at_builtin; refine Lib.wpList_append_run _ rfl (.tmp 32) (.tmp 34) 22 22 rfl _ _ rfl rfl _ _ HA.out ?_)
          go_end0
          refine ⟨rfl, .slice (some ⟨g', 0, none⟩) (s.lines.length + 1) c', ?_⟩
          rw [P.out]
          exact HD.out
        · have D : decide (4096 ≤ s.lines.length) = true := decide_eq_true (by omega)
          rw [D]
          have P : Hid (rprinted s 2 v = s.lines) := Lib.hid (by unfold rprinted; rw [if_neg hf])
          clear D hf
          go_wp2_with fail
          go_end0
          refine ⟨rfl, s.vt, ?_⟩
          rw [P.out]
          exact RDoes.up H.out U0.out
    · by_cases k3 : kind = 3
      · subst k3
        have hst := strAt_size s.ws v
        have hsm := H.out.heap.small
        clear k1 k2
        go_enter Tryd.func12, Tryd.ntmps12
        go_wp2_with fail
        refine (rstring_any H.out.heap v hv0).mono ?_
        rintro e w1 ⟨rfl, u⟩
        have H1 := Lib.hid (H.out.up u)
        have U1 := Lib.hid u
        clear u
        go_wp2_with fail
        refine (rfull_any H1.out).mono ?_
        rintro e w5 ⟨rfl, rfl⟩
        by_cases hf : s.lines.length < 4096
        · have D : decide (4096 ≤ s.lines.length) = false := decide_eq_false (by omega)
          rw [D]
          have P : Hid (rprinted s 3 v = s.lines ++ [(strAt s.ws v)]) := Lib.hid (by unfold rprinted rlineText; rw [if_pos hf]; rw [if_neg (by decide), if_neg (by decide), if_pos rfl])
          obtain ⟨a, c, g', c', w2, c9, hrun, c92, f92, hd⟩ := rpush_facts H1.out (strAt s.ws v) (by omega) hf
          have HA := Lib.hid hrun
          have HD := Lib.hid (RDoes.after U1.out hd)
          clear hrun hd D hf
          go_wp2_with (at_builtin; refine Lib.wpList_append_run _ rfl (.tmp 32) (.tmp 34) 22 22 rfl _ _ rfl rfl _ _ HA.out ?_)
          go_end0
          refine ⟨rfl, .slice (some ⟨g', 0, none⟩) (s.lines.length + 1) c', ?_⟩
          rw [P.out]
          exact HD.out
        · have D : decide (4096 ≤ s.lines.length) = true := decide_eq_true (by omega)
          rw [D]
          have P : Hid (rprinted s 3 v = s.lines) := Lib.hid (by unfold rprinted; rw [if_neg hf])
          clear D hf
          go_wp2_with fail
          go_end0
          refine ⟨rfl, s.vt, ?_⟩
          rw [P.out]
          exact RDoes.up H.out U1.out
      · have P : Hid (rprinted s kind v = s.lines) := Lib.hid (by unfold rprinted rlineText; rw [if_neg k1, if_neg k2, if_neg k3]; split <;> rfl)
        have b1 : (kind == 1) = false := beq_eq_false_iff_ne.2 k1
        have b2 : (kind == 2) = false := beq_eq_false_iff_ne.2 k2
        have b3 : (kind == 3) = false := beq_eq_false_iff_ne.2 k3
        clear k1 k2 k3
        go_enter Tryd.func12, Tryd.ntmps12
        go_wp2_with fail
        (try simp only [Exit.inBlock, Exit.then]); refine bodyPost_ret (results_none rfl _ _ _) rfl ?_
        refine ⟨rfl, s.vt, ?_⟩
        rw [P.out]
        exact RDoes.up H.out (Fr.refl _ w)


set_option maxHeartbeats 2000000 in
theorem inputs_any {w : World} {G : Nat → Prop} {A : Option Addr} {cap len : Nat} {xs : List Int} (hx : SlP w G 1 I64C A cap xs) (hl : xs.length = len) :
    Calls Tryd.prog 7 #[.slice A len cap] w fun e w' => ∃ v', e = .returned v' ∧ w'.ownsRow w.heap.size 2 1 v' (xs.take 40).length ((xs.take 40).map (Value.int .i64)) ∧ Up w w' := by
  have HX := Lib.hid hx
  have hle := hx.le
  have hbig := hx.big
  have H0 : Hid (w.ownsRow w.heap.size 2 1 (.slice none 0 0) 0 ((xs.take 0).map (Value.int .i64)) ∧ Up w w) := Lib.hid ⟨World.ownsRow_nil _ _ _ _, Fr.refl _ w⟩
  clear hx
  go_enter Tryd.func7, Tryd.ntmps7
  go_wp2_with fail
  go_loopw [3, 4] (fun v i wr => ∃ k : Nat, i = .int .i64 k ∧ k ≤ len ∧ k ≤ 40 ∧ Hid (wr.ownsRow w.heap.size 2 1 v k ((xs.take k).map (Value.int .i64)) ∧ Up w wr)) (fun _ i _ => 40 - (Go.RowKit.intOf i).toNat)
  case atStart => exact ⟨0, rfl, Nat.zero_le _, Nat.zero_le _, H0⟩
  case round =>
    obtain ⟨k, rfl, hk1, hk2, hR⟩ := hrel
    clear H0
    obtain ⟨av, cv, hv, hcv, hcb, _⟩ := row_parts hR.out.1
    subst hv
    by_cases hk : k < len ∧ k < 40
    · obtain ⟨hk, hk'⟩ := hk
      have hkx : k < xs.length := by omega
      obtain ⟨b, o, cs, rfl, _, hb, ⟨rfl, hxi⟩, _, hcell⟩ := HX.out.elem (k := k) hkx
      have d0 : wr.cell? ⟨b, o + k, none⟩ = some (.int .i64 (xs[k]'hkx)) := by have := (hR.out.2.cell (p := ⟨b, o + k * 1 + 0, none⟩) hb (fun h => h)).trans (hcell 0 _ rfl); simpa using this
      have ht : xs.take (k + 1) = xs.take k ++ [xs[k]'hkx] := by rw [List.take_add_one, List.getElem?_eq_getElem hkx]; rfl
      obtain ⟨i, hi, hz, hz1, hz2⟩ := info_parts info_j
      generalize xs[k]'hkx = x at *
      obtain ⟨g2, c2, w4, hrun, hown, hgrow, hg2⟩ := run_append_one (P := Tryd.prog) wr w.heap.size 23 23 2 i (.int .i64 0) 8 Tryd.underlying23 hi hz hz1 hz2 rfl _ k _ hR.out.1 (.int .i64 x) rfl
        (by unfold maxLen; omega) (by omega) hR.out.2.size
      have HA := Lib.hid hrun
      have HN : Hid (w4.ownsRow w.heap.size 2 1 (.slice (some ⟨g2, 0, none⟩) (k + 1) c2) (k + 1) ((xs.take (k + 1)).map (Value.int .i64)) ∧ Up w w4) := Lib.hid (by
        refine ⟨by rw [ht, List.map_append]; exact hown, hR.out.2.grown hgrow (fun b hb hlt => ?_)⟩
        have := (hR.out.1.lt b hb).1
        omega)
      clear hrun hown hgrow hg2 hi hz hz1 hz2 hcell hxi ht
      go_wp2_with (at_builtin; refine Lib.wpList_append_run _ rfl (.tmp 15) (.tmp 20) 23 23 rfl _ _ rfl rfl _ _ HA.out ?_)
      go_roundw
      case rel => exact ⟨k + 1, by go_num, by omega, by omega, HN⟩
      case measure => simp [Go.RowKit.intOf]; omega
    · have e : xs.take 40 = xs.take k := by
        by_cases h : k < len
        · rw [show k = 40 by omega]
        · rw [List.take_of_length_le (by omega), List.take_of_length_le (by omega)]
      have el : (xs.take 40).length = k := by rw [e, List.length_take]; omega
      have HF : Hid (wr.ownsRow w.heap.size 2 1 (.slice av k cv) (xs.take 40).length ((xs.take 40).map (Value.int .i64)) ∧ Up w wr) := Lib.hid (by rw [el, e]; exact hR.out)
      clear e el
      by_cases hk3 : k < len
      all_goals
        go_wp2_with fail
        go_ret
        exact ⟨_, rfl, HF.out⟩

theorem room_any (n : Int) (w : World) (h0 : 1 ≤ n) (h1 : n ≤ 65536) :
    Calls Tryd.prog 41 #[.int .i64 n] w fun e w' => e = .returned (.int .i64 n) ∧ w = w' := by
  have k1 : min n 65536 = n := by omega
  have k2 : max 1 n = n := by omega
  go_enter Tryd.func41, Tryd.ntmps41
  go_wp2_with fail
  go_ret
  exact ⟨rfl, rfl⟩

theorem RWd.pushLit {B : Nat} {w w2 : World} {s : RSt} {r : Int} {g' c' : Nat} (h : RWd B w s) (hr : u64b r)
    (ho : w2.ownsRow B 38 1 (.slice (some ⟨g', 0, none⟩) (s.lits.length + 1) c') (s.lits.length + 1) (s.lits.map (Value.int .u64) ++ [.int .u64 r])) (hg : w.grownBy w2 s.vl.ownBlock) (hb : s.vl.ownBlock = some g' ∨ w.heap.size ≤ g')
    (hne : ∀ b, s.vl.ownBlock = some b → b ≠ s.tg ∧ s.vi.ownBlock ≠ some b ∧ s.vt.ownBlock ≠ some b) :
    RWd B (w2.setCell ⟨s.q, 6, none⟩ (.slice (some ⟨g', 0, none⟩) (s.lits.length + 1) c')) { s with vl := .slice (some ⟨g', 0, none⟩) (s.lits.length + 1) c', lits := s.lits ++ [r] } ∧
      Fr (fun b => s.vl.ownBlock = some b ∨ b = s.q) w (w2.setCell ⟨s.q, 6, none⟩ (.slice (some ⟨g', 0, none⟩) (s.lits.length + 1) c')) := by
  have hlt := h.lt
  have hq := h.ltq
  have f2 : Fr (fun b => s.vl.ownBlock = some b ∨ b = s.q) w w2 := (Fr.refl _ w).grown hg (fun k hk _ => .inl hk)
  have f3 : Fr (fun b => s.vl.ownBlock = some b ∨ b = s.q) w (w2.setCell ⟨s.q, 6, none⟩ (.slice (some ⟨g', 0, none⟩) (s.lits.length + 1) c')) := f2.setCell (p := ⟨s.q, 6, none⟩) (fun _ => .inr rfl) _
  have nl : ∀ b, s.vl.ownBlock = some b → ¬ s.Mut b := fun b hb => h.fx b (.inl hb)
  have nq : s.vl.ownBlock ≠ some s.q := fun e => nl _ e (.inl rfl)
  have g'm : ¬ s.Mut g' := fun hm => by
    rcases hb with e | e
    · exact nl _ e hm
    · have := (hlt g' (.inl hm)).2; omega
  have ho2 : w2.heap[s.q]? = _ := (hg.block s.q hq (fun e => nq e.symm)).trans h.obj
  have nS : ∀ b, s.Mut b → b ≠ s.q → ¬ (s.vl.ownBlock = some b ∨ b = s.q) := fun b hm hbq hh => by
    rcases hh with e | e
    · exact nl b e hm
    · exact hbq e
  have fq : ∀ b, s.Fix b → b ≠ s.q := fun b hb e => h.fx b hb (.inl e)
  have hlen : (s.lits ++ [r]).length = s.lits.length + 1 := by simp
  refine ⟨⟨?_, ?_, ?_, ?_, ?_, ?_, h.lo, h.qp, h.tq, ?_, h.z, h.few, h.tk, ?_, h.wi, h.wt⟩, f3⟩
  · rw [heap_setCell_same w2 s.q 6 _ _ _ ho2]; rfl
  · exact h.heap.kept f3 (nS _ (.inr (.inl rfl)) (fun e => h.qp.1 e.symm)) (nS _ (.inr (.inr (.inl rfl))) (fun e => h.qp.2 e.symm))
  · simp only [hlen, List.map_append, List.map_cons, List.map_nil]
    have f : Fr (fun k => k = s.q) w2 (w2.setCell ⟨s.q, 6, none⟩ (.slice (some ⟨g', 0, none⟩) (s.lits.length + 1) c')) := Fr.setCell (S := fun k => k = s.q) (Fr.refl _ w2) (p := ⟨s.q, 6, none⟩) (fun _ => rfl) _
    exact f.owns ho (fun b hb' hh => by simp [Value.ownBlock] at hb'; subst hb'; exact g'm (.inl hh))
  · exact h.types.kept f3 (fun b hb' hh => by
      have e1 : s.tg = b := by simpa [Value.ownBlock] using hb'
      subst e1
      rcases hh with e | e
      · exact (hne _ e).1 rfl
      · exact fq _ (.inr (.inl rfl)) e) (fun _ _ _ h => h)
  · exact f3.owns h.ins (fun b hb' hh => by
      rcases hh with e | e
      · exact (hne _ e).2.1 hb'
      · exact fq _ (.inr (.inr hb')) e)
  · exact f3.owns h.lines (fun b hb' hh => by
      rcases hh with e | e
      · exact (hne _ e).2.2 hb'
      · exact (h.tq b hb').1 e)
  · intro b hb' hm
    rcases hb' with e | e | e
    · simp [Value.ownBlock] at e
      subst e
      exact g'm hm
    · exact h.fx b (.inr (.inl e)) hm
    · exact h.fx b (.inr (.inr e)) hm
  · intro x hx
    rcases List.mem_append.1 hx with hx | hx
    · exact h.wl x hx
    · rw [List.mem_singleton.1 hx]; exact hr


theorem addT_len (room : Int) : ∀ (l : List ByteArray) (ws : List Int) (o : List Int × List Int), addT room ws l = some o → o.2.length = l.length
  | [], ws, o, h => by simp only [addT, Option.some.injEq] at h; subst h; rfl
  | s :: l, ws, o, h => by
    simp only [addT] at h
    split at h
    · cases hq : addT room ws l with
      | none => rw [hq] at h; cases h
      | some o' => rw [hq] at h; simp only [Option.map_some, Option.some.injEq] at h; subst h; simp [addT_len room l ws o' hq]
    · split at h
      · cases hq : addT room (textWs ws s) l with
        | none => rw [hq] at h; cases h
        | some o' => rw [hq] at h; simp only [Option.map_some, Option.some.injEq] at h; subst h; simp [addT_len room l _ o' hq]
      · cases h

/-- The reference's World in the making, behind k texts. -/
structure NewAt (B : Nat) (w wr : World) (q p : Nat) (room : Int) (ss : List ByteArray) (k tg tc : Nat) (vx vi : Value) (ins : List Int) (s : RSt) : Prop where
  wd : RWd B wr s
  done : addT room [0] (ss.take k) = some (s.ws, s.lits)
  fr : Up w wr
  new : ∀ b, s.Mut b → w.heap.size < b
  newl : ∀ b, s.vl.ownBlock = some b → w.heap.size < b
  eqs : s.q = q ∧ s.p = p ∧ s.room = room ∧ s.tg = tg ∧ s.tc = tc ∧ s.vx = vx ∧ s.vi = vi ∧ s.ins = ins ∧ s.taken = 0 ∧ s.lines = [] ∧ s.vt = .slice none 0 0
  old : tg < w.heap.size ∧ ∀ b, vi.ownBlock = some b → b < w.heap.size

/-- Behind a text: the words, before the reference is kept. -/
theorem NewAt.mid {B : Nat} {w wr w3 : World} {q p : Nat} {room : Int} {ss : List ByteArray} {k tg tc : Nat} {vx vi : Value} {ins : List Int} {s : RSt} (h : NewAt B w wr q p room ss k tg tc vx vi ins s)
    {ws2 : List Int} {g2 c2 : Nat} (h3 : RefAt w3 s.p g2 c2 s.room ws2) (hg3 : g2 = s.g ∨ wr.heap.size ≤ g2) (f3 : Fr (fun b => b = s.p ∨ b = s.g) wr w3) (hz : wordAt ws2 0 = 0) :
    RWd B w3 (rgrow s g2 c2 ws2) ∧ Up w w3 ∧ (∀ b, (rgrow s g2 c2 ws2).Mut b → w.heap.size < b) := by
  have hd := h.wd.heapStep h3 hg3 f3 hz
  have hs := h.fr.size
  refine ⟨hd.1, h.fr.trans f3 (fun i hi hh => ?_), fun b hb => ?_⟩
  · rcases hh with e | e
    · have := h.new i (.inr (.inl e)); omega
    · have := h.new i (.inr (.inr (.inl e))); omega
  · rcases hb with e | e | e | e
    · exact h.new b (.inl e)
    · exact h.new b (.inr (.inl e))
    · rcases hg3 with e2 | e2
      · exact h.new b (.inr (.inr (.inl (e.trans e2))))
      · have e3 : b = g2 := e
        have := h.wd.ltq
        have := h.new s.q (.inl rfl)
        omega
    · exact h.new b (.inr (.inr (.inr e)))

theorem NewAt.step {B : Nat} {w wr w3 w4 : World} {q p : Nat} {room : Int} {ss : List ByteArray} {k tg tc : Nat} {vx vi : Value} {ins : List Int} {s : RSt} (h : NewAt B w wr q p room ss k tg tc vx vi ins s) {t : ByteArray} (ht : ss[k]? = some t)
    {ws2 : List Int} {g2 c2 g' c' : Nat} {r : Int} (ha : addOne room s.ws t = some (ws2, r)) (hm : RWd B w3 (rgrow s g2 c2 ws2) ∧ Up w w3 ∧ (∀ b, (rgrow s g2 c2 ws2).Mut b → w.heap.size < b)) (hr : u64b r)
    (ho : w4.ownsRow B 38 1 (.slice (some ⟨g', 0, none⟩) (s.lits.length + 1) c') (s.lits.length + 1) (s.lits.map (Value.int .u64) ++ [.int .u64 r])) (hg : w3.grownBy w4 s.vl.ownBlock) (hb : s.vl.ownBlock = some g' ∨ w3.heap.size ≤ g') :
    NewAt B w (w4.setCell ⟨s.q, 6, none⟩ (.slice (some ⟨g', 0, none⟩) (s.lits.length + 1) c')) q p room ss (k + 1) tg tc vx vi ins { rgrow s g2 c2 ws2 with vl := .slice (some ⟨g', 0, none⟩) (s.lits.length + 1) c', lits := s.lits ++ [r] } := by
  obtain ⟨e1, e2, e3, e4, e5, e6, e7, e8, e9, e10, e11⟩ := h.eqs
  have hz3 := hm.2.1.size
  obtain ⟨hp, hf⟩ := hm.1.pushLit (r := r) hr ho hg hb (fun b hb => by
    have hb := h.newl b hb
    have ho := h.old
    refine ⟨fun e => ?_, fun e => ?_, fun e => ?_⟩
    · have : b = tg := e.trans e4
      omega
    · have : s.vi.ownBlock = some b := e
      rw [e7] at this
      have := ho.2 b this
      omega
    · have : s.vt.ownBlock = some b := e
      rw [e11] at this
      simp [Value.ownBlock] at this)
  refine ⟨hp, ?_, hm.2.1.trans hf (fun i hi hh => ?_), fun b hb => hm.2.2 b hb, fun b hb' => ?_, ⟨e1, e2, e3, e4, e5, e6, e7, e8, e9, e10, e11⟩, h.old⟩
  · have e : ss.take (k + 1) = ss.take k ++ [t] := by rw [List.take_add_one, ht]; rfl
    rw [e, addT_snoc, h.done]
    simp only [Option.bind_some, ha, Option.map_some]
    rfl
  · rcases hh with e | e
    · have := h.newl i e; omega
    · have := hm.2.2 i (.inl e); omega
  · simp [Value.ownBlock] at hb'
    subst hb'
    rcases hb with e | e
    · exact h.newl _ e
    · have := hm.2.2 s.q (.inl rfl)
      have h1 := hm.1.ltq
      have h2 : (rgrow s g2 c2 ws2).q = s.q := rfl
      rw [h2] at h1
      omega

theorem NewAt.push {B : Nat} {w wr w3 : World} {q p : Nat} {room : Int} {ss : List ByteArray} {k tg tc : Nat} {vx vi : Value} {ins : List Int} {s : RSt} (h : NewAt B w wr q p room ss k tg tc vx vi ins s) (hk : k ≤ 1000) {t : ByteArray} (ht : ss[k]? = some t)
    {ws2 : List Int} {g2 c2 : Nat} {r : Int} (ha : addOne room s.ws t = some (ws2, r)) (hm : RWd B w3 (rgrow s g2 c2 ws2) ∧ Up w w3 ∧ (∀ b, (rgrow s g2 c2 ws2).Mut b → w.heap.size < b)) (hr : u64b r) (hkl : s.lits.length = k) :
    ∃ a c g' c' w4, w3.cell? ⟨s.q, 6, none⟩ = some (.slice a s.lits.length c) ∧
      (Builtin.append_ #[39, 39] 39 #[.slice a s.lits.length c, .slice (some ⟨w3.heap.size, 0, none⟩) 1 1]).run Tryd.prog (w3.alloc (.cells #[.int .u64 r] 38)) = .ok (.slice (some ⟨g', 0, none⟩) (s.lits.length + 1) c') w4 ∧
      w4.cell? ⟨s.q, 6, none⟩ = some (.slice a s.lits.length c) ∧ w4.frozen? ⟨s.q, 6, none⟩ = false ∧
      Fr (fun b => w.heap.size < b) w3 (w4.setCell ⟨s.q, 6, none⟩ (.slice (some ⟨g', 0, none⟩) (s.lits.length + 1) c')) ∧
      ∃ s', NewAt B w (w4.setCell ⟨s.q, 6, none⟩ (.slice (some ⟨g', 0, none⟩) (s.lits.length + 1) c')) q p room ss (k + 1) tg tc vx vi ins s' := by
  have c6 := hm.1.c6
  have hlits : w3.ownsRow B 38 1 s.vl s.lits.length (s.lits.map (Value.int .u64)) := hm.1.lits
  obtain ⟨i, hi, hz, hz1, hz2⟩ := info_parts info_w
  have hq : s.q < w3.heap.size := hm.1.ltq
  have hB : B ≤ w3.heap.size := by have := hm.1.lo.1; have e : (rgrow s g2 c2 ws2).q = s.q := rfl; omega
  obtain ⟨g', c', w4, hrun, hown, hgrow, hg2⟩ := run_append_one (P := Tryd.prog) w3 B 39 39 38 i (.int .u64 0) 8 Tryd.underlying39 hi hz hz1 hz2 rfl s.vl s.lits.length _ hlits (.int .u64 r) rfl
    (by unfold maxLen; omega) (by omega) hB
  have hqn : s.vl.ownBlock ≠ some s.q := fun e => hm.1.fx s.q (.inl e) (.inl rfl)
  have HN := h.step ht ha hm hr hown hgrow hg2
  have c64 := hgrow.cell (a := ⟨s.q, 6, none⟩) hm.1.c6 (fun e => hqn e.symm)
  have f64 := (World.frozen?_of_block (a := ⟨s.q, 6, none⟩) (hgrow.block s.q hq (fun e => hqn e.symm))).trans (hm.1.fq 6)
  obtain ⟨a, c, hv, _⟩ := row_parts hlits
  have hv2 : (rgrow s g2 c2 ws2).vl = .slice a s.lits.length c := hv
  rw [hv2] at c6 c64
  rw [hv] at hrun
  refine ⟨a, c, g', c', w4, c6, hrun, c64, f64, ?_, _, HN⟩
  have f2 : Fr (fun b => w.heap.size < b) w3 w4 := (Fr.refl _ w3).grown hgrow (fun b hb _ => h.newl b hb)
  exact f2.setCell (p := ⟨s.q, 6, none⟩) (fun _ => h.new _ (.inl rfl)) _

def RSt0 (q p g : Nat) (room : Int) (tg tc : Nat) (vx vi : Value) (ins : List Int) : RSt :=
  { q := q, p := p, g := g, cap := 1, room := room, ws := [0], tg := tg, tc := tc, vx := vx, vl := .slice none 0 0, vi := vi, vt := .slice none 0 0, lits := [], ins := ins, taken := 0, lines := [] }

theorem new0 {B gt ct : Nat} {room : Int} {w wb w2 : World} {ss : List ByteArray} {ins : List Int} {vx vi : Value} (hB : B ≤ w.heap.size) (hty : OwnSl w B 71 5 TyC (.slice (some ⟨gt, 0, none⟩) 7 ct) fieldsOf)
    (hi : w.ownsRow B 2 1 vi ins.length (ins.map (Value.int .i64))) (hib : ∀ x ∈ ins, i64b x) (u : Up w wb) (z : wb.heap.size = w.heap.size + 1) (hh : RefAt w2 (wb.heap.size + 1) wb.heap.size 1 room [0]) (f2 : Up (wb.drewN 1) w2) :
    NewAt B w (w2.alloc (.cells #[.slice (some ⟨gt, 0, none⟩) 7 ct, .slice none 0 0, .int .i64 0, vx, .slice none 0 0, .pointer (some ⟨wb.heap.size + 1, 0, none⟩), .slice none 0 0, vi, .int .i64 0, .slice none 0 0] 52))
      w2.heap.size (wb.heap.size + 1) room ss 0 gt ct vx vi ins (RSt0 w2.heap.size (wb.heap.size + 1) wb.heap.size room gt ct vx vi ins) := by
  have z2 : wb.heap.size ≤ w2.heap.size := f2.size
  have hp := hh.ltp
  have hg := hh.ltg
  have htg := hty.lt gt rfl
  have u2 : Up w w2 := up_trans (up_trans u ((Fr.refl _ wb).drewN 1)) f2
  refine ⟨⟨heap_alloc_new w2 _, ?_, World.ownsRow_nil _ _ _ _, ?_, ?_, World.ownsRow_nil _ _ _ _, ?_, ?_, ?_, ?_, hh.z, by simp [RSt0], by simp [RSt0], by simp [RSt0], hib, by simp [RSt0]⟩, rfl, u2.alloc _, ?_, ?_, ⟨rfl, rfl, rfl, rfl, rfl, rfl, rfl, rfl, rfl, rfl, rfl⟩, htg.2, fun b hb => (hi.lt b hb).2⟩
  · exact hh.kept ((Fr.refl (fun _ => False) w2).alloc _) (fun h => h) (fun h => h)
  · exact (hty.kept u2 (fun _ _ h => h) (C' := TyC) (fun _ _ _ h => h)).kept ((Fr.refl (fun _ => False) w2).alloc _) (fun _ _ h => h) (fun _ _ _ h => h)
  · exact (u2.owns hi (fun _ _ h => h)).alloc _
  · simp only [RSt0]; omega
  · simp only [RSt0]; omega
  · intro b hb; simp [RSt0, Value.ownBlock] at hb
  · intro b hb hm
    have hbi := hi.lt b
    simp only [RSt.Fix, RSt.Mut, RSt0] at hb hm
    have k3 : (Value.slice none 0 0).ownBlock = none := rfl
    rw [k3] at hb hm
    rcases hb with e | e | e
    · cases e
    · rcases hm with m | m | m | m
      · omega
      · omega
      · omega
      · cases m
    · have := hbi e
      rcases hm with m | m | m | m
      · omega
      · omega
      · omega
      · cases m
  · intro b hb
    simp only [RSt.Mut, RSt0] at hb
    rcases hb with m | m | m | m
    · omega
    · omega
    · omega
    · cases m
  · intro b hb; simp [RSt0, Value.ownBlock] at hb

/-- Five cells. -/
def Five (w : World) (b : Nat) (v0 v1 v2 v3 v4 : Value) : Prop := w.cell? ⟨b, 0, none⟩ = some v0 ∧ w.cell? ⟨b, 1, none⟩ = some v1 ∧ w.cell? ⟨b, 2, none⟩ = some v2 ∧ w.cell? ⟨b, 3, none⟩ = some v3 ∧ w.cell? ⟨b, 4, none⟩ = some v4
theorem Five.kept {w w' : World} {b : Nat} {v0 v1 v2 v3 v4 : Value} (h : Five w b v0 v1 v2 v3 v4) {S : Nat → Prop} (u : Fr S w w') (hS : ¬ S b) : Five w' b v0 v1 v2 v3 v4 := by
  have hb := World.block_lt_of_cell? w _ h.1
  exact ⟨(u.cell (p := ⟨b, 0, none⟩) hb hS).trans h.1, (u.cell (p := ⟨b, 1, none⟩) hb hS).trans h.2.1, (u.cell (p := ⟨b, 2, none⟩) hb hS).trans h.2.2.1, (u.cell (p := ⟨b, 3, none⟩) hb hS).trans h.2.2.2.1, (u.cell (p := ⟨b, 4, none⟩) hb hS).trans h.2.2.2.2⟩

/-- What NewWorld leaves. -/
def RNewW (B : Nat) (room : Int) (ss : List ByteArray) (tg : Nat) (vi : Value) (ins : List Int) (w : World) (e : Ending) (w' : World) : Prop :=
  (∃ s, e = .returned (.pointer (some ⟨s.q, 0, none⟩)) ∧ RWd B w' s ∧ addT room [0] ss = some (s.ws, s.lits) ∧ Up w w' ∧ (∀ b, s.Mut b → w.heap.size < b) ∧ (∀ b, s.vl.ownBlock = some b → w.heap.size < b) ∧
    s.room = room ∧ s.tg = tg ∧ s.vi = vi ∧ s.ins = ins ∧ s.taken = 0 ∧ s.lines = []) ∨
  (addT room [0] ss = none ∧ e = .returned (.pointer none) ∧ Up w w')

set_option maxHeartbeats 4000000 in
theorem rnewworld_any {B gt ct n cp : Nat} {room : Int} {w : World} {A : Option Addr} {ss : List ByteArray} {ins : List Int} {vi : Value} (hB : B ≤ w.heap.size) (hty : OwnSl w B 71 5 TyC (.slice (some ⟨gt, 0, none⟩) 7 ct) fieldsOf)
    (ht : SlP w (fun _ => True) 1 StrC A cp ss) (hn : ss.length = n) (hn1 : n ≤ 1000) (hi : w.ownsRow B 2 1 vi ins.length (ins.map (Value.int .i64))) (hib : ∀ x ∈ ins, i64b x) (h0 : 1 ≤ room) (h1 : room ≤ 65536) :
    Calls Tryd.prog 8 #[.agg #[.slice (some ⟨gt, 0, none⟩) 7 ct, .slice none 0 0, .int .i64 0, .slice A n cp, .slice none 0 0], .int .i64 room, vi] w (RNewW B room ss gt vi ins w) := by
  have HTY := Lib.hid hty
  have HT := Lib.hid ht
  have HI := Lib.hid (And.intro hi hib)
  obtain ⟨ai, ci, hvi, _⟩ := row_parts hi
  subst hvi
  have hle := ht.le
  have hbig := ht.big
  clear hty ht hi hib
  go_enter Tryd.func8, Tryd.ntmps8
  go_wp2_with fail
  have hbox := heap_alloc_new w (.cells #[.slice (some ⟨gt, 0, none⟩) 7 ct, .slice none 0 0, .int .i64 0, .slice A n cp, .slice none 0 0] 29)
  have z0 : (w.alloc (.cells #[.slice (some ⟨gt, 0, none⟩) 7 ct, .slice none 0 0, .int .i64 0, .slice A n cp, .slice none 0 0] 29)).heap.size = w.heap.size + 1 := by simp
  have u0 : Up w (w.alloc (.cells #[.slice (some ⟨gt, 0, none⟩) 7 ct, .slice none 0 0, .int .i64 0, .slice A n cp, .slice none 0 0] 29)) := (Fr.refl _ w).alloc _
  generalize w.alloc (.cells #[.slice (some ⟨gt, 0, none⟩) 7 ct, .slice none 0 0, .int .i64 0, .slice A n cp, .slice none 0 0] 29) = wb at *
  have cc : ∀ k, wb.cell? ⟨w.heap.size, k, none⟩ = #[Value.slice (some ⟨gt, 0, none⟩) 7 ct, .slice none 0 0, .int .i64 0, .slice A n cp, .slice none 0 0][k]? := fun k => by rw [cell_of_row wb _ k _ _ _ hbox]
  have D := Lib.hid (show Five wb w.heap.size (.slice (some ⟨gt, 0, none⟩) 7 ct) (.slice none 0 0) (.int .i64 0) (.slice A n cp) (.slice none 0 0) from ⟨cc 0, cc 1, cc 2, cc 3, cc 4⟩)
  have BX := Lib.hid (And.intro hbox (And.intro z0 u0))
  clear hbox z0 u0 cc
  go_region_held3 (fun W' => W'.cell? ⟨w.heap.size, 0, none⟩ = some (.slice (some ⟨gt, 0, none⟩) 7 ct) ∧ W'.cell? ⟨w.heap.size, 1, none⟩ = some (.slice none 0 0) ∧ W'.cell? ⟨w.heap.size, 2, none⟩ = some (.int .i64 0) ∧ W'.cell? ⟨w.heap.size, 3, none⟩ = some (.slice A n cp) ∧ W'.cell? ⟨w.heap.size, 4, none⟩ = some (.slice none 0 0))
    (first | exact D2.out | exact D.out | exact (D2.out.kept ((Fr.refl (fun _ => False) _).alloc _) (fun h => h)))
    (first
      | (go_at_call 41; refine (room_any room _ h0 h1).mono ?_; rintro e w1 ⟨rfl, rfl⟩)
      | (go_at_call 40; refine (rnew_any room (wb.drewN 1) h0 h1).mono ?_; rintro e w2 ⟨rfl, hh, f2⟩; have HH := Lib.hid (And.intro hh f2); have D2 := Lib.hid (Five.kept (w := wb.drewN 1) D.out f2 (fun h => h)); clear hh f2))
  have HN0 := Lib.hid (new0 (ss := ss) (vx := .slice A n cp) hB HTY.out HI.out.1 HI.out.2 BX.out.2.2 BX.out.2.1 HH.out.1 HH.out.2)
  have D3 := Lib.hid (D2.out.kept ((Fr.refl (fun _ => False) w2).alloc (.cells #[.slice (some ⟨gt, 0, none⟩) 7 ct, .slice none 0 0, .int .i64 0, .slice A n cp, .slice none 0 0, .pointer (some ⟨wb.heap.size + 1, 0, none⟩), .slice none 0 0, .slice ai ins.length ci, .int .i64 0, .slice none 0 0] 52)) (fun h => h))
  generalize w2.alloc (.cells #[.slice (some ⟨gt, 0, none⟩) 7 ct, .slice none 0 0, .int .i64 0, .slice A n cp, .slice none 0 0, .pointer (some ⟨wb.heap.size + 1, 0, none⟩), .slice none 0 0, .slice ai ins.length ci, .int .i64 0, .slice none 0 0] 52) = w3 at *
  clear D D2 HH BX
  generalize wb.heap.size + 1 = p at *
  generalize w2.heap.size = q at *
  have HX0 : Hid (Five w3 w.heap.size (.slice (some ⟨gt, 0, none⟩) 7 ct) (.slice none 0 0) (.int .i64 0) (.slice A n cp) (.slice none 0 0) ∧ ∃ s, NewAt B w w3 q p room ss 0 gt ct (.slice A n cp) (.slice ai ins.length ci) ins s) := Lib.hid ⟨D3.out, _, HN0.out⟩
  clear D3 HN0
  go_wp2_with fail
  go_loopw [8] (fun j wr => ∃ k : Nat, j = .int .i64 k ∧ k ≤ n ∧ Hid (Five wr w.heap.size (.slice (some ⟨gt, 0, none⟩) 7 ct) (.slice none 0 0) (.int .i64 0) (.slice A n cp) (.slice none 0 0) ∧ ∃ s, NewAt B w wr q p room ss k gt ct (.slice A n cp) (.slice ai ins.length ci) ins s)) (fun j _ => n - (Go.RowKit.intOf j).toNat)
  case atStart => exact ⟨0, rfl, Nat.zero_le _, HX0⟩
  case round =>
    obtain ⟨k, rfl, hk, hR⟩ := hrel
    clear HX0
    obtain ⟨hF, s, hS⟩ := hR.out
    have F := Lib.hid hF
    have HS := Lib.hid hS
    have e3 := hF.2.2.2.1
    have hqs := hS.eqs.1
    have hps := hS.eqs.2.1
    have c5 := hS.wd.c5
    have c6 := hS.wd.c6
    have fq6 := hS.wd.fq 6
    subst hqs hps
    clear hF hS hR
    by_cases hlt : k < n
    · have hk' : k < ss.length := by rw [hn]; exact hlt
      obtain ⟨b, o, cs, rfl, _, hbl, ⟨rfl, hsz⟩, _, hcell⟩ := HT.out.elem (k := k) hk'
      have d0 : wr.cell? ⟨b, o + k, none⟩ = some (.string (ss[k]'hk')) := by have := (HS.out.fr.cell (p := ⟨b, o + k * 1 + 0, none⟩) hbl (fun h => h)).trans (hcell 0 _ rfl); simpa using this
      have hsk := List.getElem?_eq_getElem hk'
      generalize ss[k]'hk' = t at *
      have HK := Lib.hid hsk
      clear hcell hsk
      obtain ⟨al, cl, hvl, _⟩ := row_parts HS.out.wd.lits
      have HVL := Lib.hid hvl
      have kn : (k : Int) < (n : Int) := by omega
      go_wp2_with fail
      have hkl : s.lits.length = k := by
        have := (addT_len _ _ _ _ HS.out.done)
        rw [this, List.length_take]; omega
      have sroom : s.room = room := HS.out.eqs.2.2.1
      by_cases hz0 : t.size = 0
      · go_region_held3 (fun W' => W'.cell? ⟨s.q, 5, none⟩ = some (.pointer (some ⟨s.p, 0, none⟩)) ∧ W'.cell? ⟨w.heap.size, 3, none⟩ = some (.slice (some ⟨b, o, none⟩) n cp) ∧ W'.cell? ⟨b, o + k, none⟩ = some (.string t)) (first | exact KK.out | exact ⟨c5, e3, d0⟩)
          (first | (go_at_call 42; refine (rtext_empty s.p t hz0).mono ?_; rintro e w3 ⟨rfl, hw3⟩; have HW := Lib.hid hw3; have KK := Lib.hid (show w3.cell? ⟨s.q, 5, none⟩ = some (.pointer (some ⟨s.p, 0, none⟩)) ∧ w3.cell? ⟨w.heap.size, 3, none⟩ = some (.slice (some ⟨b, o, none⟩) n cp) ∧ w3.cell? ⟨b, o + k, none⟩ = some (.string t) from hw3 ▸ (show (wr.drewN 1).cell? ⟨s.q, 5, none⟩ = some (.pointer (some ⟨s.p, 0, none⟩)) ∧ (wr.drewN 1).cell? ⟨w.heap.size, 3, none⟩ = some (.slice (some ⟨b, o, none⟩) n cp) ∧ (wr.drewN 1).cell? ⟨b, o + k, none⟩ = some (.string t) from ⟨c5, e3, d0⟩)); clear hw3))
        have PU := HS.out.push (w3 := w3) (by omega) HK.out (ws2 := s.ws) (g2 := s.g) (c2 := s.cap) (r := 0) (by unfold addOne; rw [if_pos hz0]) (HW.out ▸ (show RWd B (wr.drewN 1) (rgrow s s.g s.cap s.ws) ∧ Up w (wr.drewN 1) ∧ (∀ b, (rgrow s s.g s.cap s.ws).Mut b → w.heap.size < b) from ⟨HS.out.wd.drewN 1, HS.out.fr.drewN 1, HS.out.new⟩)) ⟨by omega, by omega⟩ hkl
        have FM : Hid (Fr (fun b => w.heap.size < b) wr w3) := Lib.hid (HW.out ▸ (Fr.refl _ wr).drewN 1)
        clear KK c5 e3 d0
        obtain ⟨a6, c6', g6, c6'', w4, r6, hrun, r64, rf64, hfr, s', hs'⟩ := PU
        rw [hkl] at r6 hrun r64 hfr hs'
        have HA := Lib.hid hrun
        have HN := Lib.hid (And.intro ((F.out.kept FM.out (by omega)).kept hfr (by omega)) (Exists.intro s' hs'))
        clear hrun hfr hs' hkl
        go_wp2_with (at_builtin; refine Lib.wpList_append_run _ rfl (.tmp 44) (.tmp 46) 39 39 rfl _ _ rfl rfl _ _ HA.out ?_)
        go_roundw
        case rel => exact ⟨k + 1, by go_num, by omega, HN⟩
        case measure => simp [Go.RowKit.intOf]; omega
      · have h1 : 0 < t.size := by omega
        have HZ := Lib.hid hz0
        clear hz0
        cases hb : allocB s.ws s.room 3 t.size with
        | true =>
          have Hb := Lib.hid hb
          clear hb
          go_region_held3 (fun W' => W'.cell? ⟨s.q, 5, none⟩ = some (.pointer (some ⟨s.p, 0, none⟩)) ∧ W'.cell? ⟨w.heap.size, 3, none⟩ = some (.slice (some ⟨b, o, none⟩) n cp) ∧ W'.cell? ⟨b, o + k, none⟩ = some (.string t)) (first | exact KK.out | exact ⟨c5, e3, d0⟩)
            (first | (go_at_call 42; refine (rtext_any (w := wr.drewN 1) (HS.out.wd.heap.drewN 1) t h1 Hb.out).mono ?_; rintro e w3 ⟨rfl, g2, c2, h3, hg3, f3⟩; have H3 := Lib.hid (And.intro h3 (And.intro hg3 f3)); have KK := Lib.hid (show w3.cell? ⟨s.q, 5, none⟩ = some (.pointer (some ⟨s.p, 0, none⟩)) ∧ w3.cell? ⟨w.heap.size, 3, none⟩ = some (.slice (some ⟨b, o, none⟩) n cp) ∧ w3.cell? ⟨b, o + k, none⟩ = some (.string t) from ⟨(f3.cell (p := ⟨s.q, 5, none⟩) HS.out.wd.ltq (fun hh => by rcases hh with e | e; exact HS.out.wd.qp.1 e; exact HS.out.wd.qp.2 e)).trans c5, (f3.cell (p := ⟨w.heap.size, 3, none⟩) (World.block_lt_of_cell? wr _ e3) (fun hh => by have n1 := HS.out.new s.p (.inr (.inl rfl)); have n2 := HS.out.new s.g (.inr (.inr (.inl rfl))); have hh2 : w.heap.size = s.p ∨ w.heap.size = s.g := hh; omega)).trans e3, (f3.cell (p := ⟨b, o + k, none⟩) (World.block_lt_of_cell? wr _ d0) (fun hh => by have n1 := HS.out.new s.p (.inr (.inl rfl)); have n2 := HS.out.new s.g (.inr (.inr (.inl rfl))); have hh2 : b = s.p ∨ b = s.g := hh; omega)).trans d0⟩); clear h3 hg3 f3))
          have PU := HS.out.push (w3 := w3) (by omega) HK.out (ws2 := textWs s.ws t) (g2 := g2) (c2 := c2) (r := s.ws.length) (by unfold addOne; rw [if_neg HZ.out, if_pos (by rw [← sroom]; exact Hb.out)])
            (HS.out.mid H3.out.1 H3.out.2.1 (show Fr (fun b => b = s.p ∨ b = s.g) wr w3 from ⟨H3.out.2.2.os, H3.out.2.2.tape, H3.out.2.2.output, H3.out.2.2.size, H3.out.2.2.block⟩) (z_text HS.out.wd.heap.pos HS.out.wd.z)) (by have := HS.out.wd.heap.small; exact ⟨by omega, by omega⟩) hkl
          have FM : Hid (Fr (fun b => w.heap.size < b) wr w3) := Lib.hid ((show Fr (fun b => b = s.p ∨ b = s.g) wr w3 from ⟨H3.out.2.2.os, H3.out.2.2.tape, H3.out.2.2.output, H3.out.2.2.size, H3.out.2.2.block⟩).mono (fun i _ hh => by
            rcases hh with e | e
            · subst e; exact HS.out.new _ (.inr (.inl rfl))
            · subst e; exact HS.out.new _ (.inr (.inr (.inl rfl)))))
          clear KK c5 e3 d0
          obtain ⟨a6, c6', g6, c6'', w4, r6, hrun, r64, rf64, hfr, s', hs'⟩ := PU
          rw [hkl] at r6 hrun r64 hfr hs'
          have HA := Lib.hid hrun
          have HN := Lib.hid (And.intro ((F.out.kept FM.out (by omega)).kept hfr (by omega)) (Exists.intro s' hs'))
          clear hrun hfr hs' hkl
          go_wp2_with (at_builtin; refine Lib.wpList_append_run _ rfl (.tmp 44) (.tmp 46) 39 39 rfl _ _ rfl rfl _ _ HA.out ?_)
          go_roundw
          case rel => exact ⟨k + 1, by go_num, by omega, HN⟩
          case measure => simp [Go.RowKit.intOf]; omega
        | false =>
          have Hb := Lib.hid hb
          clear hb
          have KK := Lib.hid (And.intro c5 (And.intro e3 d0))
          go_region_held3 (fun W' => W'.cell? ⟨s.q, 5, none⟩ = some (.pointer (some ⟨s.p, 0, none⟩)) ∧ W'.cell? ⟨w.heap.size, 3, none⟩ = some (.slice (some ⟨b, o, none⟩) n cp) ∧ W'.cell? ⟨b, o + k, none⟩ = some (.string t)) (first | exact KK.out | exact ⟨c5, e3, d0⟩)
            (first | (go_at_call 42; refine (rtext_no (w := wr.drewN 1) (HS.out.wd.heap.drewN 1) t hsz h1 Hb.out).mono ?_; rintro e w3 ⟨rfl, m, rfl⟩))
          go_wp2_with fail
          go_ret
          refine .inr ⟨?_, rfl, HS.out.fr.drewN _⟩
          have e1 : ss.take (k + 1) = ss.take k ++ [t] := by rw [List.take_add_one, HK.out]; rfl
          have e2 : addT room [0] (ss.take (k + 1)) = none := by
            rw [e1, addT_snoc, HS.out.done]
            have : allocB s.ws room 3 t.size = false := by rw [← sroom]; exact Hb.out
            simp [addOne, HZ.out, this]
          have := addT_none room (ss.drop (k + 1)) _ _ e2
          rwa [List.take_append_drop] at this
    · obtain rfl : k = n := by omega
      have HE : Hid (addT room [0] ss = some (s.ws, s.lits)) := Lib.hid (by
        have := HS.out.done
        rwa [List.take_of_length_le (by omega)] at this)
      go_wp2_with fail
      go_ret
      obtain ⟨q1, q2, q3, q4, q5, q6, q7, q8, q9, q10, q11⟩ := HS.out.eqs
      exact .inl ⟨s, rfl, HS.out.wd, HE.out, HS.out.fr, HS.out.new, HS.out.newl, q3, q4, q7, q8, q9, q10⟩


/-- A slice whose cells hold the words ws. -/
def Holds (w : World) (g : Nat) (ws : List Int) : Prop := ∀ j, j < ws.length → w.cell? ⟨g, j, none⟩ = some (.int .u64 (wordAt ws j))

theorem Holds.of {w : World} {base e g cap : Nat} {ws : List Int} (h : w.ownsRow base e 1 (.slice (some ⟨g, 0, none⟩) ws.length cap) ws.length (ws.map (Value.int .u64))) : Holds w g ws := by
  intro j hj
  rw [h.cellAt j (by omega)]
  simp [wordAt, hj]

theorem Holds.drewN {w : World} {g : Nat} {ws : List Int} (h : Holds w g ws) (n : Nat) : Holds (w.drewN n) g ws := h

set_option maxHeartbeats 1000000 in
theorem words_eq {w : World} {g1 g2 c1 c2 : Nat} {ws : List Int} (hl : ws.length ≤ 65536) (h1 : Holds w g1 ws) (h2 : Holds w g2 ws) :
    Calls Tryd.prog 26 #[.slice (some ⟨g1, 0, none⟩) ws.length c1, .slice (some ⟨g2, 0, none⟩) ws.length c2] w fun e w' => e = .returned (.bool true) ∧ ∃ m, w' = w.drewN m := by
  have H1 := Lib.hid h1
  have H2 := Lib.hid h2
  clear h1 h2
  go_enter Tryd.func26, Tryd.ntmps26
  go_wp2_with fail
  go_loopw [5] (fun i wr => ∃ k : Nat, k ≤ ws.length ∧ i = .int .i64 k ∧ Hid (∃ m, wr = w.drewN m)) (fun i _ => ws.length - (Go.RowKit.intOf i).toNat)
  case atStart => exact ⟨0, Nat.zero_le _, rfl, Lib.hid ⟨0, rfl⟩⟩
  case round =>
    obtain ⟨k, hk, rfl, hm⟩ := hrel
    obtain ⟨m, rfl⟩ := hm.out
    clear hm
    by_cases hlt : k < ws.length
    · have e1 := H1.out k hlt
      have e2 := H2.out k hlt
      go_wp2_with fail
      go_quiet (fail)
      go_wp2_with fail
      go_roundw
      case rel => exact ⟨k + 1, by omega, by go_num, Lib.hid ⟨_, rfl⟩⟩
      case measure => simp [Go.RowKit.intOf]; omega
    · go_wp2_with fail
      go_ret
      exact ⟨rfl, m, rfl⟩

set_option maxHeartbeats 1000000 in
theorem strs_eq {w : World} {B1 B2 : Nat} {v1 v2 : Value} {l : List ByteArray} (hl : l.length ≤ 65536) (h1 : w.ownsRow B1 9 1 v1 l.length (l.map Value.string)) (h2 : w.ownsRow B2 9 1 v2 l.length (l.map Value.string)) :
    Calls Tryd.prog 28 #[v1, v2] w fun e w' => e = .returned (.bool true) ∧ ∃ m, w' = w.drewN m := by
  obtain ⟨a1, c1, rfl, _, _, x1⟩ := row_parts h1
  obtain ⟨a2, c2, rfl, _, _, x2⟩ := row_parts h2
  have X1 := Lib.hid x1
  have X2 := Lib.hid x2
  clear h1 h2 x1 x2
  go_enter Tryd.func28, Tryd.ntmps28
  go_wp2_with fail
  go_loopw [5] (fun i wr => ∃ k : Nat, i = .int .i64 k ∧ k ≤ l.length ∧ Hid (∃ m, wr = w.drewN m)) (fun i _ => l.length - (Go.RowKit.intOf i).toNat)
  case atStart => exact ⟨0, rfl, Nat.zero_le _, Lib.hid ⟨0, rfl⟩⟩
  case round =>
    obtain ⟨k, rfl, hk, hR⟩ := hrel
    by_cases hlt : k < l.length
    · obtain ⟨g1, rfl, _, _, y1⟩ := X1.out (by omega)
      obtain ⟨g2, rfl, _, _, y2⟩ := X2.out (by omega)
      obtain ⟨m, rfl⟩ := hR.out
      have d1 : w.cell? ⟨g1, k, none⟩ = some (.string (l[k]'hlt)) := y1 k _ (by rw [List.getElem?_map, List.getElem?_eq_getElem hlt]; rfl)
      have d2 : w.cell? ⟨g2, k, none⟩ = some (.string (l[k]'hlt)) := y2 k _ (by rw [List.getElem?_map, List.getElem?_eq_getElem hlt]; rfl)
      generalize l[k]'hlt = t at *
      clear y1 y2
      go_wp2_with fail
      go_quiet (fail)
      go_wp2_with fail
      go_roundw
      case rel => exact ⟨k + 1, by go_num, by omega, Lib.hid ⟨_, rfl⟩⟩
      case measure => simp [Go.RowKit.intOf]; omega
    · go_wp2_with fail
      go_ret
      exact ⟨rfl, hR.out⟩

theorem copied {B : Nat} {w w3 w4 w5 w6 w7 : World} {s : WSt} {p' g' c' : Nat} {v1 v2 v3 v4 : Value} (h : Wd B w s) (h3 : HeapAt w3 p' g' c' s.room s.ws) (hp : w.heap.size ≤ p') (hg : w.heap.size ≤ g') (u3 : Up w w3)
    (l1 : w4.ownsRow w3.heap.size 38 1 v1 s.lits.length (s.lits.map (Value.int .u64))) (u4 : Up w3 w4)
    (l2 : w5.ownsRow w4.heap.size 3 1 v2 s.sizes.length (s.sizes.map (Value.int .i64))) (u5 : Up w4 w5)
    (l3 : w6.ownsRow w5.heap.size 2 1 v3 s.ins.length (s.ins.map (Value.int .i64))) (u6 : Up w5 w6)
    (l4 : w7.ownsRow w6.heap.size 9 1 v4 s.lines.length (s.lines.map Value.string)) (u7 : Up w6 w7) :
    Wd w.heap.size (w7.alloc (.cells #[.pointer (some ⟨p', 0, none⟩), v1, v2, v3, .int .i64 s.taken, v4] 81))
      { q := w7.heap.size, p := p', g := g', cap := c', room := s.room, ws := s.ws, vl := v1, vs := v2, vi := v3, vt := v4, lits := s.lits, sizes := s.sizes, ins := s.ins, taken := s.taken, lines := s.lines } := by
  have z3 := u3.size
  have z4 := u4.size
  have z5 := u5.size
  have z6 := u6.size
  have z7 := u7.size
  have hpl := h3.ltp
  have hgl := h3.ltg
  have a7 : Up w7 (w7.alloc (.cells #[.pointer (some ⟨p', 0, none⟩), v1, v2, v3, .int .i64 s.taken, v4] 81)) := (Fr.refl _ w7).alloc _
  have u57 := up_trans u6 u7
  have u47 := up_trans u5 u57
  have u37 := up_trans u4 u47
  refine ⟨heap_alloc_new w7 _, h3.kept (up_trans u37 a7) (fun h => h) (fun h => h), row_base ((up_trans u47 a7).owns l1 (fun _ _ h => h)) (by omega), row_base ((up_trans u57 a7).owns l2 (fun _ _ h => h)) (by omega), row_base ((up_trans u7 a7).owns l3 (fun _ _ h => h)) (by omega),
    row_base (a7.owns l4 (fun _ _ h => h)) (by omega), ⟨by simp only; omega, hp, hg⟩, ⟨by simp only; omega, by simp only; omega⟩, ?_, ?_, h.z, h.few, h.tk, h.wl, h.wsz, h.wi, h.wt⟩
  · intro b hb
    have := l4.lt b hb
    simp only
    omega
  · intro b hb hm
    have k1 := l1.lt b
    have k2 := l2.lt b
    have k3 := l3.lt b
    have k4 := l4.lt b
    simp only [WSt.Fix, WSt.Mut] at hb hm
    rcases hb with e | e | e
    · have := k1 e
      rcases hm with m | m | m | m
      · omega
      · omega
      · omega
      · have := k4 m; omega
    · have := k2 e
      rcases hm with m | m | m | m
      · omega
      · omega
      · omega
      · have := k4 m; omega
    · have := k3 e
      rcases hm with m | m | m | m
      · omega
      · omega
      · omega
      · have := k4 m; omega

/-- The cells that Copy reads. -/
def Six (w : World) (s : WSt) (a1 a2 a3 a4 : Option Addr) (c1 c2 c3 c4 : Nat) : Prop :=
  w.cell? ⟨s.q, 0, none⟩ = some (.pointer (some ⟨s.p, 0, none⟩)) ∧ w.cell? ⟨s.q, 1, none⟩ = some (.slice a1 s.lits.length c1) ∧ w.cell? ⟨s.q, 2, none⟩ = some (.slice a2 s.sizes.length c2) ∧ w.cell? ⟨s.q, 3, none⟩ = some (.slice a3 s.ins.length c3) ∧ w.cell? ⟨s.q, 4, none⟩ = some (.int .i64 s.taken) ∧ w.cell? ⟨s.q, 5, none⟩ = some (.slice a4 s.lines.length c4)

theorem ints_one {k : IntKind} (xs : List Int) : ∀ u ∈ xs.map (Value.int k), u.oneCell' = true := fun u hu => by obtain ⟨x, _, rfl⟩ := List.mem_map.1 hu; rfl

set_option maxHeartbeats 4000000 in
theorem wcopy_any {B : Nat} {w : World} {s : WSt} (h : Wd B w s) (n1 : s.lits.length ≤ 1000) (n2 : s.sizes.length ≤ 1000) (n3 : s.ins.length ≤ 1000) :
    Calls Tryd.prog 24 #[.pointer (some ⟨s.q, 0, none⟩)] w fun e w' => ∃ s', e = .returned (.pointer (some ⟨s'.q, 0, none⟩)) ∧ Wd w.heap.size w' s' ∧ Up w w' ∧ s'.ws = s.ws ∧ s'.taken = s.taken ∧ s'.lines = s.lines ∧ s'.sizes = s.sizes ∧ s'.room = s.room := by
  obtain ⟨a1, c1, e1, _⟩ := row_parts h.lits
  obtain ⟨a2, c2, e2, _⟩ := row_parts h.sizes
  obtain ⟨a3, c3, e3, _⟩ := row_parts h.ins
  obtain ⟨a4, c4, e4, _⟩ := row_parts h.lines
  have hsix : ∀ w', Wd B w' s → Six w' s a1 a2 a3 a4 c1 c2 c3 c4 := fun w' h' => ⟨h'.c0, by rw [← e1]; exact h'.c1, by rw [← e2]; exact h'.c2, by rw [← e3]; exact h'.c3, h'.c4, by rw [← e4]; exact h'.c5⟩
  have SX := Lib.hid hsix
  have H := Lib.hid h
  have H1 := Lib.hid (h.drewN 1)
  have L1 := Lib.hid (fun (w' : World) (h' : Wd B w' s) => clone_w (e1 ▸ h'.lits) (by omega) (ints_one s.lits))
  have L2 := Lib.hid (fun (w' : World) (h' : Wd B w' s) => clone_i (e2 ▸ h'.sizes) (by omega) (ints_one s.sizes))
  have L3 := Lib.hid (fun (w' : World) (h' : Wd B w' s) => clone_j (e3 ▸ h'.ins) (by omega) (ints_one s.ins))
  clear h hsix e1 e2 e3 e4 n1 n2 n3
  go_enter Tryd.func24, Tryd.ntmps24
  go_wp2_with fail
  go_region_held3 (fun W' => W'.cell? ⟨s.q, 0, none⟩ = some (.pointer (some ⟨s.p, 0, none⟩)) ∧ W'.cell? ⟨s.q, 1, none⟩ = some (.slice a1 s.lits.length c1) ∧ W'.cell? ⟨s.q, 2, none⟩ = some (.slice a2 s.sizes.length c2) ∧ W'.cell? ⟨s.q, 3, none⟩ = some (.slice a3 s.ins.length c3) ∧ W'.cell? ⟨s.q, 4, none⟩ = some (.int .i64 s.taken) ∧ W'.cell? ⟨s.q, 5, none⟩ = some (.slice a4 s.lines.length c4))
    (first | exact SX.out _ H7.out | exact SX.out _ H6.out | exact SX.out _ H5.out | exact SX.out _ H4.out | exact SX.out _ H3.out | exact SX.out _ H1.out | exact SX.out _ H.out | exact SX.out _ (Wd.up H7.out ((Fr.refl (fun _ => False) w7).alloc _)))
    (first
      | (go_at_call 54; refine (copy_any H1.out.heap).mono ?_; rintro e w3 ⟨p', g', c', rfl, h3, hp3, hg3, u3⟩; have H3 := Lib.hid (H1.out.up u3); have K3 := Lib.hid (And.intro h3 (And.intro hp3 (And.intro hg3 u3))); clear h3 hp3 hg3 u3)
      | (go_at_call 55; refine (L1.out _ H3.out).mono ?_; rintro e w4 ⟨v1, rfl, r1, u4⟩; obtain ⟨b1, d1, rfl, _⟩ := row_parts r1; have H4 := Lib.hid (H3.out.up u4); have K4 := Lib.hid (And.intro r1 u4); clear r1 u4)
      | (go_at_call 56; refine (L2.out _ H4.out).mono ?_; rintro e w5 ⟨v2, rfl, r2, u5⟩; obtain ⟨b2, d2, rfl, _⟩ := row_parts r2; have H5 := Lib.hid (H4.out.up u5); have K5 := Lib.hid (And.intro r2 u5); clear r2 u5)
      | (go_at_call 39; refine (L3.out _ H5.out).mono ?_; rintro e w6 ⟨v3, rfl, r3, u6⟩; obtain ⟨b3, d3, rfl, _⟩ := row_parts r3; have H6 := Lib.hid (H5.out.up u6); have K6 := Lib.hid (And.intro r3 u6); clear r3 u6)
      | (go_at_call 29; refine (trace_any H6.out).mono ?_; rintro e w7 ⟨v4, rfl, r4, u7⟩; obtain ⟨b4, d4, rfl, _⟩ := row_parts r4; have H7 := Lib.hid (H6.out.up u7); have K7 := Lib.hid (And.intro r4 u7); clear r4 u7))
  all_goals
    go_wp2_with fail
    go_ret
    exact ⟨_, rfl, copied (w := w) H.out K3.out.1 K3.out.2.1 K3.out.2.2.1 (Fr.trans ((Fr.refl (fun _ => False) w).drewN 1) K3.out.2.2.2 (fun _ _ h => h)) K4.out.1 K4.out.2 K5.out.1 K5.out.2 K6.out.1 K6.out.2 K7.out.1 K7.out.2,
      (up_trans (b := w3) (Fr.trans ((Fr.refl (fun _ => False) w).drewN 1) K3.out.2.2.2 (fun _ _ h => h)) (up_trans K4.out.2 (up_trans K5.out.2 (up_trans K6.out.2 K7.out.2)))).alloc _, rfl, rfl, rfl, rfl, rfl⟩
end Go.Proofs.YtjeplkbdgphfoaaDoor
