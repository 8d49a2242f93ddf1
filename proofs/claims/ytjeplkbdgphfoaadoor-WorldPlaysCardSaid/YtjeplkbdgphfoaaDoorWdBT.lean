/-
  slices.Clone of rows of a call's own.
  A World's own calls: lines, inputs, objects.
  A World's own calls: objects, slices, texts.
  A World's own calls: texts laid together, held against one another.
-/
import Derived.Test.YtjeplkbdgphfoaaDoorWdA
import Derived.Test.YtjeplkbdgphfoaaDoorRefAC
namespace Go.Proofs.YtjeplkbdgphfoaaDoor
open Go.RowKit
set_option maxRecDepth 100000


theorem info_w : (Tryd.prog.info? 38).map (fun i => (i.zero, i.size, i.bytes)) = some (some (.int .u64 0), 1, 8) := by kernel_rfl
theorem info_i : (Tryd.prog.info? 3).map (fun i => (i.zero, i.size, i.bytes)) = some (some (.int .i64 0), 1, 8) := by kernel_rfl
theorem info_j : (Tryd.prog.info? 2).map (fun i => (i.zero, i.size, i.bytes)) = some (some (.int .i64 0), 1, 8) := by kernel_rfl
theorem info_s : (Tryd.prog.info? 9).map (fun i => (i.zero, i.size, i.bytes)) = some (some (.string ⟨#[]⟩), 1, 16) := by kernel_rfl

set_option maxHeartbeats 1000000 in
theorem clone_w {B n : Nat} {w : World} {v : Value} {xs : List Value} (h : w.ownsRow B 38 1 v n xs) (hn : n ≤ 1000000) (h1 : ∀ u ∈ xs, u.oneCell' = true) :
    Calls Tryd.prog 55 #[v] w fun e w' => ∃ v', e = .returned v' ∧ w'.ownsRow w.heap.size 38 1 v' n xs ∧ Up w w' := by
  have qT : ∀ (w : World) (a : Option Addr) (n c n' c' : Nat), (binOp .eql 39 (.slice a n c) (.slice none n' c')).run Tryd.prog w = .ok (.bool a.isNone) w := fun w a n c n' c' => Lib.run_eql_slice_nil w _ _ a n c n' c' Tryd.underlying39
  obtain ⟨i0, hi, hz0, hz1, hz2⟩ := info_parts info_w
  have hx := h.1
  rcases h.2 with ⟨rfl, rfl⟩ | ⟨g, cap, cur, rfl, hb, hg, hnc, hcm, hcs, ht⟩
  · have hx0 : xs = [] := List.eq_nil_of_length_eq_zero (by rw [hx])
    subst hx0
    clear h
    go_enter Tryd.func55, Tryd.ntmps55
    go_wp2_with fail
    go_ret
    exact ⟨_, rfl, World.ownsRow_nil _ _ _ _, Fr.refl _ _⟩
  · have hc := h.cells (g := g) rfl
    have A : Hid (∀ (k : Nat) (u : Value), xs[k]? = some u → w.cell? ((⟨g, 0, none⟩ : Addr).add k) = some u) := Lib.hid hc
    clear h hc ht hcs hg hb
    go_enter Tryd.func55, Tryd.ntmps55
    go_wp2_with (at_builtin; refine wpList_append_own _ rfl _ _ 39 rfl w.heap.size 38 i0 (.int .u64 0) 1 8 Tryd.underlying39 hi hz0 hz1 hz2 rfl (by decide) _ _ _ rfl (World.ownsRow_made w #[] 0 (Nat.le_refl _) (Nat.zero_le _) rfl) ⟨g, 0, none⟩ n cap xs rfl ?qc1 ?qc2 ?qc3 ?qc4 ?qc5 ?qc6 ?_)
    case qc1 => exact hx
    case qc2 => exact fun j u hj => Lib.cell?_alloc_some _ (A.out j u hj)
    case qc3 => exact h1
    case qc4 => unfold maxLen; omega
    case qc5 => omega
    case qc6 => simp
    intro v' w1 hown hgrow hnil
    have HO := Lib.hid hown
    have HU : Hid (Up w w1) := Lib.hid (((Fr.refl _ w).alloc _).grown hgrow (fun k hk hlt => by simp [Value.ownBlock] at hk; omega))
    clear hown hgrow hnil hi hz0 hz1 hz2
    go_wp2
    go_ret
    exact ⟨v', rfl, by simpa using HO.out, HU.out⟩

set_option maxHeartbeats 1000000 in
theorem clone_i {B n : Nat} {w : World} {v : Value} {xs : List Value} (h : w.ownsRow B 3 1 v n xs) (hn : n ≤ 1000000) (h1 : ∀ u ∈ xs, u.oneCell' = true) :
    Calls Tryd.prog 56 #[v] w fun e w' => ∃ v', e = .returned v' ∧ w'.ownsRow w.heap.size 3 1 v' n xs ∧ Up w w' := by
  have qT : ∀ (w : World) (a : Option Addr) (n c n' c' : Nat), (binOp .eql 78 (.slice a n c) (.slice none n' c')).run Tryd.prog w = .ok (.bool a.isNone) w := fun w a n c n' c' => Lib.run_eql_slice_nil w _ _ a n c n' c' Tryd.underlying78
  obtain ⟨i0, hi, hz0, hz1, hz2⟩ := info_parts info_i
  have hx := h.1
  rcases h.2 with ⟨rfl, rfl⟩ | ⟨g, cap, cur, rfl, hb, hg, hnc, hcm, hcs, ht⟩
  · have hx0 : xs = [] := List.eq_nil_of_length_eq_zero (by rw [hx])
    subst hx0
    clear h
    go_enter Tryd.func56, Tryd.ntmps56
    go_wp2_with fail
    go_ret
    exact ⟨_, rfl, World.ownsRow_nil _ _ _ _, Fr.refl _ _⟩
  · have hc := h.cells (g := g) rfl
    have A : Hid (∀ (k : Nat) (u : Value), xs[k]? = some u → w.cell? ((⟨g, 0, none⟩ : Addr).add k) = some u) := Lib.hid hc
    clear h hc ht hcs hg hb
    go_enter Tryd.func56, Tryd.ntmps56
    go_wp2_with (at_builtin; refine wpList_append_own _ rfl _ _ 78 rfl w.heap.size 3 i0 (.int .i64 0) 1 8 Tryd.underlying78 hi hz0 hz1 hz2 rfl (by decide) _ _ _ rfl (World.ownsRow_made w #[] 0 (Nat.le_refl _) (Nat.zero_le _) rfl) ⟨g, 0, none⟩ n cap xs rfl ?qc1 ?qc2 ?qc3 ?qc4 ?qc5 ?qc6 ?_)
    case qc1 => exact hx
    case qc2 => exact fun j u hj => Lib.cell?_alloc_some _ (A.out j u hj)
    case qc3 => exact h1
    case qc4 => unfold maxLen; omega
    case qc5 => omega
    case qc6 => simp
    intro v' w1 hown hgrow hnil
    have HO := Lib.hid hown
    have HU : Hid (Up w w1) := Lib.hid (((Fr.refl _ w).alloc _).grown hgrow (fun k hk hlt => by simp [Value.ownBlock] at hk; omega))
    clear hown hgrow hnil hi hz0 hz1 hz2
    go_wp2
    go_ret
    exact ⟨v', rfl, by simpa using HO.out, HU.out⟩

set_option maxHeartbeats 1000000 in
theorem clone_j {B n : Nat} {w : World} {v : Value} {xs : List Value} (h : w.ownsRow B 2 1 v n xs) (hn : n ≤ 1000000) (h1 : ∀ u ∈ xs, u.oneCell' = true) :
    Calls Tryd.prog 39 #[v] w fun e w' => ∃ v', e = .returned v' ∧ w'.ownsRow w.heap.size 2 1 v' n xs ∧ Up w w' := by
  have qT : ∀ (w : World) (a : Option Addr) (n c n' c' : Nat), (binOp .eql 23 (.slice a n c) (.slice none n' c')).run Tryd.prog w = .ok (.bool a.isNone) w := fun w a n c n' c' => Lib.run_eql_slice_nil w _ _ a n c n' c' Tryd.underlying23
  obtain ⟨i0, hi, hz0, hz1, hz2⟩ := info_parts info_j
  have hx := h.1
  rcases h.2 with ⟨rfl, rfl⟩ | ⟨g, cap, cur, rfl, hb, hg, hnc, hcm, hcs, ht⟩
  · have hx0 : xs = [] := List.eq_nil_of_length_eq_zero (by rw [hx])
    subst hx0
    clear h
    go_enter Tryd.func39, Tryd.ntmps39
    go_wp2_with fail
    go_ret
    exact ⟨_, rfl, World.ownsRow_nil _ _ _ _, Fr.refl _ _⟩
  · have hc := h.cells (g := g) rfl
    have A : Hid (∀ (k : Nat) (u : Value), xs[k]? = some u → w.cell? ((⟨g, 0, none⟩ : Addr).add k) = some u) := Lib.hid hc
    clear h hc ht hcs hg hb
    go_enter Tryd.func39, Tryd.ntmps39
    go_wp2_with (at_builtin; refine wpList_append_own _ rfl _ _ 23 rfl w.heap.size 2 i0 (.int .i64 0) 1 8 Tryd.underlying23 hi hz0 hz1 hz2 rfl (by decide) _ _ _ rfl (World.ownsRow_made w #[] 0 (Nat.le_refl _) (Nat.zero_le _) rfl) ⟨g, 0, none⟩ n cap xs rfl ?qc1 ?qc2 ?qc3 ?qc4 ?qc5 ?qc6 ?_)
    case qc1 => exact hx
    case qc2 => exact fun j u hj => Lib.cell?_alloc_some _ (A.out j u hj)
    case qc3 => exact h1
    case qc4 => unfold maxLen; omega
    case qc5 => omega
    case qc6 => simp
    intro v' w1 hown hgrow hnil
    have HO := Lib.hid hown
    have HU : Hid (Up w w1) := Lib.hid (((Fr.refl _ w).alloc _).grown hgrow (fun k hk hlt => by simp [Value.ownBlock] at hk; omega))
    clear hown hgrow hnil hi hz0 hz1 hz2
    go_wp2
    go_ret
    exact ⟨v', rfl, by simpa using HO.out, HU.out⟩

set_option maxHeartbeats 1000000 in
theorem clone_s {B n : Nat} {w : World} {v : Value} {xs : List Value} (h : w.ownsRow B 9 1 v n xs) (hn : n ≤ 1000000) (h1 : ∀ u ∈ xs, u.oneCell' = true) :
    Calls Tryd.prog 57 #[v] w fun e w' => ∃ v', e = .returned v' ∧ w'.ownsRow w.heap.size 9 1 v' n xs ∧ Up w w' := by
  have qT : ∀ (w : World) (a : Option Addr) (n c n' c' : Nat), (binOp .eql 22 (.slice a n c) (.slice none n' c')).run Tryd.prog w = .ok (.bool a.isNone) w := fun w a n c n' c' => Lib.run_eql_slice_nil w _ _ a n c n' c' Tryd.underlying22
  obtain ⟨i0, hi, hz0, hz1, hz2⟩ := info_parts info_s
  have hx := h.1
  rcases h.2 with ⟨rfl, rfl⟩ | ⟨g, cap, cur, rfl, hb, hg, hnc, hcm, hcs, ht⟩
  · have hx0 : xs = [] := List.eq_nil_of_length_eq_zero (by rw [hx])
    subst hx0
    clear h
    go_enter Tryd.func57, Tryd.ntmps57
    go_wp2_with fail
    go_ret
    exact ⟨_, rfl, World.ownsRow_nil _ _ _ _, Fr.refl _ _⟩
  · have hc := h.cells (g := g) rfl
    have A : Hid (∀ (k : Nat) (u : Value), xs[k]? = some u → w.cell? ((⟨g, 0, none⟩ : Addr).add k) = some u) := Lib.hid hc
    clear h hc ht hcs hg hb
    go_enter Tryd.func57, Tryd.ntmps57
    go_wp2_with (at_builtin; refine wpList_append_own _ rfl _ _ 22 rfl w.heap.size 9 i0 (.string ⟨#[]⟩) 1 16 Tryd.underlying22 hi hz0 hz1 hz2 rfl (by decide) _ _ _ rfl (World.ownsRow_made w #[] 0 (Nat.le_refl _) (Nat.zero_le _) rfl) ⟨g, 0, none⟩ n cap xs rfl ?qc1 ?qc2 ?qc3 ?qc4 ?qc5 ?qc6 ?_)
    case qc1 => exact hx
    case qc2 => exact fun j u hj => Lib.cell?_alloc_some _ (A.out j u hj)
    case qc3 => exact h1
    case qc4 => unfold maxLen; omega
    case qc5 => omega
    case qc6 => simp
    intro v' w1 hown hgrow hnil
    have HO := Lib.hid hown
    have HU : Hid (Up w w1) := Lib.hid (((Fr.refl _ w).alloc _).grown hgrow (fun k hk hlt => by simp [Value.ownBlock] at hk; omega))
    clear hown hgrow hnil hi hz0 hz1 hz2
    go_wp2
    go_ret
    exact ⟨v', rfl, by simpa using HO.out, HU.out⟩


theorem Wd.pushLine {B : Nat} {w w2 : World} {s : WSt} {t : ByteArray} {g' c' : Nat} (h : Wd B w s) (ht : t.size ≤ 65536) (hf : s.lines.length < 4096)
    (ho : w2.ownsRow B 9 1 (.slice (some ⟨g', 0, none⟩) (s.lines.length + 1) c') (s.lines.length + 1) (s.lines.map Value.string ++ [.string t])) (hg : w.grownBy w2 s.vt.ownBlock) (hb : s.vt.ownBlock = some g' ∨ w.heap.size ≤ g') :
    Wd B (w2.setCell ⟨s.q, 5, none⟩ (.slice (some ⟨g', 0, none⟩) (s.lines.length + 1) c')) { s with vt := .slice (some ⟨g', 0, none⟩) (s.lines.length + 1) c', lines := s.lines ++ [t] } ∧
      WStp s { s with vt := .slice (some ⟨g', 0, none⟩) (s.lines.length + 1) c', lines := s.lines ++ [t] } w (w2.setCell ⟨s.q, 5, none⟩ (.slice (some ⟨g', 0, none⟩) (s.lines.length + 1) c')) := by
  have hlt := h.lt
  have hq := h.ltq
  have f2 : Fr (fun b => s.vt.ownBlock = some b ∨ b = s.q) w w2 := (Fr.refl _ w).grown hg (fun k hk _ => .inl hk)
  have f3 : Fr (fun b => s.vt.ownBlock = some b ∨ b = s.q) w (w2.setCell ⟨s.q, 5, none⟩ (.slice (some ⟨g', 0, none⟩) (s.lines.length + 1) c')) := f2.setCell (p := ⟨s.q, 5, none⟩) (fun _ => .inr rfl) _
  have nq : ∀ b, s.vt.ownBlock = some b → b ≠ s.q := fun b hb => (h.tq b hb).1
  have g'q : g' ≠ s.q ∧ g' ≠ s.p ∧ g' ≠ s.g := by
    rcases hb with e | e
    · exact h.tq g' e
    · have := (hlt s.p (.inl (.inr (.inl rfl)))).2
      have := (hlt s.g (.inl (.inr (.inr (.inl rfl))))).2
      omega
  have ho2 : w2.heap[s.q]? = _ := (hg.block s.q hq (fun e => nq s.q e.symm rfl)).trans h.obj
  have fxs : ∀ b, s.Fix b → ¬ (s.vt.ownBlock = some b ∨ b = s.q) := fun b hb hh => by
    rcases hh with e | e
    · exact h.fx b hb (.inr (.inr (.inr e)))
    · exact h.fx b hb (.inl e)
  have hlen : (s.lines ++ [t]).length = s.lines.length + 1 := by simp
  refine ⟨⟨?_, ?_, f3.owns h.lits (fun b hb => fxs b (.inl hb)), f3.owns h.sizes (fun b hb => fxs b (.inr (.inl hb))), f3.owns h.ins (fun b hb => fxs b (.inr (.inr hb))), ?_, h.lo, h.qp, ?_, ?_, h.z, ?_, h.tk, h.wl, h.wsz, h.wi, ?_⟩, ?_, ?_⟩
  · rw [heap_setCell_same w2 s.q 5 _ _ _ ho2]; rfl
  · refine h.heap.kept f3 ?_ ?_
    · rintro (e | e)
      · exact (h.tq _ e).2.1 rfl
      · exact h.qp.1 e.symm
    · rintro (e | e)
      · exact (h.tq _ e).2.2 rfl
      · exact h.qp.2 e.symm
  · simp only [hlen, List.map_append, List.map_cons, List.map_nil]
    have f : Fr (fun k => k = s.q) w2 (w2.setCell ⟨s.q, 5, none⟩ (.slice (some ⟨g', 0, none⟩) (s.lines.length + 1) c')) := (Fr.refl (fun k => k = s.q) w2).setCell (p := ⟨s.q, 5, none⟩) (fun _ => rfl) _
    exact f.owns ho (fun b hb' hh => by simp [Value.ownBlock] at hb'; subst hb'; exact g'q.1 hh)
  · intro b hb'
    simp [Value.ownBlock] at hb'
    subst hb'
    exact g'q
  · intro b hb' hm
    rcases hm with e | e | e | e
    · exact h.fx b hb' (.inl e)
    · exact h.fx b hb' (.inr (.inl e))
    · exact h.fx b hb' (.inr (.inr (.inl e)))
    · simp [Value.ownBlock] at e
      subst e
      rcases hb with e | e
      · exact h.fx _ hb' (.inr (.inr (.inr e)))
      · have := (hlt _ (.inr hb')).2; omega
  · simp only [hlen]; omega
  · intro x hx
    rcases List.mem_append.1 hx with hx | hx
    · exact h.wt x hx
    · rw [List.mem_singleton.1 hx]; exact ht
  · exact f3.mono (fun b _ hb => by rcases hb with e | e; exact .inr (.inr (.inr e)); exact .inl e)
  · intro b hb'
    rcases hb' with (e | e | e | e) | e
    · exact .inl (.inl (.inl e))
    · exact .inl (.inl (.inr (.inl e)))
    · exact .inl (.inl (.inr (.inr (.inl e))))
    · simp [Value.ownBlock] at e
      subst e
      rcases hb with e | e
      · exact .inl (.inl (.inr (.inr (.inr e))))
      · exact .inr e
    · exact .inl (.inr e)

/-- What a call leaves of a World: s turned to s'. -/
def Does (B : Nat) (w : World) (s s' : WSt) (w' : World) : Prop := Wd B w' s' ∧ WStp s s' w w'

set_option maxHeartbeats 1000000 in
theorem line_any {B : Nat} {w : World} {s : WSt} (h : Wd B w s) (t : ByteArray) (ht : t.size ≤ 65536) (hf : s.lines.length < 4096) :
    Calls Tryd.prog 44 #[.pointer (some ⟨s.q, 0, none⟩), .string t] w fun e w' => e = .returned (.tuple #[]) ∧ ∃ v, Does B w s { s with vt := v, lines := s.lines ++ [t] } w' := by
  have c5 := h.c5
  have fq := h.fq 5
  obtain ⟨i, hi, hz, hz1, hz2⟩ := info_parts info_s
  have hB : B ≤ w.heap.size := by have := h.lo.1; have := h.ltq; omega
  obtain ⟨g', c', w2, hrun, hown, hgrow, hg2⟩ := run_append_one (P := Tryd.prog) w B 22 22 9 i (.string ⟨#[]⟩) 16 Tryd.underlying22 hi hz hz1 hz2 rfl s.vt s.lines.length _ h.lines (.string t) rfl
    (by unfold maxLen; omega) (by omega) hB
  have HN := Lib.hid (h.pushLine ht hf hown hgrow hg2)
  have hqn : s.vt.ownBlock ≠ some s.q := fun e => (h.tq _ e).1 rfl
  have c52 := hgrow.cell (a := ⟨s.q, 5, none⟩) h.c5 (fun e => hqn e.symm)
  have f52 := (World.frozen?_of_block (a := ⟨s.q, 5, none⟩) (hgrow.block s.q h.ltq (fun e => hqn e.symm))).trans fq
  obtain ⟨a, c, hv, _⟩ := row_parts h.lines
  have HA := Lib.hid hrun
  rw [hv] at c5 c52 HA
  clear hrun hown hgrow hg2 hi hz hz1 hz2 h hqn hv
  go_enter Tryd.func44, Tryd.ntmps44
  go_wp2_with (at_builtin; refine Lib.wpList_append_run _ rfl (.tmp 8) (.tmp 10) 22 22 rfl _ _ rfl rfl _ _ HA.out ?_)
  go_end0
  exact ⟨rfl, _, HN.out⟩

def boolOr (s : WSt) : Bool := decide (4096 ≤ s.lines.length)
set_option maxHeartbeats 1000000 in
theorem trace_any {B : Nat} {w : World} {s : WSt} (h : Wd B w s) :
    Calls Tryd.prog 29 #[.pointer (some ⟨s.q, 0, none⟩)] w fun e w' => ∃ v', e = .returned v' ∧ w'.ownsRow w.heap.size 9 1 v' s.lines.length (s.lines.map Value.string) ∧ Up w w' := by
  have c5 := h.c5
  have hf := h.few
  have HL := Lib.hid h.lines
  clear h
  obtain ⟨a, c, hv, _⟩ := row_parts HL.out
  rw [hv] at HL c5
  go_enter Tryd.func29, Tryd.ntmps29
  go_wp2_with fail
  refine (clone_s HL.out (by omega) (by intro u hu; obtain ⟨x, _, rfl⟩ := List.mem_map.1 hu; rfl)).mono ?_
  rintro e w' ⟨v', rfl, ho, u⟩
  have HO := Lib.hid (And.intro ho u)
  clear ho u
  go_wp2_with fail
  go_ret
  exact ⟨v', rfl, HO.out⟩

/-- The next input, as a word. -/
def inputOf (s : WSt) : Int := if s.taken < s.ins.length then IntKind.u64.wrap (wordAt s.ins s.taken) else 0
def nextSt (s : WSt) : WSt := if s.taken < s.ins.length then { s with taken := s.taken + 1 } else s

theorem Wd.took {B : Nat} {w : World} {s : WSt} (h : Wd B w s) (hl : s.taken < s.ins.length) : Does B w s { s with taken := s.taken + 1 } (w.setCell ⟨s.q, 4, none⟩ (.int .i64 (s.taken + 1 : Nat))) := by
  have hlt := h.lt
  have f : Fr (fun b => b = s.q) w (w.setCell ⟨s.q, 4, none⟩ (.int .i64 (s.taken + 1 : Nat))) := Fr.setCell (S := fun b => b = s.q) (Fr.refl _ w) (p := ⟨s.q, 4, none⟩) (fun _ => rfl) _
  have fxs : ∀ b, s.Fix b → ¬ b = s.q := fun b hb e => h.fx b hb (.inl e)
  refine ⟨⟨?_, h.heap.kept f (fun e => h.qp.1 e.symm) (fun e => h.qp.2 e.symm), f.owns h.lits (fun b hb => fxs b (.inl hb)), f.owns h.sizes (fun b hb => fxs b (.inr (.inl hb))), f.owns h.ins (fun b hb => fxs b (.inr (.inr hb))),
    f.owns h.lines (fun b hb => (h.tq b hb).1), h.lo, h.qp, h.tq, h.fx, h.z, h.few, hl, h.wl, h.wsz, h.wi, h.wt⟩, ⟨f.mono (fun b _ e => .inl e), fun b hb => .inl hb⟩⟩
  rw [heap_setCell_same w s.q 4 _ _ _ h.obj]; rfl

set_option maxHeartbeats 1000000 in
theorem input_any {B : Nat} {w : World} {s : WSt} (h : Wd B w s) :
    Calls Tryd.prog 13 #[.pointer (some ⟨s.q, 0, none⟩)] w fun e w' => e = .returned (.int .u64 (inputOf s)) ∧ Does B w s (nextSt s) w' := by
  have c3 := h.c3
  have c4 := h.c4
  have fq := h.fq 4
  have hfi := h.few_ins
  have htk := h.tk
  have H := Lib.hid h
  obtain ⟨a, c, hv, hc1, hc2, hx⟩ := row_parts h.ins
  rw [hv] at c3
  by_cases hl : s.taken < s.ins.length
  · obtain ⟨g, rfl, _, hg, hcell⟩ := hx (by omega)
    have hm := hcell s.taken (.int .i64 (wordAt s.ins s.taken)) (by rw [List.getElem?_map, wordAt_lt hl]; rfl)
    have E : Hid (inputOf s = IntKind.u64.wrap (wordAt s.ins s.taken) ∧ nextSt s = { s with taken := s.taken + 1 }) := Lib.hid ⟨by unfold inputOf; rw [if_pos hl], by unfold nextSt; rw [if_pos hl]⟩
    have wb : Hid (i64b (wordAt s.ins s.taken)) := Lib.hid (h.wi _ (by
      have := wordAt_lt hl
      exact List.mem_of_getElem? this))
    have k0 : ((s.taken : Int) == (s.ins.length : Int)) = false := beq_eq_false_iff_ne.2 (by omega)
    have HD : ∀ m, Hid (Does B w s { s with taken := s.taken + 1 } ((w.drewN m).setCell ⟨s.q, 4, none⟩ (.int .i64 ((s.taken : Int) + 1)))) := fun m => Lib.hid (by
      have := (h.drewN m).took hl
      exact ⟨this.1, ⟨this.2.fr.os, this.2.fr.tape, this.2.fr.output, this.2.fr.size, this.2.fr.block⟩, this.2.new⟩)
    generalize hy : wordAt s.ins s.taken = y at *
    have w1 : IntKind.i64.wrap ((s.taken : Int) + 1) = (s.taken : Int) + 1 := IntWalk.i64_in _ (by omega)
    clear h hv hx hcell hy
    go_enter Tryd.func13, Tryd.ntmps13
    go_wp2_with fail
    go_quiet (fail)
    go_wp2_with fail
    go_quiet (fail)
    go_wp2_with fail
    go_ret
    rw [E.out.1, E.out.2]
    exact ⟨rfl, (HD _).out⟩
  · have k0 : ((s.taken : Int) == (s.ins.length : Int)) = true := beq_iff_eq.2 (by omega)
    have E : Hid (inputOf s = 0 ∧ nextSt s = s) := Lib.hid ⟨by unfold inputOf; rw [if_neg hl], by unfold nextSt; rw [if_neg hl]⟩
    clear h hv hx hl
    go_enter Tryd.func13, Tryd.ntmps13
    go_wp2_with fail
    go_quiet (fail)
    go_wp2_with fail
    go_ret
    rw [E.out.1, E.out.2]
    exact ⟨rfl, H.out.drewN _, .of_up ((Fr.refl _ w).drewN _)⟩


def grow (s : WSt) (g c : Nat) (ws : List Int) : WSt := { s with g := g, cap := c, ws := ws }

/-- What an allocation leaves. -/
def AllocW (B : Nat) (w : World) (s : WSt) (t n : Int) (e : Ending) (w' : World) : Prop :=
  (allocB s.ws s.room t n = true ∧ e = .returned (.tuple #[.int .u64 s.ws.length, .bool true]) ∧ ∃ g c, Does B w s (grow s g c (allocWs s.ws t n)) w') ∨
  (allocB s.ws s.room t n = false ∧ e = .returned (.tuple #[.int .u64 0, .bool false]) ∧ Does B w s s w')

theorem z_alloc {ws : List Int} {t n : Int} (hp : 1 ≤ ws.length) (hz : wordAt ws 0 = 0) : wordAt (allocWs ws t n) 0 = 0 := by
  unfold allocWs; rw [wordAt_prefix _ _ _ (by omega)]; exact hz
theorem Does.up {B : Nat} {w w' : World} {s : WSt} (h : Wd B w s) (u : Up w w') : Does B w s s w' := ⟨h.up u, .of_up u⟩

set_option maxHeartbeats 1000000 in
theorem object_any {B : Nat} {w : World} {s : WSt} (h : Wd B w s) (t : Int) :
    Calls Tryd.prog 15 #[.pointer (some ⟨s.q, 0, none⟩), .int .i64 t] w (AllocW B w s t (wordAt s.sizes t)) := by
  have c0 := h.c0
  have c2 := h.c2
  have H := Lib.hid h
  obtain ⟨a, c, hv, _⟩ := row_parts h.sizes
  have HS := Lib.hid (h.drewN 1).sizes
  rw [hv] at c2 HS
  have HVS := Lib.hid hv
  clear h hv
  cases hb : allocB s.ws s.room t (wordAt s.sizes t) with
  | true =>
    have Hb := Lib.hid hb
    clear hb
    go_enter Tryd.func15, Tryd.ntmps15
    go_wp2_with fail
    go_region_held3 (fun W' => W'.cell? ⟨s.q, 0, none⟩ = some (.pointer (some ⟨s.p, 0, none⟩)) ∧ W'.cell? ⟨s.q, 2, none⟩ = some (.slice a s.sizes.length c)) (first | exact ⟨c0, c2⟩ | exact ⟨C3.out.1, C3.out.2⟩)
      (first
        | (go_at_call 50; refine (ati_any rfl HS.out t).mono ?_; rintro e w3 ⟨rfl, rfl⟩)
        | (go_at_call 49; refine (alloc_y (show HeapAt _ s.p s.g s.cap s.room s.ws from H.out.heap.drewN 1) t (wordAt s.sizes t) Hb.out).mono ?_; rintro e w3 ⟨rfl, g', c', h3, hg3, f3⟩; have D3 := Lib.hid ((H.out.drewN 1).heapStep h3 hg3 f3 (z_alloc H.out.heap.pos H.out.z)); have C3 := Lib.hid (And.intro D3.out.1.c0 ((D3.out.1.c2).trans (by rw [HVS.out]))); clear h3 hg3 f3))
    all_goals
      go_wp2_with fail
      go_ret2
      exact .inl ⟨Hb.out, rfl, _, _, D3.out.1, ⟨D3.out.2.fr.os, D3.out.2.fr.tape, D3.out.2.fr.output, D3.out.2.fr.size, D3.out.2.fr.block⟩, D3.out.2.new⟩
  | false =>
    have Hb := Lib.hid hb
    clear hb
    go_enter Tryd.func15, Tryd.ntmps15
    go_wp2_with fail
    go_region_held3 (fun W' => W'.cell? ⟨s.q, 0, none⟩ = some (.pointer (some ⟨s.p, 0, none⟩)) ∧ W'.cell? ⟨s.q, 2, none⟩ = some (.slice a s.sizes.length c)) (exact ⟨c0, c2⟩)
      (first
        | (go_at_call 50; refine (ati_any rfl HS.out t).mono ?_; rintro e w3 ⟨rfl, rfl⟩)
        | (go_at_call 49; refine (alloc_n (show HeapAt _ s.p s.g s.cap s.room s.ws from H.out.heap.drewN 1) t (wordAt s.sizes t) Hb.out).mono ?_; rintro e w3 ⟨rfl, m, rfl⟩))
    all_goals
      go_wp2_with fail
      go_ret2
      exact .inr ⟨Hb.out, rfl, .up H.out ((Fr.refl _ w).drewN _)⟩

theorem alloc_big {ws : List Int} {room t n : Int} (hr : room ≤ 65536) (h : n < 0 ∨ 65536 < n) : allocB ws room t n = false := by
  unfold allocB isPartB
  rcases h with h | h
  · have : decide (0 ≤ n ∧ n ≤ 1048576) = false := decide_eq_false (by omega)
    rw [this]; simp
  · have : decide (n < room - ws.length) = false := decide_eq_false (by omega)
    rw [this]; simp

set_option maxHeartbeats 1000000 in
theorem slice_any {B : Nat} {w : World} {s : WSt} (h : Wd B w s) (t n : Int) :
    Calls Tryd.prog 17 #[.pointer (some ⟨s.q, 0, none⟩), .int .i64 t, .int .i64 n] w (AllocW B w s t n) := by
  have c0 := h.c0
  have H := Lib.hid h
  have hm := h.heap.most
  clear h
  by_cases h0 : n < 0
  · have Hb := Lib.hid (alloc_big (ws := s.ws) (t := t) hm (.inl h0))
    go_enter Tryd.func17, Tryd.ntmps17
    go_wp2_with fail
    go_ret2
    exact .inr ⟨Hb.out, rfl, .up H.out (Fr.refl _ w)⟩
  · by_cases h1 : 65536 < n
    · have Hb := Lib.hid (alloc_big (ws := s.ws) (t := t) hm (.inr h1))
      go_enter Tryd.func17, Tryd.ntmps17
      go_wp2_with fail
      go_ret2
      exact .inr ⟨Hb.out, rfl, .up H.out (Fr.refl _ w)⟩
    · have h2 : 0 ≤ n := by omega
      have h3 : n ≤ 65536 := by omega
      clear h0 h1
      cases hb : allocB s.ws s.room t n with
      | true =>
        have Hb := Lib.hid hb
        clear hb
        go_enter Tryd.func17, Tryd.ntmps17
        go_wp2_with fail
        refine (alloc_y H.out.heap t n Hb.out).mono ?_
        rintro e w3 ⟨rfl, g', c', h3, hg3, f3⟩
        have D3 := Lib.hid (H.out.heapStep h3 hg3 f3 (z_alloc H.out.heap.pos H.out.z))
        clear h3 hg3 f3
        go_wp2_with fail
        go_ret2
        exact .inl ⟨Hb.out, rfl, _, _, D3.out⟩
      | false =>
        have Hb := Lib.hid hb
        clear hb
        go_enter Tryd.func17, Tryd.ntmps17
        go_wp2_with fail
        refine (alloc_n H.out.heap t n Hb.out).mono ?_
        rintro e w3 ⟨rfl, m, rfl⟩
        go_wp2_with fail
        go_ret2
        exact .inr ⟨Hb.out, rfl, .up H.out ((Fr.refl _ w).drewN m)⟩

theorem strAt_size (ws : List Int) (a : Int) : (strAt ws a).size ≤ ws.length := by
  unfold strAt
  have : (strOfNums (readOf ws a (min (hlenOf ws a).toNat ws.length))).size = min (hlenOf ws a).toNat ws.length := by
    simp [strOfNums, ByteArray.size, length_readOf]
  omega

/-- What Cat leaves. -/
def CatW (B : Nat) (w : World) (s : WSt) (x : ByteArray) (e : Ending) (w' : World) : Prop :=
  (2000 < x.size ∧ e = .returned (.tuple #[.int .u64 0, .bool false]) ∧ Does B w s s w') ∨
  (x.size = 0 ∧ e = .returned (.tuple #[.int .u64 0, .bool true]) ∧ Does B w s s w') ∨
  (x.size ≤ 2000 ∧ 0 < x.size ∧ allocB s.ws s.room 3 x.size = true ∧ e = .returned (.tuple #[.int .u64 s.ws.length, .bool true]) ∧ ∃ g c, Does B w s (grow s g c (textWs s.ws x)) w') ∨
  (x.size ≤ 2000 ∧ 0 < x.size ∧ allocB s.ws s.room 3 x.size = false ∧ e = .returned (.tuple #[.int .u64 0, .bool false]) ∧ Does B w s s w')

theorem z_text {ws : List Int} {x : ByteArray} (hp : 1 ≤ ws.length) (hz : wordAt ws 0 = 0) : wordAt (textWs ws x) 0 = 0 := by
  unfold textWs; rw [wordAt_prefix _ _ _ (by omega)]; exact hz
theorem Does.after {B : Nat} {w w1 w' : World} {s s' : WSt} (u : Up w w1) (h : Does B w1 s s' w') : Does B w s s' w' := by
  have z := u.size
  refine ⟨h.1, ⟨?_, fun b hb => ?_⟩⟩
  · exact (u.mono (fun _ _ h => h.elim)).trans h.2.fr (fun _ _ h => h)
  · rcases h.2.new b hb with e | e
    · exact .inl e
    · exact .inr (by omega)



set_option maxHeartbeats 2000000 in
theorem cat_any {B : Nat} {w : World} {s : WSt} (h : Wd B w s) (a b : Int) (ha : 0 ≤ a) (hb : 0 ≤ b) :
    Calls Tryd.prog 19 #[.pointer (some ⟨s.q, 0, none⟩), .int .u64 a, .int .u64 b] w (CatW B w s (strAt s.ws a ++ strAt s.ws b)) := by
  have c0 := h.c0
  have H := Lib.hid h
  have hs1 := strAt_size s.ws a
  have hs2 := strAt_size s.ws b
  have hsm := h.heap.small
  clear h
  have CA : ∀ w', Wd B w' s → Calls Tryd.prog 47 #[.pointer (some ⟨s.p, 0, none⟩), .int .u64 a] w' _ := fun w' h => string_any h.heap a ha
  have CB : ∀ w', Wd B w' s → Calls Tryd.prog 47 #[.pointer (some ⟨s.p, 0, none⟩), .int .u64 b] w' _ := fun w' h => string_any h.heap b hb
  have CA1 := Lib.hid CA
  have CB1 := Lib.hid CB
  have sz : (strAt s.ws a).size + (strAt s.ws b).size ≤ 9223372036854775807 := by omega
  have szx : (strAt s.ws a ++ strAt s.ws b).size ≤ 200000 := by rw [ByteArray.size_append]; omega
  generalize strAt s.ws a = s1 at *
  generalize strAt s.ws b = s2 at *
  have hadd : ∀ w : World, (Op.stringOp .add s1 s2).run Tryd.prog w = .ok (.string (s1 ++ s2)) w := fun w => run_string_add_sum w s1 s2 sz
  have Z := Lib.hid szx
  clear CA CB hs1 hs2 szx
  go_enter Tryd.func19, Tryd.ntmps19
  go_wp2_with fail
  go_region_held3 (fun W' => W'.cell? ⟨s.q, 0, none⟩ = some (.pointer (some ⟨s.p, 0, none⟩))) (first | exact c04 | exact c03 | exact c0)
      (first
        | (go_at_call 47; refine (CB1.out _ H3.out).mono ?_; rintro e w4 ⟨rfl, u⟩; have H4 := Lib.hid (H3.out.up u); have U4 := Lib.hid (Fr.trans U3.out u (fun _ _ h => h)); have c04 := H4.out.c0; clear u)
        | (go_at_call 47; refine (CA1.out _ (H.out.drewN 1)).mono ?_; rintro e w3 ⟨rfl, u⟩; have H3 := Lib.hid (H.out.up (Fr.trans ((Fr.refl _ w).drewN 1) u (fun _ _ h => h))); have U3 := Lib.hid (Fr.trans ((Fr.refl _ w).drewN 1) u (fun _ _ h => h)); have c03 := H3.out.c0; clear u))
  have szx := Z.out
  generalize s1 ++ s2 = x at *
  by_cases hbig : 2000 < x.size
  · go_wp2_with fail
    go_ret2
    exact .inl ⟨hbig, rfl, .up H.out U4.out⟩
  · have hle : x.size ≤ 2000 := by omega
    by_cases h0 : x.size = 0
    · go_wp2_with fail
      refine (text_empty s.p x h0).mono ?_
      rintro e w5 ⟨rfl, rfl⟩
      go_wp2_with fail
      go_ret2
      exact .inr (.inl ⟨h0, rfl, .up H.out U4.out⟩)
    · have h1 : 0 < x.size := by omega
      cases hal : allocB s.ws s.room 3 x.size with
      | true =>
        have Hal := Lib.hid hal
        clear hal
        go_wp2_with fail
        refine (text_any H4.out.heap x h1 Hal.out).mono ?_
        rintro e w5 ⟨rfl, g', c', h3, hg3, f3⟩
        have D3 := Lib.hid (H4.out.heapStep h3 hg3 f3 (z_text H4.out.heap.pos H4.out.z))
        clear h3 hg3 f3
        go_wp2_with fail
        go_ret2
        exact .inr (.inr (.inl ⟨hle, h1, Hal.out, rfl, _, _, Does.after U4.out D3.out⟩))
      | false =>
        have Hal := Lib.hid hal
        clear hal
        go_wp2_with fail
        refine (text_no H4.out.heap x (by omega) h1 Hal.out).mono ?_
        rintro e w5 ⟨rfl, m, rfl⟩
        go_wp2_with fail
        go_ret2
        exact .inr (.inr (.inr ⟨hle, h1, Hal.out, rfl, .up H.out (U4.out.drewN m)⟩))

def eqT (a b : ByteArray) : Bool := a.toList == b.toList

set_option maxHeartbeats 2000000 in
theorem equal_any {B : Nat} {w : World} {s : WSt} (h : Wd B w s) (a b : Int) (ha : 0 ≤ a) (hb : 0 ≤ b) :
    Calls Tryd.prog 21 #[.pointer (some ⟨s.q, 0, none⟩), .int .u64 a, .int .u64 b] w fun e w' => e = .returned (.bool (eqT (strAt s.ws a) (strAt s.ws b))) ∧ Up w w' := by
  have c0 := h.c0
  have H := Lib.hid h
  clear h
  have CA : ∀ w', Wd B w' s → Calls Tryd.prog 47 #[.pointer (some ⟨s.p, 0, none⟩), .int .u64 a] w' _ := fun w' h => string_any h.heap a ha
  have CB : ∀ w', Wd B w' s → Calls Tryd.prog 47 #[.pointer (some ⟨s.p, 0, none⟩), .int .u64 b] w' _ := fun w' h => string_any h.heap b hb
  have CA1 := Lib.hid CA
  have CB1 := Lib.hid CB
  generalize strAt s.ws a = s1 at *
  generalize strAt s.ws b = s2 at *
  clear CA CB
  go_enter Tryd.func21, Tryd.ntmps21
  go_wp2_with fail
  go_region_held3 (fun W' => W'.cell? ⟨s.q, 0, none⟩ = some (.pointer (some ⟨s.p, 0, none⟩))) (first | exact c04 | exact c03 | exact c0)
      (first
        | (go_at_call 47; refine (CB1.out _ H3.out).mono ?_; rintro e w4 ⟨rfl, u⟩; have H4 := Lib.hid (H3.out.up u); have U4 := Lib.hid (Fr.trans U3.out u (fun _ _ h => h)); have c04 := H4.out.c0; clear u)
        | (go_at_call 47; refine (CA1.out _ (H.out.drewN 1)).mono ?_; rintro e w3 ⟨rfl, u⟩; have H3 := Lib.hid (H.out.up (Fr.trans ((Fr.refl _ w).drewN 1) u (fun _ _ h => h))); have U3 := Lib.hid (Fr.trans ((Fr.refl _ w).drewN 1) u (fun _ _ h => h)); have c03 := H3.out.c0; clear u))
  go_wp2_with fail
  go_ret
  exact ⟨rfl, U4.out⟩

set_option maxHeartbeats 2000000 in
theorem less_any {B : Nat} {w : World} {s : WSt} (h : Wd B w s) (a b : Int) (ha : 0 ≤ a) (hb : 0 ≤ b) :
    Calls Tryd.prog 23 #[.pointer (some ⟨s.q, 0, none⟩), .int .u64 a, .int .u64 b] w fun e w' => e = .returned (.bool (Op.bytesLess (strAt s.ws a).toList (strAt s.ws b).toList)) ∧ Up w w' := by
  have c0 := h.c0
  have H := Lib.hid h
  clear h
  have CA : ∀ w', Wd B w' s → Calls Tryd.prog 47 #[.pointer (some ⟨s.p, 0, none⟩), .int .u64 a] w' _ := fun w' h => string_any h.heap a ha
  have CB : ∀ w', Wd B w' s → Calls Tryd.prog 47 #[.pointer (some ⟨s.p, 0, none⟩), .int .u64 b] w' _ := fun w' h => string_any h.heap b hb
  have CA1 := Lib.hid CA
  have CB1 := Lib.hid CB
  generalize strAt s.ws a = s1 at *
  generalize strAt s.ws b = s2 at *
  clear CA CB
  go_enter Tryd.func23, Tryd.ntmps23
  go_wp2_with fail
  go_region_held3 (fun W' => W'.cell? ⟨s.q, 0, none⟩ = some (.pointer (some ⟨s.p, 0, none⟩))) (first | exact c04 | exact c03 | exact c0)
      (first
        | (go_at_call 47; refine (CB1.out _ H3.out).mono ?_; rintro e w4 ⟨rfl, u⟩; have H4 := Lib.hid (H3.out.up u); have U4 := Lib.hid (Fr.trans U3.out u (fun _ _ h => h)); have c04 := H4.out.c0; clear u)
        | (go_at_call 47; refine (CA1.out _ (H.out.drewN 1)).mono ?_; rintro e w3 ⟨rfl, u⟩; have H3 := Lib.hid (H.out.up (Fr.trans ((Fr.refl _ w).drewN 1) u (fun _ _ h => h))); have U3 := Lib.hid (Fr.trans ((Fr.refl _ w).drewN 1) u (fun _ _ h => h)); have c03 := H3.out.c0; clear u))
  go_wp2_with fail
  go_ret
  exact ⟨rfl, U4.out⟩
end Go.Proofs.YtjeplkbdgphfoaaDoor
