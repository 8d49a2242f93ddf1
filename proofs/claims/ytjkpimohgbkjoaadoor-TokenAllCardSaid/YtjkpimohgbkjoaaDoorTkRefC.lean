/-
  The reference's 'found': add.
-/
import Derived.Test.YtjkpimohgbkjoaaDoorTkRefB
import Derived.Test.YtjkpimohgbkjoaaDoorTkS
namespace Go.Proofs.YtjkpimohgbkjoaaDoor
open Go.RowKit

/-- The reference's list of tokens at block p. -/
structure Fo (w : World) (B p : Nat) (v : Value) (out : List Tok) (line col : Nat) (full : Bool) : Prop where
  obj : w.heap[p]? = some (.cells #[v, .int .i64 line, .int .i64 col, .bool full] 68 (0, 0))
  own : OwnSl w B 24 5 TokC v out
  ne : v.ownBlock ≠ some p
  few : out.length ≤ 4000
  lo : B ≤ p

section
variable {w w' : World} {B p : Nat} {v : Value} {out : List Tok} {line col : Nat} {full : Bool}
theorem Fo.c0 (h : Fo w B p v out line col full) : w.cell? ⟨p, 0, none⟩ = some v := by rw [cell_of_row w p 0 _ _ _ h.obj]; rfl
theorem Fo.c1 (h : Fo w B p v out line col full) : w.cell? ⟨p, 1, none⟩ = some (.int .i64 line) := by rw [cell_of_row w p 1 _ _ _ h.obj]; rfl
theorem Fo.c2 (h : Fo w B p v out line col full) : w.cell? ⟨p, 2, none⟩ = some (.int .i64 col) := by rw [cell_of_row w p 2 _ _ _ h.obj]; rfl
theorem Fo.c3 (h : Fo w B p v out line col full) : w.cell? ⟨p, 3, none⟩ = some (.bool full) := by rw [cell_of_row w p 3 _ _ _ h.obj]; rfl
theorem Fo.fr (h : Fo w B p v out line col full) (j : Nat) : w.frozen? ⟨p, j, none⟩ = false := frozen_of_row w p j _ _ h.obj
theorem Fo.lt (h : Fo w B p v out line col full) : p < w.heap.size := heap_lt h.obj
theorem Fo.kept {S : Nat → Prop} (h : Fo w B p v out line col full) (hf : Fr S w w') (hp : ¬ S p) (hv : ∀ b, v.ownBlock = some b → ¬ S b) : Fo w' B p v out line col full :=
  ⟨(hf.block p h.lt hp).trans h.obj, h.own.kept hf hv (fun _ _ _ h => h), h.ne, h.few, h.lo⟩
theorem Fo.up (h : Fo w B p v out line col full) (hf : Up w w') : Fo w' B p v out line col full := h.kept hf (fun h => h) (fun _ _ h => h)
theorem Fo.setFull (h : Fo w B p v out line col full) (f : Bool) : Fo (w.setCell ⟨p, 3, none⟩ (.bool f)) B p v out line col f :=
  ⟨by rw [blk_set h.obj]; rfl, h.own.kept (fr_set (p := p) 3 _) (fun b hb e => h.ne (by subst e; exact hb)) (fun _ _ _ h => h), h.ne, h.few, h.lo⟩
end

/-- The token is appended. -/
theorem fo_app {w : World} {B p : Nat} {line col : Nat} {full : Bool} {A : Option Addr} {c : Nat} {out : List Tok} (h : Fo w B p (.slice A out.length c) out line col full) (t : Tok) (hn : out.length < 4000) :
    ∃ g cap w', (Builtin.append_ #[22, 22] 22 #[.slice A out.length c, .slice (some ⟨w.heap.size, 0, none⟩) 1 1]).run Tryd.prog (w.alloc (.cells #[.int .i64 t.kind, .string (bs t.text), .int .i64 t.n, .int .i64 t.line, .int .i64 t.col] 24)) = .ok (.slice (some ⟨g, 0, none⟩) (out.length + 1) cap) w' ∧
      Fr (fun b => (Value.slice A out.length c).ownBlock = some b) w w' ∧ ((Value.slice A out.length c).ownBlock = some g ∨ w.heap.size ≤ g) ∧
      Fo (w'.setCell ⟨p, 0, none⟩ (.slice (some ⟨g, 0, none⟩) (out.length + 1) cap)) B p (.slice (some ⟨g, 0, none⟩) (out.length + 1) cap) (out ++ [t]) line col full := by
  obtain ⟨i, z, hi, hz, hz1, hz2, hz3⟩ := info_tok
  have hp := h.lt
  obtain ⟨g, cap, w', h1, h2, h3, h5⟩ := own_append (P := Tryd.prog) w B 22 22 24 i z 5 48 Tryd.underlying22 hi hz hz1 hz2 hz3 (by decide) h.own [t] [[.int .i64 t.kind, .string (bs t.text), .int .i64 t.n, .int .i64 t.line, .int .i64 t.col]]
    ⟨rfl, by simp, by intro j x cs hj hc; match j, hj, hc with | 0, hj, hc => simp at hj hc; subst hj hc; rfl⟩ #[.int .i64 t.kind, .string (bs t.text), .int .i64 t.n, .int .i64 t.line, .int .i64 t.col] rfl out.length 1 (out.length + 1) rfl rfl rfl (by decide)
    (by
      intro u hu
      simp at hu
      rcases hu with rfl | rfl | rfl | rfl | rfl <;> rfl) (by unfold maxLen; omega) (by omega) (by have := h.lo; omega) (fun _ => TokC) (fun _ _ _ _ _ h => h)
  have f1 := fr_grown h3
  have hlt := h.own.lt
  have hgp : g ≠ p := by
    rcases h5 with e | e
    · rintro rfl; exact h.ne e
    · omega
  have e4 : w'.heap[p]? = w.heap[p]? := f1.block p hp (fun e => h.ne e)
  refine ⟨g, cap, w', h1, f1, h5, ?_⟩
  refine ⟨by rw [blk_set (e4.trans h.obj) 0 _]; rfl, ?_, ?_, by rw [List.length_append]; simp; omega, h.lo⟩
  · exact h2.kept (fr_set (p := p) 0 _) (fun b hb e => hgp (by simp [Value.ownBlock] at hb; omega)) (fun _ _ _ h => h)
  · simp [Value.ownBlock]; exact hgp

def AddDone (w : World) (B p : Nat) (v : Value) (out : List Tok) (line col kind : Nat) (text : List UInt8) (n : Nat) (e : Ending) (w' : World) : Prop :=
  e = .returned (.tuple #[]) ∧ FrV p v w w' ∧ (if out.length = 4000 then Fo w' B p v out line col true
    else ∃ v', Fo w' B p v' (out ++ [⟨kind, text, n, line, col⟩]) line col false ∧ ∀ b, v'.ownBlock = some b → v.ownBlock = some b ∨ w.heap.size ≤ b)

set_option maxRecDepth 10000 in
set_option maxHeartbeats 4000000 in
theorem radd_any {w : World} {B p : Nat} {v : Value} {out : List Tok} {line col : Nat} {full : Bool} (h : Fo w B p v out line col full) (kind : Nat) (text : List UInt8) (n : Nat) :
    Calls Tryd.prog 38 #[.pointer (some ⟨p, 0, none⟩), tokV kind text n] w (AddDone w B p v out line col kind text n) := by
  obtain ⟨A, c, rfl, _⟩ := h.own.reads.parts
  unfold tokV
  have H := Lib.hid h
  have c0 := (h.up ((Fr.refl (fun _ => False) w).alloc (.cells #[.int .i64 kind, .string (bs text), .int .i64 n, .int .i64 0, .int .i64 0] 24))).c0
  have c3 := (h.up ((Fr.refl (fun _ => False) w).alloc (.cells #[.int .i64 kind, .string (bs text), .int .i64 n, .int .i64 0, .int .i64 0] 24))).c3
  have f3 := (h.up ((Fr.refl (fun _ => False) w).alloc (.cells #[.int .i64 kind, .string (bs text), .int .i64 n, .int .i64 0, .int .i64 0] 24))).fr 3
  have fe := h.few
  have hpl := h.lt
  obtain ⟨len, hlen⟩ : ∃ len, len = out.length := ⟨_, rfl⟩
  rw [← hlen] at c0 fe
  have HL := Lib.hid hlen
  by_cases hfull : len = 4000
  · have e3 : ((len : Int) ≥ 4000) := by omega
    have d3 : decide ((len : Int) ≥ 4000) = true := dec_of e3
    have k1 := ((h.setFull true).up ((Fr.refl (fun _ => False) _).alloc (.cells #[.int .i64 kind, .string (bs text), .int .i64 n, .int .i64 0, .int .i64 0] 24))).c1
    have k2 := ((h.setFull true).up ((Fr.refl (fun _ => False) _).alloc (.cells #[.int .i64 kind, .string (bs text), .int .i64 n, .int .i64 line, .int .i64 0] 24))).c2
    have k3 := ((h.setFull true).up ((Fr.refl (fun _ => False) _).alloc (.cells #[.int .i64 kind, .string (bs text), .int .i64 n, .int .i64 line, .int .i64 col] 24))).c3
    have N1 := Lib.hid ((h.setFull true).up ((Fr.refl (fun _ => False) _).alloc (.cells #[.int .i64 kind, .string (bs text), .int .i64 n, .int .i64 line, .int .i64 col] 24)))
    have F1 := Lib.hid (show FrV p (.slice A out.length c) w ((w.setCell ⟨p, 3, none⟩ (.bool true)).alloc (.cells #[.int .i64 kind, .string (bs text), .int .i64 n, .int .i64 line, .int .i64 col] 24)) from (Fr.setCell (Fr.refl _ w) (fun _ => .inl rfl) _).alloc _)
    clear h hlen
    rw [← HL.out]
    go_enter Tryd.func38, Tryd.ntmps38
    go_wp2_with fail
    refine bodyPost_end (v := .tuple #[]) ?_ ?_ ?_
    · kernel_rfl
    · rfl
    · exact ⟨rfl, by rw [HL.out]; exact F1.out, by rw [if_pos (by rw [← HL.out]; exact hfull)]; rw [HL.out]; exact N1.out⟩
  · have e3 : ¬ ((len : Int) ≥ 4000) := by omega
    have d3 : decide ((len : Int) ≥ 4000) = false := dec_not e3
    have k1 := ((h.setFull false).up ((Fr.refl (fun _ => False) _).alloc (.cells #[.int .i64 kind, .string (bs text), .int .i64 n, .int .i64 0, .int .i64 0] 24))).c1
    have k2 := ((h.setFull false).up ((Fr.refl (fun _ => False) _).alloc (.cells #[.int .i64 kind, .string (bs text), .int .i64 n, .int .i64 line, .int .i64 0] 24))).c2
    have k3 := ((h.setFull false).up ((Fr.refl (fun _ => False) _).alloc (.cells #[.int .i64 kind, .string (bs text), .int .i64 n, .int .i64 line, .int .i64 col] 24))).c3
    have N1 := Lib.hid ((h.setFull false).up ((Fr.refl (fun _ => False) _).alloc (.cells #[.int .i64 kind, .string (bs text), .int .i64 n, .int .i64 line, .int .i64 col] 24)))
    have F1 := Lib.hid (show FrV p (.slice A out.length c) w ((w.setCell ⟨p, 3, none⟩ (.bool false)).alloc (.cells #[.int .i64 kind, .string (bs text), .int .i64 n, .int .i64 line, .int .i64 col] 24)) from (Fr.setCell (Fr.refl _ w) (fun _ => .inl rfl) _).alloc _)
    clear h hlen
    rw [← HL.out]
    go_enter Tryd.func38, Tryd.ntmps38
    go_wp2_with fail
    have Q5 := Lib.hid (heap_alloc_new (w.setCell ⟨p, 3, none⟩ (.bool false)) (.cells #[.int .i64 kind, .string (bs text), .int .i64 n, .int .i64 line, .int .i64 col] 24))
    have hz : (w.setCell ⟨p, 3, none⟩ (.bool false)).heap.size = w.heap.size := by simp [World.setCell]
    rw [hz] at Q5
    obtain ⟨q, hq⟩ : ∃ q, q = w.heap.size := ⟨_, rfl⟩
    have hq5 : q < ((w.setCell ⟨p, 3, none⟩ (.bool false)).alloc (.cells #[.int .i64 kind, .string (bs text), .int .i64 n, .int .i64 line, .int .i64 col] 24)).heap.size := by rw [World.size_alloc, hz, hq]; omega
    rw [← hq] at Q5 hpl ⊢
    have Ql := Lib.hid (show ∀ b, (Value.slice A out.length c).ownBlock = some b → b < q from fun b hb => by rw [hq]; exact (H.out.own.lt b hb).2)
    have Hq := Lib.hid hq
    clear hq hz c0 c3 f3 k1 k2 k3
    generalize (w.setCell ⟨p, 3, none⟩ (.bool false)).alloc (.cells #[.int .i64 kind, .string (bs text), .int .i64 n, .int .i64 line, .int .i64 col] 24) = w4 at N1 F1 Q5 hq5 ⊢
    have S5 := Lib.hid (N1.out.up (Fr.drew (Fr.refl (fun _ => False) w4)))
    have F5 := Lib.hid (show FrV p (.slice A out.length c) w w4.drew from F1.out.drew)
    have Q5 := Lib.hid (show w4.drew.heap[q]? = some (.cells #[.int .i64 kind, .string (bs text), .int .i64 n, .int .i64 line, .int .i64 col] 24) from Q5.out)
    obtain ⟨g, cap, w', h1, f1, h5, s6⟩ := fo_app S5.out ⟨kind, text, n, line, col⟩ (by rw [← HL.out]; omega)
    have c4 := S5.out.c0
    have c4' : (w4.drew.alloc (.cells #[.int .i64 kind, .string (bs text), .int .i64 n, .int .i64 line, .int .i64 col] 24)).cell? ⟨p, 0, none⟩ = some (.slice A out.length c) := by
      rw [cell_of_row _ _ _ _ _ _ ((Below.heap_alloc w4.drew (.cells #[.int .i64 kind, .string (bs text), .int .i64 n, .int .i64 line, .int .i64 col] 24) p S5.out.lt).trans S5.out.obj)]; rfl
    have c4'' : (w4.alloc (.cells #[.int .i64 kind, .string (bs text), .int .i64 n, .int .i64 line, .int .i64 col] 24)).cell? ⟨p, 0, none⟩ = some (.slice A out.length c) := c4'
    have Ha := Lib.hid (cells5 Q5.out)
    have Hal := Lib.hid (cells5 ((Below.heap_alloc w4.drew (.cells #[.int .i64 kind, .string (bs text), .int .i64 n, .int .i64 line, .int .i64 col] 24) q hq5).trans Q5.out))
    have bq : w'.heap[q]? = some (.cells #[.int .i64 kind, .string (bs text), .int .i64 n, .int .i64 line, .int .i64 col] 24) := (f1.block q hq5 (fun e => by have := Ql.out q e; omega)).trans Q5.out
    have bp := (f1.block p S5.out.lt (fun e => S5.out.ne e)).trans S5.out.obj
    have k4 : w'.cell? ⟨p, 0, none⟩ = some (.slice A out.length c) := by rw [cell_of_row _ _ _ _ _ _ bp]; rfl
    have kf : w'.frozen? ⟨p, 0, none⟩ = false := frozen_of_row w' p 0 _ _ bp
    have Hb := Lib.hid (cells5 bq)
    have Hc := Lib.hid (cells5 ((heap_setCell_other w' ⟨p, 0, none⟩ q (.slice (some ⟨g, 0, none⟩) (out.length + 1) cap) (by simp; omega)).trans bq))
    have GO := Lib.hid (show ∀ b, (Value.slice (some ⟨g, 0, none⟩) (out.length + 1) cap).ownBlock = some b → (Value.slice A out.length c).ownBlock = some b ∨ w.heap.size ≤ b from fun b hb => by
      simp [Value.ownBlock] at hb
      subst hb
      rcases h5 with e | e
      · exact .inl e
      · exact .inr (Nat.le_trans F5.out.size e))
    have F6 := Lib.hid (show FrV p (.slice A out.length c) w (w'.setCell ⟨p, 0, none⟩ (.slice (some ⟨g, 0, none⟩) (out.length + 1) cap)) from
      Fr.setCell (Fr.trans F5.out f1 (fun i hi e => .inr e)) (fun _ => .inl rfl) _)
    have HA := Lib.hid h1
    have S6 := Lib.hid s6
    clear h1 s6
    rw [HL.out]
    refine wp_region_held_drew (S := (fun W' => W'.cell? ⟨q, 0, none⟩ = some (.int .i64 kind) ∧ W'.cell? ⟨q, 1, none⟩ = some (.string (bs text)) ∧ W'.cell? ⟨q, 2, none⟩ = some (.int .i64 n) ∧ W'.cell? ⟨q, 3, none⟩ = some (.int .i64 line) ∧ W'.cell? ⟨q, 4, none⟩ = some (.int .i64 col))) (by kernel_rfl) (by exact Ha.out) (fun hHeld => ?_)
    refine held_take (i := 0) (d := some 28) (v := ?_) rfl rfl (by kernel_rfl) (by kernel_rfl) (by kernel_rfl) (fun _ _ _ h => h) (by rfl) ?_ (by assumption) ?_
    rotate_left 1
    focus (intro w hSw; (try dsimp only at hSw); go_simp; first | done | with_reducible rfl)
    simp only [Act.put, List.setIfInBounds_toArray, List.set_cons_zero, List.set_cons_succ]
    refine held_take (i := 1) (d := some 29) (v := ?_) rfl rfl (by kernel_rfl) (by kernel_rfl) (by kernel_rfl) (fun _ _ _ h => h) (by rfl) ?_ (by assumption) ?_
    rotate_left 1
    focus (intro w hSw; (try dsimp only at hSw); go_simp; first | done | with_reducible rfl)
    simp only [Act.put, List.setIfInBounds_toArray, List.set_cons_zero, List.set_cons_succ]
    refine held_take (i := 2) (d := some 30) (v := ?_) rfl rfl (by kernel_rfl) (by kernel_rfl) (by kernel_rfl) (fun _ _ _ h => h) (by rfl) ?_ (by assumption) ?_
    rotate_left 1
    focus (intro w hSw; (try dsimp only at hSw); go_simp; first | done | with_reducible rfl)
    simp only [Act.put, List.setIfInBounds_toArray, List.set_cons_zero, List.set_cons_succ]
    refine held_take (i := 3) (d := some 31) (v := ?_) rfl rfl (by kernel_rfl) (by kernel_rfl) (by kernel_rfl) (fun _ _ _ h => h) (by rfl) ?_ (by assumption) ?_
    rotate_left 1
    focus (intro w hSw; (try dsimp only at hSw); go_simp; first | done | with_reducible rfl)
    simp only [Act.put, List.setIfInBounds_toArray, List.set_cons_zero, List.set_cons_succ]
    refine held_take (i := 5) (d := some 33) (v := ?_) rfl rfl (by kernel_rfl) (by kernel_rfl) (by kernel_rfl) (fun _ _ _ h => h) (by rfl) ?_ (by assumption) ?_
    rotate_left 1
    focus (intro w hSw; (try dsimp only at hSw); go_simp; first | done | with_reducible rfl)
    simp only [Act.put, List.setIfInBounds_toArray, List.set_cons_zero, List.set_cons_succ]
    refine wpAnyH_ready (rs := [4, 6]) (by kernel_rfl) (by simp) ?_
    refine (AllReadyH.cons (o := _) rfl (fun K hK => ?_) (AllReadyH.cons (o := _) rfl (fun K hK => ?_) AllReadyH.nil))
    · go_simp
      refine hK.out _ _ (by first | exact Ha.out | exact Hal.out) (fun hHeld => ?_)
      clear hK K
      refine wpAnyH_ready (rs := [6]) (by kernel_rfl) (by simp) ?_
      refine (AllReadyH.cons (o := _) rfl (fun K hK => ?_) AllReadyH.nil)
      go_simp
      refine hK.out _ _ (by exact Hal.out) (fun hHeld => ?_)
      clear hK K
      refine wpAnyH_ready (rs := [7]) (by kernel_rfl) (by simp) ?_
      refine (AllReadyH.cons (o := _) rfl (fun K hK => ?_) AllReadyH.nil)
      refine step_append_run rfl (.tmp 32) (.tmp 34) 22 rfl rfl rfl HA.out ?_
      go_simp
      refine hK.out _ _ (by exact Hb.out) (fun hHeld => ?_)
      clear hK K
      refine held_take (i := 8) (d := some 36) (v := ?_) rfl rfl (by kernel_rfl) (by kernel_rfl) (by kernel_rfl) (fun _ _ _ h => h) (by rfl) ?_ (by assumption) ?_
      rotate_left 1
      focus (intro w hSw; (try dsimp only at hSw); go_simp; first | done | with_reducible rfl)
      simp only [Act.put, List.setIfInBounds_toArray, List.set_cons_zero, List.set_cons_succ]
      refine held_take (i := 9) (d := some 37) (v := ?_) rfl rfl (by kernel_rfl) (by kernel_rfl) (by kernel_rfl) (fun _ _ _ h => h) (by rfl) ?_ (by assumption) ?_
      rotate_left 1
      focus (intro w hSw; (try dsimp only at hSw); go_simp; first | done | with_reducible rfl)
      simp only [Act.put, List.setIfInBounds_toArray, List.set_cons_zero, List.set_cons_succ]
      refine wpAnyH_ready (rs := [10]) (by kernel_rfl) (by simp) ?_
      refine (AllReadyH.cons (o := _) rfl (fun K hK => ?_) AllReadyH.nil)
      go_simp
      refine hK.out _ _ (by exact Hc.out) (fun hHeld => ?_)
      clear hK K
      refine wpAnyH_done (by kernel_rfl) ?_ _
      go_wp2_with fail
      refine bodyPost_end (v := .tuple #[]) ?_ ?_ ?_
      · kernel_rfl
      · rfl
      · exact ⟨rfl, F6.out, by rw [if_neg (by rw [← HL.out]; exact hfull)]; exact ⟨_, S6.out, GO.out⟩⟩
    · go_simp
      refine hK.out _ _ (by exact Hal.out) (fun hHeld => ?_)
      clear hK K
      refine wpAnyH_ready (rs := [4]) (by kernel_rfl) (by simp) ?_
      refine (AllReadyH.cons (o := _) rfl (fun K hK => ?_) AllReadyH.nil)
      go_simp
      refine hK.out _ _ (by first | exact Ha.out | exact Hal.out) (fun hHeld => ?_)
      clear hK K
      refine wpAnyH_ready (rs := [7]) (by kernel_rfl) (by simp) ?_
      refine (AllReadyH.cons (o := _) rfl (fun K hK => ?_) AllReadyH.nil)
      refine step_append_run rfl (.tmp 32) (.tmp 34) 22 rfl rfl rfl HA.out ?_
      go_simp
      refine hK.out _ _ (by exact Hb.out) (fun hHeld => ?_)
      clear hK K
      refine held_take (i := 8) (d := some 36) (v := ?_) rfl rfl (by kernel_rfl) (by kernel_rfl) (by kernel_rfl) (fun _ _ _ h => h) (by rfl) ?_ (by assumption) ?_
      rotate_left 1
      focus (intro w hSw; (try dsimp only at hSw); go_simp; first | done | with_reducible rfl)
      simp only [Act.put, List.setIfInBounds_toArray, List.set_cons_zero, List.set_cons_succ]
      refine held_take (i := 9) (d := some 37) (v := ?_) rfl rfl (by kernel_rfl) (by kernel_rfl) (by kernel_rfl) (fun _ _ _ h => h) (by rfl) ?_ (by assumption) ?_
      rotate_left 1
      focus (intro w hSw; (try dsimp only at hSw); go_simp; first | done | with_reducible rfl)
      simp only [Act.put, List.setIfInBounds_toArray, List.set_cons_zero, List.set_cons_succ]
      refine wpAnyH_ready (rs := [10]) (by kernel_rfl) (by simp) ?_
      refine (AllReadyH.cons (o := _) rfl (fun K hK => ?_) AllReadyH.nil)
      go_simp
      refine hK.out _ _ (by exact Hc.out) (fun hHeld => ?_)
      clear hK K
      refine wpAnyH_done (by kernel_rfl) ?_ _
      go_wp2_with fail
      refine bodyPost_end (v := .tuple #[]) ?_ ?_ ?_
      · kernel_rfl
      · rfl
      · exact ⟨rfl, F6.out, by rw [if_neg (by rw [← HL.out]; exact hfull)]; exact ⟨_, S6.out, GO.out⟩⟩
end Go.Proofs.YtjkpimohgbkjoaaDoor
