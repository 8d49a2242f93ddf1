/-
  Package token: take.
-/
import Derived.Test.YtemmdbjcllcelaaDoorTnR
namespace Go.Proofs.YtemmdbjcllcelaaDoor.Tk
open Go.RowKit
set_option maxRecDepth 100000

abbrev FrB (B : Nat) : World → World → Prop := Fr (fun b => B ≤ b)
theorem FrB.trans {B : Nat} {a b c : World} (h : FrB B a b) (k : FrB B b c) : FrB B a c := Fr.trans h k (fun _ _ e => e)
theorem FrB.of {B : Nat} {S : Nat → Prop} {a b : World} (h : Fr S a b) (hS : ∀ i, S i → B ≤ i) : FrB B a b := Fr.mono h (fun i _ e => hS i e)

theorem info_tok : ∃ i z, Tryd.prog.info? 43 = some i ∧ i.zero = some z ∧ i.size = 5 ∧ i.bytes = 48 ∧ z.cells.size = 5 := by
  cases h : Tryd.prog.info? 43 with
  | none =>
    have h2 : (Tryd.prog.info? 43).isSome = true := by kernel_rfl
    rw [h] at h2; cases h2
  | some i =>
    have e : (Tryd.prog.info? 43).map (fun i => (i.zero, i.size, i.bytes)) = some (some (.agg #[.int .i64 0, .string ⟨#[]⟩, .int .i64 0, .int .i64 0, .int .i64 0]), 5, 48) := by kernel_rfl
    rw [h] at e
    simp only [Option.map_some, Option.some.injEq, Prod.mk.injEq] at e
    exact ⟨i, _, rfl, e.1, e.2.1, e.2.2, rfl⟩

def tokA (kind : Nat) (text : List UInt8) (n line col : Nat) : Value := .agg #[.int .i64 kind, .string (bs text), .int .i64 n, .int .i64 line, .int .i64 col]

/-- What take answers. -/
abbrev FrV (p : Nat) (v : Value) : World → World → Prop := Fr (fun b => b = p ∨ v.ownBlock = some b)
def TakeDone (w : World) (B p : Nat) (T : List UInt8) (k line first : Nat) (v : Value) (out : List Tok) (g : Got) (e : Ending) (w' : World) : Prop := FrV p v w w' ∧ match g with
  | .err c => e = .returned (.tuple #[tokA 0 [] 0 line (k - first + 1), .int .i64 c])
  | .tok kind text n used => if out.length = 4000 then e = .returned (.tuple #[tokA 0 [] 0 line (k - first + 1), .int .i64 6])
    else e = .returned (.tuple #[tokA kind text n line (k - first + 1), .int .i64 0]) ∧ ∃ v', Sc w' B p T (k + used) line first v' (out ++ [⟨kind, text, n, line, k - first + 1⟩]) ∧ ∀ b, v'.ownBlock = some b → v.ownBlock = some b ∨ w.heap.size ≤ b

/-- The token is appended. -/
theorem take_app {w : World} {B p : Nat} {T : List UInt8} {k line first : Nat} {A : Option Addr} {c : Nat} {out : List Tok} (h : Sc w B p T k line first (.slice A out.length c) out) (t : Tok) (hn : out.length < 4000) :
    ∃ g cap w', (Builtin.append_ #[41, 41] 41 #[.slice A out.length c, .slice (some ⟨w.heap.size, 0, none⟩) 1 1]).run Tryd.prog (w.alloc (.cells #[.int .i64 t.kind, .string (bs t.text), .int .i64 t.n, .int .i64 t.line, .int .i64 t.col] 43)) = .ok (.slice (some ⟨g, 0, none⟩) (out.length + 1) cap) w' ∧
      Fr (fun b => (Value.slice A out.length c).ownBlock = some b) w w' ∧ ((Value.slice A out.length c).ownBlock = some g ∨ w.heap.size ≤ g) ∧
      Sc (w'.setCell ⟨p, 4, none⟩ (.slice (some ⟨g, 0, none⟩) (out.length + 1) cap)) B p T k line first (.slice (some ⟨g, 0, none⟩) (out.length + 1) cap) (out ++ [t]) := by
  obtain ⟨i, z, hi, hz, hz1, hz2, hz3⟩ := info_tok
  have hp := h.lt
  obtain ⟨g, cap, w', h1, h2, h3, h5⟩ := own_append (P := Tryd.prog) w B 41 41 43 i z 5 48 Tryd.underlying41 hi hz hz1 hz2 hz3 (by decide) h.own [t] [[.int .i64 t.kind, .string (bs t.text), .int .i64 t.n, .int .i64 t.line, .int .i64 t.col]]
    ⟨rfl, by simp, by intro j x cs hj hc; match j, hj, hc with | 0, hj, hc => simp at hj hc; subst hj hc; rfl⟩ #[.int .i64 t.kind, .string (bs t.text), .int .i64 t.n, .int .i64 t.line, .int .i64 t.col] rfl out.length 1 (out.length + 1) rfl rfl rfl (by decide)
    (by
      intro u hu
      simp at hu
      rcases hu with rfl | rfl | rfl | rfl | rfl <;> rfl) (by unfold maxLen; omega) (by omega) (by have := h.lo; omega) (fun _ => TokC) (fun _ _ _ _ _ h => h)
  have f1 := fr_grown h3
  have hlt := h.own.lt
  have hgp : g ≠ p := by
    rcases h5 with e | e
    · rintro rfl; exact h.ne e
    · omega
  have e4 : w'.heap[p]? = w.heap[p]? := f1.block p hp (fun e => h.ne e)
  refine ⟨g, cap, w', h1, f1, h5, ?_⟩
  refine ⟨by rw [blk_set (e4.trans h.obj) 4 _]; rfl, ?_, ?_, h.kT, h.fk, h.ln, h.big, by rw [List.length_append]; simp; omega, h.lo⟩
  · exact h2.kept (fr_set (p := p) 4 _) (fun b hb e => hgp (by simp [Value.ownBlock] at hb; omega)) (fun _ _ _ h => h)
  · simp [Value.ownBlock]; exact hgp

theorem cells5 {w : World} {q : Nat} {c0 c1 c2 c3 c4 : Value} {t : TypeId} (h : w.heap[q]? = some (.cells #[c0, c1, c2, c3, c4] t (0, 0))) :
    w.cell? ⟨q, 0, none⟩ = some c0 ∧ w.cell? ⟨q, 1, none⟩ = some c1 ∧ w.cell? ⟨q, 2, none⟩ = some c2 ∧ w.cell? ⟨q, 3, none⟩ = some c3 ∧ w.cell? ⟨q, 4, none⟩ = some c4 := by
  refine ⟨?_, ?_, ?_, ?_, ?_⟩ <;> (rw [cell_of_row _ _ _ _ _ _ h]; rfl)

set_option maxRecDepth 100000 in
set_option maxHeartbeats 4000000 in
theorem take_any {w : World} {B p : Nat} {T : List UInt8} {k line first : Nat} {v : Value} {out : List Tok} (h : Sc w B p T k line first v out) (f : Nat) (g : Got) (hE : ∀ (args : Array Value) (w : World), (callFunc f args).run Tryd.prog w = .ok (.enter f args) w) (hg : ∀ c, g = .err c → 0 < c)
    (hr : ∀ w1, Up w w1 → Calls Tryd.prog f #[.pointer (some ⟨p, 0, none⟩)] w1 (ReadDone w1 B p T k line first v out g)) :
    Calls Tryd.prog 24 #[.pointer (some ⟨p, 0, none⟩), .func (.func f) #[.pointer (some ⟨p, 0, none⟩)] #[]] w (TakeDone w B p T k line first v out g) := by
  obtain ⟨A, c, rfl, hp⟩ := h.own.reads.parts
  clear hp
  have c1 := h.c1
  have c2 := h.c2
  have c3 := h.c3
  unfold zeroTok at *
  have hT := h.big
  have hkT := h.kT
  have hf := h.fk
  have hl := h.ln
  have H := Lib.hid h
  have HR := Lib.hid hr
  have HG := Lib.hid hg
  clear h hr hg
  obtain ⟨a, ha⟩ : ∃ a, a = k - first := ⟨_, rfl⟩
  obtain ⟨col, hcol⟩ : ∃ col, col = a + 1 := ⟨_, rfl⟩
  have ha1 : (k : Int) - (first : Int) = (a : Int) := by omega
  have hc1 : (a : Int) + 1 = (col : Int) := by omega
  have hwa : IntKind.i64.wrap (a : Int) = (a : Int) := IntWalk.i64_in _ (by omega)
  have hwc : IntKind.i64.wrap (col : Int) = (col : Int) := IntWalk.i64_in _ (by omega)
  have HC := Lib.hid (show col = k - first + 1 by rw [hcol, ha])
  have S1 := Lib.hid (H.out.up ((Fr.refl (fun _ => False) w).alloc zeroTok))
  have R1 := Lib.hid (Res_.start (w := w) (p := p))
  have UB := Lib.hid (show ∀ i, i < w.heap.size → (w.alloc zeroTok).heap[i]? = w.heap[i]? from fun i hi => Below.heap_alloc w _ i hi)
  clear ha hcol
  go_enter Tryd.func24, Tryd.ntmps24
  go_wp2_with fail
  change Code.wp _ _ _ _ (w.alloc zeroTok)
  generalize w.alloc zeroTok = w1 at S1 R1 UB ⊢
  obtain ⟨r, hr⟩ : ∃ r, r = w.heap.size := ⟨_, rfl⟩
  rw [← hr] at R1 ⊢
  clear hr
  clear c1 c2 c3
  have c1 := S1.out.c1
  have c2 := S1.out.c2
  have c3 := S1.out.c3
  go_quiet (fail)
  have S2 := Lib.hid (S1.out.drewN nq)
  have R2 := Lib.hid (show Res_ w (w1.drewN nq) p r from ⟨R1.out.fr.drewN _, R1.out.q0, R1.out.blk⟩)
  have U2 := Lib.hid (show Up w (w1.drewN nq) from Fr.drewN (⟨R1.out.fr.os, R1.out.fr.tape, R1.out.fr.output, R1.out.fr.size, fun i hi _ => UB.out i hi⟩ : Up w w1) nq)
  generalize w1.drewN nq = w2 at S2 R2 U2 ⊢
  clear c1 c2 c3 S1 R1 UB ha1 hc1 hwa hwc
  go_wp2_with fail
  refine (HR.out w2 U2.out).mono ?_
  rintro e w3 hrd
  cases g with
  | err c' =>
    obtain ⟨rfl, f3⟩ := hrd
    have hc0 := HG.out c' rfl
    have e1 : ((c' : Int) == 0) = false := by simp; omega
    have e2 : ((c' : Int) != 0) = true := by rw [bne, e1]; rfl
    have R3 := R2.out.go H.out.lt f3
    have R4 := Lib.hid (show Res_ w (w3.alloc (.cells #[.int .i64 0, .string (bs []), .int .i64 0, .int .i64 0, .int .i64 0] 43)) p r from ⟨R3.fr.alloc _, R3.q0, (Below.heap_alloc _ _ _ (heap_lt R3.blk)).trans R3.blk⟩)
    obtain ⟨r0, r1, r2, r3, r4⟩ := R4.out.cells
    have z0 := R4.out.frz 0
    have z1 := R4.out.frz 1
    have z2 := R4.out.frz 2
    have z3 := R4.out.frz 3
    have z4 := R4.out.frz 4
    unfold tokV
    go_wp2_with fail
    have b5 := set5_blk (w' := w3.alloc (.cells #[.int .i64 0, .string (bs []), .int .i64 0, .int .i64 0, .int .i64 0] 43)) (q := r) R4.out.blk (.int .i64 0) (.string (bs [])) (.int .i64 0) (.int .i64 line) (.int .i64 col)
    have f5 : FrV p (.slice A out.length c) w (set5 (w3.alloc (.cells #[.int .i64 0, .string (bs []), .int .i64 0, .int .i64 0, .int .i64 0] 43)) r (.int .i64 0) (.string (bs [])) (.int .i64 0) (.int .i64 line) (.int .i64 col)) :=
      Fr.trans (Fr.mono R4.out.fr (T := fun b => b = p ∨ (Value.slice A out.length c).ownBlock = some b) (fun i _ e => .inl e)) (set5_fr _ _ _ _ _ _ _) (fun i hi e => by have := R4.out.q0; omega)
    exact bodyPost_ret (res_tok (c := 4) (t := 5) (by kernel_rfl) rfl rfl b5 rfl) rfl (show TakeDone w B p T k line first (.slice A out.length c) out (.err c') _ _ from ⟨f5, by rw [← HC.out]; rfl⟩)
  | tok kind text n used =>
    obtain ⟨rfl, s3, f3⟩ := hrd
    have R3 := R2.out.go H.out.lt f3
    have c4 := (s3.up ((Fr.refl (fun _ => False) w3).alloc (.cells #[.int .i64 kind, .string (bs text), .int .i64 n, .int .i64 0, .int .i64 0] 43))).c4
    have S4 := Lib.hid (s3.up ((Fr.refl (fun _ => False) w3).alloc (.cells #[.int .i64 kind, .string (bs text), .int .i64 n, .int .i64 0, .int .i64 0] 43)))
    have R4 := Lib.hid (show Res_ w (w3.alloc (.cells #[.int .i64 kind, .string (bs text), .int .i64 n, .int .i64 0, .int .i64 0] 43)) p r from ⟨R3.fr.alloc _, R3.q0, (Below.heap_alloc _ _ _ (heap_lt R3.blk)).trans R3.blk⟩)
    have Q4 := Lib.hid (heap_alloc_new w3 (.cells #[.int .i64 kind, .string (bs text), .int .i64 n, .int .i64 0, .int .i64 0] 43))
    have N5 := Lib.hid (show Sc (w3.alloc (.cells #[.int .i64 kind, .string (bs text), .int .i64 n, .int .i64 line, .int .i64 col] 43)) B p T (k + used) line first (.slice A out.length c) out ∧ Res_ w (w3.alloc (.cells #[.int .i64 kind, .string (bs text), .int .i64 n, .int .i64 line, .int .i64 col] 43)) p r from
      ⟨s3.up ((Fr.refl (fun _ => False) w3).alloc _), ⟨R3.fr.alloc _, R3.q0, (Below.heap_alloc _ _ _ (heap_lt R3.blk)).trans R3.blk⟩⟩)
    have W3 := Lib.hid (fun b hb => (s3.own.lt b hb).2)
    have W4 := Lib.hid (And.intro (heap_lt R3.blk) s3.lt)
    clear s3 f3 R3
    unfold tokV
    by_cases hfull : out.length = 4000
    · have e3 : ((out.length : Int) == 4000) = true := by rw [hfull]; rfl
      obtain ⟨r0, r1, r2, r3, r4⟩ := R4.out.cells
      have z0 := R4.out.frz 0
      have z1 := R4.out.frz 1
      have z2 := R4.out.frz 2
      have z3 := R4.out.frz 3
      have z4 := R4.out.frz 4
      go_wp2_with fail
      obtain ⟨s5, f5, b5⟩ := R4.out.set H.out S4.out (.int .i64 0) (.string (bs [])) (.int .i64 0) (.int .i64 line) (.int .i64 col)
      exact bodyPost_ret (res_tok (c := 4) (t := 5) (by kernel_rfl) rfl rfl b5 rfl) rfl (show TakeDone w B p T k line first (.slice A out.length c) out (.tok kind text n used) _ _ from ⟨Fr.mono f5 (fun i _ e => .inl e), by simp only [hfull, if_true]; rw [← HC.out]; rfl⟩)
    · have e3 : ((out.length : Int) == 4000) = false := by simp; omega
      have S5 := Lib.hid (N5.out.1)
      have R5 := Lib.hid (N5.out.2)
      go_wp2_with fail
      have Q5 := Lib.hid (heap_alloc_new w3 (.cells #[.int .i64 kind, .string (bs text), .int .i64 n, .int .i64 line, .int .i64 col] 43))
      obtain ⟨q, hq⟩ : ∃ q, q = w3.heap.size := ⟨_, rfl⟩
      have hq5 : q < (w3.alloc (.cells #[.int .i64 kind, .string (bs text), .int .i64 n, .int .i64 line, .int .i64 col] 43)).heap.size := by rw [hq]; simp
      have Ql := Lib.hid (show ∀ b, (Value.slice A out.length c).ownBlock = some b → b < q from fun b hb => by rw [hq]; exact W3.out b hb)
      have Qr := Lib.hid (show r < q ∧ p < q by rw [hq]; exact W4.out)
      rw [← hq] at Q5 ⊢
      clear hq R4 S4 Q4 c4
      generalize w3.alloc (.cells #[.int .i64 kind, .string (bs text), .int .i64 n, .int .i64 line, .int .i64 col] 43) = w4 at S5 R5 Q5 hq5 ⊢
      have S5 := Lib.hid (S5.out.up (Fr.drew (Fr.refl (fun _ => False) w4)))
      have R5 := Lib.hid (show Res_ w w4.drew p r from ⟨R5.out.fr.drew, R5.out.q0, R5.out.blk⟩)
      have Q5 := Lib.hid (show w4.drew.heap[q]? = some (.cells #[.int .i64 kind, .string (bs text), .int .i64 n, .int .i64 line, .int .i64 col] 43) from Q5.out)
      obtain ⟨g, cap, w', h1, f1, h5, s6⟩ := take_app S5.out ⟨kind, text, n, line, col⟩ (by have := S5.out.few; omega)
      have c4 := S5.out.c4
      have c4' : (w4.drew.alloc (.cells #[.int .i64 kind, .string (bs text), .int .i64 n, .int .i64 line, .int .i64 col] 43)).cell? ⟨p, 4, none⟩ = some (.slice A out.length c) := by
        rw [cell_of_row _ _ _ _ _ _ ((Below.heap_alloc w4.drew (.cells #[.int .i64 kind, .string (bs text), .int .i64 n, .int .i64 line, .int .i64 col] 43) p S5.out.lt).trans S5.out.obj)]; rfl
      have c4'' : (w4.alloc (.cells #[.int .i64 kind, .string (bs text), .int .i64 n, .int .i64 line, .int .i64 col] 43)).cell? ⟨p, 4, none⟩ = some (.slice A out.length c) := c4'
      have Ha := Lib.hid (cells5 Q5.out)
      have Hal := Lib.hid (cells5 ((Below.heap_alloc w4.drew (.cells #[.int .i64 kind, .string (bs text), .int .i64 n, .int .i64 line, .int .i64 col] 43) q hq5).trans Q5.out))
      have bq : w'.heap[q]? = some (.cells #[.int .i64 kind, .string (bs text), .int .i64 n, .int .i64 line, .int .i64 col] 43) := (f1.block q hq5 (fun e => by have := Ql.out q e; omega)).trans Q5.out
      have bp := (f1.block p S5.out.lt (fun e => S5.out.ne e)).trans S5.out.obj
      have k4 : w'.cell? ⟨p, 4, none⟩ = some (.slice A out.length c) := by rw [cell_of_row _ _ _ _ _ _ bp]; rfl
      have kf : w'.frozen? ⟨p, 4, none⟩ = false := frozen_of_row w' p 4 _ _ bp
      have Hb := Lib.hid (cells5 bq)
      have Hc := Lib.hid (cells5 ((heap_setCell_other w' ⟨p, 4, none⟩ q (.slice (some ⟨g, 0, none⟩) (out.length + 1) cap) (by have := Qr.out.2; simp; omega)).trans bq))
      have br : (w'.setCell ⟨p, 4, none⟩ (.slice (some ⟨g, 0, none⟩) (out.length + 1) cap)).heap[r]? = some zeroTok :=
        (heap_setCell_other w' ⟨p, 4, none⟩ r _ (by have := R5.out.q0; have := H.out.lt; simp; omega)).trans ((f1.block r (heap_lt R5.out.blk) (fun e => by have := (H.out.own.lt r e).2; have := R5.out.q0; omega)).trans R5.out.blk)
      have Br := Lib.hid br
      have Gr := Lib.hid (show g ≠ r from by
        rcases h5 with e | e
        · have := (H.out.own.lt g e).2; have := R5.out.q0; omega
        · have := heap_lt R5.out.blk; omega)
      have GO := Lib.hid (show ∀ b, (Value.slice (some ⟨g, 0, none⟩) (out.length + 1) cap).ownBlock = some b → (Value.slice A out.length c).ownBlock = some b ∨ w.heap.size ≤ b from fun b hb => by
        simp [Value.ownBlock] at hb
        subst hb
        rcases h5 with e | e
        · exact .inl e
        · exact .inr (Nat.le_trans R5.out.fr.size e))
      have F6 := Lib.hid (show FrV p (.slice A out.length c) w (w'.setCell ⟨p, 4, none⟩ (.slice (some ⟨g, 0, none⟩) (out.length + 1) cap)) from
        Fr.setCell (Fr.trans (Fr.mono R5.out.fr (T := fun b => b = p ∨ (Value.slice A out.length c).ownBlock = some b) (fun i _ e => .inl e)) f1 (fun i hi e => .inr e)) (fun _ => .inl rfl) _)
      clear br
      have RQ := Lib.hid R5.out.q0
      have HA := Lib.hid h1
      have S6 := Lib.hid s6
      clear h1 s6
      refine wp_region_held_drew (S := (fun W' => W'.cell? ⟨q, 0, none⟩ = some (.int .i64 kind) ∧ W'.cell? ⟨q, 1, none⟩ = some (.string (bs text)) ∧ W'.cell? ⟨q, 2, none⟩ = some (.int .i64 n) ∧ W'.cell? ⟨q, 3, none⟩ = some (.int .i64 line) ∧ W'.cell? ⟨q, 4, none⟩ = some (.int .i64 col))) (by kernel_rfl) (by exact Ha.out) (fun hHeld => ?_)
      refine held_take (i := 0) (d := some 49) (v := ?_) rfl rfl (by kernel_rfl) (by kernel_rfl) (by kernel_rfl) (fun _ _ _ h => h) (by rfl) ?_ (by assumption) ?_
      rotate_left 1
      focus (intro w hSw; (try dsimp only at hSw); go_simp; first | done | with_reducible rfl)
      simp only [Act.put, List.setIfInBounds_toArray, List.set_cons_zero, List.set_cons_succ]
      refine held_take (i := 1) (d := some 50) (v := ?_) rfl rfl (by kernel_rfl) (by kernel_rfl) (by kernel_rfl) (fun _ _ _ h => h) (by rfl) ?_ (by assumption) ?_
      rotate_left 1
      focus (intro w hSw; (try dsimp only at hSw); go_simp; first | done | with_reducible rfl)
      simp only [Act.put, List.setIfInBounds_toArray, List.set_cons_zero, List.set_cons_succ]
      refine held_take (i := 2) (d := some 51) (v := ?_) rfl rfl (by kernel_rfl) (by kernel_rfl) (by kernel_rfl) (fun _ _ _ h => h) (by rfl) ?_ (by assumption) ?_
      rotate_left 1
      focus (intro w hSw; (try dsimp only at hSw); go_simp; first | done | with_reducible rfl)
      simp only [Act.put, List.setIfInBounds_toArray, List.set_cons_zero, List.set_cons_succ]
      refine held_take (i := 3) (d := some 52) (v := ?_) rfl rfl (by kernel_rfl) (by kernel_rfl) (by kernel_rfl) (fun _ _ _ h => h) (by rfl) ?_ (by assumption) ?_
      rotate_left 1
      focus (intro w hSw; (try dsimp only at hSw); go_simp; first | done | with_reducible rfl)
      simp only [Act.put, List.setIfInBounds_toArray, List.set_cons_zero, List.set_cons_succ]
      refine held_take (i := 5) (d := some 54) (v := ?_) rfl rfl (by kernel_rfl) (by kernel_rfl) (by kernel_rfl) (fun _ _ _ h => h) (by rfl) ?_ (by assumption) ?_
      rotate_left 1
      focus (intro w hSw; (try dsimp only at hSw); go_simp; first | done | with_reducible rfl)
      simp only [Act.put, List.setIfInBounds_toArray, List.set_cons_zero, List.set_cons_succ]
      refine wpAnyH_ready (rs := [4, 6]) (by kernel_rfl) (by simp) ?_
      refine (AllReadyH.cons (o := _) rfl (fun K hK => ?_) (AllReadyH.cons (o := _) rfl (fun K hK => ?_) AllReadyH.nil))
      · go_simp
        refine hK.out _ _ (by first | exact Ha.out | exact Hal.out) (fun hHeld => ?_)
        clear hK K
        refine wpAnyH_ready (rs := [6]) (by kernel_rfl) (by simp) ?_
        refine (AllReadyH.cons (o := _) rfl (fun K hK => ?_) AllReadyH.nil)
        go_simp
        refine hK.out _ _ (by exact Hal.out) (fun hHeld => ?_)
        clear hK K
        refine wpAnyH_ready (rs := [7]) (by kernel_rfl) (by simp) ?_
        refine (AllReadyH.cons (o := _) rfl (fun K hK => ?_) AllReadyH.nil)
        refine step_append_run rfl (.tmp 53) (.tmp 55) 41 rfl rfl rfl HA.out ?_
        go_simp
        refine hK.out _ _ (by exact Hb.out) (fun hHeld => ?_)
        clear hK K
        refine held_take (i := 8) (d := some 57) (v := ?_) rfl rfl (by kernel_rfl) (by kernel_rfl) (by kernel_rfl) (fun _ _ _ h => h) (by rfl) ?_ (by assumption) ?_
        rotate_left 1
        focus (intro w hSw; (try dsimp only at hSw); go_simp; first | done | with_reducible rfl)
        simp only [Act.put, List.setIfInBounds_toArray, List.set_cons_zero, List.set_cons_succ]
        refine held_take (i := 9) (d := some 58) (v := ?_) rfl rfl (by kernel_rfl) (by kernel_rfl) (by kernel_rfl) (fun _ _ _ h => h) (by rfl) ?_ (by assumption) ?_
        rotate_left 1
        focus (intro w hSw; (try dsimp only at hSw); go_simp; first | done | with_reducible rfl)
        simp only [Act.put, List.setIfInBounds_toArray, List.set_cons_zero, List.set_cons_succ]
        refine wpAnyH_ready (rs := [10]) (by kernel_rfl) (by simp) ?_
        refine (AllReadyH.cons (o := _) rfl (fun K hK => ?_) AllReadyH.nil)
        go_simp
        refine hK.out _ _ (by exact Hc.out) (fun hHeld => ?_)
        clear hK K
        refine wpAnyH_done (by kernel_rfl) ?_ _
        clear Ha Hal Hb HA
        obtain ⟨x0, x1, x2, x3, x4⟩ := Hc.out
        obtain ⟨r0, r1, r2, r3, r4⟩ := cells5 Br.out
        have z0 := frozen_of_row _ r 0 _ _ Br.out
        have z1 := frozen_of_row _ r 1 _ _ Br.out
        have z2 := frozen_of_row _ r 2 _ _ Br.out
        have z3 := frozen_of_row _ r 3 _ _ Br.out
        have z4 := frozen_of_row _ r 4 _ _ Br.out
        clear k4 kf bq bp c4 c4' c4''
        generalize w'.setCell ⟨p, 4, none⟩ (.slice (some ⟨g, 0, none⟩) (out.length + 1) cap) = w6 at *
        go_wp2_with fail
        have b7 := set5_blk Br.out (.int .i64 kind) (.string (bs text)) (.int .i64 n) (.int .i64 line) (.int .i64 col)
        have f7 := set5_fr w6 r (.int .i64 kind) (.string (bs text)) (.int .i64 n) (.int .i64 line) (.int .i64 col)
        exact bodyPost_ret (res_tok (c := 4) (t := 5) (by kernel_rfl) rfl rfl b7 rfl) rfl (show TakeDone w B p T k line first (.slice A out.length c) out (.tok kind text n used) _ _ from
          ⟨Fr.trans F6.out f7 (fun i hi e => by have := RQ.out; omega), by
            simp only [if_neg hfull]
            rw [← HC.out]
            exact ⟨rfl, _, S6.out.kept f7 (fun e => by have := RQ.out; have := H.out.lt; omega) (fun b hb e => Gr.out (by simp [Value.ownBlock] at hb; omega)), GO.out⟩⟩)
      · go_simp
        refine hK.out _ _ (by exact Hal.out) (fun hHeld => ?_)
        clear hK K
        refine wpAnyH_ready (rs := [4]) (by kernel_rfl) (by simp) ?_
        refine (AllReadyH.cons (o := _) rfl (fun K hK => ?_) AllReadyH.nil)
        go_simp
        refine hK.out _ _ (by first | exact Ha.out | exact Hal.out) (fun hHeld => ?_)
        clear hK K
        refine wpAnyH_ready (rs := [7]) (by kernel_rfl) (by simp) ?_
        refine (AllReadyH.cons (o := _) rfl (fun K hK => ?_) AllReadyH.nil)
        refine step_append_run rfl (.tmp 53) (.tmp 55) 41 rfl rfl rfl HA.out ?_
        go_simp
        refine hK.out _ _ (by exact Hb.out) (fun hHeld => ?_)
        clear hK K
        refine held_take (i := 8) (d := some 57) (v := ?_) rfl rfl (by kernel_rfl) (by kernel_rfl) (by kernel_rfl) (fun _ _ _ h => h) (by rfl) ?_ (by assumption) ?_
        rotate_left 1
        focus (intro w hSw; (try dsimp only at hSw); go_simp; first | done | with_reducible rfl)
        simp only [Act.put, List.setIfInBounds_toArray, List.set_cons_zero, List.set_cons_succ]
        refine held_take (i := 9) (d := some 58) (v := ?_) rfl rfl (by kernel_rfl) (by kernel_rfl) (by kernel_rfl) (fun _ _ _ h => h) (by rfl) ?_ (by assumption) ?_
        rotate_left 1
        focus (intro w hSw; (try dsimp only at hSw); go_simp; first | done | with_reducible rfl)
        simp only [Act.put, List.setIfInBounds_toArray, List.set_cons_zero, List.set_cons_succ]
        refine wpAnyH_ready (rs := [10]) (by kernel_rfl) (by simp) ?_
        refine (AllReadyH.cons (o := _) rfl (fun K hK => ?_) AllReadyH.nil)
        go_simp
        refine hK.out _ _ (by exact Hc.out) (fun hHeld => ?_)
        clear hK K
        refine wpAnyH_done (by kernel_rfl) ?_ _
        clear Ha Hal Hb HA
        obtain ⟨x0, x1, x2, x3, x4⟩ := Hc.out
        obtain ⟨r0, r1, r2, r3, r4⟩ := cells5 Br.out
        have z0 := frozen_of_row _ r 0 _ _ Br.out
        have z1 := frozen_of_row _ r 1 _ _ Br.out
        have z2 := frozen_of_row _ r 2 _ _ Br.out
        have z3 := frozen_of_row _ r 3 _ _ Br.out
        have z4 := frozen_of_row _ r 4 _ _ Br.out
        clear k4 kf bq bp c4 c4' c4''
        generalize w'.setCell ⟨p, 4, none⟩ (.slice (some ⟨g, 0, none⟩) (out.length + 1) cap) = w6 at *
        go_wp2_with fail
        have b7 := set5_blk Br.out (.int .i64 kind) (.string (bs text)) (.int .i64 n) (.int .i64 line) (.int .i64 col)
        have f7 := set5_fr w6 r (.int .i64 kind) (.string (bs text)) (.int .i64 n) (.int .i64 line) (.int .i64 col)
        exact bodyPost_ret (res_tok (c := 4) (t := 5) (by kernel_rfl) rfl rfl b7 rfl) rfl (show TakeDone w B p T k line first (.slice A out.length c) out (.tok kind text n used) _ _ from
          ⟨Fr.trans F6.out f7 (fun i hi e => by have := RQ.out; omega), by
            simp only [if_neg hfull]
            rw [← HC.out]
            exact ⟨rfl, _, S6.out.kept f7 (fun e => by have := RQ.out; have := H.out.lt; omega) (fun b hb e => Gr.out (by simp [Value.ownBlock] at hb; omega)), GO.out⟩⟩)
end Go.Proofs.YtemmdbjcllcelaaDoor.Tk
