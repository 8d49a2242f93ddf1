/-
  The reference's 'All'.
-/
import Derived.Test.YtjkpimohgbkjoaaDoorTkRefH
import Derived.StillTailTactics
namespace Go.Proofs.YtjkpimohgbkjoaaDoor
open Go.RowKit

/-- What the reference's All answers. -/
def RAllDone (w : World) (T : List UInt8) (e : Ending) (w' : World) : Prop := Up w w' ∧ ∃ R, LexAll T R ∧ match R with
  | .ok outs => ∃ v, e = .returned (.tuple #[v, tokA 0 [] 0 0 0, .int .i64 0]) ∧ OwnSl w' w.heap.size 24 5 TokC v outs
  | .bad line col c => e = .returned (.tuple #[.slice none 0 0, tokA 0 [] 0 line col, .int .i64 c])

theorem Fo.setLine {w : World} {B p : Nat} {v : Value} {out : List Tok} {line col : Nat} {full : Bool} (h : Fo w B p v out line col full) (l : Nat) : Fo (w.setCell ⟨p, 1, none⟩ (.int .i64 l)) B p v out l col full :=
  ⟨by rw [blk_set h.obj]; rfl, h.own.kept (fr_set (p := p) 1 _) (fun b hb e => h.ne (by subst e; exact hb)) (fun _ _ _ h => h), h.ne, h.few, h.lo⟩
theorem Fo.setCol {w : World} {B p : Nat} {v : Value} {out : List Tok} {line col : Nat} {full : Bool} (h : Fo w B p v out line col full) (l : Nat) : Fo (w.setCell ⟨p, 2, none⟩ (.int .i64 l)) B p v out line l full :=
  ⟨by rw [blk_set h.obj]; rfl, h.own.kept (fr_set (p := p) 2 _) (fun b hb e => h.ne (by subst e; exact hb)) (fun _ _ _ h => h), h.ne, h.few, h.lo⟩

structure RE (w W : World) (p q : Nat) (v : Value) (out : List Tok) (line col : Nat) (full : Bool) : Prop where
  fo : Fo W w.heap.size p v out line col full
  up : Up w W
  zq : W.heap[q]? = some zeroTok
  qp : q ≠ p
  q0 : w.heap.size ≤ q
  vq : v.ownBlock ≠ some q
section
variable {w W W' : World} {p q : Nat} {v : Value} {out : List Tok} {line col : Nat} {full : Bool}
theorem RE.zc (h : RE w W p q v out line col full) : Zc w W q := ⟨h.up, h.q0, h.zq⟩
theorem RE.ups (h : RE w W p q v out line col full) (u : Up W W') : RE w W' p q v out line col full :=
  ⟨h.fo.up u, Fr.trans h.up u (fun _ _ e => e), (u.block q (heap_lt h.zq) (fun e => e)).trans h.zq, h.qp, h.q0, h.vq⟩
theorem RE.setP (h : RE w W p q v out line col full) (i : Nat) (u : Value) : Up w (W.setCell ⟨p, i, none⟩ u) ∧ (W.setCell ⟨p, i, none⟩ u).heap[q]? = some zeroTok :=
  ⟨Fr.trans h.up (fr_set (p := p) i u) (fun j hj e => by have := h.fo.lo; omega), ((fr_set (p := p) i u).block q (heap_lt h.zq) h.qp).trans h.zq⟩
theorem RE.setLine (h : RE w W p q v out line col full) (l : Nat) : RE w (W.setCell ⟨p, 1, none⟩ (.int .i64 l)) p q v out l col full :=
  ⟨h.fo.setLine l, (h.setP 1 _).1, (h.setP 1 _).2, h.qp, h.q0, h.vq⟩
theorem RE.setCol (h : RE w W p q v out line col full) (l : Nat) : RE w (W.setCell ⟨p, 2, none⟩ (.int .i64 l)) p q v out line l full :=
  ⟨h.fo.setCol l, (h.setP 2 _).1, (h.setP 2 _).2, h.qp, h.q0, h.vq⟩
theorem RE.add (h : RE w W p q v out line col full) {kind n : Nat} {text : List UInt8} {e : Ending} (d : AddDone W w.heap.size p v out line col kind text n e W') :
    e = .returned (.tuple #[]) ∧ (out.length = 4000 → RE w W' p q v out line col true) ∧ (out.length ≠ 4000 → ∃ v', RE w W' p q v' (out ++ [⟨kind, text, n, line, col⟩]) line col false) := by
  obtain ⟨h1, h2, h3⟩ := d
  have hup : Up w W' := Fr.trans h.up h2 (fun i hi e => by
    rcases e with e | e
    · have := h.fo.lo; omega
    · have := (h.fo.own.lt i e).1; omega)
  have hz : W'.heap[q]? = some zeroTok := (h2.block q (heap_lt h.zq) (fun e => by
    rcases e with e | e
    · exact h.qp e
    · exact h.vq e)).trans h.zq
  refine ⟨h1, fun hf => ?_, fun hf => ?_⟩
  · rw [if_pos hf] at h3
    exact ⟨h3, hup, hz, h.qp, h.q0, h.vq⟩
  · rw [if_neg hf] at h3
    obtain ⟨v', h4, h5⟩ := h3
    refine ⟨v', h4, hup, hz, h.qp, h.q0, fun e => ?_⟩
    rcases h5 q e with h6 | h6
    · exact h.vq h6
    · have := heap_lt h.zq; omega
end

structure RA (w W : World) (p q : Nat) (T : List UInt8) (k line col : Nat) (v : Value) (out : List Tok) : Prop where
  re : RE w W p q v out line col false
  kT : k ≤ T.length
  lk : line ≤ k + 1
  ck : col ≤ k + 1
  lex : ∀ R, Lex ⟨T.drop k, line, col, out⟩ R → Lex ⟨T, 1, 1, []⟩ R

theorem step_nl {T : List UInt8} {k line col : Nat} {out : List Tok} (h : T[k]? = some 10) (he : lastEnds out = false) : step ⟨T.drop k, line, col, out⟩ = .inl ⟨T.drop (k + 1), line + 1, 1, out⟩ := by
  simp [step, drop_at h, he]
theorem step_nl_semi {T : List UInt8} {k line col : Nat} {out : List Tok} (h : T[k]? = some 10) (he : lastEnds out = true) : step ⟨T.drop k, line, col, out⟩ = push ⟨T.drop k, line, col, out⟩ 1 [59] 0 0 := by
  simp [step, drop_at h, he]
theorem step_bl {T : List UInt8} {k line col : Nat} {c : UInt8} {out : List Tok} (h : T[k]? = some c) (hc : c = 32 ∨ c = 9 ∨ c = 13) : step ⟨T.drop k, line, col, out⟩ = .inl ⟨T.drop (k + 1), line, col + 1, out⟩ := by
  have h10 : c ≠ 10 := by rcases hc with rfl | rfl | rfl <;> decide
  simp only [step, drop_at h, if_neg h10, if_pos hc]
theorem step_cm {T : List UInt8} {k line col : Nat} {out : List Tok} (hp : [47, 47].isPrefixOf (T.drop k) = true) :
    step ⟨T.drop k, line, col, out⟩ = .inl ⟨T.drop (k + ((T.drop k).takeWhile (fun c => c ≠ 10)).length), line, col + ((T.drop k).takeWhile (fun c => c ≠ 10)).length, out⟩ := by
  obtain ⟨r, hr⟩ := List.isPrefixOf_iff_prefix.1 hp
  have hd : T.drop k = 47 :: 47 :: r := hr.symm
  unfold step
  rw [← List.drop_drop]
  generalize T.drop k = l at *
  subst hd
  simp only [if_neg (show ¬ (47 : UInt8) = 10 by decide), if_neg (show ¬ ((47 : UInt8) = 32 ∨ (47 : UInt8) = 9 ∨ (47 : UInt8) = 13) by decide), hp, if_true]
theorem step_tk {T : List UInt8} {k line col : Nat} {c : UInt8} {out : List Tok} (h : T[k]? = some c) (h10 : c ≠ 10) (hb : ¬ (c = 32 ∨ c = 9 ∨ c = 13)) (hp : [47, 47].isPrefixOf (T.drop k) = false) :
    step ⟨T.drop k, line, col, out⟩ = match one (T.drop k) with
      | .err e => .inr (.bad line col e)
      | .tok kind text n used => push ⟨T.drop k, line, col, out⟩ kind text n used := by
  rw [drop_at h] at hp ⊢
  simp only [step, if_neg h10, if_neg hb, hp, Bool.false_eq_true, if_false]
  rfl

/-- The last token, read. -/
theorem last_of {w : World} {B p : Nat} {v : Value} {out : List Tok} {line col : Nat} {full : Bool} (h : Fo w B p v out line col full) (h0 : out ≠ []) :
    ∃ b o c n m t, v = .slice (some ⟨b, o, none⟩) n c ∧ n = out.length ∧ n = m + 1 ∧ n ≤ 4000 ∧ lastEnds out = mayEnd t ∧ b < w.heap.size ∧
      (∀ w', Up w w' → w'.cell? ⟨p, 0, none⟩ = some (.slice (some ⟨b, o, none⟩) n c) ∧ w'.cell? ⟨b, o + m * 5, none⟩ = some (.int .i64 t.kind) ∧ w'.cell? ⟨b, o + m * 5 + 1, none⟩ = some (.string (bs t.text)) ∧ w'.cell? ⟨b, o + m * 5 + 2, none⟩ = some (.int .i64 t.n) ∧ w'.cell? ⟨b, o + m * 5 + 3, none⟩ = some (.int .i64 t.line) ∧ w'.cell? ⟨b, o + m * 5 + 4, none⟩ = some (.int .i64 t.col)) := by
  obtain ⟨A, c, hv, hp⟩ := h.own.reads.parts
  obtain ⟨n, hn⟩ : ∃ n, n = out.length := ⟨_, rfl⟩
  have hn0 : 0 < n := by rw [hn]; exact List.length_pos_iff.2 h0
  obtain ⟨m, hm⟩ : ∃ m, n = m + 1 := ⟨n - 1, by omega⟩
  have hmo : m < out.length := by omega
  obtain ⟨b, o, cs, hA, hG, hb, hcs, hcl, hx⟩ := hp.elem hmo
  subst hA hcs
  have hle : lastEnds out = mayEnd out[m] := by
    unfold lastEnds
    rw [List.getLast?_eq_getElem?, show out.length - 1 = m by omega, List.getElem?_eq_getElem hmo]
  refine ⟨b, o, c, n, m, out[m], by rw [hv, hn], hn, hm, by have := h.few; omega, hle, hb, fun w' u => ?_⟩
  have k : ∀ j, w'.cell? ⟨b, j, none⟩ = w.cell? ⟨b, j, none⟩ := fun j => u.cell (p := ⟨b, j, none⟩) hb (fun e => e)
  refine ⟨by rw [(h.up u).c0, hv, hn], ?_, ?_, ?_, ?_, ?_⟩
  · rw [k]; have := hx 0 _ rfl; rwa [Nat.add_zero] at this
  · rw [k]; exact hx 1 _ rfl
  · rw [k]; exact hx 2 _ rfl
  · rw [k]; exact hx 3 _ rfl
  · rw [k]; exact hx 4 _ rfl

end Go.Proofs.YtjkpimohgbkjoaaDoor
