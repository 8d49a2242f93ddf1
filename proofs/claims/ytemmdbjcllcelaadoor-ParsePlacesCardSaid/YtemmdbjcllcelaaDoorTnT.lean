/-
  Package token: readAll, All.
-/
import Derived.Test.YtemmdbjcllcelaaDoorTnS
import Derived.Shelf.Abstract
namespace Go.Proofs.YtemmdbjcllcelaaDoor.Tk
open Go.RowKit
set_option maxRecDepth 100000

theorem one_pos {l : List UInt8} {kind : Nat} {text : List UInt8} {n used : Nat} (h : one l = .tok kind text n used) : kind ≠ 0 := by
  unfold one at h
  split at h
  · cases h
  split at h
  · cases h; decide
  split at h
  · simp only [Got.tok.injEq] at h
    obtain ⟨rfl, _⟩ := h
    split <;> decide
  split at h
  · split at h
    · cases h
    · cases h; decide
  split at h
  · split at h
    · cases h
    · cases h; decide
  · split at h
    · cases h
    · cases h; decide
theorem one_err {l : List UInt8} {c : Nat} (h : one l = .err c) : 0 < c := by
  unfold one at h
  split at h
  · cases h; decide
  split at h
  · cases h
  split at h
  · cases h
  split at h
  · split at h
    · cases h; decide
    · cases h
  split at h
  · split at h
    · cases h; decide
    · cases h
  · split at h
    · cases h; decide
    · cases h
theorem got_err {l : List UInt8} {out : List Tok} {c : Nat} (h : gotOf l out = .err c) : 0 < c := by
  unfold gotOf at h
  split at h
  · split at h <;> cases h
  · split at h
    · cases h
    · exact one_err h

theorem got_zero {l : List UInt8} {out : List Tok} {text : List UInt8} {n used : Nat} (h : gotOf l out = .tok 0 text n used) : text = [] ∧ n = 0 ∧ used = 0 := by
  unfold gotOf at h
  split at h
  · split at h
    · cases h
    · cases h; exact ⟨rfl, rfl, rfl⟩
  · split at h
    · cases h
    · exact absurd rfl (one_pos h)

theorem push_full {σ : St} {kind : Nat} {text : List UInt8} {n used : Nat} (h : σ.out.length = 4000) : push σ kind text n used = .inr (.bad σ.line σ.col 6) := if_pos h

/-- A step where skip has stopped. -/
theorem step_got {T : List UInt8} {k line first : Nat} {out : List Tok} (hs : Stop (T.drop k) out) : step (stOf T k line first out) = match gotOf (T.drop k) out with
    | .err c => .inr (.bad line (k - first + 1) c)
    | .tok kind text n used => if kind = 0 then (if out.length = 4000 then .inr (.bad line (k - first + 1) 6) else .inr (.ok (out ++ [⟨0, [], 0, line, k - first + 1⟩])))
      else push (stOf T k line first out) kind text n used := by
  unfold stOf step gotOf
  simp only
  generalize T.drop k = l at *
  cases l with
  | nil =>
    simp only
    cases lastEnds out <;> simp [push]
  | cons b r =>
    obtain ⟨h10, h1, h2, h3, h4⟩ := hs b r rfl
    simp only
    by_cases hb : b = 10
    · rw [if_pos hb, if_pos (h10 hb), if_pos hb]; simp
    · rw [if_neg hb, if_neg (by simp [h1, h2, h3]), if_neg (by rw [h4]; simp), if_neg hb]
      cases ho : one (b :: r) with
      | err c => rfl
      | tok kind text n used => simp only; rw [if_neg (one_pos ho)]

theorem reader_enters (l : List UInt8) (out : List Tok) : ∀ (args : Array Value) (w : World), (callFunc (readerOf l out) args).run Tryd.prog w = .ok (.enter (readerOf l out) args) w := by
  have key : ∀ (args : Array Value) (w : World), (callFunc 40 args).run Tryd.prog w = .ok (.enter 40 args) w := enters_of Tryd.func40 (by kernel_rfl) rfl
  unfold readerOf
  split
  · split
    · exact key
    · exact enters_of Tryd.func65 (by kernel_rfl) rfl
  · split
    · exact key
    split
    · exact enters_of Tryd.func41 (by kernel_rfl) rfl
    split
    · exact enters_of Tryd.func43 (by kernel_rfl) rfl
    split
    · exact enters_of Tryd.func45 (by kernel_rfl) rfl
    split
    · exact enters_of Tryd.func46 (by kernel_rfl) rfl
    · exact enters_of Tryd.func47 (by kernel_rfl) rfl

def lenOf (w : World) (p : Nat) : Nat := match w.cell? ⟨p, 4, none⟩ with
  | some (.slice _ n _) => n
  | _ => 0
theorem Sc.len {w : World} {B p : Nat} {T : List UInt8} {k line first : Nat} {v : Value} {out : List Tok} (h : Sc w B p T k line first v out) : lenOf w p = out.length := by
  obtain ⟨A, c, rfl, _⟩ := h.own.reads.parts
  unfold lenOf; rw [h.c4]

/-- A round of readAll. -/
structure RInv (w wr : World) (B p r : Nat) (T : List UInt8) (σ : St) (k line first : Nat) (v : Value) (out : List Tok) : Prop where
  sc : Sc wr B p T k line first v out
  fr : FrB B w wr
  blk : wr.heap[r]? = some zeroTok
  vr : v.ownBlock ≠ some r
  pr : p ≠ r
  lex : ∀ R, Lex (stOf T k line first out) R → Lex σ R

theorem RInv.up {w wr w' : World} {B p r : Nat} {T : List UInt8} {σ : St} {k line first : Nat} {v : Value} {out : List Tok} (h : RInv w wr B p r T σ k line first v out) (u : Up wr w') : RInv w w' B p r T σ k line first v out :=
  ⟨h.sc.up u, Fr.trans h.fr u (fun _ _ e => e.elim), (u.block r (heap_lt h.blk) (fun e => e)).trans h.blk, h.vr, h.pr, h.lex⟩

def ReadAllDone (w : World) (B p : Nat) (T : List UInt8) (σ : St) (e : Ending) (w' : World) : Prop := FrB B w w' ∧ ∃ R, Lex σ R ∧ match R with
  | .ok outs => e = .returned (.tuple #[tokA 0 [] 0 0 0, .int .i64 0]) ∧ ∃ k line first v, Sc w' B p T k line first v outs
  | .bad line col c => 0 < c ∧ e = .returned (.tuple #[tokA 0 [] 0 line col, .int .i64 c])

set_option maxRecDepth 100000 in
set_option maxHeartbeats 4000000 in
theorem readAll_any {w : World} {B p : Nat} {T : List UInt8} {k line first : Nat} {v : Value} {out : List Tok} (h : Sc w B p T k line first v out) (L : Laid w) (hB : 2 + 1 + 1 ≤ B) :
    Calls Tryd.prog 15 #[.pointer (some ⟨p, 0, none⟩)] w (ReadAllDone w B p T (stOf T k line first out)) := by
  have LL := Lib.hid L
  have V0 := Lib.hid (show RInv w (w.alloc zeroTok) B p w.heap.size T (stOf T k line first out) k line first v out from
    ⟨h.up ((Fr.refl _ _).alloc _), (Fr.refl _ _).alloc _, heap_alloc_new _ _, fun e => by have := (h.own.lt _ e).2; omega, by have := h.lt; omega, fun _ h => h⟩)
  have HB := Lib.hid (show B ≤ w.heap.size by have := h.lt; have := h.lo; omega)
  clear h L
  go_enter Tryd.func15, Tryd.ntmps15
  go_wp2_with fail
  change Code.wp _ _ _ _ (w.alloc zeroTok)
  generalize w.alloc zeroTok = w1 at V0 ⊢
  obtain ⟨r, hr⟩ : ∃ r, r = w.heap.size := ⟨_, rfl⟩
  rw [← hr] at V0 ⊢
  have Hr := Lib.hid hr
  clear hr
  generalize stOf T k line first out = σ at V0
  go_loopw [] (fun wr => ∃ (k line first : Nat) (v : Value) (out : List Tok), Hid (RInv w wr B p r T σ k line first v out)) (fun wr => 4001 - lenOf wr p)
  case atStart => exact ⟨k, line, first, v, out, V0⟩
  case round =>
    obtain ⟨j, lj, fj, vj, oj, hm⟩ := hrel
    obtain ⟨wo, rfl⟩ : ∃ wo : World, wo = wr := ⟨_, rfl⟩
    have Ls := Lib.hid hm.out.sc.len
    go_wp2_with fail
    refine (skip_any hm.out.sc).mono ?_
    rintro e w2 ⟨rfl, k2, l2, f2, sk, hst⟩
    have M2 := Lib.hid (show RInv w w2 B p r T σ k2 l2 f2 vj oj from ⟨sk.sc, Fr.trans hm.out.fr sk.fr (fun i _ e => by have := hm.out.sc.lo; omega), (sk.fr.block r (heap_lt hm.out.blk) (fun e => hm.out.pr e.symm)).trans hm.out.blk, hm.out.vr, hm.out.pr, fun R hR => hm.out.lex R (sk.lex R hR)⟩)
    have SG := Lib.hid (step_got (line := l2) (first := f2) hst)
    clear sk hst
    go_wp2_with fail
    refine (choose_any M2.out.sc).mono ?_
    rintro e w3 ⟨rfl, u3⟩
    have M3 := Lib.hid (M2.out.up u3)
    clear u3
    go_wp2_with fail
    refine (take_any M3.out.sc (readerOf (T.drop k2) oj) (gotOf (T.drop k2) oj) (reader_enters _ _) (fun c hc => got_err hc) (fun w1 u1 => reader_any (M3.out.sc.up u1)
      (LL.out.kept (Fr.trans M3.out.fr u1 (fun _ _ e => e.elim)) (by omega) (by omega)) hB)).mono ?_
    rintro e w4 htk
    have hbr : w4.heap[r]? = some zeroTok := (htk.1.block r (heap_lt M3.out.blk) (fun e => by
      rcases e with e | e
      · exact M3.out.pr e.symm
      · exact M3.out.vr e)).trans M3.out.blk
    have hfr : FrB B w w4 := Fr.trans M3.out.fr htk.1 (fun i _ e => by
      rcases e with e | e
      · have := M3.out.sc.lo; omega
      · exact (M3.out.sc.own.lt i e).1)
    have M4 := Lib.hid M2.out.lex
    obtain ⟨col, hcol⟩ : ∃ col, col = k2 - f2 + 1 := ⟨_, rfl⟩
    rw [← hcol] at SG
    obtain ⟨G, hG⟩ : ∃ G, G = gotOf (T.drop k2) oj := ⟨_, rfl⟩
    rw [← hG] at htk SG
    cases G with
    | err c =>
      obtain ⟨_, htk⟩ := htk
      simp only at htk
      rw [← hcol] at htk
      subst htk
      have hc0 := got_err hG.symm
      have LX := Lib.hid (show Lex σ (.bad l2 col c) from M4.out _ (Lex.done SG.out))
      have CP := Lib.hid hc0
      have e1 : ((c : Int) == 0) = false := by simp; omega
      have e2 : ((c : Int) != 0) = true := by rw [bne, e1]; rfl
      have HCo := Lib.hid hcol
      clear hG hcol
      have b5 : (w4.alloc (.cells #[.int .i64 0, .string (bs []), .int .i64 0, .int .i64 l2, .int .i64 col] 43)).heap[r]? = some zeroTok := (Below.heap_alloc w4 _ r (heap_lt hbr)).trans hbr
      have B5 := Lib.hid b5
      obtain ⟨r0, r1, r2, r3, r4⟩ := cells5 B5.out
      have z0 := frozen_of_row _ r 0 _ _ B5.out
      have z1 := frozen_of_row _ r 1 _ _ B5.out
      have z2 := frozen_of_row _ r 2 _ _ B5.out
      have z3 := frozen_of_row _ r 3 _ _ B5.out
      have z4 := frozen_of_row _ r 4 _ _ B5.out
      have FR := Lib.hid hfr
      clear b5 hbr hfr
      unfold tokA
      go_wp2_with fail
      have b7 := set5_blk B5.out (.int .i64 0) (.string (bs [])) (.int .i64 0) (.int .i64 l2) (.int .i64 col)
      have f7 := set5_fr (w4.alloc (.cells #[.int .i64 0, .string (bs []), .int .i64 0, .int .i64 l2, .int .i64 col] 43)) r (.int .i64 0) (.string (bs [])) (.int .i64 0) (.int .i64 l2) (.int .i64 col)
      exact bodyPost_ret (res_tok (c := 2) (t := 3) (by kernel_rfl) rfl rfl b7 rfl) rfl (show ReadAllDone w B p T σ _ _ from ⟨Fr.trans (FR.out.alloc _) f7 (fun i hi e => by have := Hr.out; have := HB.out; omega), _, LX.out, CP.out, rfl⟩)
    | tok kind text n used =>
      obtain ⟨_, htk⟩ := htk
      simp only at htk
      rw [← hcol] at htk
      by_cases hfull : oj.length = 4000
      · rw [if_pos hfull] at htk
        subst htk
        have LX := Lib.hid (show Lex σ (.bad l2 col 6) from M4.out _ (Lex.done (by
          rw [SG.out]
          by_cases hk : kind = 0
          · simp only [if_pos hk, if_pos hfull]
          · simp only [if_neg hk]; rw [push_full hfull]; show Sum.inr (Res.bad l2 (k2 - f2 + 1) 6) = _; rw [hcol])))
        have CP := Lib.hid (show 0 < 6 by decide)
        clear hG hcol
        have b5 : (w4.alloc (.cells #[.int .i64 0, .string (bs []), .int .i64 0, .int .i64 l2, .int .i64 col] 43)).heap[r]? = some zeroTok := (Below.heap_alloc w4 _ r (heap_lt hbr)).trans hbr
        have B5 := Lib.hid b5
        obtain ⟨r0, r1, r2, r3, r4⟩ := cells5 B5.out
        have z0 := frozen_of_row _ r 0 _ _ B5.out
        have z1 := frozen_of_row _ r 1 _ _ B5.out
        have z2 := frozen_of_row _ r 2 _ _ B5.out
        have z3 := frozen_of_row _ r 3 _ _ B5.out
        have z4 := frozen_of_row _ r 4 _ _ B5.out
        have FR := Lib.hid hfr
        clear b5 hbr hfr
        unfold tokA
        go_wp2_with fail
        have b7 := set5_blk B5.out (.int .i64 0) (.string (bs [])) (.int .i64 0) (.int .i64 l2) (.int .i64 col)
        have f7 := set5_fr (w4.alloc (.cells #[.int .i64 0, .string (bs []), .int .i64 0, .int .i64 l2, .int .i64 col] 43)) r (.int .i64 0) (.string (bs [])) (.int .i64 0) (.int .i64 l2) (.int .i64 col)
        exact bodyPost_ret (res_tok (c := 2) (t := 3) (by kernel_rfl) rfl rfl b7 rfl) rfl (show ReadAllDone w B p T σ _ _ from ⟨Fr.trans (FR.out.alloc _) f7 (fun i hi e => by have := Hr.out; have := HB.out; omega), _, LX.out, CP.out, rfl⟩)
      · rw [if_neg hfull] at htk
        obtain ⟨rfl, v5, s5, hv5⟩ := htk
        by_cases hk : kind = 0
        · have LX := Lib.hid (show Lex σ (.ok (oj ++ [⟨0, [], 0, l2, col⟩])) from M4.out _ (Lex.done (by rw [SG.out]; simp only [if_pos hk, if_neg hfull])))
          have hz := got_zero (hG.symm.trans (by rw [hk]))
          obtain ⟨rfl, rfl, rfl⟩ := hz
          subst hk
          have S5 := Lib.hid (show ∃ k line first v, Sc w4 B p T k line first v (oj ++ [⟨0, [], 0, l2, col⟩]) from ⟨_, _, _, _, s5⟩)
          have PR := Lib.hid hm.out.pr
          have V5 := Lib.hid (show ∀ b, v5.ownBlock = some b → b ≠ r from fun b hb e => by
            rcases hv5 b hb with h1 | h1
            · exact M3.out.vr (by rw [h1, e])
            · have := heap_lt M3.out.blk; omega)
          have S6 := Lib.hid s5
          have HCo := Lib.hid hcol
          clear s5 hv5 hG hcol
          have b5 : (w4.alloc (.cells #[.int .i64 0, .string (bs []), .int .i64 0, .int .i64 l2, .int .i64 col] 43)).heap[r]? = some zeroTok := (Below.heap_alloc w4 _ r (heap_lt hbr)).trans hbr
          have B5 := Lib.hid b5
          obtain ⟨r0, r1, r2, r3, r4⟩ := cells5 B5.out
          have z0 := frozen_of_row _ r 0 _ _ B5.out
          have z1 := frozen_of_row _ r 1 _ _ B5.out
          have z2 := frozen_of_row _ r 2 _ _ B5.out
          have z3 := frozen_of_row _ r 3 _ _ B5.out
          have z4 := frozen_of_row _ r 4 _ _ B5.out
          have FR := Lib.hid hfr
          clear b5 hbr hfr
          unfold tokA
          go_wp2_with fail
          have b7 := set5_blk B5.out (.int .i64 0) (.string (bs [])) (.int .i64 0) (.int .i64 0) (.int .i64 0)
          have f7 := set5_fr (w4.alloc (.cells #[.int .i64 0, .string (bs []), .int .i64 0, .int .i64 l2, .int .i64 col] 43)) r (.int .i64 0) (.string (bs [])) (.int .i64 0) (.int .i64 0) (.int .i64 0)
          exact bodyPost_ret (res_tok (c := 2) (t := 3) (by kernel_rfl) rfl rfl b7 rfl) rfl (show ReadAllDone w B p T σ _ _ from ⟨Fr.trans (FR.out.alloc _) f7 (fun i hi e => by have := Hr.out; have := HB.out; omega), _, LX.out, rfl, _, _, _, _, by
            have := (S6.out.up ((Fr.refl (fun _ => False) w4).alloc (.cells #[.int .i64 0, .string (bs []), .int .i64 0, .int .i64 l2, .int .i64 col] 43))).kept f7 (fun e => PR.out e) (fun b hb e => V5.out b hb e)
            exact this⟩)
        · have e1 : ((kind : Int) == 0) = false := by simp; omega
          have hst : step (stOf T k2 l2 f2 oj) = .inl (stOf T (k2 + used) l2 f2 (oj ++ [⟨kind, text, n, l2, col⟩])) := by
            rw [SG.out]
            simp only [if_neg hk, push, stOf, if_neg hfull, hcol, List.drop_drop]
            rw [show k2 - f2 + 1 + used = k2 + used - f2 + 1 by have := M3.out.sc.fk; omega]
          have N := Lib.hid (show RInv w (w4.alloc (.cells #[.int .i64 kind, .string (bs text), .int .i64 n, .int .i64 l2, .int .i64 col] 43)) B p r T σ (k2 + used) l2 f2 v5 (oj ++ [⟨kind, text, n, l2, col⟩]) from
            RInv.up ⟨s5, hfr, hbr, fun e => by
              rcases hv5 r e with h1 | h1
              · exact M3.out.vr h1
              · have := heap_lt M3.out.blk; omega, hm.out.pr, fun R hR => M4.out R (hR.next hst)⟩ ((Fr.refl _ _).alloc _))
          have Lm := Lib.hid (show oj.length < 4000 by have := M3.out.sc.few; omega)
          have HCo := Lib.hid hcol
          clear s5 hv5 hG hbr hfr hst hcol
          unfold tokA
          go_wp2_with fail
          go_roundw
          case rel => exact ⟨_, _, _, _, _, N⟩
          case measure => rw [N.out.sc.len, Ls.out, List.length_append]; have := Lm.out; simp; omega

/-- A slice, a token and an error number, handed back. -/
theorem res_all {fn : Func} {c t u : Nat} (hr : fn.results = #[.tmp u, .cell c 43, .tmp t]) {tmps : Array Value} {w : World} {q : Nat} {cs : Array Value} {e v : Value} (h1 : tmps.getD u undef = v) (h2 : tmps.getD c undef = .pointer (some ⟨q, 0, none⟩)) (h3 : tmps.getD t undef = e)
    (hb : w.heap[q]? = some (.cells cs 43 (0, 0))) (hs : cs.size = 5) : (results fn tmps).run Tryd.prog w = .ok (.tuple #[v, .agg cs, e]) w := by
  have := run_loadVar_row (P := Tryd.prog) w q 43 43 cs (0, 0) _ hb Tryd.underlying43 rfl (by rw [hs]; kernel_rfl)
  rw [Array.getD_eq_getD_getElem?] at h1 h2 h3
  simp [results, hr, h1, h2, h3, asAddr, this]

/-- What All answers. -/
def AllDone (w : World) (T : List UInt8) (e : Ending) (w' : World) : Prop := Up w w' ∧ ∃ R, LexAll T R ∧ match R with
  | .ok outs => ∃ v, e = .returned (.tuple #[v, tokA 0 [] 0 0 0, .int .i64 0]) ∧ OwnSl w' (w.heap.size + 1) 43 5 TokC v outs
  | .bad line col c => 0 < c ∧ e = .returned (.tuple #[.slice none 0 0, tokA 0 [] 0 line col, .int .i64 c])

set_option maxRecDepth 100000 in
set_option maxHeartbeats 4000000 in
theorem all_any {w : World} (T : List UInt8) (L : Laid w) (hw : 2 + 1 ≤ w.heap.size) : Calls Tryd.prog 12 #[.string (bs T)] w (AllDone w T) := by
  have hsz := bs_size T
  have LL := Lib.hid L
  clear L
  go_enter Tryd.func12, Tryd.ntmps12
  by_cases hb : 16384 < T.length
  · have a1 : ((T.length : Int) > 16384) := by omega
    have LX := Lib.hid (show LexAll T (.bad 1 1 6) by unfold LexAll; rw [if_pos hb])
    go_wp2_with fail
    exact bodyPost_ret (res_all (c := 3) (t := 4) (u := 2) (by kernel_rfl) rfl rfl rfl (heap_alloc_new w _) rfl) rfl (show AllDone w T _ _ from ⟨(Fr.refl _ _).alloc _, _, LX.out, by decide, rfl⟩)
  · have a1 : ¬ ((T.length : Int) > 16384) := by omega
    have S0 := Lib.hid (show Sc ((w.alloc zeroTok).alloc (.cells #[.string (bs T), .int .i64 0, .int .i64 1, .int .i64 0, .slice none 0 0] 55)) (w.heap.size + 1) (w.heap.size + 1) T 0 1 0 (.slice none 0 0) [] from
      ⟨by have := heap_alloc_new (w.alloc zeroTok) (.cells #[.string (bs T), .int .i64 0, .int .i64 1, .int .i64 0, .slice none 0 0] 55); rwa [World.size_alloc] at this, OwnSl.none_, by simp [Value.ownBlock], Nat.zero_le _, Nat.le_refl _, Nat.le_refl _, by omega, by simp, Nat.le_refl _⟩)
    have U0 := Lib.hid (show Up w ((w.alloc zeroTok).alloc (.cells #[.string (bs T), .int .i64 0, .int .i64 1, .int .i64 0, .slice none 0 0] 55)) from ((Fr.refl _ _).alloc _).alloc _)
    have B0 := Lib.hid (show ((w.alloc zeroTok).alloc (.cells #[.string (bs T), .int .i64 0, .int .i64 1, .int .i64 0, .slice none 0 0] 55)).heap[w.heap.size]? = some zeroTok from (Below.heap_alloc _ _ _ (by simp)).trans (heap_alloc_new w _))
    have L0 := Lib.hid (LL.out.kept U0.out (fun h => h) (fun h => h))
    have HB := Lib.hid hb
    clear hb
    go_wp2_with fail
    change Calls _ _ _ ((w.alloc zeroTok).alloc (.cells #[.string (bs T), .int .i64 0, .int .i64 1, .int .i64 0, .slice none 0 0] 55)) _
    generalize (w.alloc zeroTok).alloc (.cells #[.string (bs T), .int .i64 0, .int .i64 1, .int .i64 0, .slice none 0 0] 55) = w1 at S0 U0 B0 L0 ⊢
    refine (readAll_any S0.out L0.out (by omega)).mono ?_
    rintro e w2 ⟨f2, R, hR, hr⟩
    have LX := Lib.hid (show LexAll T R by unfold LexAll; rw [if_neg HB.out]; simpa [stOf] using hR)
    have F2 := Lib.hid (show Up w w2 from Fr.trans U0.out f2 (fun i hi e => by omega))
    have hbr : w2.heap[w.heap.size]? = some zeroTok := (f2.block _ (heap_lt B0.out) (by omega)).trans B0.out
    obtain ⟨r, hr'⟩ : ∃ r, r = w.heap.size := ⟨_, rfl⟩
    cases R with
    | bad line col c =>
      obtain ⟨hc0, rfl⟩ := hr
      have CP := Lib.hid hc0
      have e1 : ((c : Int) == 0) = false := by simp; omega
      have e2 : ((c : Int) != 0) = true := by rw [bne, e1]; rfl
      rw [← hr'] at hbr ⊢
      have b5 : (w2.alloc (.cells #[.int .i64 0, .string (bs []), .int .i64 0, .int .i64 line, .int .i64 col] 43)).heap[r]? = some zeroTok := (Below.heap_alloc w2 _ r (heap_lt hbr)).trans hbr
      have B5 := Lib.hid b5
      obtain ⟨r0, r1, r2, r3, r4⟩ := cells5 B5.out
      have z0 := frozen_of_row _ r 0 _ _ B5.out
      have z1 := frozen_of_row _ r 1 _ _ B5.out
      have z2 := frozen_of_row _ r 2 _ _ B5.out
      have z3 := frozen_of_row _ r 3 _ _ B5.out
      have z4 := frozen_of_row _ r 4 _ _ B5.out
      have Y5 := Lib.hid (cells5 (heap_alloc_new w2 (.cells #[.int .i64 0, .string (bs []), .int .i64 0, .int .i64 line, .int .i64 col] 43)))
      have HR := Lib.hid hr'
      clear b5 hbr hr' hsz a1
      unfold tokA
      go_wp2_with fail
      obtain ⟨y0, y1, y2, y3, y4⟩ := Y5.out
      have F5 := Lib.hid (F2.out.alloc (.cells #[.int .i64 0, .string (bs []), .int .i64 0, .int .i64 line, .int .i64 col] 43))
      generalize w2.alloc (.cells #[.int .i64 0, .string (bs []), .int .i64 0, .int .i64 line, .int .i64 col] 43) = w5 at *
      go_region
      all_goals go_wp2_with fail
      all_goals
        have b7 := set5_blk B5.out (.int .i64 0) (.string (bs [])) (.int .i64 0) (.int .i64 line) (.int .i64 col)
        have f7 := set5_fr w5 r (.int .i64 0) (.string (bs [])) (.int .i64 0) (.int .i64 line) (.int .i64 col)
        exact bodyPost_ret (res_all (c := 3) (t := 4) (u := 2) (q := r) (by kernel_rfl) rfl rfl rfl b7 rfl) rfl (show AllDone w T _ _ from ⟨Fr.drew (Fr.trans F5.out f7 (fun i hi e => by have := HR.out; omega)), _, LX.out, CP.out, rfl⟩)
    | ok outs =>
      obtain ⟨rfl, k5, l5, f5, v5, s5⟩ := hr
      rw [← hr'] at hbr ⊢
      have b5 : (w2.alloc (.cells #[.int .i64 0, .string (bs []), .int .i64 0, .int .i64 0, .int .i64 0] 43)).heap[r]? = some zeroTok := (Below.heap_alloc w2 _ r (heap_lt hbr)).trans hbr
      have B5 := Lib.hid b5
      obtain ⟨r0, r1, r2, r3, r4⟩ := cells5 B5.out
      have z0 := frozen_of_row _ r 0 _ _ B5.out
      have z1 := frozen_of_row _ r 1 _ _ B5.out
      have z2 := frozen_of_row _ r 2 _ _ B5.out
      have z3 := frozen_of_row _ r 3 _ _ B5.out
      have z4 := frozen_of_row _ r 4 _ _ B5.out
      have S5 := Lib.hid (s5.up ((Fr.refl (fun _ => False) w2).alloc (.cells #[.int .i64 0, .string (bs []), .int .i64 0, .int .i64 0, .int .i64 0] 43)))
      have c4 := S5.out.c4
      have HR := Lib.hid hr'
      rw [← hr'] at c4
      clear b5 hbr hr' hsz a1 s5
      unfold tokA
      go_wp2_with fail
      have b7 := set5_blk B5.out (.int .i64 0) (.string (bs [])) (.int .i64 0) (.int .i64 0) (.int .i64 0)
      have f7 := set5_fr (w2.alloc (.cells #[.int .i64 0, .string (bs []), .int .i64 0, .int .i64 0, .int .i64 0] 43)) r (.int .i64 0) (.string (bs [])) (.int .i64 0) (.int .i64 0) (.int .i64 0)
      exact bodyPost_ret (res_all (c := 3) (t := 4) (u := 2) (q := r) (by kernel_rfl) rfl rfl rfl b7 rfl) rfl (show AllDone w T _ _ from ⟨Fr.trans (F2.out.alloc _) f7 (fun i hi e => by have := HR.out; omega), _, LX.out, v5, rfl,
        S5.out.own.kept f7 (fun b hb e => by have := (S5.out.own.lt b hb).1; have := HR.out; omega) (fun _ _ _ h => h)⟩)
end Go.Proofs.YtemmdbjcllcelaaDoor.Tk
