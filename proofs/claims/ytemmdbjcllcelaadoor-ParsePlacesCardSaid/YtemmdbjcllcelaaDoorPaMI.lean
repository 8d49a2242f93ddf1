/-
  Package parse: the parser as it lies in memory; next.
  Package parse: mark, atEnd, atBrace, takes, want, name, fail.
  Package parse: fail, want, name, begin, pass.
  Package parse: name, begin, pass.
  Package parse: begin, pass.
  Package parse: trees as they lie in memory.
  Package parse: skipSemis, inside, orNone.
  Package parse: what a rule does, said once; inside.
  Package parse: orNone.
  Package parse: a row of trees that a call has made; one more.
-/
import Derived.Test.YtemmdbjcllcelaaDoorTnT
import Derived.Test.YtemmdbjcllcelaaDoorPaSpec
namespace Go.Proofs.YtemmdbjcllcelaaDoor.Pa
open Go.RowKit
open Go.Proofs.YtemmdbjcllcelaaDoor.Tk (Tok TokC bs tokA zeroTok set5 set5_blk set5_fr blk_set)
set_option maxRecDepth 100000

/-- A parser at block p: at token i; how deep, what is wrong, and where. -/
structure Ps (w : World) (p : Nat) (A : Option Addr) (cap : Nat) (toks : List Tok) (i nest f l c : Nat) : Prop where
  obj : w.heap[p]? = some (.cells #[.slice A toks.length cap, .int .i64 i, .int .i64 nest, .int .i64 f, .int .i64 l, .int .i64 c] 48 (0, 0))
  row : SlP w (fun b => b ≠ p) 5 TokC A cap toks
  ix : i < toks.length
  few : toks.length ≤ 4001
  last : ∀ (j : Nat) (t : Tok), toks[j]? = some t → (t.kind = 0 ↔ j + 1 = toks.length)

section
variable {w w' : World} {p cap : Nat} {A : Option Addr} {toks : List Tok} {i nest f l c : Nat}
theorem Ps.c0 (h : Ps w p A cap toks i nest f l c) : w.cell? ⟨p, 0, none⟩ = some (.slice A toks.length cap) := by rw [cell_of_row w p 0 _ _ _ h.obj]; rfl
theorem Ps.c1 (h : Ps w p A cap toks i nest f l c) : w.cell? ⟨p, 1, none⟩ = some (.int .i64 i) := by rw [cell_of_row w p 1 _ _ _ h.obj]; rfl
theorem Ps.c2 (h : Ps w p A cap toks i nest f l c) : w.cell? ⟨p, 2, none⟩ = some (.int .i64 nest) := by rw [cell_of_row w p 2 _ _ _ h.obj]; rfl
theorem Ps.c3 (h : Ps w p A cap toks i nest f l c) : w.cell? ⟨p, 3, none⟩ = some (.int .i64 f) := by rw [cell_of_row w p 3 _ _ _ h.obj]; rfl
theorem Ps.c4 (h : Ps w p A cap toks i nest f l c) : w.cell? ⟨p, 4, none⟩ = some (.int .i64 l) := by rw [cell_of_row w p 4 _ _ _ h.obj]; rfl
theorem Ps.c5 (h : Ps w p A cap toks i nest f l c) : w.cell? ⟨p, 5, none⟩ = some (.int .i64 c) := by rw [cell_of_row w p 5 _ _ _ h.obj]; rfl
theorem Ps.fr (h : Ps w p A cap toks i nest f l c) (j : Nat) : w.frozen? ⟨p, j, none⟩ = false := frozen_of_row w p j _ _ h.obj
theorem Ps.lt (h : Ps w p A cap toks i nest f l c) : p < w.heap.size := heap_lt h.obj
theorem Ps.up (h : Ps w p A cap toks i nest f l c) (hf : Up w w') : Ps w' p A cap toks i nest f l c :=
  ⟨(hf.block p h.lt (fun e => e)).trans h.obj, SlP.kept h.row hf (fun _ _ e => e) (fun _ h => h) (fun _ _ _ h => h), h.ix, h.few, h.last⟩
theorem Ps.setAt (h : Ps w p A cap toks i nest f l c) {j : Nat} (hj : j < toks.length) : Ps (w.setCell ⟨p, 1, none⟩ (.int .i64 j)) p A cap toks j nest f l c :=
  ⟨by rw [blk_set h.obj]; rfl, SlP.kept h.row (Tk.fr_set (p := p) 1 _) (fun _ hb e => hb e) (fun _ h => h) (fun _ _ _ h => h), hj, h.few, h.last⟩
/-- The parser's own cells, set anew. -/
theorem Ps.put (h : Ps w p A cap toks i nest f l c) (hf : Fr (fun b => b = p) w w') {i' nest' f' l' c' : Nat}
    (ho : w'.heap[p]? = some (.cells #[.slice A toks.length cap, .int .i64 i', .int .i64 nest', .int .i64 f', .int .i64 l', .int .i64 c'] 48 (0, 0))) (hi : i' < toks.length) : Ps w' p A cap toks i' nest' f' l' c' :=
  ⟨ho, SlP.kept h.row hf (fun _ hb e => hb e) (fun _ h => h) (fun _ _ _ h => h), hi, h.few, h.last⟩
end

/-- A token in a block of its own, handed back. -/
theorem res_tokc {fn : Func} {x : Nat} (hr : fn.results = #[.cell x 43]) {tmps : Array Value} {w : World} {q : Nat} {cs : Array Value}
    (h2 : tmps.getD x undef = .pointer (some ⟨q, 0, none⟩)) (hb : w.heap[q]? = some (.cells cs 43 (0, 0))) (hs : cs.size = 5) : (results fn tmps).run Tryd.prog w = .ok (.agg cs) w := by
  have := run_loadVar_row (P := Tryd.prog) w q 43 43 cs (0, 0) _ hb Tryd.underlying43 rfl (by rw [hs]; kernel_rfl)
  rw [Array.getD_eq_getD_getElem?] at h2
  simp [results, hr, h2, asAddr, this]
/-- A node in a block of its own, handed back. -/
theorem res_nodec {fn : Func} {x : Nat} (hr : fn.results = #[.cell x 27]) {tmps : Array Value} {w : World} {q : Nat} {cs : Array Value}
    (h2 : tmps.getD x undef = .pointer (some ⟨q, 0, none⟩)) (hb : w.heap[q]? = some (.cells cs 27 (0, 0))) (hs : cs.size = 6) : (results fn tmps).run Tryd.prog w = .ok (.agg cs) w := by
  have := run_loadVar_row (P := Tryd.prog) w q 27 27 cs (0, 0) _ hb Tryd.underlying27 rfl (by rw [hs]; kernel_rfl)
  rw [Array.getD_eq_getD_getElem?] at h2
  simp [results, hr, h2, asAddr, this]
abbrev tokT (t : Tok) : Value := tokA t.kind t.text t.n t.line t.col

set_option maxHeartbeats 4000000 in
theorem next_any {w : World} {p cap : Nat} {A : Option Addr} {toks : List Tok} {i nest f l c : Nat} {t : Tok} (h : Ps w p A cap toks i nest f l c) (ht : toks[i]? = some t) :
    Calls Tryd.prog 26 #[.pointer (some ⟨p, 0, none⟩)] w fun e w' => e = .returned (tokT t) ∧ Up w w' := by
  obtain ⟨b, o, cs, rfl, hG, hb, hC, hcl, hx⟩ := h.row.elem h.ix
  have e0 : toks[i]'h.ix = t := by rw [List.getElem?_eq_getElem h.ix] at ht; exact Option.some.inj ht
  rw [e0] at hC
  obtain rfl : cs = _ := hC
  have hbw : b < w.heap.size := hb
  have keep : ∀ (j : Nat) (u : Value), w.cell? ⟨b, j, none⟩ = some u → (w.alloc zeroTok).cell? ⟨b, j, none⟩ = some u := fun j u hu => by
    exact (((Fr.refl (fun _ => False) w).alloc zeroTok).cell (p := ⟨b, j, none⟩) hbw (fun e => e)).trans hu
  have x0 := keep _ _ (hx 0 _ rfl)
  have x1 := keep _ _ (hx 1 _ rfl)
  have x2 := keep _ _ (hx 2 _ rfl)
  have x3 := keep _ _ (hx 3 _ rfl)
  have x4 := keep _ _ (hx 4 _ rfl)
  rw [Nat.add_zero] at x0
  have c0 := (h.up ((Fr.refl (fun _ => False) w).alloc zeroTok)).c0
  have c1 := (h.up ((Fr.refl (fun _ => False) w).alloc zeroTok)).c1
  have f0 := (h.up ((Fr.refl (fun _ => False) w).alloc zeroTok)).fr 0
  have hm0 : (0 : Int) ≤ (i : Int) := Int.natCast_nonneg i
  have hmn : (i : Int) < (toks.length : Int) := Int.ofNat_lt.2 h.ix
  have hia : ∀ w, (Instr.indexAt 41 (.slice (some ⟨b, o, none⟩) toks.length cap) (.int .i64 i)).run Tryd.prog w = .ok (.pointer (some ⟨b, o + i * 5, none⟩)) w := by
    intro w
    rw [run_indexAt_slice (h := by kernel_rfl), if_pos ⟨hm0, hmn⟩, show (sizeOf (Tryd.prog.elem 41)).run Tryd.prog w = .ok 5 w from by kernel_rfl]
    simp [Result.andThen, Addr.add]
  have B0 : (w.alloc zeroTok).heap[w.heap.size]? = some zeroTok := heap_alloc_new w _
  have HP := Lib.hid h.lt
  generalize toks.length = n at c0 hmn hia
  clear hx keep ht hcl h e0
  go_enter Tryd.func26, Tryd.ntmps26
  go_wp2_with fail
  change Code.wp _ _ _ _ (w.alloc zeroTok)
  obtain ⟨r0, r1, r2, r3, r4⟩ := Tk.cells5 B0
  have z0 := frozen_of_row _ w.heap.size 0 _ _ B0
  have z1 := frozen_of_row _ w.heap.size 1 _ _ B0
  have z2 := frozen_of_row _ w.heap.size 2 _ _ B0
  have z3 := frozen_of_row _ w.heap.size 3 _ _ B0
  have z4 := frozen_of_row _ w.heap.size 4 _ _ B0
  have BB := Lib.hid B0
  have F0 := Lib.hid ((Fr.refl (fun _ => False) w).alloc zeroTok)
  obtain ⟨q, hq⟩ : ∃ q, q = w.heap.size := ⟨_, rfl⟩
  rw [← hq] at r0 r1 r2 r3 r4 z0 z1 z2 z3 z4 BB ⊢
  have HQ := Lib.hid hq
  clear B0 hb hbw hG hq
  generalize w.alloc zeroTok = w1 at *
  obtain ⟨kd, tx, tn, tl, tc⟩ := t
  simp only at x0 x1 x2 x3 x4
  go_region
  all_goals go_wp2_with fail
  all_goals
    have b7 := set5_blk BB.out (.int .i64 kd) (.string (bs tx)) (.int .i64 tn) (.int .i64 tl) (.int .i64 tc)
    have f7 := set5_fr w1 q (.int .i64 kd) (.string (bs tx)) (.int .i64 tn) (.int .i64 tl) (.int .i64 tc)
    exact bodyPost_ret (res_tokc (x := 2) (q := q) (by kernel_rfl) rfl b7 rfl) rfl ⟨rfl, Fr.drew (Fr.trans F0.out f7 (fun i hi e => by have := HQ.out; omega))⟩
end Go.Proofs.YtemmdbjcllcelaaDoor.Pa
namespace Go.Proofs.YtemmdbjcllcelaaDoor.Pa
open Go.RowKit
open Go.Proofs.YtemmdbjcllcelaaDoor.Tk (Tok TokC bs tokA zeroTok set5 set5_blk set5_fr blk_set eqL)
set_option maxRecDepth 100000

def markT (t : Tok) : List UInt8 := if t.kind = 6 ∨ t.kind = 3 ∨ t.kind = 1 then t.text else []
theorem mark_cons (t : Tok) (l : List Tok) : mark (t :: l) = markT t := rfl

set_option maxHeartbeats 4000000 in
theorem mark_any {w : World} {p cap : Nat} {A : Option Addr} {toks : List Tok} {i nest f l c : Nat} {t : Tok} (h : Ps w p A cap toks i nest f l c) (ht : toks[i]? = some t) :
    Calls Tryd.prog 29 #[.pointer (some ⟨p, 0, none⟩)] w fun e w' => e = .returned (.string (bs (markT t))) ∧ Up w w' := by
  have H := Lib.hid h
  obtain ⟨kd, tx, tn, tl, tc⟩ := t
  clear h
  by_cases k6 : kd = 6
  · subst k6
    have T := Lib.hid ht
    clear ht
    rw [show markT ⟨6, tx, tn, tl, tc⟩ = tx from rfl]
    go_enter Tryd.func29, Tryd.ntmps29
    go_wp2_with fail
    refine (next_any H.out T.out).mono ?_
    rintro e w1 ⟨rfl, u1⟩
    have U := Lib.hid (u1.alloc (.cells #[.int .i64 (6 : Nat), .string (bs tx), .int .i64 tn, .int .i64 tl, .int .i64 tc] 43))
    have Y := Lib.hid (Tk.cells5 (heap_alloc_new w1 (.cells #[.int .i64 (6 : Nat), .string (bs tx), .int .i64 tn, .int .i64 tl, .int .i64 tc] 43)))
    obtain ⟨y0, y1, y2, y3, y4⟩ := Y.out
    clear u1
    simp only [tokT, tokA]
    go_wp2_with fail
    go_returns
    exact ⟨rfl, U.out⟩
  by_cases k3 : kd = 3
  · subst k3
    have T := Lib.hid ht
    clear ht
    rw [show markT ⟨3, tx, tn, tl, tc⟩ = tx from rfl]
    go_enter Tryd.func29, Tryd.ntmps29
    go_wp2_with fail
    refine (next_any H.out T.out).mono ?_
    rintro e w1 ⟨rfl, u1⟩
    have U := Lib.hid (u1.alloc (.cells #[.int .i64 (3 : Nat), .string (bs tx), .int .i64 tn, .int .i64 tl, .int .i64 tc] 43))
    have Y := Lib.hid (Tk.cells5 (heap_alloc_new w1 (.cells #[.int .i64 (3 : Nat), .string (bs tx), .int .i64 tn, .int .i64 tl, .int .i64 tc] 43)))
    obtain ⟨y0, y1, y2, y3, y4⟩ := Y.out
    clear u1
    simp only [tokT, tokA]
    go_wp2_with fail
    go_returns
    exact ⟨rfl, U.out⟩
  by_cases k1 : kd = 1
  · subst k1
    have T := Lib.hid ht
    clear ht
    rw [show markT ⟨1, tx, tn, tl, tc⟩ = tx from rfl]
    go_enter Tryd.func29, Tryd.ntmps29
    go_wp2_with fail
    refine (next_any H.out T.out).mono ?_
    rintro e w1 ⟨rfl, u1⟩
    have U := Lib.hid (u1.alloc (.cells #[.int .i64 (1 : Nat), .string (bs tx), .int .i64 tn, .int .i64 tl, .int .i64 tc] 43))
    have Y := Lib.hid (Tk.cells5 (heap_alloc_new w1 (.cells #[.int .i64 (1 : Nat), .string (bs tx), .int .i64 tn, .int .i64 tl, .int .i64 tc] 43)))
    obtain ⟨y0, y1, y2, y3, y4⟩ := Y.out
    clear u1
    simp only [tokT, tokA]
    go_wp2_with fail
    go_returns
    exact ⟨rfl, U.out⟩
  · have T := Lib.hid ht
    clear ht
    rw [show markT ⟨kd, tx, tn, tl, tc⟩ = [] from if_neg (by simp [k6, k3, k1])]
    have e6 : ((kd : Int) == 6) = false := by simp; omega
    have e3 : ((kd : Int) == 3) = false := by simp; omega
    have e1 : ((kd : Int) == 1) = false := by simp; omega
    go_enter Tryd.func29, Tryd.ntmps29
    go_wp2_with fail
    refine (next_any H.out T.out).mono ?_
    rintro e w1 ⟨rfl, u1⟩
    have U := Lib.hid (u1.alloc (.cells #[.int .i64 kd, .string (bs tx), .int .i64 tn, .int .i64 tl, .int .i64 tc] 43))
    have Y := Lib.hid (Tk.cells5 (heap_alloc_new w1 (.cells #[.int .i64 kd, .string (bs tx), .int .i64 tn, .int .i64 tl, .int .i64 tc] 43)))
    obtain ⟨y0, y1, y2, y3, y4⟩ := Y.out
    clear u1
    simp only [tokT, tokA]
    go_wp2_with fail
    go_returns
    exact ⟨rfl, U.out⟩

set_option maxHeartbeats 4000000 in
theorem atEnd_any {w : World} {p cap : Nat} {A : Option Addr} {toks : List Tok} {i nest f l c : Nat} {t : Tok} (h : Ps w p A cap toks i nest f l c) (ht : toks[i]? = some t) :
    Calls Tryd.prog 19 #[.pointer (some ⟨p, 0, none⟩)] w fun e w' => e = .returned (.bool (t.kind == 0)) ∧ Up w w' := by
  have H := Lib.hid h
  obtain ⟨kd, tx, tn, tl, tc⟩ := t
  clear h
  have T := Lib.hid ht
  have e0 : ((kd : Int) == 0) = (kd == 0) := by
    by_cases hk : kd = 0
    · subst hk; rfl
    · rw [show (kd == 0) = false by simpa using hk]; simp; omega
  have E := Lib.hid e0
  clear ht e0
  have hfd : ∀ w : World, (Instr.field 43 (.agg #[.int .i64 kd, .string (bs tx), .int .i64 tn, .int .i64 tl, .int .i64 tc]) 0).run Tryd.prog w = .ok (.int .i64 kd) w := fun w => by kernel_rfl
  go_enter Tryd.func19, Tryd.ntmps19
  go_wp2_with fail
  refine (next_any H.out T.out).mono ?_
  rintro e w1 ⟨rfl, u1⟩
  have U := Lib.hid u1
  clear u1
  simp only [tokT, tokA]
  go_wp2_with fail
  go_ret
  exact ⟨by rw [← E.out]; rfl, U.out⟩

set_option maxHeartbeats 4000000 in
theorem atBrace_any {w : World} {p cap : Nat} {A : Option Addr} {toks : List Tok} {i nest f l c : Nat} {t : Tok} (h : Ps w p A cap toks i nest f l c) (ht : toks[i]? = some t) :
    Calls Tryd.prog 70 #[.pointer (some ⟨p, 0, none⟩)] w fun e w' => e = .returned (.bool (markT t == [125])) ∧ Up w w' := by
  have H := Lib.hid h
  have T := Lib.hid ht
  have E := Lib.hid (show ((bs (markT t)).toList == [125]) = (markT t == [125]) by rw [Tk.bs_list])
  clear h ht
  go_enter Tryd.func70, Tryd.ntmps70
  go_wp2_with fail
  refine (mark_any H.out T.out).mono ?_
  rintro e w1 ⟨rfl, u1⟩
  have U := Lib.hid u1
  clear u1
  go_wp2_with fail
  go_ret
  exact ⟨by rw [← E.out]; rfl, U.out⟩

set_option maxHeartbeats 4000000 in
theorem takes_yes {w : World} {p cap : Nat} {A : Option Addr} {toks : List Tok} {i nest f l c : Nat} {t : Tok} (h : Ps w p A cap toks i nest f l c) (ht : toks[i]? = some t) (hk : t.kind ≠ 0) (m : List UInt8) (hm : markT t = m) :
    Calls Tryd.prog 48 #[.pointer (some ⟨p, 0, none⟩), .string (bs m)] w fun e w' => e = .returned (.bool true) ∧ Ps w' p A cap toks (i + 1) nest f l c ∧ Fr (fun b => b = p) w w' := by
  have hi : i + 1 < toks.length := by
    have h1 := h.ix
    have h2 := mt (h.last i t ht).2 hk
    omega
  have H := Lib.hid h
  have T := Lib.hid ht
  have few := h.few
  obtain ⟨j, hj⟩ : ∃ j, j = i + 1 := ⟨_, rfl⟩
  rw [← hj] at hi ⊢
  have hw : (i : Int) + 1 = (j : Int) := by omega
  have hj1 : j ≤ 4001 := by omega
  have J := Lib.hid hi
  have e1 : ((bs (markT t)).toList == (bs m).toList) = true := by rw [eqL, hm]; simp
  have e2 : ((bs (markT t)).toList != (bs m).toList) = false := by rw [bne, e1]; rfl
  clear h ht hi few hj hm hk
  go_enter Tryd.func48, Tryd.ntmps48
  go_wp2_with fail
  refine (mark_any H.out T.out).mono ?_
  rintro e w1 ⟨rfl, u1⟩
  have H1 := Lib.hid (H.out.up u1)
  have U := Lib.hid u1
  have c1 := H1.out.c1
  have f1 := H1.out.fr 1
  clear u1
  go_wp2_with fail
  go_ret
  exact ⟨rfl, H1.out.setAt J.out, Fr.trans (Fr.mono U.out (T := fun b => b = p) (fun _ _ e => e.elim)) (Tk.fr_set (p := p) 1 _) (fun _ _ e => e)⟩

set_option maxHeartbeats 4000000 in
theorem takes_no {w : World} {p cap : Nat} {A : Option Addr} {toks : List Tok} {i nest f l c : Nat} {t : Tok} (h : Ps w p A cap toks i nest f l c) (ht : toks[i]? = some t) (m : List UInt8) (hm : markT t ≠ m) :
    Calls Tryd.prog 48 #[.pointer (some ⟨p, 0, none⟩), .string (bs m)] w fun e w' => e = .returned (.bool false) ∧ Up w w' := by
  have H := Lib.hid h
  have T := Lib.hid ht
  have e1 : ((bs (markT t)).toList == (bs m).toList) = false := by rw [eqL]; simpa using hm
  have e2 : ((bs (markT t)).toList != (bs m).toList) = true := by rw [bne, e1]; rfl
  clear h ht hm
  go_enter Tryd.func48, Tryd.ntmps48
  go_wp2_with fail
  refine (mark_any H.out T.out).mono ?_
  rintro e w1 ⟨rfl, u1⟩
  have U := Lib.hid u1
  clear u1
  go_wp2_with fail
  go_ret
  exact ⟨rfl, U.out⟩
end Go.Proofs.YtemmdbjcllcelaaDoor.Pa
namespace Go.Proofs.YtemmdbjcllcelaaDoor.Pa
open Go.RowKit
open Go.Proofs.YtemmdbjcllcelaaDoor.Tk (Tok TokC bs tokA zeroTok set5 set5_blk set5_fr blk_set eqL)
set_option maxRecDepth 100000

theorem Ps.setBad {w : World} {p cap : Nat} {A : Option Addr} {toks : List Tok} {i nest f l c : Nat} (h : Ps w p A cap toks i nest f l c) (e a b : Nat) :
    Ps ((((w.setCell ⟨p, 3, none⟩ (.int .i64 e)).setCell ⟨p, 4, none⟩ (.int .i64 a)).setCell ⟨p, 5, none⟩ (.int .i64 b))) p A cap toks i nest e a b ∧ Fr (fun b => b = p) w (((w.setCell ⟨p, 3, none⟩ (.int .i64 e)).setCell ⟨p, 4, none⟩ (.int .i64 a)).setCell ⟨p, 5, none⟩ (.int .i64 b)) := by
  have hf : Fr (fun b => b = p) w (((w.setCell ⟨p, 3, none⟩ (.int .i64 e)).setCell ⟨p, 4, none⟩ (.int .i64 a)).setCell ⟨p, 5, none⟩ (.int .i64 b)) :=
    ((Tk.fr_set 3 _).setCell (p := ⟨p, 4, none⟩) (fun _ => rfl) _).setCell (p := ⟨p, 5, none⟩) (fun _ => rfl) _
  exact ⟨h.put hf (by rw [blk_set (blk_set (blk_set h.obj 3 _) 4 _) 5 _]; rfl) h.ix, hf⟩

set_option maxHeartbeats 4000000 in
theorem fail_ok {w : World} {p cap : Nat} {A : Option Addr} {toks : List Tok} {i nest l c : Nat} {t : Tok} (h : Ps w p A cap toks i nest 0 l c) (ht : toks[i]? = some t) (e : Nat) :
    Calls Tryd.prog 32 #[.pointer (some ⟨p, 0, none⟩), .int .i64 e] w fun x w' => x = .returned (.tuple #[]) ∧ Ps w' p A cap toks (toks.length - 1) nest e t.line t.col ∧ Fr (fun b => b = p) w w' := by
  have H := Lib.hid h
  have T := Lib.hid ht
  have c3 := h.c3
  clear h ht
  go_enter Tryd.func32, Tryd.ntmps32
  go_wp2_with fail
  refine (next_any H.out T.out).mono ?_
  rintro x w1 ⟨rfl, u1⟩
  obtain ⟨kd, tx, tn, tl, tc⟩ := t
  simp only [tokT, tokA]
  have U := Lib.hid (u1.alloc (.cells #[.int .i64 kd, .string (bs tx), .int .i64 tn, .int .i64 tl, .int .i64 tc] 43))
  have Y := Lib.hid (Tk.cells5 (heap_alloc_new w1 (.cells #[.int .i64 kd, .string (bs tx), .int .i64 tn, .int .i64 tl, .int .i64 tc] 43)))
  have H1 := Lib.hid (H.out.up U.out)
  have HP := Lib.hid (H.out.up u1).lt
  clear u1 c3
  go_wp2_with fail
  obtain ⟨y0, y1, y2, y3, y4⟩ := Y.out
  have f3 := H1.out.fr 3
  have f4 := H1.out.fr 4
  have f5 := H1.out.fr 5
  clear Y
  obtain ⟨q, hq⟩ : ∃ q, q = w1.heap.size := ⟨_, rfl⟩
  rw [← hq] at y0 y1 y2 y3 y4 HP ⊢
  clear hq
  generalize w1.alloc (.cells #[.int .i64 kd, .string (bs tx), .int .i64 tn, .int .i64 tl, .int .i64 tc] 43) = w2 at *
  have d3 := H1.out.c3
  have d4 := H1.out.c4
  have d5 := H1.out.c5
  have hne : p ≠ q := by have := HP.out; omega
  go_region
  obtain ⟨s3, f7⟩ := H1.out.setBad e tl tc
  have F := Lib.hid (Fr.trans (Fr.mono U.out (T := fun b => b = p) (fun _ _ e => e.elim)) f7 (fun _ _ e => e)).drew
  have S := Lib.hid (s3.up (Fr.refl (fun _ => False) _).drew)
  clear s3 f7 d3 d4 d5 f3 f4 f5 y0 y1 y2 y3 y4
  generalize (((w2.setCell ⟨p, 3, none⟩ (.int .i64 e)).setCell ⟨p, 4, none⟩ (.int .i64 tl)).setCell ⟨p, 5, none⟩ (.int .i64 tc)).drew = w3 at *
  have c0 := S.out.c0
  have c1 := S.out.c1
  have f1 := S.out.fr 1
  have few := S.out.few
  obtain ⟨m, hm⟩ : ∃ m, toks.length = m + 1 := ⟨toks.length - 1, by have := S.out.ix; omega⟩
  have hw : (toks.length : Int) - 1 = (m : Int) := by omega
  have hml : m < toks.length := by omega
  have hm1 : m ≤ 4001 := by omega
  have E := Lib.hid (show toks.length - 1 = m by omega)
  have M := Lib.hid hml
  clear hm few hml
  have W := Lib.hid (show wrap64 ((toks.length : Int) - 1) = (m : Int) by rw [hw]; unfold wrap64; omega)
  clear hw
  go_wp2_with fail
  exact bodyPost_end (v := .tuple #[]) (by kernel_rfl) rfl ⟨rfl, by rw [E.out, W.out]; exact S.out.setAt M.out, Fr.trans F.out (Tk.fr_set (p := p) 1 _) (fun _ _ e => e)⟩

set_option maxHeartbeats 4000000 in
theorem fail_bad {w : World} {p cap : Nat} {A : Option Addr} {toks : List Tok} {i nest f l c : Nat} (h : Ps w p A cap toks i nest f l c) (hf : f ≠ 0) (e : Nat) :
    Calls Tryd.prog 32 #[.pointer (some ⟨p, 0, none⟩), .int .i64 e] w fun x w' => x = .returned (.tuple #[]) ∧ Up w w' := by
  have c3 := h.c3
  have e1 : ((f : Int) == 0) = false := by simp; omega
  have e2 : ((f : Int) != 0) = true := by rw [bne, e1]; rfl
  clear h hf
  go_enter Tryd.func32, Tryd.ntmps32
  go_wp2_with fail
  exact bodyPost_ret (v := .tuple #[]) (by kernel_rfl) rfl ⟨rfl, Fr.refl _ _⟩

set_option maxHeartbeats 4000000 in
theorem want_yes {w : World} {p cap : Nat} {A : Option Addr} {toks : List Tok} {i nest f l c : Nat} {t : Tok} (h : Ps w p A cap toks i nest f l c) (ht : toks[i]? = some t) (hk : t.kind ≠ 0) (m : List UInt8) (hm : markT t = m) :
    Calls Tryd.prog 28 #[.pointer (some ⟨p, 0, none⟩), .string (bs m)] w fun e w' => e = .returned (.tuple #[]) ∧ Ps w' p A cap toks (i + 1) nest f l c ∧ Fr (fun b => b = p) w w' := by
  have H := Lib.hid h
  have T := Lib.hid ht
  have K := Lib.hid hk
  have M := Lib.hid hm
  clear h ht hk hm
  go_enter Tryd.func28, Tryd.ntmps28
  go_wp2_with fail
  refine (takes_yes H.out T.out K.out m M.out).mono ?_
  rintro e w1 ⟨rfl, h1, f1⟩
  have H1 := Lib.hid h1
  have F1 := Lib.hid f1
  clear h1 f1
  go_wp2_with fail
  exact bodyPost_end (v := .tuple #[]) (by kernel_rfl) rfl ⟨rfl, H1.out, F1.out⟩

set_option maxHeartbeats 4000000 in
theorem want_no {w : World} {p cap : Nat} {A : Option Addr} {toks : List Tok} {i nest l c : Nat} {t : Tok} (h : Ps w p A cap toks i nest 0 l c) (ht : toks[i]? = some t) (m : List UInt8) (hm : markT t ≠ m) :
    Calls Tryd.prog 28 #[.pointer (some ⟨p, 0, none⟩), .string (bs m)] w fun e w' => e = .returned (.tuple #[]) ∧ Ps w' p A cap toks (toks.length - 1) nest 13 t.line t.col ∧ Fr (fun b => b = p) w w' := by
  have H := Lib.hid h
  have T := Lib.hid ht
  have M := Lib.hid hm
  clear h ht hm
  go_enter Tryd.func28, Tryd.ntmps28
  go_wp2_with fail
  refine (takes_no H.out T.out m M.out).mono ?_
  rintro e w1 ⟨rfl, u1⟩
  have H1 := Lib.hid (H.out.up u1)
  have U := Lib.hid u1
  clear u1
  go_wp2_with fail
  refine (fail_ok H1.out T.out 13).mono ?_
  rintro e w2 ⟨rfl, h2, f2⟩
  have H2 := Lib.hid h2
  have F2 := Lib.hid (Fr.trans (Fr.mono U.out (T := fun b => b = p) (fun _ _ e => e.elim)) f2 (fun _ _ e => e))
  clear h2 f2
  go_wp2_with fail
  exact bodyPost_end (v := .tuple #[]) (by kernel_rfl) rfl ⟨rfl, H2.out, F2.out⟩
end Go.Proofs.YtemmdbjcllcelaaDoor.Pa
namespace Go.Proofs.YtemmdbjcllcelaaDoor.Pa
open Go.RowKit
open Go.Proofs.YtemmdbjcllcelaaDoor.Tk (Tok TokC bs tokA zeroTok set5 set5_blk set5_fr blk_set eqL)
set_option maxRecDepth 100000

set_option maxHeartbeats 4000000 in
theorem name_yes {w : World} {p cap : Nat} {A : Option Addr} {toks : List Tok} {i nest f l c : Nat} {t : Tok} (h : Ps w p A cap toks i nest f l c) (ht : toks[i]? = some t) (hk : t.kind = 2) :
    Calls Tryd.prog 50 #[.pointer (some ⟨p, 0, none⟩)] w fun e w' => e = .returned (.string (bs t.text)) ∧ Ps w' p A cap toks (i + 1) nest f l c ∧ Fr (fun b => b = p) w w' := by
  have hi : i + 1 < toks.length := by
    have h1 := h.ix
    have h2 := mt (h.last i t ht).2 (by omega)
    omega
  obtain ⟨kd, tx, tn, tl, tc⟩ := t
  simp only at hk
  have k2 : ((kd : Int) != 2) = false := by subst hk; rfl
  clear hk
  have H := Lib.hid h
  have T := Lib.hid ht
  have few := h.few
  obtain ⟨j, hj⟩ : ∃ j, j = i + 1 := ⟨_, rfl⟩
  rw [← hj] at hi ⊢
  have hw : (i : Int) + 1 = (j : Int) := by omega
  have hj1 : j ≤ 4001 := by omega
  have W := Lib.hid (show wrap64 ((i : Int) + 1) = (j : Int) by rw [hw]; unfold wrap64; omega)
  have J := Lib.hid hi
  clear h ht hi few hj hw hj1
  go_enter Tryd.func50, Tryd.ntmps50
  go_wp2_with fail
  refine (next_any H.out T.out).mono ?_
  rintro e w1 ⟨rfl, u1⟩
  simp only [tokT, tokA]
  have U := Lib.hid (u1.alloc (.cells #[.int .i64 kd, .string (bs tx), .int .i64 tn, .int .i64 tl, .int .i64 tc] 43))
  have Y := Lib.hid (Tk.cells5 (heap_alloc_new w1 (.cells #[.int .i64 kd, .string (bs tx), .int .i64 tn, .int .i64 tl, .int .i64 tc] 43)))
  have H1 := Lib.hid (H.out.up U.out)
  have HP := Lib.hid (H.out.up u1).lt
  clear u1
  obtain ⟨y0, y1, y2, y3, y4⟩ := Y.out
  clear Y
  have d1 := H1.out.c1
  have g1 := H1.out.fr 1
  have hne : p ≠ w1.heap.size := by have := HP.out; omega
  have hne2 : w1.heap.size ≠ p := fun e => hne e.symm
  go_wp2_with fail
  go_ret
  rw [W.out]
  exact ⟨rfl, H1.out.setAt J.out, Fr.trans (Fr.mono U.out (T := fun b => b = p) (fun _ _ e => e.elim)) (Tk.fr_set (p := p) 1 _) (fun _ _ e => e)⟩

set_option maxHeartbeats 4000000 in
theorem name_no {w : World} {p cap : Nat} {A : Option Addr} {toks : List Tok} {i nest l c : Nat} {t : Tok} (h : Ps w p A cap toks i nest 0 l c) (ht : toks[i]? = some t) (hk : t.kind ≠ 2) :
    Calls Tryd.prog 50 #[.pointer (some ⟨p, 0, none⟩)] w fun e w' => e = .returned (.string (bs [])) ∧ Ps w' p A cap toks (toks.length - 1) nest 13 t.line t.col ∧ Fr (fun b => b = p) w w' := by
  obtain ⟨kd, tx, tn, tl, tc⟩ := t
  simp only at hk
  have k1 : ((kd : Int) == 2) = false := by simp; omega
  have k2 : ((kd : Int) != 2) = true := by rw [bne, k1]; rfl
  clear hk
  have H := Lib.hid h
  have T := Lib.hid ht
  clear h ht
  go_enter Tryd.func50, Tryd.ntmps50
  go_wp2_with fail
  refine (next_any H.out T.out).mono ?_
  rintro e w1 ⟨rfl, u1⟩
  simp only [tokT, tokA]
  have U := Lib.hid (u1.alloc (.cells #[.int .i64 kd, .string (bs tx), .int .i64 tn, .int .i64 tl, .int .i64 tc] 43))
  have H1 := Lib.hid (H.out.up U.out)
  clear u1
  go_wp2_with fail
  refine (fail_ok H1.out T.out 13).mono ?_
  rintro e w2 ⟨rfl, h2, f2⟩
  have H2 := Lib.hid h2
  have F2 := Lib.hid (Fr.trans (Fr.mono U.out (T := fun b => b = p) (fun _ _ e => e.elim)) f2 (fun _ _ e => e))
  clear h2 f2
  go_wp2_with fail
  go_ret
  exact ⟨rfl, H2.out, F2.out⟩
end Go.Proofs.YtemmdbjcllcelaaDoor.Pa
namespace Go.Proofs.YtemmdbjcllcelaaDoor.Pa
open Go.RowKit
open Go.Proofs.YtemmdbjcllcelaaDoor.Tk (Tok TokC bs tokA zeroTok set5 set5_blk set5_fr blk_set eqL)
set_option maxRecDepth 100000

/-- A node as a value: six cells, its kids a slice. -/
abbrev ndA (kind : Nat) (name : List UInt8) (n : Int) (line col : Nat) (kids : Value) : Value := .agg #[.int .i64 kind, .string (bs name), .int .i64 n, .int .i64 line, .int .i64 col, kids]
abbrev zeroNd : Obj := .cells #[.int .i64 0, .string ⟨#[]⟩, .int .i64 0, .int .i64 0, .int .i64 0, .slice none 0 0] 27

abbrev set6 (w' : World) (q : Nat) (u0 u1 u2 u3 u4 u5 : Value) : World := (((((w'.setCell ⟨q, 0, none⟩ u0).setCell ⟨q, 1, none⟩ u1).setCell ⟨q, 2, none⟩ u2).setCell ⟨q, 3, none⟩ u3).setCell ⟨q, 4, none⟩ u4).setCell ⟨q, 5, none⟩ u5
theorem set6_blk {w' : World} {q : Nat} {c0 c1 c2 c3 c4 c5 : Value} {t : TypeId} (h : w'.heap[q]? = some (.cells #[c0, c1, c2, c3, c4, c5] t (0, 0))) (u0 u1 u2 u3 u4 u5 : Value) :
    (set6 w' q u0 u1 u2 u3 u4 u5).heap[q]? = some (.cells #[u0, u1, u2, u3, u4, u5] t (0, 0)) := by
  rw [blk_set (blk_set (blk_set (blk_set (blk_set (blk_set h 0 _) 1 _) 2 _) 3 _) 4 _) 5 _]; rfl
theorem set6_fr (w' : World) (q : Nat) (u0 u1 u2 u3 u4 u5 : Value) : Fr (fun b => b = q) w' (set6 w' q u0 u1 u2 u3 u4 u5) :=
  (((((Tk.fr_set 0 u0).setCell (p := ⟨q, 1, none⟩) (fun _ => rfl) u1).setCell (p := ⟨q, 2, none⟩) (fun _ => rfl) u2).setCell (p := ⟨q, 3, none⟩) (fun _ => rfl) u3).setCell (p := ⟨q, 4, none⟩) (fun _ => rfl) u4).setCell (p := ⟨q, 5, none⟩) (fun _ => rfl) u5
theorem cells6 {w : World} {q : Nat} {c0 c1 c2 c3 c4 c5 : Value} {t : TypeId} (h : w.heap[q]? = some (.cells #[c0, c1, c2, c3, c4, c5] t (0, 0))) :
    w.cell? ⟨q, 0, none⟩ = some c0 ∧ w.cell? ⟨q, 1, none⟩ = some c1 ∧ w.cell? ⟨q, 2, none⟩ = some c2 ∧ w.cell? ⟨q, 3, none⟩ = some c3 ∧ w.cell? ⟨q, 4, none⟩ = some c4 ∧ w.cell? ⟨q, 5, none⟩ = some c5 := by
  refine ⟨?_, ?_, ?_, ?_, ?_, ?_⟩ <;> (rw [cell_of_row w q _ _ _ _ h]; rfl)

set_option maxHeartbeats 4000000 in
theorem begin_any {w : World} {p cap : Nat} {A : Option Addr} {toks : List Tok} {i nest f l c : Nat} {t : Tok} (h : Ps w p A cap toks i nest f l c) (ht : toks[i]? = some t) (kind : Nat) :
    Calls Tryd.prog 16 #[.pointer (some ⟨p, 0, none⟩), .int .i64 kind] w fun e w' => e = .returned (ndA kind [] 0 t.line t.col (.slice none 0 0)) ∧ Up w w' := by
  obtain ⟨kd, tx, tn, tl, tc⟩ := t
  have H := Lib.hid h
  have T := Lib.hid ht
  clear h ht
  go_enter Tryd.func16, Tryd.ntmps16
  go_wp2_with fail
  have H0 := Lib.hid (H.out.up ((Fr.refl (fun _ => False) w).alloc zeroNd))
  have B0 := Lib.hid (heap_alloc_new w zeroNd)
  have U0 := Lib.hid ((Fr.refl (fun _ => False) w).alloc zeroNd)
  have L0 := Lib.hid (show w.heap.size < (w.alloc zeroNd).heap.size from heap_lt B0.out)
  obtain ⟨q, hq⟩ : ∃ q, q = w.heap.size := ⟨_, rfl⟩
  rw [← hq] at B0 L0 ⊢
  have Q := Lib.hid hq
  clear hq
  generalize w.alloc zeroNd = w0 at *
  refine (next_any H0.out T.out).mono ?_
  rintro x w1 ⟨rfl, u1⟩
  simp only [tokT, tokA]
  have B1 := Lib.hid ((u1.block q L0.out (fun e => e)).trans B0.out)
  have U := Lib.hid ((Fr.trans U0.out u1 (fun _ _ e => e)).alloc (.cells #[.int .i64 kd, .string (bs tx), .int .i64 tn, .int .i64 tl, .int .i64 tc] 43))
  have hlt : q < w1.heap.size := heap_lt B1.out
  have Y := Lib.hid (Tk.cells5 (heap_alloc_new w1 (.cells #[.int .i64 kd, .string (bs tx), .int .i64 tn, .int .i64 tl, .int .i64 tc] 43)))
  obtain ⟨y0, y1, y2, y3, y4⟩ := Y.out
  have B2 := Lib.hid ((((Fr.refl (fun _ => False) w1).alloc (.cells #[.int .i64 kd, .string (bs tx), .int .i64 tn, .int .i64 tl, .int .i64 tc] 43)).block q hlt (fun e => e)).trans B1.out)
  obtain ⟨x0, x1, x2, x3, x4, x5⟩ := cells6 B2.out
  have z0 := frozen_of_row _ q 0 _ _ B2.out
  have z1 := frozen_of_row _ q 1 _ _ B2.out
  have z2 := frozen_of_row _ q 2 _ _ B2.out
  have z3 := frozen_of_row _ q 3 _ _ B2.out
  have z4 := frozen_of_row _ q 4 _ _ B2.out
  have z5 := frozen_of_row _ q 5 _ _ B2.out
  have hne : q ≠ w1.heap.size := by omega
  clear Y u1 hlt
  go_wp2_with fail
  have b7 := set6_blk B2.out (.int .i64 kind) (.string ⟨#[]⟩) (.int .i64 0) (.int .i64 tl) (.int .i64 tc) (.slice none 0 0)
  have f7 := set6_fr (w1.alloc (.cells #[.int .i64 kd, .string (bs tx), .int .i64 tn, .int .i64 tl, .int .i64 tc] 43)) q (.int .i64 kind) (.string ⟨#[]⟩) (.int .i64 0) (.int .i64 tl) (.int .i64 tc) (.slice none 0 0)
  exact bodyPost_ret (res_nodec (x := 4) (q := q) (by kernel_rfl) rfl b7 rfl) rfl ⟨rfl, Fr.trans U.out f7 (fun i hi e => by have := Q.out; omega)⟩

set_option maxHeartbeats 4000000 in
theorem pass_yes {w : World} {p cap : Nat} {A : Option Addr} {toks : List Tok} {i nest f l c : Nat} {t : Tok} (h : Ps w p A cap toks i nest f l c) (ht : toks[i]? = some t) (hk : t.kind ≠ 0) (kind : Nat) :
    Calls Tryd.prog 49 #[.pointer (some ⟨p, 0, none⟩), .int .i64 kind] w fun e w' => e = .returned (ndA kind [] 0 t.line t.col (.slice none 0 0)) ∧ Ps w' p A cap toks (i + 1) nest f l c ∧ Fr (fun b => b = p) w w' := by
  have hi : i + 1 < toks.length := by
    have h1 := h.ix
    have h2 := mt (h.last i t ht).2 hk
    omega
  have H := Lib.hid h
  have T := Lib.hid ht
  have few := h.few
  obtain ⟨j, hj⟩ : ∃ j, j = i + 1 := ⟨_, rfl⟩
  rw [← hj] at hi ⊢
  have hw : (i : Int) + 1 = (j : Int) := by omega
  have hj1 : j ≤ 4001 := by omega
  have W := Lib.hid (show wrap64 ((i : Int) + 1) = (j : Int) by rw [hw]; unfold wrap64; omega)
  have J := Lib.hid hi
  clear h ht hi few hj hw hj1 hk
  go_enter Tryd.func49, Tryd.ntmps49
  go_wp2_with fail
  have H0 := Lib.hid (H.out.up ((Fr.refl (fun _ => False) w).alloc zeroNd))
  have B0 := Lib.hid (heap_alloc_new w zeroNd)
  have U0 := Lib.hid ((Fr.refl (fun _ => False) w).alloc zeroNd)
  have L0 := Lib.hid (show w.heap.size < (w.alloc zeroNd).heap.size from heap_lt B0.out)
  have P0 := Lib.hid H.out.lt
  obtain ⟨q, hq⟩ : ∃ q, q = w.heap.size := ⟨_, rfl⟩
  rw [← hq] at B0 L0 P0 ⊢
  have Q := Lib.hid hq
  clear hq
  generalize w.alloc zeroNd = w0 at *
  refine (begin_any H0.out T.out kind).mono ?_
  rintro x w1 ⟨rfl, u1⟩
  simp only [ndA]
  have B1 := Lib.hid ((u1.block q L0.out (fun e => e)).trans B0.out)
  have U := Lib.hid ((Fr.trans U0.out u1 (fun _ _ e => e)).alloc (.cells #[.int .i64 kind, .string (bs []), .int .i64 0, .int .i64 t.line, .int .i64 t.col, .slice none 0 0] 27))
  have H1 := Lib.hid (H.out.up U.out)
  have hlt : q < w1.heap.size := heap_lt B1.out
  have Y := Lib.hid (cells6 (heap_alloc_new w1 (.cells #[.int .i64 kind, .string (bs []), .int .i64 0, .int .i64 t.line, .int .i64 t.col, .slice none 0 0] 27)))
  obtain ⟨y0, y1, y2, y3, y4, y5⟩ := Y.out
  have B2 := Lib.hid ((((Fr.refl (fun _ => False) w1).alloc (.cells #[.int .i64 kind, .string (bs []), .int .i64 0, .int .i64 t.line, .int .i64 t.col, .slice none 0 0] 27)).block q hlt (fun e => e)).trans B1.out)
  obtain ⟨x0, x1, x2, x3, x4, x5⟩ := cells6 B2.out
  have z0 := frozen_of_row _ q 0 _ _ B2.out
  have z1 := frozen_of_row _ q 1 _ _ B2.out
  have z2 := frozen_of_row _ q 2 _ _ B2.out
  have z3 := frozen_of_row _ q 3 _ _ B2.out
  have z4 := frozen_of_row _ q 4 _ _ B2.out
  have z5 := frozen_of_row _ q 5 _ _ B2.out
  have d1 := H1.out.c1
  have g1 := H1.out.fr 1
  have hne : q ≠ w1.heap.size := by omega
  have hpq : p ≠ q := by have := P0.out; omega
  have hpr : p ≠ w1.heap.size := by have := P0.out; omega
  clear Y u1 hlt
  go_wp2_with fail
  rw [W.out]
  clear x0 x1 x2 x3 x4 x5 y0 y1 y2 y3 y4 y5 z0 z1 z2 z3 z4 z5 d1 g1
  generalize w1.alloc (.cells #[.int .i64 kind, .string (bs []), .int .i64 0, .int .i64 t.line, .int .i64 t.col, .slice none 0 0] 27) = w2 at *
  have s3 := H1.out.setAt J.out
  have f3 := Fr.trans (Fr.mono U.out (T := fun b => b = p) (fun _ _ e => e.elim)) (Tk.fr_set (w := w2) (p := p) 1 (.int .i64 j)) (fun _ _ e => e)
  have B3 : (w2.setCell ⟨p, 1, none⟩ (.int .i64 j)).heap[q]? = some zeroNd := ((Tk.fr_set (w := w2) (p := p) 1 (.int .i64 j)).block q (heap_lt B2.out) (fun e => hpq e.symm)).trans B2.out
  generalize w2.setCell ⟨p, 1, none⟩ (.int .i64 j) = w3 at *
  have b7 := set6_blk B3 (.int .i64 kind) (.string (bs [])) (.int .i64 0) (.int .i64 t.line) (.int .i64 t.col) (.slice none 0 0)
  have f7 := set6_fr w3 q (.int .i64 kind) (.string (bs [])) (.int .i64 0) (.int .i64 t.line) (.int .i64 t.col) (.slice none 0 0)
  have f8 := Fr.trans f3 f7 (fun i hi e => by have := Q.out; omega)
  exact bodyPost_ret (res_nodec (x := 4) (q := q) (by kernel_rfl) rfl b7 rfl) rfl ⟨rfl, H.out.put f8 ((f7.block p s3.lt hpq).trans s3.obj) J.out, f8⟩
end Go.Proofs.YtemmdbjcllcelaaDoor.Pa
namespace Go.Proofs.YtemmdbjcllcelaaDoor.Pa
open Go.RowKit
open Go.Proofs.YtemmdbjcllcelaaDoor.Tk (bs)

/-- A node in six cells; its kids lie in blocks of G. -/
inductive NdC (w : World) (G : Nat → Prop) : Nd → List Value → Prop
  | mk (kind : Nat) (name : List UInt8) (n line col : Nat) (kids : List Nd) (A : Option Addr) (c : Nat) (le : kids.length ≤ c) (big : c ≤ 9223372036854775807) (css : Nat → Nd → List Value)
      (at_ : kids ≠ [] → ∃ b o, A = some ⟨b, o, none⟩ ∧ G b ∧ b < w.heap.size ∧ ∀ (j : Nat) (x : Nd), kids[j]? = some x → (css j x).length = 6 ∧ ∀ i u, (css j x)[i]? = some u → w.cell? ⟨b, o + j * 6 + i, none⟩ = some u)
      (sub : ∀ (j : Nat) (x : Nd), kids[j]? = some x → NdC w G x (css j x)) :
      NdC w G (.mk kind name n line col kids) [.int .i64 kind, .string (bs name), .int .i64 n, .int .i64 line, .int .i64 col, .slice A kids.length c]

section
variable {w w' : World} {G G' S : Nat → Prop} {t : Nd} {cs : List Value} {kind n line col : Nat} {name : List UInt8} {kids : List Nd} {A : Option Addr} {c : Nat}

abbrev KidsP (w : World) (G : Nat → Prop) := SlP w G 6 (NdC w G)

theorem NdC.row (h : NdC w G (.mk kind name n line col kids) cs) : ∃ A c, cs = [.int .i64 kind, .string (bs name), .int .i64 n, .int .i64 line, .int .i64 col, .slice A kids.length c] ∧ KidsP w G A c kids := by
  cases h with
  | mk _ _ _ _ _ _ A c le big css at_ sub =>
    refine ⟨A, c, rfl, le, big, fun hne => ?_⟩
    obtain ⟨b, o, e, hb, hlt, hx⟩ := at_ hne
    exact ⟨b, o, e, hb, hlt, fun j x hj => ⟨css j x, sub j x hj, (hx j x hj).1, (hx j x hj).2⟩⟩

theorem NdC.of (h : KidsP w G A c kids) (kind : Nat) (name : List UInt8) (n line col : Nat) :
    NdC w G (.mk kind name n line col kids) [.int .i64 kind, .string (bs name), .int .i64 n, .int .i64 line, .int .i64 col, .slice A kids.length c] := by
  by_cases hne : kids = []
  · subst hne
    exact .mk kind name n line col [] A c h.le h.big (fun _ _ => []) (fun e => absurd rfl e) (fun j x hj => by simp at hj)
  · obtain ⟨b, o, e, hb, hlt, hx⟩ := h.at_ hne
    refine .mk kind name n line col kids A c h.le h.big (fun j x => open Classical in if hj : kids[j]? = some x then (hx j x hj).choose else []) (fun _ => ⟨b, o, e, hb, hlt, fun j x hj => ?_⟩) (fun j x hj => ?_)
    · simp only [dif_pos hj]
      exact (hx j x hj).choose_spec.2
    · simp only [dif_pos hj]
      exact (hx j x hj).choose_spec.1

theorem NdC.kept (h : NdC w G t cs) (hf : Fr S w w') (hG : ∀ b, G b → ¬ S b) (hG' : ∀ b, G b → G' b) : NdC w' G' t cs := by
  induction h with
  | mk kind name n line col kids A c le big css at_ sub ih =>
    refine .mk kind name n line col kids A c le big css (fun hne => ?_) ih
    obtain ⟨b, o, e, hb, hlt, hx⟩ := at_ hne
    exact ⟨b, o, e, hG' b hb, Nat.lt_of_lt_of_le hlt hf.size, fun j x hj => ⟨(hx j x hj).1, fun i u hu => (hf.cell (p := ⟨b, o + j * 6 + i, none⟩) hlt (hG b hb)).trans ((hx j x hj).2 i u hu)⟩⟩
theorem NdC.six (h : NdC w G t cs) : cs.length = 6 := by cases h; rfl
theorem KidsP.kept (h : KidsP w G A c kids) (hf : Fr S w w') (hG : ∀ b, G b → ¬ S b) (hG' : ∀ b, G b → G' b) : KidsP w' G' A c kids := SlP.kept h hf hG hG' (fun _ _ _ h => h.kept hf hG hG')
theorem NdC.leaf (w : World) (G : Nat → Prop) (kind : Nat) (name : List UInt8) (n line col : Nat) : NdC w G (.mk kind name n line col []) [.int .i64 kind, .string (bs name), .int .i64 n, .int .i64 line, .int .i64 col, .slice none 0 0] := NdC.of SlP.none_ kind name n line col
end
end Go.Proofs.YtemmdbjcllcelaaDoor.Pa
namespace Go.Proofs.YtemmdbjcllcelaaDoor.Pa
open Go.RowKit
open Go.Proofs.YtemmdbjcllcelaaDoor.Tk (Tok TokC bs tokA zeroTok set5 set5_blk set5_fr blk_set eqL)
set_option maxRecDepth 100000

def atOf (w : World) (p : Nat) : Nat := match w.cell? ⟨p, 1, none⟩ with
  | some (.int _ n) => n.toNat
  | _ => 0
theorem Ps.pos {w : World} {p cap : Nat} {A : Option Addr} {toks : List Tok} {i nest f l c : Nat} (h : Ps w p A cap toks i nest f l c) : atOf w p = i := by
  unfold atOf; rw [h.c1]; simp
theorem drop_cons {toks : List Tok} {j : Nat} {t : Tok} (h : toks[j]? = some t) : toks.drop j = t :: toks.drop (j + 1) := by
  obtain ⟨hj, e⟩ := List.getElem?_eq_some_iff.1 h
  rw [List.drop_eq_getElem_cons hj, e]

set_option maxHeartbeats 4000000 in
theorem skipSemis_any {w : World} {p cap : Nat} {A : Option Addr} {toks : List Tok} {i nest f l c : Nat} (h : Ps w p A cap toks i nest f l c) :
    Calls Tryd.prog 27 #[.pointer (some ⟨p, 0, none⟩)] w fun e w' => e = .returned (.tuple #[]) ∧ ∃ j, i ≤ j ∧ semis (toks.drop i) = toks.drop j ∧ Ps w' p A cap toks j nest f l c ∧ Fr (fun b => b = p) w w' := by
  have H := Lib.hid h
  clear h
  go_enter Tryd.func27, Tryd.ntmps27
  go_wp2_with fail
  go_loopw [] (fun wr => ∃ j : Nat, Hid (i ≤ j ∧ semis (toks.drop i) = semis (toks.drop j) ∧ Ps wr p A cap toks j nest f l c ∧ Fr (fun b => b = p) w wr)) (fun wr => toks.length - atOf wr p)
  case atStart => exact ⟨i, Lib.hid ⟨Nat.le_refl _, rfl, H.out, Fr.refl _ _⟩⟩
  case round =>
    obtain ⟨j, hm⟩ := hrel
    obtain ⟨t, ht⟩ : ∃ t, toks[j]? = some t := ⟨_, List.getElem?_eq_getElem hm.out.2.2.1.ix⟩
    have T := Lib.hid ht
    have E := Lib.hid (drop_cons ht)
    clear ht
    have X := Lib.hid hm.out.2.2.1.pos
    by_cases hk : markT t = [59]
    · have k0 : t.kind ≠ 0 := by
        intro h0
        rw [markT, h0] at hk
        simp at hk
      have K := Lib.hid k0
      have M := Lib.hid hk
      clear k0 hk
      go_wp2_with fail
      refine (takes_yes hm.out.2.2.1 T.out K.out [59] M.out).mono ?_
      rintro e w1 ⟨rfl, h1, f1⟩
      have H1 := Lib.hid h1
      have F1 := Lib.hid (Fr.trans hm.out.2.2.2 f1 (fun _ _ e => e))
      clear h1 f1
      go_wp2_with fail
      go_roundw
      case rel => exact ⟨j + 1, Lib.hid ⟨Nat.le_succ_of_le hm.out.1, by
        rw [hm.out.2.1, E.out, semis, if_pos]
        rw [mark_cons]; exact M.out, H1.out, F1.out⟩⟩
      case measure => rw [H1.out.pos, X.out]; have := hm.out.2.2.1.ix; omega
    · have M := Lib.hid hk
      clear hk
      go_wp2_with fail
      refine (takes_no hm.out.2.2.1 T.out [59] M.out).mono ?_
      rintro e w1 ⟨rfl, u1⟩
      have U := Lib.hid u1
      clear u1
      go_wp2_with fail
      refine bodyPost_end (v := .tuple #[]) (by kernel_rfl) rfl ⟨rfl, j, hm.out.1, ?_, hm.out.2.2.1.up U.out, Fr.trans hm.out.2.2.2 (Fr.mono U.out (T := fun b => b = p) (fun _ _ e => e.elim)) (fun _ _ e => e)⟩
      rw [hm.out.2.1, E.out, semis, if_neg]
      rw [mark_cons]; exact M.out
end Go.Proofs.YtemmdbjcllcelaaDoor.Pa
namespace Go.Proofs.YtemmdbjcllcelaaDoor.Pa
open Go.RowKit
open Go.Proofs.YtemmdbjcllcelaaDoor.Tk (Tok TokC bs tokA zeroTok set5 set5_blk set5_fr blk_set eqL)
set_option maxRecDepth 100000

/-- A rule is done: the tree lies in new blocks; the parser is where the grammar says. -/
def Done (w : World) (p cap : Nat) (A : Option Addr) (toks : List Tok) (nest l c : Nat) (R : Rs) (e : Ending) (w' : World) : Prop :=
  ∃ t cs, e = .returned (.agg cs.toArray) ∧ NdC w' (fun b => w.heap.size ≤ b) t cs ∧ Fr (fun b => b = p) w w' ∧
    match R with
    | .ok t' rest => t = t' ∧ ∃ j, rest = toks.drop j ∧ Ps w' p A cap toks j nest 0 l c
    | .bad a b e => e ≠ 0 ∧ Ps w' p A cap toks (toks.length - 1) nest e a b
    | .dry => False
/-- Something was wrong before: a tree comes back, and the parser stays. -/
def Idle (w : World) (p cap : Nat) (A : Option Addr) (toks : List Tok) (nest f l c : Nat) (e : Ending) (w' : World) : Prop :=
  ∃ t cs, e = .returned (.agg cs.toArray) ∧ NdC w' (fun b => w.heap.size ≤ b) t cs ∧ Fr (fun b => b = p) w w' ∧ Ps w' p A cap toks (toks.length - 1) nest f l c

theorem Ps.setNest {w : World} {p cap : Nat} {A : Option Addr} {toks : List Tok} {i nest f l c : Nat} (h : Ps w p A cap toks i nest f l c) (m : Nat) : Ps (w.setCell ⟨p, 2, none⟩ (.int .i64 m)) p A cap toks i m f l c :=
  h.put (Tk.fr_set (p := p) 2 _) (by rw [blk_set h.obj]; rfl) h.ix

/-- A tree came back, and the parser is somewhere. -/
def Came (w : World) (p cap : Nat) (A : Option Addr) (toks : List Tok) (nest : Nat) (t : Nd) (e : Ending) (w' : World) (j f l c : Nat) : Prop :=
  ∃ cs, e = .returned (.agg cs.toArray) ∧ NdC w' (fun b => w.heap.size ≤ b) t cs ∧ Fr (fun b => b = p) w w' ∧ Ps w' p A cap toks j nest f l c

set_option maxHeartbeats 4000000 in
theorem inside_run {w : World} {p cap : Nat} {A : Option Addr} {toks : List Tok} {i nest f l c : Nat} (h : Ps w p A cap toks i nest f l c) (g : Nat) (hE : ∀ (args : Array Value) (w : World), (callFunc g args).run Tryd.prog w = .ok (.enter g args) w)
    (hn : nest < 40) (K : Nd → Nat → Nat → Nat → Nat → Prop)
    (hr : ∀ w1, Ps w1 p A cap toks i (nest + 1) f l c → Calls Tryd.prog g #[.pointer (some ⟨p, 0, none⟩)] w1 fun e w' => ∃ t j f' l' c', K t j f' l' c' ∧ Came w1 p cap A toks (nest + 1) t e w' j f' l' c') :
    Calls Tryd.prog 72 #[.pointer (some ⟨p, 0, none⟩), .func (.func g) #[.pointer (some ⟨p, 0, none⟩)] #[]] w fun e w' => ∃ t j f' l' c', K t j f' l' c' ∧ Came w p cap A toks nest t e w' j f' l' c' := by
  have H := Lib.hid h
  have HR := Lib.hid hr
  have n1 : ((nest : Int) == 40) = false := by simp; omega
  obtain ⟨m, hm⟩ : ∃ m, m = nest + 1 := ⟨_, rfl⟩
  have W1 := Lib.hid (show wrap64 ((nest : Int) + 1) = (m : Int) by unfold wrap64; omega)
  have W2 := Lib.hid (show wrap64 ((m : Int) - 1) = (nest : Int) by unfold wrap64; omega)
  have M := Lib.hid hm
  clear h hr hn hm
  go_enter Tryd.func72, Tryd.ntmps72
  have H0 := Lib.hid (H.out.up ((Fr.refl (fun _ => False) w).alloc zeroNd))
  have B0 := Lib.hid (heap_alloc_new w zeroNd)
  have U0 := Lib.hid ((Fr.refl (fun _ => False) w).alloc zeroNd)
  have L0 := Lib.hid (show w.heap.size < (w.alloc zeroNd).heap.size from heap_lt B0.out)
  have P0 := Lib.hid H.out.lt
  have d2 := H0.out.c2
  have g2 := H0.out.fr 2
  go_wp2_with fail
  rw [W1.out]
  clear d2 g2 n1
  have s1 := H0.out.setNest m
  have f1 := Tk.fr_set (w := w.alloc zeroNd) (p := p) 2 (.int .i64 m)
  change Calls _ _ _ ((w.alloc zeroNd).setCell ⟨p, 2, none⟩ (.int .i64 m)) _
  obtain ⟨q, hq⟩ : ∃ q, q = w.heap.size := ⟨_, rfl⟩
  rw [← hq] at B0 L0 P0 ⊢
  have Q := Lib.hid hq
  have B1 := Lib.hid ((f1.block q L0.out (fun e => by have := P0.out; omega)).trans B0.out)
  have F1 := Lib.hid (Fr.trans (Fr.mono U0.out (T := fun b => b = p) (fun _ _ e => e.elim)) f1 (fun _ _ e => e))
  have S1 := Lib.hid s1
  clear hq s1 f1 H0 B0 U0 L0
  generalize (w.alloc zeroNd).setCell ⟨p, 2, none⟩ (.int .i64 m) = w1 at *
  refine (HR.out w1 (by rw [← M.out]; exact S1.out)).mono ?_
  rintro e w2 ⟨t, j, f', l', c', hK, cs, rfl, hN, hF, hP⟩
  rw [← M.out] at hP
  obtain ⟨kind, name, n, line, col, kids⟩ := t
  obtain ⟨A', cc, rfl, hk⟩ := hN.row
  have KK := Lib.hid hK
  have ND := Lib.hid hk
  have hlt1 : q < w1.heap.size := heap_lt B1.out
  have HL := Lib.hid hlt1
  have b2 := (hF.block q hlt1 (fun e => by have := P0.out; omega)).trans B1.out
  have hlt2 : q < w2.heap.size := heap_lt b2
  have F2 := Lib.hid (Fr.trans F1.out hF (fun _ _ e => e))
  have a2 := (Fr.refl (fun _ => False) w2).alloc (.cells #[.int .i64 kind, .string (bs name), .int .i64 n, .int .i64 line, .int .i64 col, .slice A' kids.length cc] 27)
  have A2 := Lib.hid a2
  have P3 := Lib.hid (hP.up a2)
  have B3 := Lib.hid ((a2.block q hlt2 (fun e => e)).trans b2)
  obtain ⟨y0, y1, y2, y3, y4, y5⟩ := cells6 (heap_alloc_new w2 (.cells #[.int .i64 kind, .string (bs name), .int .i64 n, .int .i64 line, .int .i64 col, .slice A' kids.length cc] 27))
  obtain ⟨x0, x1, x2, x3, x4, x5⟩ := cells6 B3.out
  have z0 := frozen_of_row _ q 0 _ _ B3.out
  have z1 := frozen_of_row _ q 1 _ _ B3.out
  have z2 := frozen_of_row _ q 2 _ _ B3.out
  have z3 := frozen_of_row _ q 3 _ _ B3.out
  have z4 := frozen_of_row _ q 4 _ _ B3.out
  have z5 := frozen_of_row _ q 5 _ _ B3.out
  have d2 := P3.out.c2
  have g2 := P3.out.fr 2
  have hne : q ≠ w2.heap.size := by omega
  have hpq : p ≠ q := by have := P0.out; omega
  have hpr : p ≠ w2.heap.size := by have := P0.out; omega
  clear hK hN hk hF hP hlt1 hlt2 b2 a2
  go_wp2_with fail
  rw [W2.out]
  clear x0 x1 x2 x3 x4 x5 y0 y1 y2 y3 y4 y5 z0 z1 z2 z3 z4 z5 d2 g2
  generalize w2.alloc (.cells #[.int .i64 kind, .string (bs name), .int .i64 n, .int .i64 line, .int .i64 col, .slice A' kids.length cc] 27) = w3 at *
  have s4 := P3.out.setNest nest
  have f4 := Tk.fr_set (w := w3) (p := p) 2 (.int .i64 nest)
  have b4 : (w3.setCell ⟨p, 2, none⟩ (.int .i64 nest)).heap[q]? = some zeroNd := (f4.block q (heap_lt B3.out) (fun e => hpq e.symm)).trans B3.out
  generalize w3.setCell ⟨p, 2, none⟩ (.int .i64 nest) = w4 at *
  have b7 := set6_blk b4 (.int .i64 kind) (.string (bs name)) (.int .i64 n) (.int .i64 line) (.int .i64 col) (.slice A' kids.length cc)
  have f7 := set6_fr w4 q (.int .i64 kind) (.string (bs name)) (.int .i64 n) (.int .i64 line) (.int .i64 col) (.slice A' kids.length cc)
  have fA : Fr (fun b => b = p ∨ b = q) w2 _ := Fr.trans (Fr.trans (Fr.mono A2.out (T := fun b => b = p ∨ b = q) (fun _ _ e => e.elim)) f4 (fun _ _ e => .inl e)) f7 (fun _ _ e => .inr e)
  have fB := Fr.trans F2.out fA (fun i hi e => by have := Q.out; rcases e with e | e; exact e; omega)
  have ho := (f7.block p s4.lt hpq).trans s4.obj
  exact bodyPost_ret (res_nodec (x := 4) (q := q) (by kernel_rfl) rfl b7 rfl) rfl ⟨_, j, f', l', c', KK.out, _, rfl,
    NdC.of (KidsP.kept ND.out fA (fun b hb e => by have := HL.out; have := P0.out; rcases e with e | e <;> omega) (fun b hb => by have := HL.out; have := Q.out; omega)) kind name n line col, fB, H.out.put fB ho s4.ix⟩

set_option maxHeartbeats 4000000 in
theorem inside_deep {w : World} {p cap : Nat} {A : Option Addr} {toks : List Tok} {i f l c j f' l' c' : Nat} (h : Ps w p A cap toks i 40 f l c) (v : Value)
    (hf : ∀ w1, Ps w1 p A cap toks i 40 f l c → Calls Tryd.prog 32 #[.pointer (some ⟨p, 0, none⟩), .int .i64 14] w1 fun x w' => x = .returned (.tuple #[]) ∧ Ps w' p A cap toks j 40 f' l' c' ∧ Fr (fun b => b = p) w1 w') :
    Calls Tryd.prog 72 #[.pointer (some ⟨p, 0, none⟩), v] w fun e w' => Came w p cap A toks 40 (.mk 0 [] 0 0 0 []) e w' j f' l' c' := by
  have H := Lib.hid h
  have HF := Lib.hid hf
  have n1 : (((40 : Nat) : Int) == 40) = true := by rfl
  clear h hf
  go_enter Tryd.func72, Tryd.ntmps72
  have H0 := Lib.hid (H.out.up ((Fr.refl (fun _ => False) w).alloc zeroNd))
  have B0 := Lib.hid (heap_alloc_new w zeroNd)
  have U0 := Lib.hid ((Fr.refl (fun _ => False) w).alloc zeroNd)
  have L0 := Lib.hid (show w.heap.size < (w.alloc zeroNd).heap.size from heap_lt B0.out)
  have P0 := Lib.hid H.out.lt
  have d2 := H0.out.c2
  have g2 := H0.out.fr 2
  go_wp2_with fail
  clear d2 g2 n1
  change Calls _ _ _ (w.alloc zeroNd) _
  obtain ⟨q, hq⟩ : ∃ q, q = w.heap.size := ⟨_, rfl⟩
  rw [← hq] at B0 L0 P0 ⊢
  have Q := Lib.hid hq
  clear hq
  generalize w.alloc zeroNd = w1 at *
  refine (HF.out w1 H0.out).mono ?_
  rintro e w2 ⟨rfl, h2, f2⟩
  have P2 := Lib.hid h2
  have F2 := Lib.hid (Fr.trans (Fr.mono U0.out (T := fun b => b = p) (fun _ _ e => e.elim)) f2 (fun _ _ e => e))
  have B2 := Lib.hid ((f2.block q L0.out (fun e => by have := P0.out; omega)).trans B0.out)
  obtain ⟨x0, x1, x2, x3, x4, x5⟩ := cells6 B2.out
  have z0 := frozen_of_row _ q 0 _ _ B2.out
  have z1 := frozen_of_row _ q 1 _ _ B2.out
  have z2 := frozen_of_row _ q 2 _ _ B2.out
  have z3 := frozen_of_row _ q 3 _ _ B2.out
  have z4 := frozen_of_row _ q 4 _ _ B2.out
  have z5 := frozen_of_row _ q 5 _ _ B2.out
  clear h2 f2 HF
  go_wp2_with fail
  have b7 := set6_blk B2.out (.int .i64 (0 : Nat)) (.string (bs [])) (.int .i64 (0 : Nat)) (.int .i64 (0 : Nat)) (.int .i64 (0 : Nat)) (.slice none 0 0)
  have f7 := set6_fr w2 q (.int .i64 (0 : Nat)) (.string (bs [])) (.int .i64 (0 : Nat)) (.int .i64 (0 : Nat)) (.int .i64 (0 : Nat)) (.slice none 0 0)
  have fB := Fr.trans F2.out f7 (fun i hi e => by have := Q.out; omega)
  have ho := (f7.block p P2.out.lt (fun e => by have := P0.out; omega)).trans P2.out.obj
  exact bodyPost_ret (res_nodec (x := 4) (q := q) (by kernel_rfl) rfl b7 rfl) rfl ⟨_, rfl, NdC.leaf _ _ 0 [] 0 0 0, fB, H.out.put fB ho P2.out.ix⟩
end Go.Proofs.YtemmdbjcllcelaaDoor.Pa
namespace Go.Proofs.YtemmdbjcllcelaaDoor.Pa
open Go.RowKit
open Go.Proofs.YtemmdbjcllcelaaDoor.Tk (Tok TokC bs tokA zeroTok set5 set5_blk set5_fr blk_set eqL)
set_option maxRecDepth 100000

def ixOf : Value → Nat
  | .int _ n => n.toNat
  | _ => 0

set_option maxHeartbeats 4000000 in
theorem orNone_run {w : World} {p cap : Nat} {A : Option Addr} {toks : List Tok} {i nest f l c : Nat} {t : Tok} (h : Ps w p A cap toks i nest f l c) (ht : toks[i]? = some t) (g : Nat) (hE : ∀ (args : Array Value) (w : World), (callFunc g args).run Tryd.prog w = .ok (.enter g args) w)
    (ms : List (List UInt8)) (b n : Nat) (hn : ms.length = n) (hn1 : n ≤ 100) (hb : b < w.heap.size) (hm : ∀ (k : Nat) (s : List UInt8), ms[k]? = some s → w.cell? ⟨b, k, none⟩ = some (.string (bs s))) (hno : ∀ (k : Nat) (s : List UInt8), ms[k]? = some s → s ≠ markT t)
    (K : Nd → Nat → Nat → Nat → Nat → Prop)
    (hr : ∀ w1, Ps w1 p A cap toks i nest f l c → Calls Tryd.prog g #[.pointer (some ⟨p, 0, none⟩)] w1 fun e w' => ∃ t j f' l' c', K t j f' l' c' ∧ Came w1 p cap A toks nest t e w' j f' l' c') :
    Calls Tryd.prog 57 #[.pointer (some ⟨p, 0, none⟩), .func (.func g) #[.pointer (some ⟨p, 0, none⟩)] #[], .slice (some ⟨b, 0, none⟩) n n] w fun e w' => ∃ t j f' l' c', K t j f' l' c' ∧ Came w p cap A toks nest t e w' j f' l' c' := by
  have H := Lib.hid h
  have T := Lib.hid ht
  have HR := Lib.hid hr
  have HM := Lib.hid hm
  have HN := Lib.hid hno
  have LN := Lib.hid hn
  clear h ht hr hm hno hn
  go_enter Tryd.func57, Tryd.ntmps57
  have H0 := Lib.hid (H.out.up ((Fr.refl (fun _ => False) w).alloc zeroNd))
  have B0 := Lib.hid (heap_alloc_new w zeroNd)
  have U0 := Lib.hid ((Fr.refl (fun _ => False) w).alloc zeroNd)
  have P0 := Lib.hid H.out.lt
  have HB := Lib.hid hb
  go_wp2_with fail
  change Calls _ _ _ (w.alloc zeroNd) _
  obtain ⟨q, hq⟩ : ∃ q, q = w.heap.size := ⟨_, rfl⟩
  rw [← hq] at B0 P0 HB ⊢
  have Q := Lib.hid hq
  clear hq hb
  generalize w.alloc zeroNd = w1 at *
  refine (mark_any H0.out T.out).mono ?_
  rintro e w2 ⟨rfl, u2⟩
  have H2 := Lib.hid (H0.out.up u2)
  have B2 := Lib.hid ((u2.block q (heap_lt B0.out) (fun e => e)).trans B0.out)
  have U2 := Lib.hid (Fr.trans U0.out u2 (fun _ _ e => e))
  clear u2 H0 B0 U0
  go_wp2_with fail
  go_loopw [14] (fun i wr => ∃ k : Nat, k ≤ n ∧ i = .int .i64 k ∧ Hid (wr = w2)) (fun i _ => n - ixOf i)
  case atStart => exact ⟨0, Nat.zero_le _, rfl, Lib.hid rfl⟩
  case round =>
    obtain ⟨k, hk, rfl, hw⟩ := hrel
    obtain rfl := hw.out
    by_cases hlt : k < n
    · have k1 : (k : Int) < (n : Int) := by omega
      have d1 : decide ((k : Int) < (n : Int)) = true := decide_eq_true k1
      obtain ⟨s, hs⟩ : ∃ s, ms[k]? = some s := ⟨_, List.getElem?_eq_getElem (by rw [LN.out]; exact hlt)⟩
      have c0 : wr.cell? ⟨b, k, none⟩ = some (.string (bs s)) := by rw [U2.out.cell (by have := HB.out; have := Q.out; simp only; omega) (fun e => e)]; exact HM.out k s hs
      have e1 : ((bs s).toList == (bs (markT t)).toList) = false := by rw [eqL]; simpa using HN.out k s hs
      clear hs
      go_wp2_with fail
      exact ⟨⟨k + 1, by omega, by push_cast; rfl, Lib.hid trivial⟩, by simp [ixOf]; omega⟩
    · have d1 : decide ((k : Int) < (n : Int)) = false := decide_eq_false (by omega)
      go_wp2_with fail
      refine (HR.out wr H2.out).mono ?_
      rintro e w3 ⟨t', j, f', l', c', hK, cs, rfl, hN, hF, hP⟩
      obtain ⟨kind, name, n', line, col, kids⟩ := t'
      obtain ⟨A', cc, rfl, hk'⟩ := hN.row
      have KK := Lib.hid hK
      have ND := Lib.hid hk'
      have hlt1 : q < wr.heap.size := heap_lt B2.out
      have HL := Lib.hid hlt1
      have B3 := Lib.hid ((hF.block q hlt1 (fun e => by have := P0.out; omega)).trans B2.out)
      have F3 := Lib.hid (Fr.trans (Fr.mono U2.out (T := fun b => b = p) (fun _ _ e => e.elim)) hF (fun _ _ e => e))
      have P3 := Lib.hid hP
      obtain ⟨x0, x1, x2, x3, x4, x5⟩ := cells6 B3.out
      have z0 := frozen_of_row _ q 0 _ _ B3.out
      have z1 := frozen_of_row _ q 1 _ _ B3.out
      have z2 := frozen_of_row _ q 2 _ _ B3.out
      have z3 := frozen_of_row _ q 3 _ _ B3.out
      have z4 := frozen_of_row _ q 4 _ _ B3.out
      have z5 := frozen_of_row _ q 5 _ _ B3.out
      clear hK hN hk' hF hP hlt1 d1 HR
      go_wp2_with fail
      have b7 := set6_blk B3.out (.int .i64 kind) (.string (bs name)) (.int .i64 n') (.int .i64 line) (.int .i64 col) (.slice A' kids.length cc)
      have f7 := set6_fr w3 q (.int .i64 kind) (.string (bs name)) (.int .i64 n') (.int .i64 line) (.int .i64 col) (.slice A' kids.length cc)
      have fB := Fr.trans F3.out f7 (fun i hi e => by have := Q.out; omega)
      have ho := (f7.block p P3.out.lt (fun e => by have := P0.out; omega)).trans P3.out.obj
      exact bodyPost_ret (res_nodec (x := 6) (q := q) (by kernel_rfl) rfl b7 rfl) rfl ⟨_, j, f', l', c', KK.out, _, rfl,
        NdC.of (KidsP.kept ND.out f7 (fun b hb e => by have := HL.out; omega) (fun b hb => by have := HL.out; have := Q.out; omega)) kind name n' line col, fB, H.out.put fB ho P3.out.ix⟩
set_option maxHeartbeats 4000000 in
theorem orNone_none {w : World} {p cap : Nat} {A : Option Addr} {toks : List Tok} {i nest f l c : Nat} {t : Tok} (h : Ps w p A cap toks i nest f l c) (ht : toks[i]? = some t) (v : Value)
    (ms : List (List UInt8)) (b n : Nat) (hn : ms.length = n) (hn1 : n ≤ 100) (hb : b < w.heap.size) (hm : ∀ (k : Nat) (s : List UInt8), ms[k]? = some s → w.cell? ⟨b, k, none⟩ = some (.string (bs s))) (k0 : Nat) (hk0 : ms[k0]? = some (markT t)) (hno : ∀ (k : Nat) (s : List UInt8), k < k0 → ms[k]? = some s → s ≠ markT t) :
    Calls Tryd.prog 57 #[.pointer (some ⟨p, 0, none⟩), v, .slice (some ⟨b, 0, none⟩) n n] w fun e w' => Came w p cap A toks nest none_ e w' i f l c := by
  have H := Lib.hid h
  have T := Lib.hid ht
  have KZ := Lib.hid hk0
  have HM := Lib.hid hm
  have HN := Lib.hid hno
  have LN := Lib.hid hn
  clear h ht hm hno hn hk0
  go_enter Tryd.func57, Tryd.ntmps57
  have H0 := Lib.hid (H.out.up ((Fr.refl (fun _ => False) w).alloc zeroNd))
  have B0 := Lib.hid (heap_alloc_new w zeroNd)
  have U0 := Lib.hid ((Fr.refl (fun _ => False) w).alloc zeroNd)
  have P0 := Lib.hid H.out.lt
  have HB := Lib.hid hb
  go_wp2_with fail
  change Calls _ _ _ (w.alloc zeroNd) _
  obtain ⟨q, hq⟩ : ∃ q, q = w.heap.size := ⟨_, rfl⟩
  rw [← hq] at B0 P0 HB ⊢
  have Q := Lib.hid hq
  clear hq hb
  generalize w.alloc zeroNd = w1 at *
  refine (mark_any H0.out T.out).mono ?_
  rintro e w2 ⟨rfl, u2⟩
  have H2 := Lib.hid (H0.out.up u2)
  have B2 := Lib.hid ((u2.block q (heap_lt B0.out) (fun e => e)).trans B0.out)
  have U2 := Lib.hid (Fr.trans U0.out u2 (fun _ _ e => e))
  clear u2 H0 B0 U0
  go_wp2_with fail
  go_loopw [14] (fun i wr => ∃ k : Nat, k ≤ k0 ∧ i = .int .i64 k ∧ Hid (wr = w2)) (fun i _ => n - ixOf i)
  case atStart => exact ⟨0, Nat.zero_le _, rfl, Lib.hid rfl⟩
  case round =>
    obtain ⟨k, hk, rfl, hw⟩ := hrel
    obtain rfl := hw.out
    have hkn : k < n := by have := (List.getElem?_eq_some_iff.1 KZ.out).1; have := LN.out; omega
    have k1 : (k : Int) < (n : Int) := by omega
    have d1 : decide ((k : Int) < (n : Int)) = true := decide_eq_true k1
    obtain ⟨s, hs⟩ : ∃ s, ms[k]? = some s := ⟨_, List.getElem?_eq_getElem (by rw [LN.out]; exact hkn)⟩
    have c0 : wr.cell? ⟨b, k, none⟩ = some (.string (bs s)) := by rw [U2.out.cell (by have := HB.out; have := Q.out; simp only; omega) (fun e => e)]; exact HM.out k s hs
    by_cases hlt : k < k0
    · have e1 : ((bs s).toList == (bs (markT t)).toList) = false := by rw [eqL]; simpa using HN.out k s hlt hs
      clear hs
      go_wp2_with fail
      exact ⟨⟨k + 1, by omega, by push_cast; rfl, Lib.hid trivial⟩, by simp [ixOf]; omega⟩
    · have hkk : k = k0 := by omega
      have hst : s = markT t := by have := KZ.out; rw [← hkk, hs] at this; exact Option.some.inj this
      have e1 : ((bs s).toList == (bs (markT t)).toList) = true := by rw [eqL, hst]; simp
      obtain ⟨x0, x1, x2, x3, x4, x5⟩ := cells6 B2.out
      have z0 := frozen_of_row _ q 0 _ _ B2.out
      have z1 := frozen_of_row _ q 1 _ _ B2.out
      have z2 := frozen_of_row _ q 2 _ _ B2.out
      have z3 := frozen_of_row _ q 3 _ _ B2.out
      have z4 := frozen_of_row _ q 4 _ _ B2.out
      have z5 := frozen_of_row _ q 5 _ _ B2.out
      clear hs hst hkk hlt
      go_wp2_with fail
      have b7 := set6_blk B2.out (.int .i64 (38 : Nat)) (.string (bs [])) (.int .i64 (0 : Nat)) (.int .i64 (0 : Nat)) (.int .i64 (0 : Nat)) (.slice none 0 0)
      have f7 := set6_fr wr q (.int .i64 (38 : Nat)) (.string (bs [])) (.int .i64 (0 : Nat)) (.int .i64 (0 : Nat)) (.int .i64 (0 : Nat)) (.slice none 0 0)
      have fB := Fr.trans (Fr.mono U2.out (T := fun b => b = p) (fun _ _ e => e.elim)) f7 (fun i hi e => by have := Q.out; omega)
      have ho := (f7.block p H2.out.lt (fun e => by have := P0.out; omega)).trans H2.out.obj
      exact bodyPost_ret (res_nodec (x := 6) (q := q) (by kernel_rfl) rfl b7 rfl) rfl ⟨_, rfl, NdC.leaf _ _ 38 [] 0 0 0, fB, H.out.put fB ho H2.out.ix⟩

end Go.Proofs.YtemmdbjcllcelaaDoor.Pa
namespace Go.Proofs.YtemmdbjcllcelaaDoor.Pa
open Go.RowKit
open Go.Proofs.YtemmdbjcllcelaaDoor.Tk (bs)
set_option maxRecDepth 100000

theorem info_node : ∃ i z, Tryd.prog.info? 27 = some i ∧ i.zero = some z ∧ i.size = 6 ∧ i.bytes = 72 ∧ z.cells.size = 6 := by
  have h : (Tryd.prog.info? 27).map (fun i => (i.size, i.bytes)) = some (6, 72) := by kernel_rfl
  have z : ((Tryd.prog.info? 27).bind (·.zero)).map (·.cells.size) = some 6 := by kernel_rfl
  cases hi : Tryd.prog.info? 27 with
  | none => rw [hi] at h; cases h
  | some i =>
    rw [hi] at h z
    simp only [Option.map_some, Option.some.injEq, Prod.mk.injEq, Option.bind_some] at h z
    cases hz : i.zero with
    | none => rw [hz] at z; cases z
    | some u => rw [hz] at z; exact ⟨i, u, rfl, hz, h.1, h.2, by simpa using z⟩

section
variable {w w' : World} {G G' S : Nat → Prop} {t : Nd} {cs : List Value}
/-- Where the old blocks alone count. -/
theorem NdC.kept2 (h : NdC w G t cs) (hf : Fr S w w') (hG : ∀ b, b < w.heap.size → G b → ¬ S b) (hG' : ∀ b, b < w.heap.size → G b → G' b) : NdC w' G' t cs := by
  induction h with
  | mk kind name n line col kids A c le big css at_ sub ih =>
    refine .mk kind name n line col kids A c le big css (fun hne => ?_) ih
    obtain ⟨b, o, e, hb, hlt, hx⟩ := at_ hne
    exact ⟨b, o, e, hG' b hlt hb, Nat.lt_of_lt_of_le hlt hf.size, fun j x hj => ⟨(hx j x hj).1, fun i u hu => (hf.cell (p := ⟨b, o + j * 6 + i, none⟩) hlt (hG b hlt hb)).trans ((hx j x hj).2 i u hu)⟩⟩
theorem NdC.ones (h : NdC w G t cs) : ∀ u ∈ cs, u.oneCell' = true := by
  cases h
  intro u hu
  simp at hu
  rcases hu with rfl | rfl | rfl | rfl | rfl | rfl <;> rfl
end

/-- Trees in a row of the call's own: their kids lie in other new blocks. -/
abbrev NdsG (base : Nat) (v : Value) : Nat → Prop := fun b => base ≤ b ∧ v.ownBlock ≠ some b
abbrev Nds (w : World) (base : Nat) (v : Value) (xs : List Nd) : Prop := OwnSl w base 27 6 (NdC w (NdsG base v)) v xs

theorem Nds.keep {w w' : World} {base : Nat} {v : Value} {xs : List Nd} {S : Nat → Prop} (h : Nds w base v xs) (hf : Fr S w w') (hS : ∀ b, base ≤ b → b < w.heap.size → ¬ S b) : Nds w' base v xs :=
  OwnSl.kept h hf (fun b hb => hS b (h.lt b hb).1 (h.lt b hb).2) (fun _ _ _ hc => hc.kept2 hf (fun b hlt hb => hS b hb.1 hlt) (fun _ _ hb => hb))

/-- One tree more. -/
theorem Nds.push {w : World} {base n : Nat} {v : Value} {xs : List Nd} (h : Nds w base v xs) {t : Nd} {cs : Array Value} (ht : NdC w (NdsG base v) t cs.toList) (hl : xs.length = n) (hn : n < 5000) (hb : base ≤ w.heap.size) :
    ∃ g cap w', (Builtin.append_ #[25, 25] 25 #[v, .slice (some ⟨w.heap.size, 0, none⟩) 1 1]).run Tryd.prog (w.alloc (.cells cs 27)) = .ok (.slice (some ⟨g, 0, none⟩) (n + 1) cap) w' ∧
      Nds w' base (.slice (some ⟨g, 0, none⟩) (n + 1) cap) (xs ++ [t]) ∧ w.grownBy w' v.ownBlock ∧ (v.ownBlock = some g ∨ w.heap.size ≤ g) := by
  obtain ⟨i, z, hi, hz, h1, h2, h3⟩ := info_node
  obtain ⟨g, cap, w', a1, a2, a3, a4⟩ := own_append (P := Tryd.prog) w base 25 25 27 i z 6 72 Tryd.underlying25 hi hz h1 h2 h3 (by decide) h [t] [cs.toList]
    ⟨rfl, by simpa using ht.six, fun j x c hx hc => by
      match j, hx, hc with
      | 0, hx, hc => simp at hx hc; subst hx hc; exact ht⟩ cs (by simp) n 1 (n + 1) hl rfl rfl (by decide)
    ht.ones (by unfold maxLen; omega) (by omega) hb (fun w' => NdC w' (fun b => NdsG base v b ∧ b < w.heap.size)) (fun w' hg x _ c hc => hc.kept2 (S := fun b => v.ownBlock = some b) (Tk.fr_grown hg) (fun b _ hb e => hb.2 e) (fun _ hlt hb => ⟨hb, hlt⟩))
  refine ⟨g, cap, w', a1, ?_, a3, a4⟩
  refine OwnSl.kept a2 (Fr.refl (fun _ => False) w') (fun _ _ e => e) (fun _ _ _ hc => hc.kept2 (Fr.refl (fun _ => False) w') (fun _ _ _ e => e) (fun b _ hb => ⟨hb.1.1, fun e => ?_⟩))
  have e' : g = b := by simpa [Value.ownBlock] using e
  subst e'
  rcases a4 with a4 | a4
  · exact hb.1.2 a4
  · have := hb.2; omega

/-- The row, read. -/
theorem Nds.kids {w : World} {base : Nat} {A : Option Addr} {c : Nat} {xs : List Nd} (h : Nds w base (.slice A xs.length c) xs) : KidsP w (fun b => base ≤ b) A c xs := by
  obtain ⟨A', c', e, hp⟩ := h.reads.parts
  obtain ⟨rfl, _, rfl⟩ : A = A' ∧ xs.length = xs.length ∧ c = c' := by simpa using e
  exact SlP.kept hp (Fr.refl (fun _ => False) w) (fun _ _ e => e) (fun _ hb => hb.1) (fun _ _ _ hc => hc.kept (Fr.refl (fun _ => False) w) (fun _ _ e => e) (fun _ hb => hb.1))
end Go.Proofs.YtemmdbjcllcelaaDoor.Pa
