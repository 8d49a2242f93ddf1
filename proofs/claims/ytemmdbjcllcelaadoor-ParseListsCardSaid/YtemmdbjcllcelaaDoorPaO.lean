/-
  Package parse: rules, one by one (written by wip/genPa.py).
-/
import Derived.Test.YtemmdbjcllcelaaDoorPaJL
import Derived.Test.YtemmdbjcllcelaaDoorPaN
import Derived.Deep.Heap
import Derived.Deep.Cut
namespace Go.Proofs.YtemmdbjcllcelaaDoor.Pa
open Go.RowKit
open Go.Proofs.YtemmdbjcllcelaaDoor.Tk (Tok TokC bs tokA zeroTok set5 set5_blk set5_fr blk_set eqL)
set_option maxRecDepth 100000
theorem Cx.kids {w w0 : World} {p cap nest : Nat} {A : Option Addr} {toks : List Tok} {s : St} {vs : List (Nat × Array Value)} {ts : List (Nd × List Value)} (h : Cx w0 w p A cap toks nest s vs ts) {ks : List Nd} {u0 u1 u2 u3 u4 : Value} {B : Option Addr} {c : Nat} (hm : (Nd.mk 0 [] 0 0 0 ks, [u0, u1, u2, u3, u4, .slice B ks.length c]) ∈ ts) : KidsP w (fun b => w0.heap.size ≤ b) B c ks := by
  obtain ⟨A', c2, e, hk⟩ := (h.nd _ hm).row
  simp only [List.cons.injEq, Value.slice.injEq, and_true, true_and] at e
  obtain ⟨_, _, _, _, _, rfl, rfl⟩ := e
  exact KidsP.kept hk (Fr.refl (fun _ => False) w) (fun _ _ e => e) (fun _ hb => hb.1)
set_option maxHeartbeats 4000000 in
theorem braced_method {rd : Rule → Nat → M Nd} (I : RunsL rd (.lines .method false) 17 (fun p => #[.pointer (some ⟨p, 0, none⟩), mv 52 p, mv 70 p])) :
    RunsL (mstep rd) (.braced .method) 51 (fun p => #[.pointer (some ⟨p, 0, none⟩), mv 52 p]) := by
  intro w p A cap toks d s s' t h hd40 hp hm
  have D := Lib.hid hd40
  clear hd40 hp
  have Ih := Lib.hid I
  clear I
  have hx := then_some (peek_some hm)
  clear hm
  obtain ⟨⟨⟩, s1, h1, hm⟩ := hx
  have hx := then_some hm
  clear hm
  obtain ⟨t1, s2, h2, hm⟩ := hx
  have hx := then_some hm
  clear hm
  obtain ⟨⟨⟩, s3, h3, hm⟩ := hx
  obtain ⟨rfl, rfl⟩ := ret_some hm
  clear hm
  have M1 := Lib.hid h1
  have M2 := Lib.hid h2
  have M3 := Lib.hid h3
  clear h1 h2 h3
  have C1 := Lib.hid (Cx.start h)
  clear h
  go_enter Tryd.func51, Tryd.ntmps51
  go_wp2_with fail
  refine (want_at C1.out.at_ (by decide) M1.out).mono ?_
  rintro e w2 ⟨rfl, a2, f2⟩
  have C2 := Lib.hid (C1.out.call f2 a2)
  clear a2 f2 C1
  go_wp2_with fail
  refine (Ih.out _ p A cap toks d _ _ _ C2.out.at_ D.out (by simp [Pre, Line]) M2.out).mono ?_
  rintro e w3 ⟨B3, cc3, rfl, kd3, f3, a3⟩
  have C3 := Lib.hid (C2.out.tree f3 a3 (NdC.of kd3 0 [] 0 0 0))
  clear kd3 f3 a3 C2
  go_wp2_with fail
  refine (want_at C3.out.at_ (by decide) M3.out).mono ?_
  rintro e w4 ⟨rfl, a4, f4⟩
  have C4 := Lib.hid (C3.out.call f4 a4)
  clear a4 f4 C3
  go_wp2_with fail
  go_ret
  have KR := C4.out.kids List.mem_cons_self
  exact ⟨_, _, rfl, KR, C4.out.fr, C4.out.at_⟩
set_option maxHeartbeats 4000000 in
theorem braced_field {rd : Rule → Nat → M Nd} (I : RunsL rd (.lines .field false) 17 (fun p => #[.pointer (some ⟨p, 0, none⟩), mv 53 p, mv 70 p])) :
    RunsL (mstep rd) (.braced .field) 51 (fun p => #[.pointer (some ⟨p, 0, none⟩), mv 53 p]) := by
  intro w p A cap toks d s s' t h hd40 hp hm
  have D := Lib.hid hd40
  clear hd40 hp
  have Ih := Lib.hid I
  clear I
  have hx := then_some (peek_some hm)
  clear hm
  obtain ⟨⟨⟩, s1, h1, hm⟩ := hx
  have hx := then_some hm
  clear hm
  obtain ⟨t1, s2, h2, hm⟩ := hx
  have hx := then_some hm
  clear hm
  obtain ⟨⟨⟩, s3, h3, hm⟩ := hx
  obtain ⟨rfl, rfl⟩ := ret_some hm
  clear hm
  have M1 := Lib.hid h1
  have M2 := Lib.hid h2
  have M3 := Lib.hid h3
  clear h1 h2 h3
  have C1 := Lib.hid (Cx.start h)
  clear h
  go_enter Tryd.func51, Tryd.ntmps51
  go_wp2_with fail
  refine (want_at C1.out.at_ (by decide) M1.out).mono ?_
  rintro e w2 ⟨rfl, a2, f2⟩
  have C2 := Lib.hid (C1.out.call f2 a2)
  clear a2 f2 C1
  go_wp2_with fail
  refine (Ih.out _ p A cap toks d _ _ _ C2.out.at_ D.out (by simp [Pre, Line]) M2.out).mono ?_
  rintro e w3 ⟨B3, cc3, rfl, kd3, f3, a3⟩
  have C3 := Lib.hid (C2.out.tree f3 a3 (NdC.of kd3 0 [] 0 0 0))
  clear kd3 f3 a3 C2
  go_wp2_with fail
  refine (want_at C3.out.at_ (by decide) M3.out).mono ?_
  rintro e w4 ⟨rfl, a4, f4⟩
  have C4 := Lib.hid (C3.out.call f4 a4)
  clear a4 f4 C3
  go_wp2_with fail
  go_ret
  have KR := C4.out.kids List.mem_cons_self
  exact ⟨_, _, rfl, KR, C4.out.fr, C4.out.at_⟩
set_option maxHeartbeats 4000000 in
theorem braced_stmt {rd : Rule → Nat → M Nd} (I : RunsL rd (.lines .stmt false) 17 (fun p => #[.pointer (some ⟨p, 0, none⟩), mv 74 p, mv 70 p])) :
    RunsL (mstep rd) (.braced .stmt) 51 (fun p => #[.pointer (some ⟨p, 0, none⟩), mv 74 p]) := by
  intro w p A cap toks d s s' t h hd40 hp hm
  have D := Lib.hid hd40
  clear hd40 hp
  have Ih := Lib.hid I
  clear I
  have hx := then_some (peek_some hm)
  clear hm
  obtain ⟨⟨⟩, s1, h1, hm⟩ := hx
  have hx := then_some hm
  clear hm
  obtain ⟨t1, s2, h2, hm⟩ := hx
  have hx := then_some hm
  clear hm
  obtain ⟨⟨⟩, s3, h3, hm⟩ := hx
  obtain ⟨rfl, rfl⟩ := ret_some hm
  clear hm
  have M1 := Lib.hid h1
  have M2 := Lib.hid h2
  have M3 := Lib.hid h3
  clear h1 h2 h3
  have C1 := Lib.hid (Cx.start h)
  clear h
  go_enter Tryd.func51, Tryd.ntmps51
  go_wp2_with fail
  refine (want_at C1.out.at_ (by decide) M1.out).mono ?_
  rintro e w2 ⟨rfl, a2, f2⟩
  have C2 := Lib.hid (C1.out.call f2 a2)
  clear a2 f2 C1
  go_wp2_with fail
  refine (Ih.out _ p A cap toks d _ _ _ C2.out.at_ D.out (by simp [Pre, Line]) M2.out).mono ?_
  rintro e w3 ⟨B3, cc3, rfl, kd3, f3, a3⟩
  have C3 := Lib.hid (C2.out.tree f3 a3 (NdC.of kd3 0 [] 0 0 0))
  clear kd3 f3 a3 C2
  go_wp2_with fail
  refine (want_at C3.out.at_ (by decide) M3.out).mono ?_
  rintro e w4 ⟨rfl, a4, f4⟩
  have C4 := Lib.hid (C3.out.call f4 a4)
  clear a4 f4 C3
  go_wp2_with fail
  go_ret
  have KR := C4.out.kids List.mem_cons_self
  exact ⟨_, _, rfl, KR, C4.out.fr, C4.out.at_⟩
set_option maxHeartbeats 4000000 in
theorem args_run {rd : Rule → Nat → M Nd} (I : RunsL rd (.listed .expr) 55 (fun p => #[.pointer (some ⟨p, 0, none⟩), mv 87 p])) : RunsL rd (.listed .expr) 99 (fun p => #[.pointer (some ⟨p, 0, none⟩)]) := by
  intro w p A cap toks d s s' t h hd40 hp hm
  have D := Lib.hid hd40
  clear hd40 hp
  have Ih := Lib.hid I
  clear I
  have M1 := Lib.hid hm
  clear hm
  have C1 := Lib.hid (Cx.start h)
  clear h
  go_enter Tryd.func99, Tryd.ntmps99
  go_wp2_with fail
  refine (Ih.out _ p A cap toks d _ _ _ C1.out.at_ D.out (by simp [Pre, Low]) M1.out).mono ?_
  rintro e w2 ⟨B2, cc2, rfl, kd2, f2, a2⟩
  have C2 := Lib.hid (C1.out.tree f2 a2 (NdC.of kd2 0 [] 0 0 0))
  clear kd2 f2 a2 C1
  go_wp2_with fail
  go_ret
  have KR := C2.out.kids List.mem_cons_self
  exact ⟨_, _, rfl, KR, C2.out.fr, C2.out.at_⟩
set_option maxHeartbeats 4000000 in
theorem loosest_run {rd : Rule → Nat → M Nd} (I : RunsA rd (.binary 1) 90 (fun p => #[.pointer (some ⟨p, 0, none⟩), .int .i64 (1 : Nat)])) : Runs rd (.binary 1) 89 := by
  intro w p A cap toks d s s' t h hd40 hp hm
  have D := Lib.hid hd40
  clear hd40 hp
  have Ih := Lib.hid I
  clear I
  have M1 := Lib.hid hm
  clear hm
  have C1 := Lib.hid ((Cx.start h).alloc z6)
  clear h
  go_enter Tryd.func89, Tryd.ntmps89
  go_wp2_with fail
  change Calls _ _ _ (w.alloc zeroNd) _
  obtain ⟨q0, e0⟩ : ∃ q, q = w.heap.size := ⟨_, rfl⟩
  rw [← e0] at C1 ⊢
  clear e0
  generalize w.alloc zeroNd = w1 at *
  refine (Ih.out _ p A cap toks d _ _ _ C1.out.at_ D.out (by simp [Pre]) M1.out).mono ?_
  rintro e w2 ⟨cs2, rfl, nd2, f2, a2⟩
  have C2 := Lib.hid (C1.out.tree f2 a2 nd2)
  obtain ⟨k2, m2, n2, l2, c2, ks2⟩ := t
  obtain ⟨A2, cc2, rfl, -⟩ := nd2.row
  clear nd2 f2 a2 C1
  obtain ⟨x0q0, x1q0, x2q0, x3q0, x4q0, x5q0⟩ := cells6 (C2.out.cells 0 rfl)
  obtain ⟨y0q0, y1q0, y2q0, y3q0, y4q0, y5q0⟩ := frozen6 (C2.out.cells 0 rfl)
  go_wp2_with fail
  obtain ⟨b7, d7⟩ := C2.out.fin 0 rfl List.mem_cons_self
  exact bodyPost_ret (res_nodec (x := 2) (q := q0) (by kernel_rfl) rfl b7 rfl) rfl d7
set_option maxHeartbeats 4000000 in
theorem anyType_run {rd : Rule → Nat → M Nd} (I : Runs rd (.typeOnly) 73) : Runs (mstep rd) .anyType 58 := by
  intro w p A cap toks d s s' t h hd40 hp hm
  have D := Lib.hid hd40
  clear hd40
  replace hm := peek_some hm
  clear hp
  have Ih := Lib.hid I
  clear I
  by_cases e1 : d = 40
  · subst e1
    replace hm := ite_yes rfl hm
    have hx := then_some hm
    clear hm
    obtain ⟨⟨⟩, sF, hF, hm⟩ := hx
    have MF := Lib.hid hF
    clear hF
    obtain ⟨rfl, rfl⟩ := ret_some hm
    clear hm
    have C1 := Lib.hid ((Cx.start h).alloc z6)
    clear h
    go_enter Tryd.func58, Tryd.ntmps58
    go_wp2_with fail
    change Calls _ _ _ (w.alloc zeroNd) _
    obtain ⟨q0, e0⟩ : ∃ q, q = w.heap.size := ⟨_, rfl⟩
    rw [← e0] at C1 ⊢
    clear e0
    generalize w.alloc zeroNd = w1 at *
    refine (deep_at C1.out.at_ _ MF.out).mono ?_
    rintro e w2 ⟨cs2, rfl, nd2, f2, a2⟩
    have C2 := Lib.hid (C1.out.tree f2 a2 nd2)
    obtain ⟨A2, cc2, rfl, -⟩ := nd2.row
    clear nd2 f2 a2 C1
    obtain ⟨x0q0, x1q0, x2q0, x3q0, x4q0, x5q0⟩ := cells6 (C2.out.cells 0 rfl)
    obtain ⟨y0q0, y1q0, y2q0, y3q0, y4q0, y5q0⟩ := frozen6 (C2.out.cells 0 rfl)
    go_wp2_with fail
    obtain ⟨b7, d7⟩ := C2.out.fin 0 rfl List.mem_cons_self
    exact bodyPost_ret (res_nodec (x := 2) (q := q0) (by kernel_rfl) rfl b7 rfl) rfl d7
  · replace hm := ite_no e1 hm
    have E := Lib.hid e1
    clear e1
    have M1 := Lib.hid hm
    clear hm
    have C1 := Lib.hid ((Cx.start h).alloc z6)
    clear h
    go_enter Tryd.func58, Tryd.ntmps58
    go_wp2_with fail
    change Calls _ _ _ (w.alloc zeroNd) _
    obtain ⟨q0, e0⟩ : ∃ q, q = w.heap.size := ⟨_, rfl⟩
    rw [← e0] at C1 ⊢
    clear e0
    generalize w.alloc zeroNd = w1 at *
    refine (inside_at C1.out.at_ 73 (enters_of Tryd.func73 (by kernel_rfl) rfl) (by have := D.out; have := E.out; omega) (fun w9 h9 => Ih.out w9 p A cap toks (d + 1) _ _ _ h9 (by have := D.out; have := E.out; omega) (by simp [Pre]) M1.out)).mono ?_
    rintro e w2 ⟨cs2, rfl, nd2, f2, a2⟩
    have C2 := Lib.hid (C1.out.tree f2 a2 nd2)
    obtain ⟨k2, m2, n2, l2, c2, ks2⟩ := t
    obtain ⟨A2, cc2, rfl, -⟩ := nd2.row
    clear nd2 f2 a2 C1
    obtain ⟨x0q0, x1q0, x2q0, x3q0, x4q0, x5q0⟩ := cells6 (C2.out.cells 0 rfl)
    obtain ⟨y0q0, y1q0, y2q0, y3q0, y4q0, y5q0⟩ := frozen6 (C2.out.cells 0 rfl)
    go_wp2_with fail
    obtain ⟨b7, d7⟩ := C2.out.fin 0 rfl List.mem_cons_self
    exact bodyPost_ret (res_nodec (x := 2) (q := q0) (by kernel_rfl) rfl b7 rfl) rfl d7
set_option maxHeartbeats 4000000 in
theorem expr_run {rd : Rule → Nat → M Nd} (I : Runs rd (.binary 1) 89) : Runs (mstep rd) .expr 87 := by
  intro w p A cap toks d s s' t h hd40 hp hm
  have D := Lib.hid hd40
  clear hd40
  replace hm := peek_some hm
  clear hp
  have Ih := Lib.hid I
  clear I
  by_cases e1 : d = 40
  · subst e1
    replace hm := ite_yes rfl hm
    have hx := then_some hm
    clear hm
    obtain ⟨⟨⟩, sF, hF, hm⟩ := hx
    have MF := Lib.hid hF
    clear hF
    obtain ⟨rfl, rfl⟩ := ret_some hm
    clear hm
    have C1 := Lib.hid ((Cx.start h).alloc z6)
    clear h
    go_enter Tryd.func87, Tryd.ntmps87
    go_wp2_with fail
    change Calls _ _ _ (w.alloc zeroNd) _
    obtain ⟨q0, e0⟩ : ∃ q, q = w.heap.size := ⟨_, rfl⟩
    rw [← e0] at C1 ⊢
    clear e0
    generalize w.alloc zeroNd = w1 at *
    refine (deep_at C1.out.at_ _ MF.out).mono ?_
    rintro e w2 ⟨cs2, rfl, nd2, f2, a2⟩
    have C2 := Lib.hid (C1.out.tree f2 a2 nd2)
    obtain ⟨A2, cc2, rfl, -⟩ := nd2.row
    clear nd2 f2 a2 C1
    obtain ⟨x0q0, x1q0, x2q0, x3q0, x4q0, x5q0⟩ := cells6 (C2.out.cells 0 rfl)
    obtain ⟨y0q0, y1q0, y2q0, y3q0, y4q0, y5q0⟩ := frozen6 (C2.out.cells 0 rfl)
    go_wp2_with fail
    obtain ⟨b7, d7⟩ := C2.out.fin 0 rfl List.mem_cons_self
    exact bodyPost_ret (res_nodec (x := 2) (q := q0) (by kernel_rfl) rfl b7 rfl) rfl d7
  · replace hm := ite_no e1 hm
    have E := Lib.hid e1
    clear e1
    have M1 := Lib.hid hm
    clear hm
    have C1 := Lib.hid ((Cx.start h).alloc z6)
    clear h
    go_enter Tryd.func87, Tryd.ntmps87
    go_wp2_with fail
    change Calls _ _ _ (w.alloc zeroNd) _
    obtain ⟨q0, e0⟩ : ∃ q, q = w.heap.size := ⟨_, rfl⟩
    rw [← e0] at C1 ⊢
    clear e0
    generalize w.alloc zeroNd = w1 at *
    refine (inside_at C1.out.at_ 89 (enters_of Tryd.func89 (by kernel_rfl) rfl) (by have := D.out; have := E.out; omega) (fun w9 h9 => Ih.out w9 p A cap toks (d + 1) _ _ _ h9 (by have := D.out; have := E.out; omega) (by simp [Pre]) M1.out)).mono ?_
    rintro e w2 ⟨cs2, rfl, nd2, f2, a2⟩
    have C2 := Lib.hid (C1.out.tree f2 a2 nd2)
    obtain ⟨k2, m2, n2, l2, c2, ks2⟩ := t
    obtain ⟨A2, cc2, rfl, -⟩ := nd2.row
    clear nd2 f2 a2 C1
    obtain ⟨x0q0, x1q0, x2q0, x3q0, x4q0, x5q0⟩ := cells6 (C2.out.cells 0 rfl)
    obtain ⟨y0q0, y1q0, y2q0, y3q0, y4q0, y5q0⟩ := frozen6 (C2.out.cells 0 rfl)
    go_wp2_with fail
    obtain ⟨b7, d7⟩ := C2.out.fin 0 rfl List.mem_cons_self
    exact bodyPost_ret (res_nodec (x := 2) (q := q0) (by kernel_rfl) rfl b7 rfl) rfl d7
set_option maxHeartbeats 4000000 in
theorem returnStmt_run {rd : Rule → Nat → M Nd} (I : RunsN rd (.expr) [[59], [125]] 87) : Runs (mstep rd) .returnStmt 84 := by
  intro w p A cap toks d s s' t h hd40 hp hm
  have D := Lib.hid hd40
  clear hd40
  have K := Lib.hid (show (hd s.l).kind ≠ 0 from hp)
  clear hp
  have Ih := Lib.hid I
  clear I
  have hx := then_some (pass_some (peek_some hm))
  clear hm
  obtain ⟨t1, s1, h1, hm⟩ := hx
  obtain ⟨rfl, rfl⟩ := ret_some hm
  clear hm
  have M1 := Lib.hid h1
  clear h1
  have C1 := Lib.hid ((Cx.start h).alloc z6)
  clear h
  go_enter Tryd.func84, Tryd.ntmps84
  go_wp2_with fail
  change Calls _ _ _ (w.alloc zeroNd) _
  obtain ⟨q0, e0⟩ : ∃ q, q = w.heap.size := ⟨_, rfl⟩
  rw [← e0] at C1 ⊢
  clear e0
  generalize w.alloc zeroNd = w1 at *
  refine (pass_at C1.out.at_ K.out 18).mono ?_
  rintro e w2 ⟨rfl, a2, f2⟩
  have C2 := Lib.hid (C1.out.call f2 a2)
  clear a2 f2 C1
  have C3 := Lib.hid (C2.out.alloc #[.int .i64 18, .string (bs []), .int .i64 0, .int .i64 (hd s.l).line, .int .i64 (hd s.l).col, .slice none 0 0])
  clear C2
  have C4 := Lib.hid (C3.out.more (.cells #[.string ⟨#[59]⟩, .string ⟨#[125]⟩] 9))
  clear C3
  have b1_m := Lib.hid (marks_row (ms := [[59], [125]]) (heap_alloc_new (World.alloc w2 (.cells #[.int .i64 18, .string (bs []), .int .i64 0, .int .i64 (hd s.l).line, .int .i64 (hd s.l).col, .slice none 0 0] 27)) (.cells #[.string ⟨#[59]⟩, .string ⟨#[125]⟩] 9)) rfl)
  obtain ⟨b1, e_b1⟩ : ∃ q, q = ((World.alloc w2 (.cells #[.int .i64 18, .string (bs []), .int .i64 0, .int .i64 (hd s.l).line, .int .i64 (hd s.l).col, .slice none 0 0] 27))).heap.size := ⟨_, rfl⟩
  rw [← e_b1] at b1_m
  rw [Go.Deep.nblk_alloc] at e_b1
  obtain ⟨x0q1, x1q1, x2q1, x3q1, x4q1, x5q1⟩ := cells6 (C4.out.cells 0 rfl)
  obtain ⟨y0q1, y1q1, y2q1, y3q1, y4q1, y5q1⟩ := frozen6 (C4.out.cells 0 rfl)
  obtain ⟨x0q0, x1q0, x2q0, x3q0, x4q0, x5q0⟩ := cells6 (C4.out.cells 1 rfl)
  obtain ⟨y0q0, y1q0, y2q0, y3q0, y4q0, y5q0⟩ := frozen6 (C4.out.cells 1 rfl)
  have ne_q1_q0 : w2.heap.size ≠ q0 := C4.out.differ 0 1 (by decide) rfl rfl
  have ne_q0_q1 : q0 ≠ w2.heap.size := C4.out.differ 1 0 (by decide) rfl rfl
  go_wp2_with fail
  clear x0q1 x1q1 x2q1 x3q1 x4q1 x5q1 y0q1 y1q1 y2q1 y3q1 y4q1 y5q1 x0q0 x1q0 x2q0 x3q0 x4q0 x5q0 y0q0 y1q0 y2q0 y3q0 y4q0 y5q0 ne_q1_q0 ne_q0_q1
  obtain ⟨q1, e_q1⟩ : ∃ q, q = w2.heap.size := ⟨_, rfl⟩
  rw [← e_q1] at C4 e_b1 ⊢
  clear e_q1
  rw [← e_b1]
  clear e_b1
  generalize (World.alloc (World.alloc w2 _) _) = w5 at *
  refine (Ih.out _ p A cap toks d _ _ _ b1 2 C4.out.at_ D.out rfl b1_m.out.1 b1_m.out.2 M1.out).mono ?_
  rintro e w6 ⟨cs6, rfl, nd6, f6, a6⟩
  have C6 := Lib.hid (C4.out.tree f6 a6 nd6)
  obtain ⟨k6, m6, n6, l6, c6, ks6⟩ := t1
  obtain ⟨A6, cc6, rfl, -⟩ := nd6.row
  clear nd6 f6 a6 C4
  have R7 := C6.out.row [(Nd.mk k6 m6 n6 l6 c6 ks6, [.int .i64 k6, .string (bs m6), .int .i64 n6, .int .i64 l6, .int .i64 c6, .slice A6 ks6.length cc6])] (sub_cons List.mem_cons_self sub_nil) (by simp) (cs := #[.int .i64 k6, .string (bs m6), .int .i64 n6, .int .i64 l6, .int .i64 c6, .slice A6 ks6.length cc6]) rfl
  have C7 := Lib.hid ((C6.out.more (.cells #[.int .i64 k6, .string (bs m6), .int .i64 n6, .int .i64 l6, .int .i64 c6, .slice A6 ks6.length cc6] 27)).know (NdC.of R7 (18 : Nat) ([]) 0 (hd s.l).line (hd s.l).col))
  clear C6 R7
  obtain ⟨x0q1, x1q1, x2q1, x3q1, x4q1, x5q1⟩ := cells6 (C7.out.cells 0 rfl)
  obtain ⟨y0q1, y1q1, y2q1, y3q1, y4q1, y5q1⟩ := frozen6 (C7.out.cells 0 rfl)
  obtain ⟨x0q0, x1q0, x2q0, x3q0, x4q0, x5q0⟩ := cells6 (C7.out.cells 1 rfl)
  obtain ⟨y0q0, y1q0, y2q0, y3q0, y4q0, y5q0⟩ := frozen6 (C7.out.cells 1 rfl)
  have ne_q1_q0 : q1 ≠ q0 := C7.out.differ 0 1 (by decide) rfl rfl
  have ne_q0_q1 : q0 ≠ q1 := C7.out.differ 1 0 (by decide) rfl rfl
  go_wp2_with fail
  have C8 := Lib.hid (C7.out.set 0 rfl 5 (.slice (some ⟨w6.heap.size, 0, none⟩) 1 1))
  clear C7
  obtain ⟨b7, d7⟩ := C8.out.fin 1 rfl List.mem_cons_self
  exact bodyPost_ret (res_nodec (x := 2) (q := q0) (by kernel_rfl) rfl b7 rfl) rfl d7
set_option maxHeartbeats 4000000 in
theorem typeOnly_run {rd : Rule → Nat → M Nd} (I : Runs rd (.anyType) 58) : Runs (mstep rd) .typeOnly 73 := by
  intro w p A cap toks d s s' t h hd40 hp hm
  have D := Lib.hid hd40
  clear hd40
  replace hm := peek_some hm
  clear hp
  have Ih := Lib.hid I
  clear I
  by_cases e1 : mark s.l = [91]
  · replace hm := ite_yes e1 hm
    have K := Lib.hid (kind_of_mark e1 (by decide))
    have z1 := txt_yes e1
    clear e1
    have hx := then_some (pass_some hm)
    clear hm
    obtain ⟨⟨⟩, s1, h1, hm⟩ := hx
    have hx := then_some hm
    clear hm
    obtain ⟨t1, s2, h2, hm⟩ := hx
    obtain ⟨rfl, rfl⟩ := ret_some hm
    clear hm
    have M1 := Lib.hid h1
    have M2 := Lib.hid h2
    clear h1 h2
    have C1 := Lib.hid ((Cx.start h).alloc z6)
    clear h
    go_enter Tryd.func73, Tryd.ntmps73
    go_wp2_with fail
    change Calls _ _ _ (w.alloc zeroNd) _
    obtain ⟨q0, e0⟩ : ∃ q, q = w.heap.size := ⟨_, rfl⟩
    rw [← e0] at C1 ⊢
    clear e0
    generalize w.alloc zeroNd = w1 at *
    refine (next_at C1.out.at_).mono ?_
    rintro e w2 ⟨rfl, u2⟩
    have C2 := Lib.hid (C1.out.up u2)
    clear u2 C1
    have NT := Lib.hid (show w2.heap.size ≠ p from fun e => by have := Nat.lt_of_lt_of_le C2.out.pos C2.out.fr.size; omega)
    have C3 := Lib.hid (C2.out.more (.cells #[.int .i64 (hd s.l).kind, .string (bs (hd s.l).text), .int .i64 (hd s.l).n, .int .i64 (hd s.l).line, .int .i64 (hd s.l).col] 43))
    have T3 := Lib.hid (heap_alloc_new w2 (.cells #[.int .i64 (hd s.l).kind, .string (bs (hd s.l).text), .int .i64 (hd s.l).n, .int .i64 (hd s.l).line, .int .i64 (hd s.l).col] 43))
    clear C2
    simp only [tokT, tokA]
    obtain ⟨x0q0, x1q0, x2q0, x3q0, x4q0, x5q0⟩ := cells6 (C3.out.cells 0 rfl)
    obtain ⟨y0q0, y1q0, y2q0, y3q0, y4q0, y5q0⟩ := frozen6 (C3.out.cells 0 rfl)
    obtain ⟨t0, t1, t2, t3, t4⟩ := Tk.cells5 T3.out
    go_wp2_with fail
    clear x0q0 x1q0 x2q0 x3q0 x4q0 x5q0 y0q0 y1q0 y2q0 y3q0 y4q0 y5q0
    clear t0 t1 t2 t3 t4
    obtain ⟨qt, e_qt⟩ : ∃ q, q = w2.heap.size := ⟨_, rfl⟩
    rw [← e_qt] at T3 NT ⊢
    clear e_qt
    generalize (World.alloc w2 _) = w4 at *
    refine (mark_at C3.out.at_).mono ?_
    rintro e w5 ⟨rfl, u5⟩
    have C5 := Lib.hid (C3.out.up u5)
    have T5 := Lib.hid ((u5.block qt (heap_lt T3.out) (fun e => e)).trans T3.out)
    clear T3
    clear u5 C3
    obtain ⟨x0q0, x1q0, x2q0, x3q0, x4q0, x5q0⟩ := cells6 (C5.out.cells 0 rfl)
    obtain ⟨y0q0, y1q0, y2q0, y3q0, y4q0, y5q0⟩ := frozen6 (C5.out.cells 0 rfl)
    go_wp2_with fail
    clear x0q0 x1q0 x2q0 x3q0 x4q0 x5q0 y0q0 y1q0 y2q0 y3q0 y4q0 y5q0
    refine (pass_at C5.out.at_ K.out 9).mono ?_
    rintro e w6 ⟨rfl, a6, f6⟩
    have C6 := Lib.hid (C5.out.call f6 a6)
    clear a6 f6 C5
    have C7 := Lib.hid (C6.out.alloc #[.int .i64 9, .string (bs []), .int .i64 0, .int .i64 (hd s.l).line, .int .i64 (hd s.l).col, .slice none 0 0])
    clear C6
    obtain ⟨x0q1, x1q1, x2q1, x3q1, x4q1, x5q1⟩ := cells6 (C7.out.cells 0 rfl)
    obtain ⟨y0q1, y1q1, y2q1, y3q1, y4q1, y5q1⟩ := frozen6 (C7.out.cells 0 rfl)
    obtain ⟨x0q0, x1q0, x2q0, x3q0, x4q0, x5q0⟩ := cells6 (C7.out.cells 1 rfl)
    obtain ⟨y0q0, y1q0, y2q0, y3q0, y4q0, y5q0⟩ := frozen6 (C7.out.cells 1 rfl)
    have ne_q1_q0 : w6.heap.size ≠ q0 := C7.out.differ 0 1 (by decide) rfl rfl
    have ne_q0_q1 : q0 ≠ w6.heap.size := C7.out.differ 1 0 (by decide) rfl rfl
    go_wp2_with fail
    clear x0q1 x1q1 x2q1 x3q1 x4q1 x5q1 y0q1 y1q1 y2q1 y3q1 y4q1 y5q1 x0q0 x1q0 x2q0 x3q0 x4q0 x5q0 y0q0 y1q0 y2q0 y3q0 y4q0 y5q0 ne_q1_q0 ne_q0_q1
    obtain ⟨q1, e_q1⟩ : ∃ q, q = w6.heap.size := ⟨_, rfl⟩
    rw [← e_q1] at C7 ⊢
    clear e_q1
    generalize (World.alloc w6 _) = w8 at *
    refine (want_at C7.out.at_ (by decide) M1.out).mono ?_
    rintro e w9 ⟨rfl, a9, f9⟩
    have C9 := Lib.hid (C7.out.call f9 a9)
    clear a9 f9 C7
    obtain ⟨x0q1, x1q1, x2q1, x3q1, x4q1, x5q1⟩ := cells6 (C9.out.cells 0 rfl)
    obtain ⟨y0q1, y1q1, y2q1, y3q1, y4q1, y5q1⟩ := frozen6 (C9.out.cells 0 rfl)
    obtain ⟨x0q0, x1q0, x2q0, x3q0, x4q0, x5q0⟩ := cells6 (C9.out.cells 1 rfl)
    obtain ⟨y0q0, y1q0, y2q0, y3q0, y4q0, y5q0⟩ := frozen6 (C9.out.cells 1 rfl)
    have ne_q1_q0 : q1 ≠ q0 := C9.out.differ 0 1 (by decide) rfl rfl
    have ne_q0_q1 : q0 ≠ q1 := C9.out.differ 1 0 (by decide) rfl rfl
    go_wp2_with fail
    clear x0q1 x1q1 x2q1 x3q1 x4q1 x5q1 y0q1 y1q1 y2q1 y3q1 y4q1 y5q1 x0q0 x1q0 x2q0 x3q0 x4q0 x5q0 y0q0 y1q0 y2q0 y3q0 y4q0 y5q0 ne_q1_q0 ne_q0_q1
    refine (Ih.out _ p A cap toks d _ _ _ C9.out.at_ D.out (True.intro) M2.out).mono ?_
    rintro e w10 ⟨cs10, rfl, nd10, f10, a10⟩
    have C10 := Lib.hid (C9.out.tree f10 a10 nd10)
    obtain ⟨k10, m10, n10, l10, c10, ks10⟩ := t1
    obtain ⟨A10, cc10, rfl, -⟩ := nd10.row
    clear nd10 f10 a10 C9
    have R11 := C10.out.row [(Nd.mk k10 m10 n10 l10 c10 ks10, [.int .i64 k10, .string (bs m10), .int .i64 n10, .int .i64 l10, .int .i64 c10, .slice A10 ks10.length cc10])] (sub_cons List.mem_cons_self sub_nil) (by simp) (cs := #[.int .i64 k10, .string (bs m10), .int .i64 n10, .int .i64 l10, .int .i64 c10, .slice A10 ks10.length cc10]) rfl
    have C11 := Lib.hid ((C10.out.more (.cells #[.int .i64 k10, .string (bs m10), .int .i64 n10, .int .i64 l10, .int .i64 c10, .slice A10 ks10.length cc10] 27)).know (NdC.of R11 (9 : Nat) ([]) 0 (hd s.l).line (hd s.l).col))
    clear C10 R11
    obtain ⟨x0q1, x1q1, x2q1, x3q1, x4q1, x5q1⟩ := cells6 (C11.out.cells 0 rfl)
    obtain ⟨y0q1, y1q1, y2q1, y3q1, y4q1, y5q1⟩ := frozen6 (C11.out.cells 0 rfl)
    obtain ⟨x0q0, x1q0, x2q0, x3q0, x4q0, x5q0⟩ := cells6 (C11.out.cells 1 rfl)
    obtain ⟨y0q0, y1q0, y2q0, y3q0, y4q0, y5q0⟩ := frozen6 (C11.out.cells 1 rfl)
    have ne_q1_q0 : q1 ≠ q0 := C11.out.differ 0 1 (by decide) rfl rfl
    have ne_q0_q1 : q0 ≠ q1 := C11.out.differ 1 0 (by decide) rfl rfl
    go_wp2_with fail
    have C12 := Lib.hid (C11.out.set 0 rfl 5 (.slice (some ⟨w10.heap.size, 0, none⟩) 1 1))
    clear C11
    obtain ⟨b7, d7⟩ := C12.out.fin 1 rfl List.mem_cons_self
    exact bodyPost_ret (res_nodec (x := 2) (q := q0) (by kernel_rfl) rfl b7 rfl) rfl d7
  · replace hm := ite_no e1 hm
    have z1 := txt_no e1
    clear e1
    by_cases e2 : mark s.l = [105, 110, 116]
    · replace hm := ite_yes (.inl e2) hm
      have K := Lib.hid (kind_of_mark e2 (by decide))
      have ze2 := txt_yes e2
      clear e2
      replace hm := pass_some hm
      obtain ⟨rfl, rfl⟩ := ret_some hm
      clear hm
      have C1 := Lib.hid ((Cx.start h).alloc z6)
      clear h
      go_enter Tryd.func73, Tryd.ntmps73
      go_wp2_with fail
      change Calls _ _ _ (w.alloc zeroNd) _
      obtain ⟨q0, e0⟩ : ∃ q, q = w.heap.size := ⟨_, rfl⟩
      rw [← e0] at C1 ⊢
      clear e0
      generalize w.alloc zeroNd = w1 at *
      refine (next_at C1.out.at_).mono ?_
      rintro e w2 ⟨rfl, u2⟩
      have C2 := Lib.hid (C1.out.up u2)
      clear u2 C1
      have NT := Lib.hid (show w2.heap.size ≠ p from fun e => by have := Nat.lt_of_lt_of_le C2.out.pos C2.out.fr.size; omega)
      have C3 := Lib.hid (C2.out.more (.cells #[.int .i64 (hd s.l).kind, .string (bs (hd s.l).text), .int .i64 (hd s.l).n, .int .i64 (hd s.l).line, .int .i64 (hd s.l).col] 43))
      have T3 := Lib.hid (heap_alloc_new w2 (.cells #[.int .i64 (hd s.l).kind, .string (bs (hd s.l).text), .int .i64 (hd s.l).n, .int .i64 (hd s.l).line, .int .i64 (hd s.l).col] 43))
      clear C2
      simp only [tokT, tokA]
      obtain ⟨x0q0, x1q0, x2q0, x3q0, x4q0, x5q0⟩ := cells6 (C3.out.cells 0 rfl)
      obtain ⟨y0q0, y1q0, y2q0, y3q0, y4q0, y5q0⟩ := frozen6 (C3.out.cells 0 rfl)
      obtain ⟨t0, t1, t2, t3, t4⟩ := Tk.cells5 T3.out
      go_wp2_with fail
      clear x0q0 x1q0 x2q0 x3q0 x4q0 x5q0 y0q0 y1q0 y2q0 y3q0 y4q0 y5q0
      clear t0 t1 t2 t3 t4
      obtain ⟨qt, e_qt⟩ : ∃ q, q = w2.heap.size := ⟨_, rfl⟩
      rw [← e_qt] at T3 NT ⊢
      clear e_qt
      generalize (World.alloc w2 _) = w4 at *
      refine (mark_at C3.out.at_).mono ?_
      rintro e w5 ⟨rfl, u5⟩
      have C5 := Lib.hid (C3.out.up u5)
      have T5 := Lib.hid ((u5.block qt (heap_lt T3.out) (fun e => e)).trans T3.out)
      clear T3
      clear u5 C3
      obtain ⟨x0q0, x1q0, x2q0, x3q0, x4q0, x5q0⟩ := cells6 (C5.out.cells 0 rfl)
      obtain ⟨y0q0, y1q0, y2q0, y3q0, y4q0, y5q0⟩ := frozen6 (C5.out.cells 0 rfl)
      go_wp2_with fail
      clear x0q0 x1q0 x2q0 x3q0 x4q0 x5q0 y0q0 y1q0 y2q0 y3q0 y4q0 y5q0
      refine (pass_at C5.out.at_ K.out 8).mono ?_
      rintro e w6 ⟨rfl, a6, f6⟩
      have C6 := Lib.hid (C5.out.call f6 a6)
      have T6 := Lib.hid ((f6.block qt (heap_lt T5.out) (fun e => NT.out e)).trans T5.out)
      clear T5
      clear a6 f6 C5
      have T9 := (((Fr.refl (fun _ => False) w6).alloc (.cells #[.int .i64 8, .string (bs []), .int .i64 0, .int .i64 (hd s.l).line, .int .i64 (hd s.l).col, .slice none 0 0] 27)).block qt (heap_lt T6.out) (fun e => e)).trans T6.out
      obtain ⟨t0, t1, t2, t3, t4⟩ := Tk.cells5 T9
      have hqt : w6.heap.size ≠ qt := fun e => by have := heap_lt T6.out; omega
      clear T9
      have C7 := Lib.hid (C6.out.know (NdC.leaf _ _ (8 : Nat) ((hd s.l).text) 0 (hd s.l).line (hd s.l).col))
      clear C6
      have C8 := Lib.hid (C7.out.alloc #[.int .i64 8, .string (bs (hd s.l).text), .int .i64 0, .int .i64 (hd s.l).line, .int .i64 (hd s.l).col, .slice none 0 0])
      clear C7
      obtain ⟨x0q1, x1q1, x2q1, x3q1, x4q1, x5q1⟩ := cells6 (C8.out.cells 0 rfl)
      obtain ⟨y0q1, y1q1, y2q1, y3q1, y4q1, y5q1⟩ := frozen6 (C8.out.cells 0 rfl)
      obtain ⟨x0q0, x1q0, x2q0, x3q0, x4q0, x5q0⟩ := cells6 (C8.out.cells 1 rfl)
      obtain ⟨y0q0, y1q0, y2q0, y3q0, y4q0, y5q0⟩ := frozen6 (C8.out.cells 1 rfl)
      have ne_q1_q0 : w6.heap.size ≠ q0 := C8.out.differ 0 1 (by decide) rfl rfl
      have ne_q0_q1 : q0 ≠ w6.heap.size := C8.out.differ 1 0 (by decide) rfl rfl
      go_wp2_with fail
      obtain ⟨b7, d7⟩ := C8.out.fin 1 rfl List.mem_cons_self
      exact bodyPost_ret (res_nodec (x := 2) (q := q0) (by kernel_rfl) rfl b7 rfl) rfl d7
    · have ze2 := txt_no e2
      by_cases e3 : mark s.l = [98, 111, 111, 108]
      · replace hm := ite_yes (.inr (.inl e3)) hm
        have K := Lib.hid (kind_of_mark e3 (by decide))
        have ze3 := txt_yes e3
        clear e2 e3
        replace hm := pass_some hm
        obtain ⟨rfl, rfl⟩ := ret_some hm
        clear hm
        have C1 := Lib.hid ((Cx.start h).alloc z6)
        clear h
        go_enter Tryd.func73, Tryd.ntmps73
        go_wp2_with fail
        change Calls _ _ _ (w.alloc zeroNd) _
        obtain ⟨q0, e0⟩ : ∃ q, q = w.heap.size := ⟨_, rfl⟩
        rw [← e0] at C1 ⊢
        clear e0
        generalize w.alloc zeroNd = w1 at *
        refine (next_at C1.out.at_).mono ?_
        rintro e w2 ⟨rfl, u2⟩
        have C2 := Lib.hid (C1.out.up u2)
        clear u2 C1
        have NT := Lib.hid (show w2.heap.size ≠ p from fun e => by have := Nat.lt_of_lt_of_le C2.out.pos C2.out.fr.size; omega)
        have C3 := Lib.hid (C2.out.more (.cells #[.int .i64 (hd s.l).kind, .string (bs (hd s.l).text), .int .i64 (hd s.l).n, .int .i64 (hd s.l).line, .int .i64 (hd s.l).col] 43))
        have T3 := Lib.hid (heap_alloc_new w2 (.cells #[.int .i64 (hd s.l).kind, .string (bs (hd s.l).text), .int .i64 (hd s.l).n, .int .i64 (hd s.l).line, .int .i64 (hd s.l).col] 43))
        clear C2
        simp only [tokT, tokA]
        obtain ⟨x0q0, x1q0, x2q0, x3q0, x4q0, x5q0⟩ := cells6 (C3.out.cells 0 rfl)
        obtain ⟨y0q0, y1q0, y2q0, y3q0, y4q0, y5q0⟩ := frozen6 (C3.out.cells 0 rfl)
        obtain ⟨t0, t1, t2, t3, t4⟩ := Tk.cells5 T3.out
        go_wp2_with fail
        clear x0q0 x1q0 x2q0 x3q0 x4q0 x5q0 y0q0 y1q0 y2q0 y3q0 y4q0 y5q0
        clear t0 t1 t2 t3 t4
        obtain ⟨qt, e_qt⟩ : ∃ q, q = w2.heap.size := ⟨_, rfl⟩
        rw [← e_qt] at T3 NT ⊢
        clear e_qt
        generalize (World.alloc w2 _) = w4 at *
        refine (mark_at C3.out.at_).mono ?_
        rintro e w5 ⟨rfl, u5⟩
        have C5 := Lib.hid (C3.out.up u5)
        have T5 := Lib.hid ((u5.block qt (heap_lt T3.out) (fun e => e)).trans T3.out)
        clear T3
        clear u5 C3
        obtain ⟨x0q0, x1q0, x2q0, x3q0, x4q0, x5q0⟩ := cells6 (C5.out.cells 0 rfl)
        obtain ⟨y0q0, y1q0, y2q0, y3q0, y4q0, y5q0⟩ := frozen6 (C5.out.cells 0 rfl)
        go_wp2_with fail
        clear x0q0 x1q0 x2q0 x3q0 x4q0 x5q0 y0q0 y1q0 y2q0 y3q0 y4q0 y5q0
        refine (pass_at C5.out.at_ K.out 8).mono ?_
        rintro e w6 ⟨rfl, a6, f6⟩
        have C6 := Lib.hid (C5.out.call f6 a6)
        have T6 := Lib.hid ((f6.block qt (heap_lt T5.out) (fun e => NT.out e)).trans T5.out)
        clear T5
        clear a6 f6 C5
        have T9 := (((Fr.refl (fun _ => False) w6).alloc (.cells #[.int .i64 8, .string (bs []), .int .i64 0, .int .i64 (hd s.l).line, .int .i64 (hd s.l).col, .slice none 0 0] 27)).block qt (heap_lt T6.out) (fun e => e)).trans T6.out
        obtain ⟨t0, t1, t2, t3, t4⟩ := Tk.cells5 T9
        have hqt : w6.heap.size ≠ qt := fun e => by have := heap_lt T6.out; omega
        clear T9
        have C7 := Lib.hid (C6.out.know (NdC.leaf _ _ (8 : Nat) ((hd s.l).text) 0 (hd s.l).line (hd s.l).col))
        clear C6
        have C8 := Lib.hid (C7.out.alloc #[.int .i64 8, .string (bs (hd s.l).text), .int .i64 0, .int .i64 (hd s.l).line, .int .i64 (hd s.l).col, .slice none 0 0])
        clear C7
        obtain ⟨x0q1, x1q1, x2q1, x3q1, x4q1, x5q1⟩ := cells6 (C8.out.cells 0 rfl)
        obtain ⟨y0q1, y1q1, y2q1, y3q1, y4q1, y5q1⟩ := frozen6 (C8.out.cells 0 rfl)
        obtain ⟨x0q0, x1q0, x2q0, x3q0, x4q0, x5q0⟩ := cells6 (C8.out.cells 1 rfl)
        obtain ⟨y0q0, y1q0, y2q0, y3q0, y4q0, y5q0⟩ := frozen6 (C8.out.cells 1 rfl)
        have ne_q1_q0 : w6.heap.size ≠ q0 := C8.out.differ 0 1 (by decide) rfl rfl
        have ne_q0_q1 : q0 ≠ w6.heap.size := C8.out.differ 1 0 (by decide) rfl rfl
        go_wp2_with fail
        obtain ⟨b7, d7⟩ := C8.out.fin 1 rfl List.mem_cons_self
        exact bodyPost_ret (res_nodec (x := 2) (q := q0) (by kernel_rfl) rfl b7 rfl) rfl d7
      · have ze3 := txt_no e3
        by_cases e4 : mark s.l = [115, 116, 114, 105, 110, 103]
        · replace hm := ite_yes (.inr (.inr (.inl e4))) hm
          have K := Lib.hid (kind_of_mark e4 (by decide))
          have ze4 := txt_yes e4
          clear e2 e3 e4
          replace hm := pass_some hm
          obtain ⟨rfl, rfl⟩ := ret_some hm
          clear hm
          have C1 := Lib.hid ((Cx.start h).alloc z6)
          clear h
          go_enter Tryd.func73, Tryd.ntmps73
          go_wp2_with fail
          change Calls _ _ _ (w.alloc zeroNd) _
          obtain ⟨q0, e0⟩ : ∃ q, q = w.heap.size := ⟨_, rfl⟩
          rw [← e0] at C1 ⊢
          clear e0
          generalize w.alloc zeroNd = w1 at *
          refine (next_at C1.out.at_).mono ?_
          rintro e w2 ⟨rfl, u2⟩
          have C2 := Lib.hid (C1.out.up u2)
          clear u2 C1
          have NT := Lib.hid (show w2.heap.size ≠ p from fun e => by have := Nat.lt_of_lt_of_le C2.out.pos C2.out.fr.size; omega)
          have C3 := Lib.hid (C2.out.more (.cells #[.int .i64 (hd s.l).kind, .string (bs (hd s.l).text), .int .i64 (hd s.l).n, .int .i64 (hd s.l).line, .int .i64 (hd s.l).col] 43))
          have T3 := Lib.hid (heap_alloc_new w2 (.cells #[.int .i64 (hd s.l).kind, .string (bs (hd s.l).text), .int .i64 (hd s.l).n, .int .i64 (hd s.l).line, .int .i64 (hd s.l).col] 43))
          clear C2
          simp only [tokT, tokA]
          obtain ⟨x0q0, x1q0, x2q0, x3q0, x4q0, x5q0⟩ := cells6 (C3.out.cells 0 rfl)
          obtain ⟨y0q0, y1q0, y2q0, y3q0, y4q0, y5q0⟩ := frozen6 (C3.out.cells 0 rfl)
          obtain ⟨t0, t1, t2, t3, t4⟩ := Tk.cells5 T3.out
          go_wp2_with fail
          clear x0q0 x1q0 x2q0 x3q0 x4q0 x5q0 y0q0 y1q0 y2q0 y3q0 y4q0 y5q0
          clear t0 t1 t2 t3 t4
          obtain ⟨qt, e_qt⟩ : ∃ q, q = w2.heap.size := ⟨_, rfl⟩
          rw [← e_qt] at T3 NT ⊢
          clear e_qt
          generalize (World.alloc w2 _) = w4 at *
          refine (mark_at C3.out.at_).mono ?_
          rintro e w5 ⟨rfl, u5⟩
          have C5 := Lib.hid (C3.out.up u5)
          have T5 := Lib.hid ((u5.block qt (heap_lt T3.out) (fun e => e)).trans T3.out)
          clear T3
          clear u5 C3
          obtain ⟨x0q0, x1q0, x2q0, x3q0, x4q0, x5q0⟩ := cells6 (C5.out.cells 0 rfl)
          obtain ⟨y0q0, y1q0, y2q0, y3q0, y4q0, y5q0⟩ := frozen6 (C5.out.cells 0 rfl)
          go_wp2_with fail
          clear x0q0 x1q0 x2q0 x3q0 x4q0 x5q0 y0q0 y1q0 y2q0 y3q0 y4q0 y5q0
          refine (pass_at C5.out.at_ K.out 8).mono ?_
          rintro e w6 ⟨rfl, a6, f6⟩
          have C6 := Lib.hid (C5.out.call f6 a6)
          have T6 := Lib.hid ((f6.block qt (heap_lt T5.out) (fun e => NT.out e)).trans T5.out)
          clear T5
          clear a6 f6 C5
          have T9 := (((Fr.refl (fun _ => False) w6).alloc (.cells #[.int .i64 8, .string (bs []), .int .i64 0, .int .i64 (hd s.l).line, .int .i64 (hd s.l).col, .slice none 0 0] 27)).block qt (heap_lt T6.out) (fun e => e)).trans T6.out
          obtain ⟨t0, t1, t2, t3, t4⟩ := Tk.cells5 T9
          have hqt : w6.heap.size ≠ qt := fun e => by have := heap_lt T6.out; omega
          clear T9
          have C7 := Lib.hid (C6.out.know (NdC.leaf _ _ (8 : Nat) ((hd s.l).text) 0 (hd s.l).line (hd s.l).col))
          clear C6
          have C8 := Lib.hid (C7.out.alloc #[.int .i64 8, .string (bs (hd s.l).text), .int .i64 0, .int .i64 (hd s.l).line, .int .i64 (hd s.l).col, .slice none 0 0])
          clear C7
          obtain ⟨x0q1, x1q1, x2q1, x3q1, x4q1, x5q1⟩ := cells6 (C8.out.cells 0 rfl)
          obtain ⟨y0q1, y1q1, y2q1, y3q1, y4q1, y5q1⟩ := frozen6 (C8.out.cells 0 rfl)
          obtain ⟨x0q0, x1q0, x2q0, x3q0, x4q0, x5q0⟩ := cells6 (C8.out.cells 1 rfl)
          obtain ⟨y0q0, y1q0, y2q0, y3q0, y4q0, y5q0⟩ := frozen6 (C8.out.cells 1 rfl)
          have ne_q1_q0 : w6.heap.size ≠ q0 := C8.out.differ 0 1 (by decide) rfl rfl
          have ne_q0_q1 : q0 ≠ w6.heap.size := C8.out.differ 1 0 (by decide) rfl rfl
          go_wp2_with fail
          obtain ⟨b7, d7⟩ := C8.out.fin 1 rfl List.mem_cons_self
          exact bodyPost_ret (res_nodec (x := 2) (q := q0) (by kernel_rfl) rfl b7 rfl) rfl d7
        · have ze4 := txt_no e4
          by_cases e5 : (hd s.l).kind = 2
          · replace hm := ite_yes (.inr (.inr (.inr e5))) hm
            have K := Lib.hid (show (hd s.l).kind ≠ 0 by omega)
            have k5 := num_yes e5
            have k6 : (((hd s.l).kind : Int) != (2 : Nat)) = false := by rw [bne, k5]; rfl
            have k7 : (!(((hd s.l).kind : Int) == 2)) = false := k6
            clear e5 e4 e3 e2
            replace hm := pass_some hm
            obtain ⟨rfl, rfl⟩ := ret_some hm
            clear hm
            have C1 := Lib.hid ((Cx.start h).alloc z6)
            clear h
            go_enter Tryd.func73, Tryd.ntmps73
            go_wp2_with fail
            change Calls _ _ _ (w.alloc zeroNd) _
            obtain ⟨q0, e0⟩ : ∃ q, q = w.heap.size := ⟨_, rfl⟩
            rw [← e0] at C1 ⊢
            clear e0
            generalize w.alloc zeroNd = w1 at *
            refine (next_at C1.out.at_).mono ?_
            rintro e w2 ⟨rfl, u2⟩
            have C2 := Lib.hid (C1.out.up u2)
            clear u2 C1
            have NT := Lib.hid (show w2.heap.size ≠ p from fun e => by have := Nat.lt_of_lt_of_le C2.out.pos C2.out.fr.size; omega)
            have C3 := Lib.hid (C2.out.more (.cells #[.int .i64 (hd s.l).kind, .string (bs (hd s.l).text), .int .i64 (hd s.l).n, .int .i64 (hd s.l).line, .int .i64 (hd s.l).col] 43))
            have T3 := Lib.hid (heap_alloc_new w2 (.cells #[.int .i64 (hd s.l).kind, .string (bs (hd s.l).text), .int .i64 (hd s.l).n, .int .i64 (hd s.l).line, .int .i64 (hd s.l).col] 43))
            clear C2
            simp only [tokT, tokA]
            obtain ⟨x0q0, x1q0, x2q0, x3q0, x4q0, x5q0⟩ := cells6 (C3.out.cells 0 rfl)
            obtain ⟨y0q0, y1q0, y2q0, y3q0, y4q0, y5q0⟩ := frozen6 (C3.out.cells 0 rfl)
            obtain ⟨t0, t1, t2, t3, t4⟩ := Tk.cells5 T3.out
            go_wp2_with fail
            clear x0q0 x1q0 x2q0 x3q0 x4q0 x5q0 y0q0 y1q0 y2q0 y3q0 y4q0 y5q0
            clear t0 t1 t2 t3 t4
            obtain ⟨qt, e_qt⟩ : ∃ q, q = w2.heap.size := ⟨_, rfl⟩
            rw [← e_qt] at T3 NT ⊢
            clear e_qt
            generalize (World.alloc w2 _) = w4 at *
            refine (mark_at C3.out.at_).mono ?_
            rintro e w5 ⟨rfl, u5⟩
            have C5 := Lib.hid (C3.out.up u5)
            have T5 := Lib.hid ((u5.block qt (heap_lt T3.out) (fun e => e)).trans T3.out)
            clear T3
            clear u5 C3
            obtain ⟨t0, t1, t2, t3, t4⟩ := Tk.cells5 T5.out
            obtain ⟨x0q0, x1q0, x2q0, x3q0, x4q0, x5q0⟩ := cells6 (C5.out.cells 0 rfl)
            obtain ⟨y0q0, y1q0, y2q0, y3q0, y4q0, y5q0⟩ := frozen6 (C5.out.cells 0 rfl)
            go_wp2_with fail
            clear x0q0 x1q0 x2q0 x3q0 x4q0 x5q0 y0q0 y1q0 y2q0 y3q0 y4q0 y5q0
            clear t0 t1 t2 t3 t4
            refine (pass_at C5.out.at_ K.out 8).mono ?_
            rintro e w6 ⟨rfl, a6, f6⟩
            have C6 := Lib.hid (C5.out.call f6 a6)
            have T6 := Lib.hid ((f6.block qt (heap_lt T5.out) (fun e => NT.out e)).trans T5.out)
            clear T5
            clear a6 f6 C5
            have T9 := (((Fr.refl (fun _ => False) w6).alloc (.cells #[.int .i64 8, .string (bs []), .int .i64 0, .int .i64 (hd s.l).line, .int .i64 (hd s.l).col, .slice none 0 0] 27)).block qt (heap_lt T6.out) (fun e => e)).trans T6.out
            obtain ⟨t0, t1, t2, t3, t4⟩ := Tk.cells5 T9
            have hqt : w6.heap.size ≠ qt := fun e => by have := heap_lt T6.out; omega
            clear T9
            have C7 := Lib.hid (C6.out.know (NdC.leaf _ _ (8 : Nat) ((hd s.l).text) 0 (hd s.l).line (hd s.l).col))
            clear C6
            have C8 := Lib.hid (C7.out.alloc #[.int .i64 8, .string (bs (hd s.l).text), .int .i64 0, .int .i64 (hd s.l).line, .int .i64 (hd s.l).col, .slice none 0 0])
            clear C7
            obtain ⟨x0q1, x1q1, x2q1, x3q1, x4q1, x5q1⟩ := cells6 (C8.out.cells 0 rfl)
            obtain ⟨y0q1, y1q1, y2q1, y3q1, y4q1, y5q1⟩ := frozen6 (C8.out.cells 0 rfl)
            obtain ⟨x0q0, x1q0, x2q0, x3q0, x4q0, x5q0⟩ := cells6 (C8.out.cells 1 rfl)
            obtain ⟨y0q0, y1q0, y2q0, y3q0, y4q0, y5q0⟩ := frozen6 (C8.out.cells 1 rfl)
            have ne_q1_q0 : w6.heap.size ≠ q0 := C8.out.differ 0 1 (by decide) rfl rfl
            have ne_q0_q1 : q0 ≠ w6.heap.size := C8.out.differ 1 0 (by decide) rfl rfl
            go_wp2_with fail
            obtain ⟨b7, d7⟩ := C8.out.fin 1 rfl List.mem_cons_self
            exact bodyPost_ret (res_nodec (x := 2) (q := q0) (by kernel_rfl) rfl b7 rfl) rfl d7
          · replace hm := ite_no (fun h => by rcases h with h | h | h | h; exact e2 h; exact e3 h; exact e4 h; exact e5 h) hm
            have k5 := num_no e5
            have k6 : (((hd s.l).kind : Int) != (2 : Nat)) = true := by rw [bne, k5]; rfl
            have k7 : (!(((hd s.l).kind : Int) == 2)) = true := k6
            clear e5 e4 e3 e2
            have hx := then_some hm
            clear hm
            obtain ⟨⟨⟩, sF, hF, hm⟩ := hx
            have MF := Lib.hid hF
            clear hF
            obtain ⟨rfl, rfl⟩ := ret_some hm
            clear hm
            have C1 := Lib.hid ((Cx.start h).alloc z6)
            clear h
            go_enter Tryd.func73, Tryd.ntmps73
            go_wp2_with fail
            change Calls _ _ _ (w.alloc zeroNd) _
            obtain ⟨q0, e0⟩ : ∃ q, q = w.heap.size := ⟨_, rfl⟩
            rw [← e0] at C1 ⊢
            clear e0
            generalize w.alloc zeroNd = w1 at *
            refine (next_at C1.out.at_).mono ?_
            rintro e w2 ⟨rfl, u2⟩
            have C2 := Lib.hid (C1.out.up u2)
            clear u2 C1
            have NT := Lib.hid (show w2.heap.size ≠ p from fun e => by have := Nat.lt_of_lt_of_le C2.out.pos C2.out.fr.size; omega)
            have C3 := Lib.hid (C2.out.more (.cells #[.int .i64 (hd s.l).kind, .string (bs (hd s.l).text), .int .i64 (hd s.l).n, .int .i64 (hd s.l).line, .int .i64 (hd s.l).col] 43))
            have T3 := Lib.hid (heap_alloc_new w2 (.cells #[.int .i64 (hd s.l).kind, .string (bs (hd s.l).text), .int .i64 (hd s.l).n, .int .i64 (hd s.l).line, .int .i64 (hd s.l).col] 43))
            clear C2
            simp only [tokT, tokA]
            obtain ⟨x0q0, x1q0, x2q0, x3q0, x4q0, x5q0⟩ := cells6 (C3.out.cells 0 rfl)
            obtain ⟨y0q0, y1q0, y2q0, y3q0, y4q0, y5q0⟩ := frozen6 (C3.out.cells 0 rfl)
            obtain ⟨t0, t1, t2, t3, t4⟩ := Tk.cells5 T3.out
            go_wp2_with fail
            clear x0q0 x1q0 x2q0 x3q0 x4q0 x5q0 y0q0 y1q0 y2q0 y3q0 y4q0 y5q0
            clear t0 t1 t2 t3 t4
            obtain ⟨qt, e_qt⟩ : ∃ q, q = w2.heap.size := ⟨_, rfl⟩
            rw [← e_qt] at T3 NT ⊢
            clear e_qt
            generalize (World.alloc w2 _) = w4 at *
            refine (mark_at C3.out.at_).mono ?_
            rintro e w5 ⟨rfl, u5⟩
            have C5 := Lib.hid (C3.out.up u5)
            have T5 := Lib.hid ((u5.block qt (heap_lt T3.out) (fun e => e)).trans T3.out)
            clear T3
            clear u5 C3
            obtain ⟨t0, t1, t2, t3, t4⟩ := Tk.cells5 T5.out
            obtain ⟨x0q0, x1q0, x2q0, x3q0, x4q0, x5q0⟩ := cells6 (C5.out.cells 0 rfl)
            obtain ⟨y0q0, y1q0, y2q0, y3q0, y4q0, y5q0⟩ := frozen6 (C5.out.cells 0 rfl)
            go_wp2_with fail
            clear x0q0 x1q0 x2q0 x3q0 x4q0 x5q0 y0q0 y1q0 y2q0 y3q0 y4q0 y5q0
            clear t0 t1 t2 t3 t4
            refine (fail_at C5.out.at_ (e := 13) MF.out).mono ?_
            rintro e w6 ⟨rfl, a6, f6⟩
            have C6 := Lib.hid (C5.out.call f6 a6)
            clear a6 f6 C5
            have C7 := Lib.hid (C6.out.know (NdC.leaf _ _ (0 : Nat) ([]) 0 0 0))
            clear C6
            obtain ⟨x0q0, x1q0, x2q0, x3q0, x4q0, x5q0⟩ := cells6 (C7.out.cells 0 rfl)
            obtain ⟨y0q0, y1q0, y2q0, y3q0, y4q0, y5q0⟩ := frozen6 (C7.out.cells 0 rfl)
            go_wp2_with fail
            obtain ⟨b7, d7⟩ := C7.out.fin 0 rfl List.mem_cons_self
            exact bodyPost_ret (res_nodec (x := 2) (q := q0) (by kernel_rfl) rfl b7 rfl) rfl d7
end Go.Proofs.YtemmdbjcllcelaaDoor.Pa
