/-
  Package parse: rules, one by one (written by wip/genPa.py).
-/
import Derived.Test.YtemmdbjcllcelaaDoorPaJL
import Derived.Test.YtemmdbjcllcelaaDoorPaO
import Derived.Test.YtemmdbjcllcelaaDoorHeld
import Derived.Deep.Heap
import Derived.Deep.Cut
namespace Go.Proofs.YtemmdbjcllcelaaDoor.Pa
open Go.RowKit
open Go.Proofs.YtemmdbjcllcelaaDoor.Tk (Tok TokC bs tokA zeroTok set5 set5_blk set5_fr blk_set eqL)
set_option maxRecDepth 100000
def RunsC (rd : Rule → Nat → M Nd) : Prop :=
  ∀ (w : World) (p : Nat) (A : Option Addr) (cap : Nat) (toks : List Tok) (d : Nat) (s s' : St) (t : Nd), At w p A cap toks d s → d ≤ 40 → rd .choose d s = some (t, s') →
    Calls Tryd.prog (chosen (mark s.l)) #[.pointer (some ⟨p, 0, none⟩)] w fun e w' => Did w p A cap toks d t s' e w'
set_option maxHeartbeats 4000000 in
theorem forStmt_run {rd : Rule → Nat → M Nd} (I : RunsN rd (.expr) [[123]] 87) (J : Runs rd (.block) 59) : Runs (mstep rd) .forStmt 81 := by
  intro w p A cap toks d s s' t h hd40 hp hm
  have D := Lib.hid hd40
  clear hd40
  have K := Lib.hid (show (hd s.l).kind ≠ 0 from hp)
  clear hp
  have Ih := Lib.hid I
  have Jh := Lib.hid J
  clear I J
  have hx := then_some (pass_some (peek_some hm))
  clear hm
  obtain ⟨t1, s1, h1, hm⟩ := hx
  have hx := then_some hm
  clear hm
  obtain ⟨t2, s2, h2, hm⟩ := hx
  obtain ⟨rfl, rfl⟩ := ret_some hm
  clear hm
  have M1 := Lib.hid h1
  have M2 := Lib.hid h2
  clear h1 h2
  have C1 := Lib.hid ((Cx.start h).alloc z6)
  clear h
  go_enter Tryd.func81, Tryd.ntmps81
  go_wp2_with fail
  change Calls _ _ _ (w.alloc zeroNd) _
  obtain ⟨q0, e0⟩ : ∃ q, q = w.heap.size := ⟨_, rfl⟩
  rw [← e0] at C1 ⊢
  clear e0
  generalize w.alloc zeroNd = w1 at *
  refine (pass_at C1.out.at_ K.out 15).mono ?_
  rintro e w2 ⟨rfl, a2, f2⟩
  have C2 := Lib.hid (C1.out.call f2 a2)
  clear a2 f2 C1
  have C3 := Lib.hid (C2.out.alloc #[.int .i64 15, .string (bs []), .int .i64 0, .int .i64 (hd s.l).line, .int .i64 (hd s.l).col, .slice none 0 0])
  clear C2
  have C4 := Lib.hid (C3.out.more (.cells #[.string ⟨#[123]⟩] 9))
  clear C3
  have b1_m := Lib.hid (marks_row (ms := [[123]]) (heap_alloc_new (World.alloc w2 (.cells #[.int .i64 15, .string (bs []), .int .i64 0, .int .i64 (hd s.l).line, .int .i64 (hd s.l).col, .slice none 0 0] 27)) (.cells #[.string ⟨#[123]⟩] 9)) rfl)
  obtain ⟨b1, e_b1⟩ : ∃ q, q = ((World.alloc w2 (.cells #[.int .i64 15, .string (bs []), .int .i64 0, .int .i64 (hd s.l).line, .int .i64 (hd s.l).col, .slice none 0 0] 27))).heap.size := ⟨_, rfl⟩
  rw [← e_b1] at b1_m
  rw [Go.Deep.nblk_alloc] at e_b1
  obtain ⟨x0q1, x1q1, x2q1, x3q1, x4q1, x5q1⟩ := cells6 (C4.out.cells 0 rfl)
  obtain ⟨y0q1, y1q1, y2q1, y3q1, y4q1, y5q1⟩ := frozen6 (C4.out.cells 0 rfl)
  obtain ⟨x0q0, x1q0, x2q0, x3q0, x4q0, x5q0⟩ := cells6 (C4.out.cells 1 rfl)
  obtain ⟨y0q0, y1q0, y2q0, y3q0, y4q0, y5q0⟩ := frozen6 (C4.out.cells 1 rfl)
  have ne_q1_q0 : w2.heap.size ≠ q0 := C4.out.differ 0 1 (by decide) rfl rfl
  have ne_q0_q1 : q0 ≠ w2.heap.size := C4.out.differ 1 0 (by decide) rfl rfl
  go_wp2_with fail
  clear x0q1 x1q1 x2q1 x3q1 x4q1 x5q1 y0q1 y1q1 y2q1 y3q1 y4q1 y5q1 x0q0 x1q0 x2q0 x3q0 x4q0 x5q0 y0q0 y1q0 y2q0 y3q0 y4q0 y5q0 ne_q1_q0 ne_q0_q1
  obtain ⟨q1, e_q1⟩ : ∃ q, q = w2.heap.size := ⟨_, rfl⟩
  rw [← e_q1] at C4 e_b1 ⊢
  clear e_q1
  rw [← e_b1]
  clear e_b1
  generalize (World.alloc (World.alloc w2 _) _) = w5 at *
  refine (Ih.out _ p A cap toks d _ _ _ b1 1 C4.out.at_ D.out rfl b1_m.out.1 b1_m.out.2 M1.out).mono ?_
  rintro e w6 ⟨cs6, rfl, nd6, f6, a6⟩
  have C6 := Lib.hid (C4.out.tree f6 a6 nd6)
  obtain ⟨k6, m6, n6, l6, c6, ks6⟩ := t1
  obtain ⟨A6, cc6, rfl, -⟩ := nd6.row
  clear nd6 f6 a6 C4
  have C7 := Lib.hid (C6.out.alloc #[.int .i64 k6, .string (bs m6), .int .i64 n6, .int .i64 l6, .int .i64 c6, .slice A6 ks6.length cc6])
  clear C6
  obtain ⟨x0q2, x1q2, x2q2, x3q2, x4q2, x5q2⟩ := cells6 (C7.out.cells 0 rfl)
  obtain ⟨y0q2, y1q2, y2q2, y3q2, y4q2, y5q2⟩ := frozen6 (C7.out.cells 0 rfl)
  obtain ⟨x0q1, x1q1, x2q1, x3q1, x4q1, x5q1⟩ := cells6 (C7.out.cells 1 rfl)
  obtain ⟨y0q1, y1q1, y2q1, y3q1, y4q1, y5q1⟩ := frozen6 (C7.out.cells 1 rfl)
  obtain ⟨x0q0, x1q0, x2q0, x3q0, x4q0, x5q0⟩ := cells6 (C7.out.cells 2 rfl)
  obtain ⟨y0q0, y1q0, y2q0, y3q0, y4q0, y5q0⟩ := frozen6 (C7.out.cells 2 rfl)
  have ne_q2_q1 : w6.heap.size ≠ q1 := C7.out.differ 0 1 (by decide) rfl rfl
  have ne_q2_q0 : w6.heap.size ≠ q0 := C7.out.differ 0 2 (by decide) rfl rfl
  have ne_q1_q2 : q1 ≠ w6.heap.size := C7.out.differ 1 0 (by decide) rfl rfl
  have ne_q1_q0 : q1 ≠ q0 := C7.out.differ 1 2 (by decide) rfl rfl
  have ne_q0_q2 : q0 ≠ w6.heap.size := C7.out.differ 2 0 (by decide) rfl rfl
  have ne_q0_q1 : q0 ≠ q1 := C7.out.differ 2 1 (by decide) rfl rfl
  go_upto_region 3 with fail
  clear x0q2 x1q2 x2q2 x3q2 x4q2 x5q2 y0q2 y1q2 y2q2 y3q2 y4q2 y5q2 x0q1 x1q1 x2q1 x3q1 x4q1 x5q1 y0q1 y1q1 y2q1 y3q1 y4q1 y5q1 x0q0 x1q0 x2q0 x3q0 x4q0 x5q0 y0q0 y1q0 y2q0 y3q0 y4q0 y5q0 ne_q2_q1 ne_q2_q0 ne_q1_q2 ne_q1_q0 ne_q0_q2 ne_q0_q1
  obtain ⟨q2, e_q2⟩ : ∃ q, q = w6.heap.size := ⟨_, rfl⟩
  rw [← e_q2] at C7 ⊢
  clear e_q2
  generalize (World.alloc w6 _) = w8 at *
  have C9 := Lib.hid (C7.out.up (Fr.drew (Fr.refl (fun _ => False) w8)))
  clear C7
  refine wp_region_held_drew (S := fun W => W.heap[q2]? = some (.cells #[.int .i64 k6, .string (bs m6), .int .i64 n6, .int .i64 l6, .int .i64 c6, .slice A6 ks6.length cc6] 27 (0, 0))) (by kernel_rfl) (by exact C9.out.cells 0 rfl) (fun hHeld => ?_)
  generalize w8.drew = w9 at *
  refine held_take (i := 0) (d := some 12) (v := ?_) rfl rfl (by kernel_rfl) (by kernel_rfl) (by kernel_rfl) (fun _ _ _ h => h) (by rfl) ?_ (by assumption) ?_
  rotate_left 1
  focus (intro w hSw; obtain ⟨c0, c1, c2, c3, c4, c5⟩ := cells6 (hSw); (try dsimp only at hSw); go_simp; first | done | with_reducible rfl)
  simp only [Act.put, List.setIfInBounds_toArray, List.set_cons_zero, List.set_cons_succ]
  refine held_take (i := 1) (d := some 13) (v := ?_) rfl rfl (by kernel_rfl) (by kernel_rfl) (by kernel_rfl) (fun _ _ _ h => h) (by rfl) ?_ (by assumption) ?_
  rotate_left 1
  focus (intro w hSw; (try dsimp only at hSw); go_simp; first | done | with_reducible rfl)
  simp only [Act.put, List.setIfInBounds_toArray, List.set_cons_zero, List.set_cons_succ]
  refine wpAnyH_ready (rs := [2]) (by kernel_rfl) (by simp) ?_
  refine (AllReadyH.cons (o := _) rfl (fun K hK => ?_) AllReadyH.nil)
  go_simp
  refine (Jh.out _ p A cap toks d _ _ _ C9.out.at_ D.out (True.intro) M2.out).mono ?_
  rintro e w10 ⟨cs10, rfl, nd10, f10, a10⟩
  have C10 := Lib.hid (C9.out.tree f10 a10 nd10)
  obtain ⟨k10, m10, n10, l10, c10, ks10⟩ := t2
  obtain ⟨A10, cc10, rfl, -⟩ := nd10.row
  clear nd10 f10 a10 C9
  go_simp
  refine hK.out _ _ (by exact C10.out.cells 0 rfl) (fun hHeld => ?_)
  clear hK K
  refine wpAnyH_ready (rs := [3]) (by kernel_rfl) (by simp) ?_
  refine (AllReadyH.cons (o := _) rfl (fun K hK => ?_) AllReadyH.nil)
  have R11 := C10.out.row [(Nd.mk k6 m6 n6 l6 c6 ks6, [.int .i64 k6, .string (bs m6), .int .i64 n6, .int .i64 l6, .int .i64 c6, .slice A6 ks6.length cc6]), (Nd.mk k10 m10 n10 l10 c10 ks10, [.int .i64 k10, .string (bs m10), .int .i64 n10, .int .i64 l10, .int .i64 c10, .slice A10 ks10.length cc10])] (sub_cons (List.mem_cons_of_mem _ List.mem_cons_self) (sub_cons List.mem_cons_self sub_nil)) (by simp) (cs := #[.int .i64 k6, .string (bs m6), .int .i64 n6, .int .i64 l6, .int .i64 c6, .slice A6 ks6.length cc6, .int .i64 k10, .string (bs m10), .int .i64 n10, .int .i64 l10, .int .i64 c10, .slice A10 ks10.length cc10]) rfl
  have C11 := Lib.hid ((C10.out.more (.cells #[.int .i64 k6, .string (bs m6), .int .i64 n6, .int .i64 l6, .int .i64 c6, .slice A6 ks6.length cc6, .int .i64 k10, .string (bs m10), .int .i64 n10, .int .i64 l10, .int .i64 c10, .slice A10 ks10.length cc10] 27)).know (NdC.of R11 (15 : Nat) ([]) 0 (hd s.l).line (hd s.l).col))
  clear C10 R11
  go_simp
  refine hK.out _ _ (by exact C11.out.cells 0 rfl) (fun hHeld => ?_)
  clear hK K
  refine held_take (i := 4) (d := some 16) (v := ?_) rfl rfl (by kernel_rfl) (by kernel_rfl) (by kernel_rfl) (fun _ _ _ h => h) (by rfl) ?_ (by assumption) ?_
  rotate_left 1
  focus (intro w hSw; (try dsimp only at hSw); go_simp; first | done | with_reducible rfl)
  simp only [Act.put, List.setIfInBounds_toArray, List.set_cons_zero, List.set_cons_succ]
  refine wpAnyH_ready (rs := [5]) (by kernel_rfl) (by simp) ?_
  refine (AllReadyH.cons (o := _) rfl (fun K hK => ?_) AllReadyH.nil)
  obtain ⟨x0q1, x1q1, x2q1, x3q1, x4q1, x5q1⟩ := cells6 (C11.out.cells 1 rfl)
  obtain ⟨y0q1, y1q1, y2q1, y3q1, y4q1, y5q1⟩ := frozen6 (C11.out.cells 1 rfl)
  go_simp
  clear x0q1 x1q1 x2q1 x3q1 x4q1 x5q1 y0q1 y1q1 y2q1 y3q1 y4q1 y5q1
  have C12 := Lib.hid (C11.out.set 1 rfl 5 (.slice (some ⟨w10.heap.size, 0, none⟩) 2 2))
  clear C11
  refine hK.out _ _ (by exact C12.out.cells 0 rfl) (fun hHeld => ?_)
  clear hK K
  refine wpAnyH_done (by kernel_rfl) ?_ _
  clear hHeld
  generalize (World.setCell (World.alloc w10 _) _ _) = w13 at *
  obtain ⟨x0q2, x1q2, x2q2, x3q2, x4q2, x5q2⟩ := cells6 (C12.out.cells 0 rfl)
  obtain ⟨y0q2, y1q2, y2q2, y3q2, y4q2, y5q2⟩ := frozen6 (C12.out.cells 0 rfl)
  obtain ⟨x0q1, x1q1, x2q1, x3q1, x4q1, x5q1⟩ := cells6 (C12.out.cells 1 rfl)
  obtain ⟨y0q1, y1q1, y2q1, y3q1, y4q1, y5q1⟩ := frozen6 (C12.out.cells 1 rfl)
  obtain ⟨x0q0, x1q0, x2q0, x3q0, x4q0, x5q0⟩ := cells6 (C12.out.cells 2 rfl)
  obtain ⟨y0q0, y1q0, y2q0, y3q0, y4q0, y5q0⟩ := frozen6 (C12.out.cells 2 rfl)
  have ne_q2_q1 : q2 ≠ q1 := C12.out.differ 0 1 (by decide) rfl rfl
  have ne_q2_q0 : q2 ≠ q0 := C12.out.differ 0 2 (by decide) rfl rfl
  have ne_q1_q2 : q1 ≠ q2 := C12.out.differ 1 0 (by decide) rfl rfl
  have ne_q1_q0 : q1 ≠ q0 := C12.out.differ 1 2 (by decide) rfl rfl
  have ne_q0_q2 : q0 ≠ q2 := C12.out.differ 2 0 (by decide) rfl rfl
  have ne_q0_q1 : q0 ≠ q1 := C12.out.differ 2 1 (by decide) rfl rfl
  go_wp2_with fail
  obtain ⟨b7, d7⟩ := C12.out.fin 2 rfl List.mem_cons_self
  exact bodyPost_ret (res_nodec (x := 2) (q := q0) (by kernel_rfl) rfl b7 rfl) rfl d7
set_option maxHeartbeats 4000000 in
theorem ifStmt_run {rd : Rule → Nat → M Nd} (I : Runs rd (.expr) 87) (J : Runs rd (.block) 59) (L : Runs rd (.elsePart) 88) : Runs (mstep rd) .ifStmt 80 := by
  intro w p A cap toks d s s' t h hd40 hp hm
  have D := Lib.hid hd40
  clear hd40
  have K := Lib.hid (show (hd s.l).kind ≠ 0 from hp)
  clear hp
  have Ih := Lib.hid I
  have Jh := Lib.hid J
  have Lh := Lib.hid L
  clear I J L
  have hx := then_some (pass_some (peek_some hm))
  clear hm
  obtain ⟨t1, s1, h1, hm⟩ := hx
  have hx := then_some hm
  clear hm
  obtain ⟨t2, s2, h2, hm⟩ := hx
  have hx := then_some hm
  clear hm
  obtain ⟨t3, s3, h3, hm⟩ := hx
  obtain ⟨rfl, rfl⟩ := ret_some hm
  clear hm
  have M1 := Lib.hid h1
  have M2 := Lib.hid h2
  have M3 := Lib.hid h3
  clear h1 h2 h3
  have C1 := Lib.hid ((Cx.start h).alloc z6)
  clear h
  go_enter Tryd.func80, Tryd.ntmps80
  go_wp2_with fail
  change Calls _ _ _ (w.alloc zeroNd) _
  obtain ⟨q0, e0⟩ : ∃ q, q = w.heap.size := ⟨_, rfl⟩
  rw [← e0] at C1 ⊢
  clear e0
  generalize w.alloc zeroNd = w1 at *
  refine (pass_at C1.out.at_ K.out 14).mono ?_
  rintro e w2 ⟨rfl, a2, f2⟩
  have C2 := Lib.hid (C1.out.call f2 a2)
  clear a2 f2 C1
  have C3 := Lib.hid (C2.out.alloc #[.int .i64 14, .string (bs []), .int .i64 0, .int .i64 (hd s.l).line, .int .i64 (hd s.l).col, .slice none 0 0])
  clear C2
  obtain ⟨x0q1, x1q1, x2q1, x3q1, x4q1, x5q1⟩ := cells6 (C3.out.cells 0 rfl)
  obtain ⟨y0q1, y1q1, y2q1, y3q1, y4q1, y5q1⟩ := frozen6 (C3.out.cells 0 rfl)
  obtain ⟨x0q0, x1q0, x2q0, x3q0, x4q0, x5q0⟩ := cells6 (C3.out.cells 1 rfl)
  obtain ⟨y0q0, y1q0, y2q0, y3q0, y4q0, y5q0⟩ := frozen6 (C3.out.cells 1 rfl)
  have ne_q1_q0 : w2.heap.size ≠ q0 := C3.out.differ 0 1 (by decide) rfl rfl
  have ne_q0_q1 : q0 ≠ w2.heap.size := C3.out.differ 1 0 (by decide) rfl rfl
  go_wp2_with fail
  clear x0q1 x1q1 x2q1 x3q1 x4q1 x5q1 y0q1 y1q1 y2q1 y3q1 y4q1 y5q1 x0q0 x1q0 x2q0 x3q0 x4q0 x5q0 y0q0 y1q0 y2q0 y3q0 y4q0 y5q0 ne_q1_q0 ne_q0_q1
  obtain ⟨q1, e_q1⟩ : ∃ q, q = w2.heap.size := ⟨_, rfl⟩
  rw [← e_q1] at C3 ⊢
  clear e_q1
  generalize (World.alloc w2 _) = w4 at *
  refine (Ih.out _ p A cap toks d _ _ _ C3.out.at_ D.out (True.intro) M1.out).mono ?_
  rintro e w5 ⟨cs5, rfl, nd5, f5, a5⟩
  have C5 := Lib.hid (C3.out.tree f5 a5 nd5)
  obtain ⟨k5, m5, n5, l5, c5, ks5⟩ := t1
  obtain ⟨A5, cc5, rfl, -⟩ := nd5.row
  clear nd5 f5 a5 C3
  obtain ⟨x0q1, x1q1, x2q1, x3q1, x4q1, x5q1⟩ := cells6 (C5.out.cells 0 rfl)
  obtain ⟨y0q1, y1q1, y2q1, y3q1, y4q1, y5q1⟩ := frozen6 (C5.out.cells 0 rfl)
  obtain ⟨x0q0, x1q0, x2q0, x3q0, x4q0, x5q0⟩ := cells6 (C5.out.cells 1 rfl)
  obtain ⟨y0q0, y1q0, y2q0, y3q0, y4q0, y5q0⟩ := frozen6 (C5.out.cells 1 rfl)
  have ne_q1_q0 : q1 ≠ q0 := C5.out.differ 0 1 (by decide) rfl rfl
  have ne_q0_q1 : q0 ≠ q1 := C5.out.differ 1 0 (by decide) rfl rfl
  go_wp2_with fail
  clear x0q1 x1q1 x2q1 x3q1 x4q1 x5q1 y0q1 y1q1 y2q1 y3q1 y4q1 y5q1 x0q0 x1q0 x2q0 x3q0 x4q0 x5q0 y0q0 y1q0 y2q0 y3q0 y4q0 y5q0 ne_q1_q0 ne_q0_q1
  refine (Jh.out _ p A cap toks d _ _ _ C5.out.at_ D.out (True.intro) M2.out).mono ?_
  rintro e w6 ⟨cs6, rfl, nd6, f6, a6⟩
  have C6 := Lib.hid (C5.out.tree f6 a6 nd6)
  obtain ⟨k6, m6, n6, l6, c6, ks6⟩ := t2
  obtain ⟨A6, cc6, rfl, -⟩ := nd6.row
  clear nd6 f6 a6 C5
  have C7 := Lib.hid (C6.out.alloc #[.int .i64 k5, .string (bs m5), .int .i64 n5, .int .i64 l5, .int .i64 c5, .slice A5 ks5.length cc5])
  clear C6
  have C8 := Lib.hid (C7.out.alloc #[.int .i64 k6, .string (bs m6), .int .i64 n6, .int .i64 l6, .int .i64 c6, .slice A6 ks6.length cc6])
  clear C7
  rw [Go.Deep.nblk_alloc] at C8
  obtain ⟨x0q3, x1q3, x2q3, x3q3, x4q3, x5q3⟩ := cells6 (C8.out.cells 0 rfl)
  obtain ⟨y0q3, y1q3, y2q3, y3q3, y4q3, y5q3⟩ := frozen6 (C8.out.cells 0 rfl)
  obtain ⟨x0q2, x1q2, x2q2, x3q2, x4q2, x5q2⟩ := cells6 (C8.out.cells 1 rfl)
  obtain ⟨y0q2, y1q2, y2q2, y3q2, y4q2, y5q2⟩ := frozen6 (C8.out.cells 1 rfl)
  obtain ⟨x0q1, x1q1, x2q1, x3q1, x4q1, x5q1⟩ := cells6 (C8.out.cells 2 rfl)
  obtain ⟨y0q1, y1q1, y2q1, y3q1, y4q1, y5q1⟩ := frozen6 (C8.out.cells 2 rfl)
  obtain ⟨x0q0, x1q0, x2q0, x3q0, x4q0, x5q0⟩ := cells6 (C8.out.cells 3 rfl)
  obtain ⟨y0q0, y1q0, y2q0, y3q0, y4q0, y5q0⟩ := frozen6 (C8.out.cells 3 rfl)
  have ne_q3_q2 : (w6.heap.size + 1) ≠ w6.heap.size := C8.out.differ 0 1 (by decide) rfl rfl
  have ne_q3_q1 : (w6.heap.size + 1) ≠ q1 := C8.out.differ 0 2 (by decide) rfl rfl
  have ne_q3_q0 : (w6.heap.size + 1) ≠ q0 := C8.out.differ 0 3 (by decide) rfl rfl
  have ne_q2_q3 : w6.heap.size ≠ (w6.heap.size + 1) := C8.out.differ 1 0 (by decide) rfl rfl
  have ne_q2_q1 : w6.heap.size ≠ q1 := C8.out.differ 1 2 (by decide) rfl rfl
  have ne_q2_q0 : w6.heap.size ≠ q0 := C8.out.differ 1 3 (by decide) rfl rfl
  have ne_q1_q3 : q1 ≠ (w6.heap.size + 1) := C8.out.differ 2 0 (by decide) rfl rfl
  have ne_q1_q2 : q1 ≠ w6.heap.size := C8.out.differ 2 1 (by decide) rfl rfl
  have ne_q1_q0 : q1 ≠ q0 := C8.out.differ 2 3 (by decide) rfl rfl
  have ne_q0_q3 : q0 ≠ (w6.heap.size + 1) := C8.out.differ 3 0 (by decide) rfl rfl
  have ne_q0_q2 : q0 ≠ w6.heap.size := C8.out.differ 3 1 (by decide) rfl rfl
  have ne_q0_q1 : q0 ≠ q1 := C8.out.differ 3 2 (by decide) rfl rfl
  go_upto_region 3 with fail
  clear x0q3 x1q3 x2q3 x3q3 x4q3 x5q3 y0q3 y1q3 y2q3 y3q3 y4q3 y5q3 x0q2 x1q2 x2q2 x3q2 x4q2 x5q2 y0q2 y1q2 y2q2 y3q2 y4q2 y5q2 x0q1 x1q1 x2q1 x3q1 x4q1 x5q1 y0q1 y1q1 y2q1 y3q1 y4q1 y5q1 x0q0 x1q0 x2q0 x3q0 x4q0 x5q0 y0q0 y1q0 y2q0 y3q0 y4q0 y5q0 ne_q3_q2 ne_q3_q1 ne_q3_q0 ne_q2_q3 ne_q2_q1 ne_q2_q0 ne_q1_q3 ne_q1_q2 ne_q1_q0 ne_q0_q3 ne_q0_q2 ne_q0_q1
  obtain ⟨q2, e_q2⟩ : ∃ q, q = w6.heap.size := ⟨_, rfl⟩
  rw [← e_q2] at C8 ⊢
  clear e_q2
  obtain ⟨q3, e_q3⟩ : ∃ q, q = q2 + 1 := ⟨_, rfl⟩
  rw [← e_q3] at C8 ⊢
  clear e_q3
  generalize (World.alloc (World.alloc w6 _) _) = w9 at *
  have C10 := Lib.hid (C8.out.up (Fr.drew (Fr.refl (fun _ => False) w9)))
  clear C8
  refine wp_region_held_drew (S := fun W => W.heap[q2]? = some (.cells #[.int .i64 k5, .string (bs m5), .int .i64 n5, .int .i64 l5, .int .i64 c5, .slice A5 ks5.length cc5] 27 (0, 0)) ∧ W.heap[q3]? = some (.cells #[.int .i64 k6, .string (bs m6), .int .i64 n6, .int .i64 l6, .int .i64 c6, .slice A6 ks6.length cc6] 27 (0, 0))) (by kernel_rfl) (by exact ⟨C10.out.cells 1 rfl, C10.out.cells 0 rfl⟩) (fun hHeld => ?_)
  generalize w9.drew = w10 at *
  refine held_take (i := 0) (d := some 12) (v := ?_) rfl rfl (by kernel_rfl) (by kernel_rfl) (by kernel_rfl) (fun _ _ _ h => h) (by rfl) ?_ (by assumption) ?_
  rotate_left 1
  focus (intro w hSw; obtain ⟨c0, c1, c2, c3, c4, c5⟩ := cells6 (hSw.1); (try dsimp only at hSw); go_simp; first | done | with_reducible rfl)
  simp only [Act.put, List.setIfInBounds_toArray, List.set_cons_zero, List.set_cons_succ]
  refine held_take (i := 1) (d := some 13) (v := ?_) rfl rfl (by kernel_rfl) (by kernel_rfl) (by kernel_rfl) (fun _ _ _ h => h) (by rfl) ?_ (by assumption) ?_
  rotate_left 1
  focus (intro w hSw; obtain ⟨c0, c1, c2, c3, c4, c5⟩ := cells6 (hSw.2); (try dsimp only at hSw); go_simp; first | done | with_reducible rfl)
  simp only [Act.put, List.setIfInBounds_toArray, List.set_cons_zero, List.set_cons_succ]
  refine held_take (i := 2) (d := some 14) (v := ?_) rfl rfl (by kernel_rfl) (by kernel_rfl) (by kernel_rfl) (fun _ _ _ h => h) (by rfl) ?_ (by assumption) ?_
  rotate_left 1
  focus (intro w hSw; (try dsimp only at hSw); go_simp; first | done | with_reducible rfl)
  simp only [Act.put, List.setIfInBounds_toArray, List.set_cons_zero, List.set_cons_succ]
  refine wpAnyH_ready (rs := [3]) (by kernel_rfl) (by simp) ?_
  refine (AllReadyH.cons (o := _) rfl (fun K hK => ?_) AllReadyH.nil)
  go_simp
  refine (Lh.out _ p A cap toks d _ _ _ C10.out.at_ D.out (True.intro) M3.out).mono ?_
  rintro e w11 ⟨cs11, rfl, nd11, f11, a11⟩
  have C11 := Lib.hid (C10.out.tree f11 a11 nd11)
  obtain ⟨k11, m11, n11, l11, c11, ks11⟩ := t3
  obtain ⟨A11, cc11, rfl, -⟩ := nd11.row
  clear nd11 f11 a11 C10
  go_simp
  refine hK.out _ _ (by exact ⟨C11.out.cells 1 rfl, C11.out.cells 0 rfl⟩) (fun hHeld => ?_)
  clear hK K
  refine wpAnyH_ready (rs := [4]) (by kernel_rfl) (by simp) ?_
  refine (AllReadyH.cons (o := _) rfl (fun K hK => ?_) AllReadyH.nil)
  have R12 := C11.out.row [(Nd.mk k5 m5 n5 l5 c5 ks5, [.int .i64 k5, .string (bs m5), .int .i64 n5, .int .i64 l5, .int .i64 c5, .slice A5 ks5.length cc5]), (Nd.mk k6 m6 n6 l6 c6 ks6, [.int .i64 k6, .string (bs m6), .int .i64 n6, .int .i64 l6, .int .i64 c6, .slice A6 ks6.length cc6]), (Nd.mk k11 m11 n11 l11 c11 ks11, [.int .i64 k11, .string (bs m11), .int .i64 n11, .int .i64 l11, .int .i64 c11, .slice A11 ks11.length cc11])] (sub_cons (List.mem_cons_of_mem _ (List.mem_cons_of_mem _ List.mem_cons_self)) (sub_cons (List.mem_cons_of_mem _ List.mem_cons_self) (sub_cons List.mem_cons_self sub_nil))) (by simp) (cs := #[.int .i64 k5, .string (bs m5), .int .i64 n5, .int .i64 l5, .int .i64 c5, .slice A5 ks5.length cc5, .int .i64 k6, .string (bs m6), .int .i64 n6, .int .i64 l6, .int .i64 c6, .slice A6 ks6.length cc6, .int .i64 k11, .string (bs m11), .int .i64 n11, .int .i64 l11, .int .i64 c11, .slice A11 ks11.length cc11]) rfl
  have C12 := Lib.hid ((C11.out.more (.cells #[.int .i64 k5, .string (bs m5), .int .i64 n5, .int .i64 l5, .int .i64 c5, .slice A5 ks5.length cc5, .int .i64 k6, .string (bs m6), .int .i64 n6, .int .i64 l6, .int .i64 c6, .slice A6 ks6.length cc6, .int .i64 k11, .string (bs m11), .int .i64 n11, .int .i64 l11, .int .i64 c11, .slice A11 ks11.length cc11] 27)).know (NdC.of R12 (14 : Nat) ([]) 0 (hd s.l).line (hd s.l).col))
  clear C11 R12
  go_simp
  refine hK.out _ _ (by exact ⟨C12.out.cells 1 rfl, C12.out.cells 0 rfl⟩) (fun hHeld => ?_)
  clear hK K
  refine held_take (i := 5) (d := some 17) (v := ?_) rfl rfl (by kernel_rfl) (by kernel_rfl) (by kernel_rfl) (fun _ _ _ h => h) (by rfl) ?_ (by assumption) ?_
  rotate_left 1
  focus (intro w hSw; (try dsimp only at hSw); go_simp; first | done | with_reducible rfl)
  simp only [Act.put, List.setIfInBounds_toArray, List.set_cons_zero, List.set_cons_succ]
  refine wpAnyH_ready (rs := [6]) (by kernel_rfl) (by simp) ?_
  refine (AllReadyH.cons (o := _) rfl (fun K hK => ?_) AllReadyH.nil)
  obtain ⟨x0q1, x1q1, x2q1, x3q1, x4q1, x5q1⟩ := cells6 (C12.out.cells 2 rfl)
  obtain ⟨y0q1, y1q1, y2q1, y3q1, y4q1, y5q1⟩ := frozen6 (C12.out.cells 2 rfl)
  go_simp
  clear x0q1 x1q1 x2q1 x3q1 x4q1 x5q1 y0q1 y1q1 y2q1 y3q1 y4q1 y5q1
  have C13 := Lib.hid (C12.out.set 2 rfl 5 (.slice (some ⟨w11.heap.size, 0, none⟩) 3 3))
  clear C12
  refine hK.out _ _ (by exact ⟨C13.out.cells 1 rfl, C13.out.cells 0 rfl⟩) (fun hHeld => ?_)
  clear hK K
  refine wpAnyH_done (by kernel_rfl) ?_ _
  clear hHeld
  generalize (World.setCell (World.alloc w11 _) _ _) = w14 at *
  obtain ⟨x0q3, x1q3, x2q3, x3q3, x4q3, x5q3⟩ := cells6 (C13.out.cells 0 rfl)
  obtain ⟨y0q3, y1q3, y2q3, y3q3, y4q3, y5q3⟩ := frozen6 (C13.out.cells 0 rfl)
  obtain ⟨x0q2, x1q2, x2q2, x3q2, x4q2, x5q2⟩ := cells6 (C13.out.cells 1 rfl)
  obtain ⟨y0q2, y1q2, y2q2, y3q2, y4q2, y5q2⟩ := frozen6 (C13.out.cells 1 rfl)
  obtain ⟨x0q1, x1q1, x2q1, x3q1, x4q1, x5q1⟩ := cells6 (C13.out.cells 2 rfl)
  obtain ⟨y0q1, y1q1, y2q1, y3q1, y4q1, y5q1⟩ := frozen6 (C13.out.cells 2 rfl)
  obtain ⟨x0q0, x1q0, x2q0, x3q0, x4q0, x5q0⟩ := cells6 (C13.out.cells 3 rfl)
  obtain ⟨y0q0, y1q0, y2q0, y3q0, y4q0, y5q0⟩ := frozen6 (C13.out.cells 3 rfl)
  have ne_q3_q2 : q3 ≠ q2 := C13.out.differ 0 1 (by decide) rfl rfl
  have ne_q3_q1 : q3 ≠ q1 := C13.out.differ 0 2 (by decide) rfl rfl
  have ne_q3_q0 : q3 ≠ q0 := C13.out.differ 0 3 (by decide) rfl rfl
  have ne_q2_q3 : q2 ≠ q3 := C13.out.differ 1 0 (by decide) rfl rfl
  have ne_q2_q1 : q2 ≠ q1 := C13.out.differ 1 2 (by decide) rfl rfl
  have ne_q2_q0 : q2 ≠ q0 := C13.out.differ 1 3 (by decide) rfl rfl
  have ne_q1_q3 : q1 ≠ q3 := C13.out.differ 2 0 (by decide) rfl rfl
  have ne_q1_q2 : q1 ≠ q2 := C13.out.differ 2 1 (by decide) rfl rfl
  have ne_q1_q0 : q1 ≠ q0 := C13.out.differ 2 3 (by decide) rfl rfl
  have ne_q0_q3 : q0 ≠ q3 := C13.out.differ 3 0 (by decide) rfl rfl
  have ne_q0_q2 : q0 ≠ q2 := C13.out.differ 3 1 (by decide) rfl rfl
  have ne_q0_q1 : q0 ≠ q1 := C13.out.differ 3 2 (by decide) rfl rfl
  go_wp2_with fail
  obtain ⟨b7, d7⟩ := C13.out.fin 3 rfl List.mem_cons_self
  exact bodyPost_ret (res_nodec (x := 2) (q := q0) (by kernel_rfl) rfl b7 rfl) rfl d7
set_option maxHeartbeats 4000000 in
theorem receiver_run {rd : Rule → Nat → M Nd} : Runs (mstep rd) .receiver 54 := by
  intro w p A cap toks d s s' t h hd40 hp hm
  have D := Lib.hid hd40
  clear hd40
  clear hp
  have hx := then_some (peek_some hm)
  clear hm
  obtain ⟨⟨⟩, s1, h1, hm⟩ := hx
  have hx := then_some (peek_some hm)
  clear hm
  obtain ⟨nm, s2, h2, hm⟩ := hx
  have hx := then_some (peek_some hm)
  clear hm
  obtain ⟨tn, s3, h3, hm⟩ := hx
  have hx := then_some hm
  clear hm
  obtain ⟨⟨⟩, s4, h4, hm⟩ := hx
  obtain ⟨rfl, rfl⟩ := ret_some hm
  clear hm
  have M1 := Lib.hid h1
  have M2 := Lib.hid h2
  have M3 := Lib.hid h3
  have M4 := Lib.hid h4
  clear h1 h2 h3 h4
  have C1 := Lib.hid ((Cx.start h).alloc z6)
  clear h
  go_enter Tryd.func54, Tryd.ntmps54
  go_wp2_with fail
  change Calls _ _ _ (w.alloc zeroNd) _
  obtain ⟨q0, e0⟩ : ∃ q, q = w.heap.size := ⟨_, rfl⟩
  rw [← e0] at C1 ⊢
  clear e0
  generalize w.alloc zeroNd = w1 at *
  refine (want_at C1.out.at_ (by decide) M1.out).mono ?_
  rintro e w2 ⟨rfl, a2, f2⟩
  have C2 := Lib.hid (C1.out.call f2 a2)
  clear a2 f2 C1
  obtain ⟨x0q0, x1q0, x2q0, x3q0, x4q0, x5q0⟩ := cells6 (C2.out.cells 0 rfl)
  obtain ⟨y0q0, y1q0, y2q0, y3q0, y4q0, y5q0⟩ := frozen6 (C2.out.cells 0 rfl)
  go_wp2_with fail
  clear x0q0 x1q0 x2q0 x3q0 x4q0 x5q0 y0q0 y1q0 y2q0 y3q0 y4q0 y5q0
  refine (begin_at C2.out.at_ 7).mono ?_
  rintro e w3 ⟨rfl, u3⟩
  have C3 := Lib.hid (C2.out.up u3)
  clear u3 C2
  have C4 := Lib.hid (C3.out.alloc #[.int .i64 7, .string (bs []), .int .i64 0, .int .i64 (hd s1.l).line, .int .i64 (hd s1.l).col, .slice none 0 0])
  clear C3
  obtain ⟨x0q1, x1q1, x2q1, x3q1, x4q1, x5q1⟩ := cells6 (C4.out.cells 0 rfl)
  obtain ⟨y0q1, y1q1, y2q1, y3q1, y4q1, y5q1⟩ := frozen6 (C4.out.cells 0 rfl)
  obtain ⟨x0q0, x1q0, x2q0, x3q0, x4q0, x5q0⟩ := cells6 (C4.out.cells 1 rfl)
  obtain ⟨y0q0, y1q0, y2q0, y3q0, y4q0, y5q0⟩ := frozen6 (C4.out.cells 1 rfl)
  have ne_q1_q0 : w3.heap.size ≠ q0 := C4.out.differ 0 1 (by decide) rfl rfl
  have ne_q0_q1 : q0 ≠ w3.heap.size := C4.out.differ 1 0 (by decide) rfl rfl
  go_wp2_with fail
  clear x0q1 x1q1 x2q1 x3q1 x4q1 x5q1 y0q1 y1q1 y2q1 y3q1 y4q1 y5q1 x0q0 x1q0 x2q0 x3q0 x4q0 x5q0 y0q0 y1q0 y2q0 y3q0 y4q0 y5q0 ne_q1_q0 ne_q0_q1
  obtain ⟨q1, e_q1⟩ : ∃ q, q = w3.heap.size := ⟨_, rfl⟩
  rw [← e_q1] at C4 ⊢
  clear e_q1
  generalize (World.alloc w3 _) = w5 at *
  refine (name_at C4.out.at_ M2.out).mono ?_
  rintro e w6 ⟨rfl, a6, f6⟩
  have C6 := Lib.hid (C4.out.call f6 a6)
  clear a6 f6 C4
  obtain ⟨x0q1, x1q1, x2q1, x3q1, x4q1, x5q1⟩ := cells6 (C6.out.cells 0 rfl)
  obtain ⟨y0q1, y1q1, y2q1, y3q1, y4q1, y5q1⟩ := frozen6 (C6.out.cells 0 rfl)
  obtain ⟨x0q0, x1q0, x2q0, x3q0, x4q0, x5q0⟩ := cells6 (C6.out.cells 1 rfl)
  obtain ⟨y0q0, y1q0, y2q0, y3q0, y4q0, y5q0⟩ := frozen6 (C6.out.cells 1 rfl)
  have ne_q1_q0 : q1 ≠ q0 := C6.out.differ 0 1 (by decide) rfl rfl
  have ne_q0_q1 : q0 ≠ q1 := C6.out.differ 1 0 (by decide) rfl rfl
  go_wp2_with fail
  clear x0q1 x1q1 x2q1 x3q1 x4q1 x5q1 y0q1 y1q1 y2q1 y3q1 y4q1 y5q1 x0q0 x1q0 x2q0 x3q0 x4q0 x5q0 y0q0 y1q0 y2q0 y3q0 y4q0 y5q0 ne_q1_q0 ne_q0_q1
  have C7 := Lib.hid (C6.out.set 0 rfl 1 (.string (bs nm)))
  clear C6
  generalize (World.setCell w6 _ _) = w8 at *
  refine (begin_at C7.out.at_ 8).mono ?_
  rintro e w9 ⟨rfl, u9⟩
  have C9 := Lib.hid (C7.out.up u9)
  clear u9 C7
  have C10 := Lib.hid (C9.out.alloc #[.int .i64 8, .string (bs []), .int .i64 0, .int .i64 (hd s2.l).line, .int .i64 (hd s2.l).col, .slice none 0 0])
  clear C9
  obtain ⟨x0q2, x1q2, x2q2, x3q2, x4q2, x5q2⟩ := cells6 (C10.out.cells 0 rfl)
  obtain ⟨y0q2, y1q2, y2q2, y3q2, y4q2, y5q2⟩ := frozen6 (C10.out.cells 0 rfl)
  obtain ⟨x0q1, x1q1, x2q1, x3q1, x4q1, x5q1⟩ := cells6 (C10.out.cells 1 rfl)
  obtain ⟨y0q1, y1q1, y2q1, y3q1, y4q1, y5q1⟩ := frozen6 (C10.out.cells 1 rfl)
  obtain ⟨x0q0, x1q0, x2q0, x3q0, x4q0, x5q0⟩ := cells6 (C10.out.cells 2 rfl)
  obtain ⟨y0q0, y1q0, y2q0, y3q0, y4q0, y5q0⟩ := frozen6 (C10.out.cells 2 rfl)
  have ne_q2_q1 : w9.heap.size ≠ q1 := C10.out.differ 0 1 (by decide) rfl rfl
  have ne_q2_q0 : w9.heap.size ≠ q0 := C10.out.differ 0 2 (by decide) rfl rfl
  have ne_q1_q2 : q1 ≠ w9.heap.size := C10.out.differ 1 0 (by decide) rfl rfl
  have ne_q1_q0 : q1 ≠ q0 := C10.out.differ 1 2 (by decide) rfl rfl
  have ne_q0_q2 : q0 ≠ w9.heap.size := C10.out.differ 2 0 (by decide) rfl rfl
  have ne_q0_q1 : q0 ≠ q1 := C10.out.differ 2 1 (by decide) rfl rfl
  go_wp2_with fail
  clear x0q2 x1q2 x2q2 x3q2 x4q2 x5q2 y0q2 y1q2 y2q2 y3q2 y4q2 y5q2 x0q1 x1q1 x2q1 x3q1 x4q1 x5q1 y0q1 y1q1 y2q1 y3q1 y4q1 y5q1 x0q0 x1q0 x2q0 x3q0 x4q0 x5q0 y0q0 y1q0 y2q0 y3q0 y4q0 y5q0 ne_q2_q1 ne_q2_q0 ne_q1_q2 ne_q1_q0 ne_q0_q2 ne_q0_q1
  obtain ⟨q2, e_q2⟩ : ∃ q, q = w9.heap.size := ⟨_, rfl⟩
  rw [← e_q2] at C10 ⊢
  clear e_q2
  generalize (World.alloc w9 _) = w11 at *
  refine (name_at C10.out.at_ M3.out).mono ?_
  rintro e w12 ⟨rfl, a12, f12⟩
  have C12 := Lib.hid (C10.out.call f12 a12)
  clear a12 f12 C10
  obtain ⟨x0q2, x1q2, x2q2, x3q2, x4q2, x5q2⟩ := cells6 (C12.out.cells 0 rfl)
  obtain ⟨y0q2, y1q2, y2q2, y3q2, y4q2, y5q2⟩ := frozen6 (C12.out.cells 0 rfl)
  obtain ⟨x0q1, x1q1, x2q1, x3q1, x4q1, x5q1⟩ := cells6 (C12.out.cells 1 rfl)
  obtain ⟨y0q1, y1q1, y2q1, y3q1, y4q1, y5q1⟩ := frozen6 (C12.out.cells 1 rfl)
  obtain ⟨x0q0, x1q0, x2q0, x3q0, x4q0, x5q0⟩ := cells6 (C12.out.cells 2 rfl)
  obtain ⟨y0q0, y1q0, y2q0, y3q0, y4q0, y5q0⟩ := frozen6 (C12.out.cells 2 rfl)
  have ne_q2_q1 : q2 ≠ q1 := C12.out.differ 0 1 (by decide) rfl rfl
  have ne_q2_q0 : q2 ≠ q0 := C12.out.differ 0 2 (by decide) rfl rfl
  have ne_q1_q2 : q1 ≠ q2 := C12.out.differ 1 0 (by decide) rfl rfl
  have ne_q1_q0 : q1 ≠ q0 := C12.out.differ 1 2 (by decide) rfl rfl
  have ne_q0_q2 : q0 ≠ q2 := C12.out.differ 2 0 (by decide) rfl rfl
  have ne_q0_q1 : q0 ≠ q1 := C12.out.differ 2 1 (by decide) rfl rfl
  go_upto_region 6 with fail
  clear x0q2 x1q2 x2q2 x3q2 x4q2 x5q2 y0q2 y1q2 y2q2 y3q2 y4q2 y5q2 x0q1 x1q1 x2q1 x3q1 x4q1 x5q1 y0q1 y1q1 y2q1 y3q1 y4q1 y5q1 x0q0 x1q0 x2q0 x3q0 x4q0 x5q0 y0q0 y1q0 y2q0 y3q0 y4q0 y5q0 ne_q2_q1 ne_q2_q0 ne_q1_q2 ne_q1_q0 ne_q0_q2 ne_q0_q1
  have C13 := Lib.hid (C12.out.set 0 rfl 1 (.string (bs tn)))
  clear C12
  generalize (World.setCell w12 _ _) = w14 at *
  obtain ⟨x0q2E, x1q2E, x2q2E, x3q2E, x4q2E, x5q2E⟩ := cells6 (C13.out.cells 0 rfl)
  obtain ⟨y0q2E, y1q2E, y2q2E, y3q2E, y4q2E, y5q2E⟩ := frozen6 (C13.out.cells 0 rfl)
  have C15 := Lib.hid (C13.out.know (NdC.leaf _ _ (8 : Nat) (tn) 0 (hd s2.l).line (hd s2.l).col))
  clear C13
  have R16 := C15.out.row [(Nd.mk (8 : Nat) tn 0 (hd s2.l).line (hd s2.l).col [], [.int .i64 8, .string (bs tn), .int .i64 0, .int .i64 (hd s2.l).line, .int .i64 (hd s2.l).col, .slice none 0 0])] (sub_cons List.mem_cons_self sub_nil) (by simp) (cs := #[.int .i64 8, .string (bs tn), .int .i64 0, .int .i64 (hd s2.l).line, .int .i64 (hd s2.l).col, .slice none 0 0]) rfl
  have C16 := Lib.hid ((C15.out.more (.cells #[.int .i64 8, .string (bs tn), .int .i64 0, .int .i64 (hd s2.l).line, .int .i64 (hd s2.l).col, .slice none 0 0] 27)).know (NdC.of R16 (7 : Nat) (nm) 0 (hd s1.l).line (hd s1.l).col))
  clear C15 R16
  obtain ⟨x0q2, x1q2, x2q2, x3q2, x4q2, x5q2⟩ := cells6 (C16.out.cells 0 rfl)
  obtain ⟨y0q2, y1q2, y2q2, y3q2, y4q2, y5q2⟩ := frozen6 (C16.out.cells 0 rfl)
  obtain ⟨x0q1, x1q1, x2q1, x3q1, x4q1, x5q1⟩ := cells6 (C16.out.cells 1 rfl)
  obtain ⟨y0q1, y1q1, y2q1, y3q1, y4q1, y5q1⟩ := frozen6 (C16.out.cells 1 rfl)
  obtain ⟨x0q0, x1q0, x2q0, x3q0, x4q0, x5q0⟩ := cells6 (C16.out.cells 2 rfl)
  obtain ⟨y0q0, y1q0, y2q0, y3q0, y4q0, y5q0⟩ := frozen6 (C16.out.cells 2 rfl)
  have ne_q2_q1 : q2 ≠ q1 := C16.out.differ 0 1 (by decide) rfl rfl
  have ne_q2_q0 : q2 ≠ q0 := C16.out.differ 0 2 (by decide) rfl rfl
  have ne_q1_q2 : q1 ≠ q2 := C16.out.differ 1 0 (by decide) rfl rfl
  have ne_q1_q0 : q1 ≠ q0 := C16.out.differ 1 2 (by decide) rfl rfl
  have ne_q0_q2 : q0 ≠ q2 := C16.out.differ 2 0 (by decide) rfl rfl
  have ne_q0_q1 : q0 ≠ q1 := C16.out.differ 2 1 (by decide) rfl rfl
  go_wp2_with fail
  clear x0q2 x1q2 x2q2 x3q2 x4q2 x5q2 y0q2 y1q2 y2q2 y3q2 y4q2 y5q2 x0q1 x1q1 x2q1 x3q1 x4q1 x5q1 y0q1 y1q1 y2q1 y3q1 y4q1 y5q1 x0q0 x1q0 x2q0 x3q0 x4q0 x5q0 y0q0 y1q0 y2q0 y3q0 y4q0 y5q0 ne_q2_q1 ne_q2_q0 ne_q1_q2 ne_q1_q0 ne_q0_q2 ne_q0_q1 x0q2E x1q2E x2q2E x3q2E x4q2E x5q2E y0q2E y1q2E y2q2E y3q2E y4q2E y5q2E
  have C17 := Lib.hid (C16.out.set 1 rfl 5 (.slice (some ⟨w14.heap.size, 0, none⟩) 1 1))
  clear C16
  generalize (World.setCell (World.alloc w14 _) _ _) = w18 at *
  refine (want_at C17.out.at_ (by decide) M4.out).mono ?_
  rintro e w19 ⟨rfl, a19, f19⟩
  have C19 := Lib.hid (C17.out.call f19 a19)
  clear a19 f19 C17
  obtain ⟨x0q2, x1q2, x2q2, x3q2, x4q2, x5q2⟩ := cells6 (C19.out.cells 0 rfl)
  obtain ⟨y0q2, y1q2, y2q2, y3q2, y4q2, y5q2⟩ := frozen6 (C19.out.cells 0 rfl)
  obtain ⟨x0q1, x1q1, x2q1, x3q1, x4q1, x5q1⟩ := cells6 (C19.out.cells 1 rfl)
  obtain ⟨y0q1, y1q1, y2q1, y3q1, y4q1, y5q1⟩ := frozen6 (C19.out.cells 1 rfl)
  obtain ⟨x0q0, x1q0, x2q0, x3q0, x4q0, x5q0⟩ := cells6 (C19.out.cells 2 rfl)
  obtain ⟨y0q0, y1q0, y2q0, y3q0, y4q0, y5q0⟩ := frozen6 (C19.out.cells 2 rfl)
  have ne_q2_q1 : q2 ≠ q1 := C19.out.differ 0 1 (by decide) rfl rfl
  have ne_q2_q0 : q2 ≠ q0 := C19.out.differ 0 2 (by decide) rfl rfl
  have ne_q1_q2 : q1 ≠ q2 := C19.out.differ 1 0 (by decide) rfl rfl
  have ne_q1_q0 : q1 ≠ q0 := C19.out.differ 1 2 (by decide) rfl rfl
  have ne_q0_q2 : q0 ≠ q2 := C19.out.differ 2 0 (by decide) rfl rfl
  have ne_q0_q1 : q0 ≠ q1 := C19.out.differ 2 1 (by decide) rfl rfl
  go_wp2_with fail
  obtain ⟨b7, d7⟩ := C19.out.fin 2 rfl List.mem_cons_self
  exact bodyPost_ret (res_nodec (x := 2) (q := q0) (by kernel_rfl) rfl b7 rfl) rfl d7
theorem chosen_enters (m : List UInt8) : ∀ (args : Array Value) (w : World), (callFunc (chosen m) args).run Tryd.prog w = .ok (.enter (chosen m) args) w := by
  unfold chosen
  by_cases e0 : m = [123]
  · rw [if_pos e0]; exact enters_of Tryd.func59 (by kernel_rfl) rfl
  rw [if_neg e0]
  by_cases e1 : m = [118, 97, 114]
  · rw [if_pos e1]; exact enters_of Tryd.func79 (by kernel_rfl) rfl
  rw [if_neg e1]
  by_cases e2 : m = [105, 102]
  · rw [if_pos e2]; exact enters_of Tryd.func80 (by kernel_rfl) rfl
  rw [if_neg e2]
  by_cases e3 : m = [102, 111, 114]
  · rw [if_pos e3]; exact enters_of Tryd.func81 (by kernel_rfl) rfl
  rw [if_neg e3]
  by_cases e4 : m = [98, 114, 101, 97, 107]
  · rw [if_pos e4]; exact enters_of Tryd.func82 (by kernel_rfl) rfl
  rw [if_neg e4]
  by_cases e5 : m = [99, 111, 110, 116, 105, 110, 117, 101]
  · rw [if_pos e5]; exact enters_of Tryd.func83 (by kernel_rfl) rfl
  rw [if_neg e5]
  by_cases e6 : m = [114, 101, 116, 117, 114, 110]
  · rw [if_pos e6]; exact enters_of Tryd.func84 (by kernel_rfl) rfl
  rw [if_neg e6]
  by_cases e7 : m = [112, 114, 105, 110, 116]
  · rw [if_pos e7]; exact enters_of Tryd.func85 (by kernel_rfl) rfl
  rw [if_neg e7]
  exact enters_of Tryd.func86 (by kernel_rfl) rfl
set_option maxHeartbeats 4000000 in
theorem choose_at {w : World} {p : Nat} {A : Option Addr} {cap : Nat} {toks : List Tok} {d : Nat} {s : St} (h : At w p A cap toks d s) :
    Calls Tryd.prog 78 #[.pointer (some ⟨p, 0, none⟩)] w fun e w' => e = .returned (mv (chosen (mark s.l)) p) ∧ Up w w' := by
  by_cases e0 : mark s.l = [123]
  · have z0 := txt_yes e0
    have E := Lib.hid (show chosen (mark s.l) = 59 by unfold chosen; rw [if_pos e0])
    have H := Lib.hid h
    clear h e0
    go_enter Tryd.func78, Tryd.ntmps78
    go_wp2_with fail
    refine (mark_at H.out).mono ?_
    rintro e w2 ⟨rfl, u2⟩
    have U := Lib.hid u2
    clear u2
    go_wp2_with fail
    go_ret
    exact ⟨by rw [E.out]; rfl, U.out⟩
  have z0 := txt_no e0
  by_cases e1 : mark s.l = [118, 97, 114]
  · have z1 := txt_yes e1
    have E := Lib.hid (show chosen (mark s.l) = 79 by unfold chosen; rw [if_neg e0]; rw [if_pos e1])
    have H := Lib.hid h
    clear h e0 e1
    go_enter Tryd.func78, Tryd.ntmps78
    go_wp2_with fail
    refine (mark_at H.out).mono ?_
    rintro e w2 ⟨rfl, u2⟩
    have U := Lib.hid u2
    clear u2
    go_wp2_with fail
    go_ret
    exact ⟨by rw [E.out]; rfl, U.out⟩
  have z1 := txt_no e1
  by_cases e2 : mark s.l = [105, 102]
  · have z2 := txt_yes e2
    have E := Lib.hid (show chosen (mark s.l) = 80 by unfold chosen; rw [if_neg e0]; rw [if_neg e1]; rw [if_pos e2])
    have H := Lib.hid h
    clear h e0 e1 e2
    go_enter Tryd.func78, Tryd.ntmps78
    go_wp2_with fail
    refine (mark_at H.out).mono ?_
    rintro e w2 ⟨rfl, u2⟩
    have U := Lib.hid u2
    clear u2
    go_wp2_with fail
    go_ret
    exact ⟨by rw [E.out]; rfl, U.out⟩
  have z2 := txt_no e2
  by_cases e3 : mark s.l = [102, 111, 114]
  · have z3 := txt_yes e3
    have E := Lib.hid (show chosen (mark s.l) = 81 by unfold chosen; rw [if_neg e0]; rw [if_neg e1]; rw [if_neg e2]; rw [if_pos e3])
    have H := Lib.hid h
    clear h e0 e1 e2 e3
    go_enter Tryd.func78, Tryd.ntmps78
    go_wp2_with fail
    refine (mark_at H.out).mono ?_
    rintro e w2 ⟨rfl, u2⟩
    have U := Lib.hid u2
    clear u2
    go_wp2_with fail
    go_ret
    exact ⟨by rw [E.out]; rfl, U.out⟩
  have z3 := txt_no e3
  by_cases e4 : mark s.l = [98, 114, 101, 97, 107]
  · have z4 := txt_yes e4
    have E := Lib.hid (show chosen (mark s.l) = 82 by unfold chosen; rw [if_neg e0]; rw [if_neg e1]; rw [if_neg e2]; rw [if_neg e3]; rw [if_pos e4])
    have H := Lib.hid h
    clear h e0 e1 e2 e3 e4
    go_enter Tryd.func78, Tryd.ntmps78
    go_wp2_with fail
    refine (mark_at H.out).mono ?_
    rintro e w2 ⟨rfl, u2⟩
    have U := Lib.hid u2
    clear u2
    go_wp2_with fail
    go_ret
    exact ⟨by rw [E.out]; rfl, U.out⟩
  have z4 := txt_no e4
  by_cases e5 : mark s.l = [99, 111, 110, 116, 105, 110, 117, 101]
  · have z5 := txt_yes e5
    have E := Lib.hid (show chosen (mark s.l) = 83 by unfold chosen; rw [if_neg e0]; rw [if_neg e1]; rw [if_neg e2]; rw [if_neg e3]; rw [if_neg e4]; rw [if_pos e5])
    have H := Lib.hid h
    clear h e0 e1 e2 e3 e4 e5
    go_enter Tryd.func78, Tryd.ntmps78
    go_wp2_with fail
    refine (mark_at H.out).mono ?_
    rintro e w2 ⟨rfl, u2⟩
    have U := Lib.hid u2
    clear u2
    go_wp2_with fail
    go_ret
    exact ⟨by rw [E.out]; rfl, U.out⟩
  have z5 := txt_no e5
  by_cases e6 : mark s.l = [114, 101, 116, 117, 114, 110]
  · have z6 := txt_yes e6
    have E := Lib.hid (show chosen (mark s.l) = 84 by unfold chosen; rw [if_neg e0]; rw [if_neg e1]; rw [if_neg e2]; rw [if_neg e3]; rw [if_neg e4]; rw [if_neg e5]; rw [if_pos e6])
    have H := Lib.hid h
    clear h e0 e1 e2 e3 e4 e5 e6
    go_enter Tryd.func78, Tryd.ntmps78
    go_wp2_with fail
    refine (mark_at H.out).mono ?_
    rintro e w2 ⟨rfl, u2⟩
    have U := Lib.hid u2
    clear u2
    go_wp2_with fail
    go_ret
    exact ⟨by rw [E.out]; rfl, U.out⟩
  have z6 := txt_no e6
  by_cases e7 : mark s.l = [112, 114, 105, 110, 116]
  · have z7 := txt_yes e7
    have E := Lib.hid (show chosen (mark s.l) = 85 by unfold chosen; rw [if_neg e0]; rw [if_neg e1]; rw [if_neg e2]; rw [if_neg e3]; rw [if_neg e4]; rw [if_neg e5]; rw [if_neg e6]; rw [if_pos e7])
    have H := Lib.hid h
    clear h e0 e1 e2 e3 e4 e5 e6 e7
    go_enter Tryd.func78, Tryd.ntmps78
    go_wp2_with fail
    refine (mark_at H.out).mono ?_
    rintro e w2 ⟨rfl, u2⟩
    have U := Lib.hid u2
    clear u2
    go_wp2_with fail
    go_ret
    exact ⟨by rw [E.out]; rfl, U.out⟩
  have z7 := txt_no e7
  have E := Lib.hid (show chosen (mark s.l) = 86 by unfold chosen; rw [if_neg e0]; rw [if_neg e1]; rw [if_neg e2]; rw [if_neg e3]; rw [if_neg e4]; rw [if_neg e5]; rw [if_neg e6]; rw [if_neg e7])
  have H := Lib.hid h
  clear h e0 e1 e2 e3 e4 e5 e6 e7
  go_enter Tryd.func78, Tryd.ntmps78
  go_wp2_with fail
  refine (mark_at H.out).mono ?_
  rintro e w2 ⟨rfl, u2⟩
  have U := Lib.hid u2
  clear u2
  go_wp2_with fail
  go_ret
  exact ⟨by rw [E.out]; rfl, U.out⟩
set_option maxHeartbeats 4000000 in
theorem stmt_run {rd : Rule → Nat → M Nd} (I : RunsC rd) : Runs (mstep rd) .stmt 74 := by
  intro w p A cap toks d s s' t h hd40 hp hm
  have D := Lib.hid hd40
  clear hd40
  replace hm := peek_some hm
  clear hp
  have Ih := Lib.hid I
  clear I
  by_cases e1 : d = 40
  · subst e1
    replace hm := ite_yes rfl hm
    have hx := then_some hm
    clear hm
    obtain ⟨⟨⟩, sF, hF, hm⟩ := hx
    have MF := Lib.hid hF
    clear hF
    obtain ⟨rfl, rfl⟩ := ret_some hm
    clear hm
    have C1 := Lib.hid ((Cx.start h).alloc z6)
    clear h
    go_enter Tryd.func74, Tryd.ntmps74
    go_wp2_with fail
    change Calls _ _ _ (w.alloc zeroNd) _
    obtain ⟨q0, e0⟩ : ∃ q, q = w.heap.size := ⟨_, rfl⟩
    rw [← e0] at C1 ⊢
    clear e0
    generalize w.alloc zeroNd = w1 at *
    refine (choose_at C1.out.at_).mono ?_
    rintro e w2 ⟨rfl, u2⟩
    have C2 := Lib.hid (C1.out.up u2)
    clear u2 C1
    obtain ⟨x0q0, x1q0, x2q0, x3q0, x4q0, x5q0⟩ := cells6 (C2.out.cells 0 rfl)
    obtain ⟨y0q0, y1q0, y2q0, y3q0, y4q0, y5q0⟩ := frozen6 (C2.out.cells 0 rfl)
    go_wp2_with fail
    clear x0q0 x1q0 x2q0 x3q0 x4q0 x5q0 y0q0 y1q0 y2q0 y3q0 y4q0 y5q0
    refine (deep_at C2.out.at_ _ MF.out).mono ?_
    rintro e w3 ⟨cs3, rfl, nd3, f3, a3⟩
    have C3 := Lib.hid (C2.out.tree f3 a3 nd3)
    obtain ⟨A3, cc3, rfl, -⟩ := nd3.row
    clear nd3 f3 a3 C2
    obtain ⟨x0q0, x1q0, x2q0, x3q0, x4q0, x5q0⟩ := cells6 (C3.out.cells 0 rfl)
    obtain ⟨y0q0, y1q0, y2q0, y3q0, y4q0, y5q0⟩ := frozen6 (C3.out.cells 0 rfl)
    go_wp2_with fail
    obtain ⟨b7, d7⟩ := C3.out.fin 0 rfl List.mem_cons_self
    exact bodyPost_ret (res_nodec (x := 2) (q := q0) (by kernel_rfl) rfl b7 rfl) rfl d7
  · replace hm := ite_no e1 hm
    have E := Lib.hid e1
    clear e1
    have M1 := Lib.hid hm
    clear hm
    have C1 := Lib.hid ((Cx.start h).alloc z6)
    clear h
    go_enter Tryd.func74, Tryd.ntmps74
    go_wp2_with fail
    change Calls _ _ _ (w.alloc zeroNd) _
    obtain ⟨q0, e0⟩ : ∃ q, q = w.heap.size := ⟨_, rfl⟩
    rw [← e0] at C1 ⊢
    clear e0
    generalize w.alloc zeroNd = w1 at *
    refine (choose_at C1.out.at_).mono ?_
    rintro e w2 ⟨rfl, u2⟩
    have C2 := Lib.hid (C1.out.up u2)
    clear u2 C1
    obtain ⟨x0q0, x1q0, x2q0, x3q0, x4q0, x5q0⟩ := cells6 (C2.out.cells 0 rfl)
    obtain ⟨y0q0, y1q0, y2q0, y3q0, y4q0, y5q0⟩ := frozen6 (C2.out.cells 0 rfl)
    go_wp2_with fail
    clear x0q0 x1q0 x2q0 x3q0 x4q0 x5q0 y0q0 y1q0 y2q0 y3q0 y4q0 y5q0
    refine (inside_at C2.out.at_ (chosen (mark s.l)) (chosen_enters _) (by have := D.out; have := E.out; omega) (fun w9 h9 => Ih.out w9 p A cap toks (d + 1) _ _ _ h9 (by have := D.out; have := E.out; omega) M1.out)).mono ?_
    rintro e w3 ⟨cs3, rfl, nd3, f3, a3⟩
    have C3 := Lib.hid (C2.out.tree f3 a3 nd3)
    obtain ⟨k3, m3, n3, l3, c3, ks3⟩ := t
    obtain ⟨A3, cc3, rfl, -⟩ := nd3.row
    clear nd3 f3 a3 C2
    obtain ⟨x0q0, x1q0, x2q0, x3q0, x4q0, x5q0⟩ := cells6 (C3.out.cells 0 rfl)
    obtain ⟨y0q0, y1q0, y2q0, y3q0, y4q0, y5q0⟩ := frozen6 (C3.out.cells 0 rfl)
    go_wp2_with fail
    obtain ⟨b7, d7⟩ := C3.out.fin 0 rfl List.mem_cons_self
    exact bodyPost_ret (res_nodec (x := 2) (q := q0) (by kernel_rfl) rfl b7 rfl) rfl d7
end Go.Proofs.YtemmdbjcllcelaaDoor.Pa
