/-
  Package parse: rules, one by one (written by wip/genPa.py).
-/
import Derived.Test.YtemmdbjcllcelaaDoorPaJL
import Derived.Test.YtemmdbjcllcelaaDoorPaM
import Derived.Deep.Heap
import Derived.Deep.Cut
namespace Go.Proofs.YtemmdbjcllcelaaDoor.Pa
open Go.RowKit
open Go.Proofs.YtemmdbjcllcelaaDoor.Tk (Tok TokC bs tokA zeroTok set5 set5_blk set5_fr blk_set eqL)
set_option maxRecDepth 100000
set_option maxHeartbeats 4000000 in
theorem varStmt_run {rd : Rule → Nat → M Nd} (I : Runs rd (.anyType) 58) (J : Runs rd (.expr) 87) : Runs (mstep rd) .varStmt 79 := by
  intro w p A cap toks d s s' t h hd40 hp hm
  have D := Lib.hid hd40
  clear hd40
  have K := Lib.hid (show (hd s.l).kind ≠ 0 from hp)
  clear hp
  have Ih := Lib.hid I
  have Jh := Lib.hid J
  clear I J
  have hx := then_some (pass_some (peek_some hm))
  clear hm
  obtain ⟨nm, s1, h1, hm⟩ := hx
  have hx := then_some hm
  clear hm
  obtain ⟨t1, s2, h2, hm⟩ := hx
  have hx := then_some hm
  clear hm
  obtain ⟨b, s3, h3, hm⟩ := hx
  have M1 := Lib.hid h1
  have M2 := Lib.hid h2
  clear h1 h2
  rcases takes_some h3 with ⟨e3, rfl, rfl⟩ | ⟨e3, rfl, rfl⟩
  · clear h3
    have hx := then_some hm
    clear hm
    obtain ⟨t2, s4, h4, hm⟩ := hx
    replace h4 := ite_yes rfl h4
    obtain ⟨rfl, rfl⟩ := ret_some hm
    clear hm
    have M4 := Lib.hid h4
    have E3 := Lib.hid e3
    clear h4 e3
    have C1 := Lib.hid ((Cx.start h).alloc z6)
    clear h
    go_enter Tryd.func79, Tryd.ntmps79
    go_wp2_with fail
    change Calls _ _ _ (w.alloc zeroNd) _
    obtain ⟨q0, e0⟩ : ∃ q, q = w.heap.size := ⟨_, rfl⟩
    rw [← e0] at C1 ⊢
    clear e0
    generalize w.alloc zeroNd = w1 at *
    refine (pass_at C1.out.at_ K.out 11).mono ?_
    rintro e w2 ⟨rfl, a2, f2⟩
    have C2 := Lib.hid (C1.out.call f2 a2)
    clear a2 f2 C1
    have C3 := Lib.hid (C2.out.alloc #[.int .i64 11, .string (bs []), .int .i64 0, .int .i64 (hd s.l).line, .int .i64 (hd s.l).col, .slice none 0 0])
    clear C2
    obtain ⟨x0q1, x1q1, x2q1, x3q1, x4q1, x5q1⟩ := cells6 (C3.out.cells 0 rfl)
    obtain ⟨y0q1, y1q1, y2q1, y3q1, y4q1, y5q1⟩ := frozen6 (C3.out.cells 0 rfl)
    obtain ⟨x0q0, x1q0, x2q0, x3q0, x4q0, x5q0⟩ := cells6 (C3.out.cells 1 rfl)
    obtain ⟨y0q0, y1q0, y2q0, y3q0, y4q0, y5q0⟩ := frozen6 (C3.out.cells 1 rfl)
    have ne_q1_q0 : w2.heap.size ≠ q0 := C3.out.differ 0 1 (by decide) rfl rfl
    have ne_q0_q1 : q0 ≠ w2.heap.size := C3.out.differ 1 0 (by decide) rfl rfl
    go_wp2_with fail
    clear x0q1 x1q1 x2q1 x3q1 x4q1 x5q1 y0q1 y1q1 y2q1 y3q1 y4q1 y5q1 x0q0 x1q0 x2q0 x3q0 x4q0 x5q0 y0q0 y1q0 y2q0 y3q0 y4q0 y5q0 ne_q1_q0 ne_q0_q1
    obtain ⟨q1, e_q1⟩ : ∃ q, q = w2.heap.size := ⟨_, rfl⟩
    rw [← e_q1] at C3 ⊢
    clear e_q1
    generalize (World.alloc w2 _) = w4 at *
    refine (name_at C3.out.at_ M1.out).mono ?_
    rintro e w5 ⟨rfl, a5, f5⟩
    have C5 := Lib.hid (C3.out.call f5 a5)
    clear a5 f5 C3
    obtain ⟨x0q1, x1q1, x2q1, x3q1, x4q1, x5q1⟩ := cells6 (C5.out.cells 0 rfl)
    obtain ⟨y0q1, y1q1, y2q1, y3q1, y4q1, y5q1⟩ := frozen6 (C5.out.cells 0 rfl)
    obtain ⟨x0q0, x1q0, x2q0, x3q0, x4q0, x5q0⟩ := cells6 (C5.out.cells 1 rfl)
    obtain ⟨y0q0, y1q0, y2q0, y3q0, y4q0, y5q0⟩ := frozen6 (C5.out.cells 1 rfl)
    have ne_q1_q0 : q1 ≠ q0 := C5.out.differ 0 1 (by decide) rfl rfl
    have ne_q0_q1 : q0 ≠ q1 := C5.out.differ 1 0 (by decide) rfl rfl
    go_wp2_with fail
    clear x0q1 x1q1 x2q1 x3q1 x4q1 x5q1 y0q1 y1q1 y2q1 y3q1 y4q1 y5q1 x0q0 x1q0 x2q0 x3q0 x4q0 x5q0 y0q0 y1q0 y2q0 y3q0 y4q0 y5q0 ne_q1_q0 ne_q0_q1
    have C6 := Lib.hid (C5.out.set 0 rfl 1 (.string (bs nm)))
    clear C5
    generalize (World.setCell w5 _ _) = w7 at *
    refine (Ih.out _ p A cap toks d _ _ _ C6.out.at_ D.out (True.intro) M2.out).mono ?_
    rintro e w8 ⟨cs8, rfl, nd8, f8, a8⟩
    have C8 := Lib.hid (C6.out.tree f8 a8 nd8)
    obtain ⟨k8, m8, n8, l8, c8, ks8⟩ := t1
    obtain ⟨A8, cc8, rfl, -⟩ := nd8.row
    clear nd8 f8 a8 C6
    have C9 := Lib.hid (C8.out.alloc #[.int .i64 k8, .string (bs m8), .int .i64 n8, .int .i64 l8, .int .i64 c8, .slice A8 ks8.length cc8])
    clear C8
    have C10 := Lib.hid (C9.out.alloc #[.int .i64 38, .string ⟨#[]⟩, .int .i64 0, .int .i64 0, .int .i64 0, .slice none 0 0])
    clear C9
    rw [Go.Deep.nblk_alloc] at C10
    obtain ⟨x0q3, x1q3, x2q3, x3q3, x4q3, x5q3⟩ := cells6 (C10.out.cells 0 rfl)
    obtain ⟨y0q3, y1q3, y2q3, y3q3, y4q3, y5q3⟩ := frozen6 (C10.out.cells 0 rfl)
    obtain ⟨x0q2, x1q2, x2q2, x3q2, x4q2, x5q2⟩ := cells6 (C10.out.cells 1 rfl)
    obtain ⟨y0q2, y1q2, y2q2, y3q2, y4q2, y5q2⟩ := frozen6 (C10.out.cells 1 rfl)
    obtain ⟨x0q1, x1q1, x2q1, x3q1, x4q1, x5q1⟩ := cells6 (C10.out.cells 2 rfl)
    obtain ⟨y0q1, y1q1, y2q1, y3q1, y4q1, y5q1⟩ := frozen6 (C10.out.cells 2 rfl)
    obtain ⟨x0q0, x1q0, x2q0, x3q0, x4q0, x5q0⟩ := cells6 (C10.out.cells 3 rfl)
    obtain ⟨y0q0, y1q0, y2q0, y3q0, y4q0, y5q0⟩ := frozen6 (C10.out.cells 3 rfl)
    have ne_q3_q2 : (w8.heap.size + 1) ≠ w8.heap.size := C10.out.differ 0 1 (by decide) rfl rfl
    have ne_q3_q1 : (w8.heap.size + 1) ≠ q1 := C10.out.differ 0 2 (by decide) rfl rfl
    have ne_q3_q0 : (w8.heap.size + 1) ≠ q0 := C10.out.differ 0 3 (by decide) rfl rfl
    have ne_q2_q3 : w8.heap.size ≠ (w8.heap.size + 1) := C10.out.differ 1 0 (by decide) rfl rfl
    have ne_q2_q1 : w8.heap.size ≠ q1 := C10.out.differ 1 2 (by decide) rfl rfl
    have ne_q2_q0 : w8.heap.size ≠ q0 := C10.out.differ 1 3 (by decide) rfl rfl
    have ne_q1_q3 : q1 ≠ (w8.heap.size + 1) := C10.out.differ 2 0 (by decide) rfl rfl
    have ne_q1_q2 : q1 ≠ w8.heap.size := C10.out.differ 2 1 (by decide) rfl rfl
    have ne_q1_q0 : q1 ≠ q0 := C10.out.differ 2 3 (by decide) rfl rfl
    have ne_q0_q3 : q0 ≠ (w8.heap.size + 1) := C10.out.differ 3 0 (by decide) rfl rfl
    have ne_q0_q2 : q0 ≠ w8.heap.size := C10.out.differ 3 1 (by decide) rfl rfl
    have ne_q0_q1 : q0 ≠ q1 := C10.out.differ 3 2 (by decide) rfl rfl
    go_wp2_with fail
    clear x0q3 x1q3 x2q3 x3q3 x4q3 x5q3 y0q3 y1q3 y2q3 y3q3 y4q3 y5q3 x0q2 x1q2 x2q2 x3q2 x4q2 x5q2 y0q2 y1q2 y2q2 y3q2 y4q2 y5q2 x0q1 x1q1 x2q1 x3q1 x4q1 x5q1 y0q1 y1q1 y2q1 y3q1 y4q1 y5q1 x0q0 x1q0 x2q0 x3q0 x4q0 x5q0 y0q0 y1q0 y2q0 y3q0 y4q0 y5q0 ne_q3_q2 ne_q3_q1 ne_q3_q0 ne_q2_q3 ne_q2_q1 ne_q2_q0 ne_q1_q3 ne_q1_q2 ne_q1_q0 ne_q0_q3 ne_q0_q2 ne_q0_q1
    obtain ⟨q2, e_q2⟩ : ∃ q, q = w8.heap.size := ⟨_, rfl⟩
    rw [← e_q2] at C10 ⊢
    clear e_q2
    obtain ⟨q3, e_q3⟩ : ∃ q, q = q2 + 1 := ⟨_, rfl⟩
    rw [← e_q3] at C10 ⊢
    clear e_q3
    generalize (World.alloc (World.alloc w8 _) _) = w11 at *
    refine (takes_yes_at C10.out.at_ E3.out (by decide)).mono ?_
    rintro e w12 ⟨rfl, a12, f12⟩
    have C12 := Lib.hid (C10.out.call f12 a12)
    clear a12 f12 C10
    obtain ⟨x0q3, x1q3, x2q3, x3q3, x4q3, x5q3⟩ := cells6 (C12.out.cells 0 rfl)
    obtain ⟨y0q3, y1q3, y2q3, y3q3, y4q3, y5q3⟩ := frozen6 (C12.out.cells 0 rfl)
    obtain ⟨x0q2, x1q2, x2q2, x3q2, x4q2, x5q2⟩ := cells6 (C12.out.cells 1 rfl)
    obtain ⟨y0q2, y1q2, y2q2, y3q2, y4q2, y5q2⟩ := frozen6 (C12.out.cells 1 rfl)
    obtain ⟨x0q1, x1q1, x2q1, x3q1, x4q1, x5q1⟩ := cells6 (C12.out.cells 2 rfl)
    obtain ⟨y0q1, y1q1, y2q1, y3q1, y4q1, y5q1⟩ := frozen6 (C12.out.cells 2 rfl)
    obtain ⟨x0q0, x1q0, x2q0, x3q0, x4q0, x5q0⟩ := cells6 (C12.out.cells 3 rfl)
    obtain ⟨y0q0, y1q0, y2q0, y3q0, y4q0, y5q0⟩ := frozen6 (C12.out.cells 3 rfl)
    have ne_q3_q2 : q3 ≠ q2 := C12.out.differ 0 1 (by decide) rfl rfl
    have ne_q3_q1 : q3 ≠ q1 := C12.out.differ 0 2 (by decide) rfl rfl
    have ne_q3_q0 : q3 ≠ q0 := C12.out.differ 0 3 (by decide) rfl rfl
    have ne_q2_q3 : q2 ≠ q3 := C12.out.differ 1 0 (by decide) rfl rfl
    have ne_q2_q1 : q2 ≠ q1 := C12.out.differ 1 2 (by decide) rfl rfl
    have ne_q2_q0 : q2 ≠ q0 := C12.out.differ 1 3 (by decide) rfl rfl
    have ne_q1_q3 : q1 ≠ q3 := C12.out.differ 2 0 (by decide) rfl rfl
    have ne_q1_q2 : q1 ≠ q2 := C12.out.differ 2 1 (by decide) rfl rfl
    have ne_q1_q0 : q1 ≠ q0 := C12.out.differ 2 3 (by decide) rfl rfl
    have ne_q0_q3 : q0 ≠ q3 := C12.out.differ 3 0 (by decide) rfl rfl
    have ne_q0_q2 : q0 ≠ q2 := C12.out.differ 3 1 (by decide) rfl rfl
    have ne_q0_q1 : q0 ≠ q1 := C12.out.differ 3 2 (by decide) rfl rfl
    go_wp2_with fail
    clear x0q3 x1q3 x2q3 x3q3 x4q3 x5q3 y0q3 y1q3 y2q3 y3q3 y4q3 y5q3 x0q2 x1q2 x2q2 x3q2 x4q2 x5q2 y0q2 y1q2 y2q2 y3q2 y4q2 y5q2 x0q1 x1q1 x2q1 x3q1 x4q1 x5q1 y0q1 y1q1 y2q1 y3q1 y4q1 y5q1 x0q0 x1q0 x2q0 x3q0 x4q0 x5q0 y0q0 y1q0 y2q0 y3q0 y4q0 y5q0 ne_q3_q2 ne_q3_q1 ne_q3_q0 ne_q2_q3 ne_q2_q1 ne_q2_q0 ne_q1_q3 ne_q1_q2 ne_q1_q0 ne_q0_q3 ne_q0_q2 ne_q0_q1
    refine (Jh.out _ p A cap toks d _ _ _ C12.out.at_ D.out (True.intro) M4.out).mono ?_
    rintro e w13 ⟨cs13, rfl, nd13, f13, a13⟩
    have C13 := Lib.hid (C12.out.tree f13 a13 nd13)
    obtain ⟨k13, m13, n13, l13, c13, ks13⟩ := t2
    obtain ⟨A13, cc13, rfl, -⟩ := nd13.row
    clear nd13 f13 a13 C12
    obtain ⟨x0q3, x1q3, x2q3, x3q3, x4q3, x5q3⟩ := cells6 (C13.out.cells 0 rfl)
    obtain ⟨y0q3, y1q3, y2q3, y3q3, y4q3, y5q3⟩ := frozen6 (C13.out.cells 0 rfl)
    go_upto_region 6 with fail
    clear x0q3 x1q3 x2q3 x3q3 x4q3 x5q3 y0q3 y1q3 y2q3 y3q3 y4q3 y5q3
    have C14 := Lib.hid (C13.out.set 0 rfl 0 (.int .i64 k13))
    clear C13
    have C15 := Lib.hid (C14.out.set 0 rfl 1 (.string (bs m13)))
    clear C14
    have C16 := Lib.hid (C15.out.set 0 rfl 2 (.int .i64 n13))
    clear C15
    have C17 := Lib.hid (C16.out.set 0 rfl 3 (.int .i64 l13))
    clear C16
    have C18 := Lib.hid (C17.out.set 0 rfl 4 (.int .i64 c13))
    clear C17
    have C19 := Lib.hid (C18.out.set 0 rfl 5 (.slice A13 ks13.length cc13))
    clear C18
    generalize (World.setCell (World.setCell (World.setCell (World.setCell (World.setCell (World.setCell w13 _ _) _ _) _ _) _ _) _ _) _ _) = w20 at *
    obtain ⟨x0q3E, x1q3E, x2q3E, x3q3E, x4q3E, x5q3E⟩ := cells6 (C19.out.cells 0 rfl)
    obtain ⟨y0q3E, y1q3E, y2q3E, y3q3E, y4q3E, y5q3E⟩ := frozen6 (C19.out.cells 0 rfl)
    obtain ⟨x0q2E, x1q2E, x2q2E, x3q2E, x4q2E, x5q2E⟩ := cells6 (C19.out.cells 1 rfl)
    obtain ⟨y0q2E, y1q2E, y2q2E, y3q2E, y4q2E, y5q2E⟩ := frozen6 (C19.out.cells 1 rfl)
    have R21 := C19.out.row [(Nd.mk k8 m8 n8 l8 c8 ks8, [.int .i64 k8, .string (bs m8), .int .i64 n8, .int .i64 l8, .int .i64 c8, .slice A8 ks8.length cc8]), (Nd.mk k13 m13 n13 l13 c13 ks13, [.int .i64 k13, .string (bs m13), .int .i64 n13, .int .i64 l13, .int .i64 c13, .slice A13 ks13.length cc13])] (sub_cons (List.mem_cons_of_mem _ List.mem_cons_self) (sub_cons List.mem_cons_self sub_nil)) (by simp) (cs := #[.int .i64 k8, .string (bs m8), .int .i64 n8, .int .i64 l8, .int .i64 c8, .slice A8 ks8.length cc8, .int .i64 k13, .string (bs m13), .int .i64 n13, .int .i64 l13, .int .i64 c13, .slice A13 ks13.length cc13]) rfl
    have C21 := Lib.hid ((C19.out.more (.cells #[.int .i64 k8, .string (bs m8), .int .i64 n8, .int .i64 l8, .int .i64 c8, .slice A8 ks8.length cc8, .int .i64 k13, .string (bs m13), .int .i64 n13, .int .i64 l13, .int .i64 c13, .slice A13 ks13.length cc13] 27)).know (NdC.of R21 (11 : Nat) (nm) 0 (hd s.l).line (hd s.l).col))
    clear C19 R21
    obtain ⟨x0q3, x1q3, x2q3, x3q3, x4q3, x5q3⟩ := cells6 (C21.out.cells 0 rfl)
    obtain ⟨y0q3, y1q3, y2q3, y3q3, y4q3, y5q3⟩ := frozen6 (C21.out.cells 0 rfl)
    obtain ⟨x0q2, x1q2, x2q2, x3q2, x4q2, x5q2⟩ := cells6 (C21.out.cells 1 rfl)
    obtain ⟨y0q2, y1q2, y2q2, y3q2, y4q2, y5q2⟩ := frozen6 (C21.out.cells 1 rfl)
    obtain ⟨x0q1, x1q1, x2q1, x3q1, x4q1, x5q1⟩ := cells6 (C21.out.cells 2 rfl)
    obtain ⟨y0q1, y1q1, y2q1, y3q1, y4q1, y5q1⟩ := frozen6 (C21.out.cells 2 rfl)
    obtain ⟨x0q0, x1q0, x2q0, x3q0, x4q0, x5q0⟩ := cells6 (C21.out.cells 3 rfl)
    obtain ⟨y0q0, y1q0, y2q0, y3q0, y4q0, y5q0⟩ := frozen6 (C21.out.cells 3 rfl)
    have ne_q3_q2 : q3 ≠ q2 := C21.out.differ 0 1 (by decide) rfl rfl
    have ne_q3_q1 : q3 ≠ q1 := C21.out.differ 0 2 (by decide) rfl rfl
    have ne_q3_q0 : q3 ≠ q0 := C21.out.differ 0 3 (by decide) rfl rfl
    have ne_q2_q3 : q2 ≠ q3 := C21.out.differ 1 0 (by decide) rfl rfl
    have ne_q2_q1 : q2 ≠ q1 := C21.out.differ 1 2 (by decide) rfl rfl
    have ne_q2_q0 : q2 ≠ q0 := C21.out.differ 1 3 (by decide) rfl rfl
    have ne_q1_q3 : q1 ≠ q3 := C21.out.differ 2 0 (by decide) rfl rfl
    have ne_q1_q2 : q1 ≠ q2 := C21.out.differ 2 1 (by decide) rfl rfl
    have ne_q1_q0 : q1 ≠ q0 := C21.out.differ 2 3 (by decide) rfl rfl
    have ne_q0_q3 : q0 ≠ q3 := C21.out.differ 3 0 (by decide) rfl rfl
    have ne_q0_q2 : q0 ≠ q2 := C21.out.differ 3 1 (by decide) rfl rfl
    have ne_q0_q1 : q0 ≠ q1 := C21.out.differ 3 2 (by decide) rfl rfl
    go_wp2_with fail
    have C22 := Lib.hid (C21.out.set 2 rfl 5 (.slice (some ⟨w20.heap.size, 0, none⟩) 2 2))
    clear C21
    obtain ⟨b7, d7⟩ := C22.out.fin 3 rfl List.mem_cons_self
    exact bodyPost_ret (res_nodec (x := 2) (q := q0) (by kernel_rfl) rfl b7 rfl) rfl d7
  · clear h3
    have hx := then_some hm
    clear hm
    obtain ⟨t2, s4, h4, hm⟩ := hx
    obtain ⟨rfl, rfl⟩ := ret_some (ite_no Bool.false_ne_true h4)
    clear h4
    obtain ⟨rfl, rfl⟩ := ret_some hm
    clear hm
    have E3 := Lib.hid e3
    clear e3
    have C1 := Lib.hid ((Cx.start h).alloc z6)
    clear h
    go_enter Tryd.func79, Tryd.ntmps79
    go_wp2_with fail
    change Calls _ _ _ (w.alloc zeroNd) _
    obtain ⟨q0, e0⟩ : ∃ q, q = w.heap.size := ⟨_, rfl⟩
    rw [← e0] at C1 ⊢
    clear e0
    generalize w.alloc zeroNd = w1 at *
    refine (pass_at C1.out.at_ K.out 11).mono ?_
    rintro e w2 ⟨rfl, a2, f2⟩
    have C2 := Lib.hid (C1.out.call f2 a2)
    clear a2 f2 C1
    have C3 := Lib.hid (C2.out.alloc #[.int .i64 11, .string (bs []), .int .i64 0, .int .i64 (hd s.l).line, .int .i64 (hd s.l).col, .slice none 0 0])
    clear C2
    obtain ⟨x0q1, x1q1, x2q1, x3q1, x4q1, x5q1⟩ := cells6 (C3.out.cells 0 rfl)
    obtain ⟨y0q1, y1q1, y2q1, y3q1, y4q1, y5q1⟩ := frozen6 (C3.out.cells 0 rfl)
    obtain ⟨x0q0, x1q0, x2q0, x3q0, x4q0, x5q0⟩ := cells6 (C3.out.cells 1 rfl)
    obtain ⟨y0q0, y1q0, y2q0, y3q0, y4q0, y5q0⟩ := frozen6 (C3.out.cells 1 rfl)
    have ne_q1_q0 : w2.heap.size ≠ q0 := C3.out.differ 0 1 (by decide) rfl rfl
    have ne_q0_q1 : q0 ≠ w2.heap.size := C3.out.differ 1 0 (by decide) rfl rfl
    go_wp2_with fail
    clear x0q1 x1q1 x2q1 x3q1 x4q1 x5q1 y0q1 y1q1 y2q1 y3q1 y4q1 y5q1 x0q0 x1q0 x2q0 x3q0 x4q0 x5q0 y0q0 y1q0 y2q0 y3q0 y4q0 y5q0 ne_q1_q0 ne_q0_q1
    obtain ⟨q1, e_q1⟩ : ∃ q, q = w2.heap.size := ⟨_, rfl⟩
    rw [← e_q1] at C3 ⊢
    clear e_q1
    generalize (World.alloc w2 _) = w4 at *
    refine (name_at C3.out.at_ M1.out).mono ?_
    rintro e w5 ⟨rfl, a5, f5⟩
    have C5 := Lib.hid (C3.out.call f5 a5)
    clear a5 f5 C3
    obtain ⟨x0q1, x1q1, x2q1, x3q1, x4q1, x5q1⟩ := cells6 (C5.out.cells 0 rfl)
    obtain ⟨y0q1, y1q1, y2q1, y3q1, y4q1, y5q1⟩ := frozen6 (C5.out.cells 0 rfl)
    obtain ⟨x0q0, x1q0, x2q0, x3q0, x4q0, x5q0⟩ := cells6 (C5.out.cells 1 rfl)
    obtain ⟨y0q0, y1q0, y2q0, y3q0, y4q0, y5q0⟩ := frozen6 (C5.out.cells 1 rfl)
    have ne_q1_q0 : q1 ≠ q0 := C5.out.differ 0 1 (by decide) rfl rfl
    have ne_q0_q1 : q0 ≠ q1 := C5.out.differ 1 0 (by decide) rfl rfl
    go_wp2_with fail
    clear x0q1 x1q1 x2q1 x3q1 x4q1 x5q1 y0q1 y1q1 y2q1 y3q1 y4q1 y5q1 x0q0 x1q0 x2q0 x3q0 x4q0 x5q0 y0q0 y1q0 y2q0 y3q0 y4q0 y5q0 ne_q1_q0 ne_q0_q1
    have C6 := Lib.hid (C5.out.set 0 rfl 1 (.string (bs nm)))
    clear C5
    generalize (World.setCell w5 _ _) = w7 at *
    refine (Ih.out _ p A cap toks d _ _ _ C6.out.at_ D.out (True.intro) M2.out).mono ?_
    rintro e w8 ⟨cs8, rfl, nd8, f8, a8⟩
    have C8 := Lib.hid (C6.out.tree f8 a8 nd8)
    obtain ⟨k8, m8, n8, l8, c8, ks8⟩ := t1
    obtain ⟨A8, cc8, rfl, -⟩ := nd8.row
    clear nd8 f8 a8 C6
    have C9 := Lib.hid (C8.out.alloc #[.int .i64 k8, .string (bs m8), .int .i64 n8, .int .i64 l8, .int .i64 c8, .slice A8 ks8.length cc8])
    clear C8
    have C10 := Lib.hid (C9.out.alloc #[.int .i64 38, .string ⟨#[]⟩, .int .i64 0, .int .i64 0, .int .i64 0, .slice none 0 0])
    clear C9
    rw [Go.Deep.nblk_alloc] at C10
    obtain ⟨x0q3, x1q3, x2q3, x3q3, x4q3, x5q3⟩ := cells6 (C10.out.cells 0 rfl)
    obtain ⟨y0q3, y1q3, y2q3, y3q3, y4q3, y5q3⟩ := frozen6 (C10.out.cells 0 rfl)
    obtain ⟨x0q2, x1q2, x2q2, x3q2, x4q2, x5q2⟩ := cells6 (C10.out.cells 1 rfl)
    obtain ⟨y0q2, y1q2, y2q2, y3q2, y4q2, y5q2⟩ := frozen6 (C10.out.cells 1 rfl)
    obtain ⟨x0q1, x1q1, x2q1, x3q1, x4q1, x5q1⟩ := cells6 (C10.out.cells 2 rfl)
    obtain ⟨y0q1, y1q1, y2q1, y3q1, y4q1, y5q1⟩ := frozen6 (C10.out.cells 2 rfl)
    obtain ⟨x0q0, x1q0, x2q0, x3q0, x4q0, x5q0⟩ := cells6 (C10.out.cells 3 rfl)
    obtain ⟨y0q0, y1q0, y2q0, y3q0, y4q0, y5q0⟩ := frozen6 (C10.out.cells 3 rfl)
    have ne_q3_q2 : (w8.heap.size + 1) ≠ w8.heap.size := C10.out.differ 0 1 (by decide) rfl rfl
    have ne_q3_q1 : (w8.heap.size + 1) ≠ q1 := C10.out.differ 0 2 (by decide) rfl rfl
    have ne_q3_q0 : (w8.heap.size + 1) ≠ q0 := C10.out.differ 0 3 (by decide) rfl rfl
    have ne_q2_q3 : w8.heap.size ≠ (w8.heap.size + 1) := C10.out.differ 1 0 (by decide) rfl rfl
    have ne_q2_q1 : w8.heap.size ≠ q1 := C10.out.differ 1 2 (by decide) rfl rfl
    have ne_q2_q0 : w8.heap.size ≠ q0 := C10.out.differ 1 3 (by decide) rfl rfl
    have ne_q1_q3 : q1 ≠ (w8.heap.size + 1) := C10.out.differ 2 0 (by decide) rfl rfl
    have ne_q1_q2 : q1 ≠ w8.heap.size := C10.out.differ 2 1 (by decide) rfl rfl
    have ne_q1_q0 : q1 ≠ q0 := C10.out.differ 2 3 (by decide) rfl rfl
    have ne_q0_q3 : q0 ≠ (w8.heap.size + 1) := C10.out.differ 3 0 (by decide) rfl rfl
    have ne_q0_q2 : q0 ≠ w8.heap.size := C10.out.differ 3 1 (by decide) rfl rfl
    have ne_q0_q1 : q0 ≠ q1 := C10.out.differ 3 2 (by decide) rfl rfl
    go_wp2_with fail
    clear x0q3 x1q3 x2q3 x3q3 x4q3 x5q3 y0q3 y1q3 y2q3 y3q3 y4q3 y5q3 x0q2 x1q2 x2q2 x3q2 x4q2 x5q2 y0q2 y1q2 y2q2 y3q2 y4q2 y5q2 x0q1 x1q1 x2q1 x3q1 x4q1 x5q1 y0q1 y1q1 y2q1 y3q1 y4q1 y5q1 x0q0 x1q0 x2q0 x3q0 x4q0 x5q0 y0q0 y1q0 y2q0 y3q0 y4q0 y5q0 ne_q3_q2 ne_q3_q1 ne_q3_q0 ne_q2_q3 ne_q2_q1 ne_q2_q0 ne_q1_q3 ne_q1_q2 ne_q1_q0 ne_q0_q3 ne_q0_q2 ne_q0_q1
    obtain ⟨q2, e_q2⟩ : ∃ q, q = w8.heap.size := ⟨_, rfl⟩
    rw [← e_q2] at C10 ⊢
    clear e_q2
    obtain ⟨q3, e_q3⟩ : ∃ q, q = q2 + 1 := ⟨_, rfl⟩
    rw [← e_q3] at C10 ⊢
    clear e_q3
    generalize (World.alloc (World.alloc w8 _) _) = w11 at *
    refine (takes_no_at C10.out.at_ E3.out).mono ?_
    rintro e w12 ⟨rfl, u12⟩
    have C12 := Lib.hid (C10.out.up u12)
    clear u12 C10
    obtain ⟨x0q3E, x1q3E, x2q3E, x3q3E, x4q3E, x5q3E⟩ := cells6 (C12.out.cells 0 rfl)
    obtain ⟨y0q3E, y1q3E, y2q3E, y3q3E, y4q3E, y5q3E⟩ := frozen6 (C12.out.cells 0 rfl)
    obtain ⟨x0q2E, x1q2E, x2q2E, x3q2E, x4q2E, x5q2E⟩ := cells6 (C12.out.cells 1 rfl)
    obtain ⟨y0q2E, y1q2E, y2q2E, y3q2E, y4q2E, y5q2E⟩ := frozen6 (C12.out.cells 1 rfl)
    have C13 := Lib.hid (C12.out.know (NdC.leaf _ _ (38 : Nat) ([]) 0 0 0))
    clear C12
    have R14 := C13.out.row [(Nd.mk k8 m8 n8 l8 c8 ks8, [.int .i64 k8, .string (bs m8), .int .i64 n8, .int .i64 l8, .int .i64 c8, .slice A8 ks8.length cc8]), (Nd.mk (38 : Nat) [] 0 0 0 [], [.int .i64 38, .string ⟨#[]⟩, .int .i64 0, .int .i64 0, .int .i64 0, .slice none 0 0])] (sub_cons (List.mem_cons_of_mem _ List.mem_cons_self) (sub_cons List.mem_cons_self sub_nil)) (by simp) (cs := #[.int .i64 k8, .string (bs m8), .int .i64 n8, .int .i64 l8, .int .i64 c8, .slice A8 ks8.length cc8, .int .i64 38, .string ⟨#[]⟩, .int .i64 0, .int .i64 0, .int .i64 0, .slice none 0 0]) rfl
    have C14 := Lib.hid ((C13.out.more (.cells #[.int .i64 k8, .string (bs m8), .int .i64 n8, .int .i64 l8, .int .i64 c8, .slice A8 ks8.length cc8, .int .i64 38, .string ⟨#[]⟩, .int .i64 0, .int .i64 0, .int .i64 0, .slice none 0 0] 27)).know (NdC.of R14 (11 : Nat) (nm) 0 (hd s.l).line (hd s.l).col))
    clear C13 R14
    obtain ⟨x0q3, x1q3, x2q3, x3q3, x4q3, x5q3⟩ := cells6 (C14.out.cells 0 rfl)
    obtain ⟨y0q3, y1q3, y2q3, y3q3, y4q3, y5q3⟩ := frozen6 (C14.out.cells 0 rfl)
    obtain ⟨x0q2, x1q2, x2q2, x3q2, x4q2, x5q2⟩ := cells6 (C14.out.cells 1 rfl)
    obtain ⟨y0q2, y1q2, y2q2, y3q2, y4q2, y5q2⟩ := frozen6 (C14.out.cells 1 rfl)
    obtain ⟨x0q1, x1q1, x2q1, x3q1, x4q1, x5q1⟩ := cells6 (C14.out.cells 2 rfl)
    obtain ⟨y0q1, y1q1, y2q1, y3q1, y4q1, y5q1⟩ := frozen6 (C14.out.cells 2 rfl)
    obtain ⟨x0q0, x1q0, x2q0, x3q0, x4q0, x5q0⟩ := cells6 (C14.out.cells 3 rfl)
    obtain ⟨y0q0, y1q0, y2q0, y3q0, y4q0, y5q0⟩ := frozen6 (C14.out.cells 3 rfl)
    have ne_q3_q2 : q3 ≠ q2 := C14.out.differ 0 1 (by decide) rfl rfl
    have ne_q3_q1 : q3 ≠ q1 := C14.out.differ 0 2 (by decide) rfl rfl
    have ne_q3_q0 : q3 ≠ q0 := C14.out.differ 0 3 (by decide) rfl rfl
    have ne_q2_q3 : q2 ≠ q3 := C14.out.differ 1 0 (by decide) rfl rfl
    have ne_q2_q1 : q2 ≠ q1 := C14.out.differ 1 2 (by decide) rfl rfl
    have ne_q2_q0 : q2 ≠ q0 := C14.out.differ 1 3 (by decide) rfl rfl
    have ne_q1_q3 : q1 ≠ q3 := C14.out.differ 2 0 (by decide) rfl rfl
    have ne_q1_q2 : q1 ≠ q2 := C14.out.differ 2 1 (by decide) rfl rfl
    have ne_q1_q0 : q1 ≠ q0 := C14.out.differ 2 3 (by decide) rfl rfl
    have ne_q0_q3 : q0 ≠ q3 := C14.out.differ 3 0 (by decide) rfl rfl
    have ne_q0_q2 : q0 ≠ q2 := C14.out.differ 3 1 (by decide) rfl rfl
    have ne_q0_q1 : q0 ≠ q1 := C14.out.differ 3 2 (by decide) rfl rfl
    go_wp2_with fail
    have C15 := Lib.hid (C14.out.set 2 rfl 5 (.slice (some ⟨w12.heap.size, 0, none⟩) 2 2))
    clear C14
    obtain ⟨b7, d7⟩ := C15.out.fin 3 rfl List.mem_cons_self
    exact bodyPost_ret (res_nodec (x := 2) (q := q0) (by kernel_rfl) rfl b7 rfl) rfl d7
set_option maxHeartbeats 4000000 in
theorem elsePart_run {rd : Rule → Nat → M Nd} (I : Runs rd (.ifStmt) 80) (J : Runs rd (.block) 59) : Runs (mstep rd) .elsePart 88 := by
  intro w p A cap toks d s s' t h hd40 hp hm
  have D := Lib.hid hd40
  clear hd40
  clear hp
  have Ih := Lib.hid I
  have Jh := Lib.hid J
  clear I J
  have hx := then_some (peek_some hm)
  clear hm
  obtain ⟨b, s1, h1, hm⟩ := hx
  rcases takes_some h1 with ⟨e1, rfl, rfl⟩ | ⟨e1, rfl, rfl⟩
  · clear h1
    replace hm := peek_some (ite_yes rfl hm)
    have E1 := Lib.hid e1
    clear e1
    by_cases e2 : mark s.l.tail = [105, 102]
    · replace hm := ite_yes e2 hm
      have q2 := txt_yes e2
      have M1 := Lib.hid hm
      have E2 := Lib.hid e2
      clear hm e2
      have C1 := Lib.hid ((Cx.start h).alloc z6)
      clear h
      go_enter Tryd.func88, Tryd.ntmps88
      go_wp2_with fail
      change Calls _ _ _ (w.alloc zeroNd) _
      obtain ⟨q0, e0⟩ : ∃ q, q = w.heap.size := ⟨_, rfl⟩
      rw [← e0] at C1 ⊢
      clear e0
      generalize w.alloc zeroNd = w1 at *
      refine (takes_yes_at C1.out.at_ E1.out (by decide)).mono ?_
      rintro e w2 ⟨rfl, a2, f2⟩
      have C2 := Lib.hid (C1.out.call f2 a2)
      clear a2 f2 C1
      obtain ⟨x0q0, x1q0, x2q0, x3q0, x4q0, x5q0⟩ := cells6 (C2.out.cells 0 rfl)
      obtain ⟨y0q0, y1q0, y2q0, y3q0, y4q0, y5q0⟩ := frozen6 (C2.out.cells 0 rfl)
      go_wp2_with fail
      clear x0q0 x1q0 x2q0 x3q0 x4q0 x5q0 y0q0 y1q0 y2q0 y3q0 y4q0 y5q0
      refine (mark_at C2.out.at_).mono ?_
      rintro e w3 ⟨rfl, u3⟩
      have C3 := Lib.hid (C2.out.up u3)
      clear u3 C2
      obtain ⟨x0q0, x1q0, x2q0, x3q0, x4q0, x5q0⟩ := cells6 (C3.out.cells 0 rfl)
      obtain ⟨y0q0, y1q0, y2q0, y3q0, y4q0, y5q0⟩ := frozen6 (C3.out.cells 0 rfl)
      go_wp2_with fail
      clear x0q0 x1q0 x2q0 x3q0 x4q0 x5q0 y0q0 y1q0 y2q0 y3q0 y4q0 y5q0
      refine (Ih.out _ p A cap toks d _ _ _ C3.out.at_ D.out (kind_of_mark E2.out (by decide)) M1.out).mono ?_
      rintro e w4 ⟨cs4, rfl, nd4, f4, a4⟩
      have C4 := Lib.hid (C3.out.tree f4 a4 nd4)
      obtain ⟨k4, m4, n4, l4, c4, ks4⟩ := t
      obtain ⟨A4, cc4, rfl, -⟩ := nd4.row
      clear nd4 f4 a4 C3
      obtain ⟨x0q0, x1q0, x2q0, x3q0, x4q0, x5q0⟩ := cells6 (C4.out.cells 0 rfl)
      obtain ⟨y0q0, y1q0, y2q0, y3q0, y4q0, y5q0⟩ := frozen6 (C4.out.cells 0 rfl)
      go_wp2_with fail
      obtain ⟨b7, d7⟩ := C4.out.fin 0 rfl List.mem_cons_self
      exact bodyPost_ret (res_nodec (x := 2) (q := q0) (by kernel_rfl) rfl b7 rfl) rfl d7
    · replace hm := ite_no e2 hm
      have q2 := txt_no e2
      have M1 := Lib.hid hm
      have E2 := Lib.hid e2
      clear hm e2
      have C1 := Lib.hid ((Cx.start h).alloc z6)
      clear h
      go_enter Tryd.func88, Tryd.ntmps88
      go_wp2_with fail
      change Calls _ _ _ (w.alloc zeroNd) _
      obtain ⟨q0, e0⟩ : ∃ q, q = w.heap.size := ⟨_, rfl⟩
      rw [← e0] at C1 ⊢
      clear e0
      generalize w.alloc zeroNd = w1 at *
      refine (takes_yes_at C1.out.at_ E1.out (by decide)).mono ?_
      rintro e w2 ⟨rfl, a2, f2⟩
      have C2 := Lib.hid (C1.out.call f2 a2)
      clear a2 f2 C1
      obtain ⟨x0q0, x1q0, x2q0, x3q0, x4q0, x5q0⟩ := cells6 (C2.out.cells 0 rfl)
      obtain ⟨y0q0, y1q0, y2q0, y3q0, y4q0, y5q0⟩ := frozen6 (C2.out.cells 0 rfl)
      go_wp2_with fail
      clear x0q0 x1q0 x2q0 x3q0 x4q0 x5q0 y0q0 y1q0 y2q0 y3q0 y4q0 y5q0
      refine (mark_at C2.out.at_).mono ?_
      rintro e w3 ⟨rfl, u3⟩
      have C3 := Lib.hid (C2.out.up u3)
      clear u3 C2
      obtain ⟨x0q0, x1q0, x2q0, x3q0, x4q0, x5q0⟩ := cells6 (C3.out.cells 0 rfl)
      obtain ⟨y0q0, y1q0, y2q0, y3q0, y4q0, y5q0⟩ := frozen6 (C3.out.cells 0 rfl)
      go_wp2_with fail
      clear x0q0 x1q0 x2q0 x3q0 x4q0 x5q0 y0q0 y1q0 y2q0 y3q0 y4q0 y5q0
      refine (Jh.out _ p A cap toks d _ _ _ C3.out.at_ D.out (True.intro) M1.out).mono ?_
      rintro e w4 ⟨cs4, rfl, nd4, f4, a4⟩
      have C4 := Lib.hid (C3.out.tree f4 a4 nd4)
      obtain ⟨k4, m4, n4, l4, c4, ks4⟩ := t
      obtain ⟨A4, cc4, rfl, -⟩ := nd4.row
      clear nd4 f4 a4 C3
      obtain ⟨x0q0, x1q0, x2q0, x3q0, x4q0, x5q0⟩ := cells6 (C4.out.cells 0 rfl)
      obtain ⟨y0q0, y1q0, y2q0, y3q0, y4q0, y5q0⟩ := frozen6 (C4.out.cells 0 rfl)
      go_wp2_with fail
      obtain ⟨b7, d7⟩ := C4.out.fin 0 rfl List.mem_cons_self
      exact bodyPost_ret (res_nodec (x := 2) (q := q0) (by kernel_rfl) rfl b7 rfl) rfl d7
  · obtain ⟨rfl, rfl⟩ := ret_some (ite_no Bool.false_ne_true hm)
    clear h1 hm
    have E1 := Lib.hid e1
    clear e1
    have C1 := Lib.hid ((Cx.start h).alloc z6)
    clear h
    go_enter Tryd.func88, Tryd.ntmps88
    go_wp2_with fail
    change Calls _ _ _ (w.alloc zeroNd) _
    obtain ⟨q0, e0⟩ : ∃ q, q = w.heap.size := ⟨_, rfl⟩
    rw [← e0] at C1 ⊢
    clear e0
    generalize w.alloc zeroNd = w1 at *
    refine (takes_no_at C1.out.at_ E1.out).mono ?_
    rintro e w2 ⟨rfl, u2⟩
    have C2 := Lib.hid (C1.out.up u2)
    clear u2 C1
    have C3 := Lib.hid (C2.out.know (NdC.leaf _ _ (38 : Nat) ([]) 0 0 0))
    clear C2
    obtain ⟨x0q0, x1q0, x2q0, x3q0, x4q0, x5q0⟩ := cells6 (C3.out.cells 0 rfl)
    obtain ⟨y0q0, y1q0, y2q0, y3q0, y4q0, y5q0⟩ := frozen6 (C3.out.cells 0 rfl)
    go_wp2_with fail
    obtain ⟨b7, d7⟩ := C3.out.fin 0 rfl List.mem_cons_self
    exact bodyPost_ret (res_nodec (x := 2) (q := q0) (by kernel_rfl) rfl b7 rfl) rfl d7
set_option maxHeartbeats 4000000 in
theorem nameOrCall_at {rd : Rule → Nat → M Nd} (I : RunsL rd (.listed .expr) 99 (fun p => #[.pointer (some ⟨p, 0, none⟩)])) {w : World} {p : Nat} {A : Option Addr} {cap : Nat} {toks : List Tok} {d : Nat} {s s' : St} {t : Nd} (h : At w p A cap toks d s) (hd40 : d ≤ 40)
    (hm : M.andThen M.name (fun nm => M.andThen M.peek fun l1 => if mark l1 = [40] then M.andThen (rd (.listed .expr) d) fun ps => M.ret (at_ 29 s.l nm 0 ps.kids) else M.ret (at_ 26 s.l nm 0 [])) s = some (t, s')) :
    Calls Tryd.prog 97 #[.pointer (some ⟨p, 0, none⟩)] w fun e w' => Did w p A cap toks d t s' e w' := by
  have D := Lib.hid hd40
  clear hd40
  have Ih := Lib.hid I
  clear I
  have hx := then_some hm
  clear hm
  obtain ⟨nm, s1, h1, hm⟩ := hx
  replace hm := peek_some hm
  have M1 := Lib.hid h1
  clear h1
  by_cases e1 : mark s1.l = [40]
  · replace hm := ite_yes e1 hm
    have q1 := txt_yes e1
    have hx := then_some hm
    clear hm
    obtain ⟨t1, s2, h2, hm⟩ := hx
    obtain ⟨rfl, rfl⟩ := ret_some hm
    clear hm
    have M2 := Lib.hid h2
    clear h2
    clear e1
    have C1 := Lib.hid ((Cx.start h).alloc z6)
    clear h
    go_enter Tryd.func97, Tryd.ntmps97
    go_wp2_with fail
    change Calls _ _ _ (w.alloc zeroNd) _
    obtain ⟨q0, e0⟩ : ∃ q, q = w.heap.size := ⟨_, rfl⟩
    rw [← e0] at C1 ⊢
    clear e0
    generalize w.alloc zeroNd = w1 at *
    refine (begin_at C1.out.at_ 26).mono ?_
    rintro e w2 ⟨rfl, u2⟩
    have C2 := Lib.hid (C1.out.up u2)
    clear u2 C1
    have C3 := Lib.hid (C2.out.alloc #[.int .i64 26, .string (bs []), .int .i64 0, .int .i64 (hd s.l).line, .int .i64 (hd s.l).col, .slice none 0 0])
    clear C2
    obtain ⟨x0q1, x1q1, x2q1, x3q1, x4q1, x5q1⟩ := cells6 (C3.out.cells 0 rfl)
    obtain ⟨y0q1, y1q1, y2q1, y3q1, y4q1, y5q1⟩ := frozen6 (C3.out.cells 0 rfl)
    obtain ⟨x0q0, x1q0, x2q0, x3q0, x4q0, x5q0⟩ := cells6 (C3.out.cells 1 rfl)
    obtain ⟨y0q0, y1q0, y2q0, y3q0, y4q0, y5q0⟩ := frozen6 (C3.out.cells 1 rfl)
    have ne_q1_q0 : w2.heap.size ≠ q0 := C3.out.differ 0 1 (by decide) rfl rfl
    have ne_q0_q1 : q0 ≠ w2.heap.size := C3.out.differ 1 0 (by decide) rfl rfl
    go_wp2_with fail
    clear x0q1 x1q1 x2q1 x3q1 x4q1 x5q1 y0q1 y1q1 y2q1 y3q1 y4q1 y5q1 x0q0 x1q0 x2q0 x3q0 x4q0 x5q0 y0q0 y1q0 y2q0 y3q0 y4q0 y5q0 ne_q1_q0 ne_q0_q1
    obtain ⟨q1, e_q1⟩ : ∃ q, q = w2.heap.size := ⟨_, rfl⟩
    rw [← e_q1] at C3 ⊢
    clear e_q1
    generalize (World.alloc w2 _) = w4 at *
    refine (name_at C3.out.at_ M1.out).mono ?_
    rintro e w5 ⟨rfl, a5, f5⟩
    have C5 := Lib.hid (C3.out.call f5 a5)
    clear a5 f5 C3
    obtain ⟨x0q1, x1q1, x2q1, x3q1, x4q1, x5q1⟩ := cells6 (C5.out.cells 0 rfl)
    obtain ⟨y0q1, y1q1, y2q1, y3q1, y4q1, y5q1⟩ := frozen6 (C5.out.cells 0 rfl)
    obtain ⟨x0q0, x1q0, x2q0, x3q0, x4q0, x5q0⟩ := cells6 (C5.out.cells 1 rfl)
    obtain ⟨y0q0, y1q0, y2q0, y3q0, y4q0, y5q0⟩ := frozen6 (C5.out.cells 1 rfl)
    have ne_q1_q0 : q1 ≠ q0 := C5.out.differ 0 1 (by decide) rfl rfl
    have ne_q0_q1 : q0 ≠ q1 := C5.out.differ 1 0 (by decide) rfl rfl
    go_wp2_with fail
    clear x0q1 x1q1 x2q1 x3q1 x4q1 x5q1 y0q1 y1q1 y2q1 y3q1 y4q1 y5q1 x0q0 x1q0 x2q0 x3q0 x4q0 x5q0 y0q0 y1q0 y2q0 y3q0 y4q0 y5q0 ne_q1_q0 ne_q0_q1
    have C6 := Lib.hid (C5.out.set 0 rfl 1 (.string (bs nm)))
    clear C5
    generalize (World.setCell w5 _ _) = w7 at *
    refine (mark_at C6.out.at_).mono ?_
    rintro e w8 ⟨rfl, u8⟩
    have C8 := Lib.hid (C6.out.up u8)
    clear u8 C6
    obtain ⟨x0q1, x1q1, x2q1, x3q1, x4q1, x5q1⟩ := cells6 (C8.out.cells 0 rfl)
    obtain ⟨y0q1, y1q1, y2q1, y3q1, y4q1, y5q1⟩ := frozen6 (C8.out.cells 0 rfl)
    obtain ⟨x0q0, x1q0, x2q0, x3q0, x4q0, x5q0⟩ := cells6 (C8.out.cells 1 rfl)
    obtain ⟨y0q0, y1q0, y2q0, y3q0, y4q0, y5q0⟩ := frozen6 (C8.out.cells 1 rfl)
    have ne_q1_q0 : q1 ≠ q0 := C8.out.differ 0 1 (by decide) rfl rfl
    have ne_q0_q1 : q0 ≠ q1 := C8.out.differ 1 0 (by decide) rfl rfl
    go_wp2_with fail
    clear x0q1 x1q1 x2q1 x3q1 x4q1 x5q1 y0q1 y1q1 y2q1 y3q1 y4q1 y5q1 x0q0 x1q0 x2q0 x3q0 x4q0 x5q0 y0q0 y1q0 y2q0 y3q0 y4q0 y5q0 ne_q1_q0 ne_q0_q1
    have C9 := Lib.hid (C8.out.set 0 rfl 0 (.int .i64 29))
    clear C8
    generalize (World.setCell w8 _ _) = w10 at *
    refine (Ih.out _ p A cap toks d _ _ _ C9.out.at_ D.out (by simp [Pre, Low]) M2.out).mono ?_
    rintro e w11 ⟨B11, cc11, rfl, kd11, f11, a11⟩
    have C11 := Lib.hid (C9.out.tree f11 a11 (NdC.of kd11 0 [] 0 0 0))
    clear kd11 f11 a11 C9
    have C12 := Lib.hid (C11.out.node List.mem_cons_self (29 : Nat) (nm) 0 (hd s.l).line (hd s.l).col)
    clear C11
    obtain ⟨x0q1, x1q1, x2q1, x3q1, x4q1, x5q1⟩ := cells6 (C12.out.cells 0 rfl)
    obtain ⟨y0q1, y1q1, y2q1, y3q1, y4q1, y5q1⟩ := frozen6 (C12.out.cells 0 rfl)
    obtain ⟨x0q0, x1q0, x2q0, x3q0, x4q0, x5q0⟩ := cells6 (C12.out.cells 1 rfl)
    obtain ⟨y0q0, y1q0, y2q0, y3q0, y4q0, y5q0⟩ := frozen6 (C12.out.cells 1 rfl)
    have ne_q1_q0 : q1 ≠ q0 := C12.out.differ 0 1 (by decide) rfl rfl
    have ne_q0_q1 : q0 ≠ q1 := C12.out.differ 1 0 (by decide) rfl rfl
    go_wp2_with fail
    have C13 := Lib.hid (C12.out.set 0 rfl 5 (.slice B11 t1.kids.length cc11))
    clear C12
    obtain ⟨b7, d7⟩ := C13.out.fin 1 rfl List.mem_cons_self
    exact bodyPost_ret (res_nodec (x := 2) (q := q0) (by kernel_rfl) rfl b7 rfl) rfl d7
  · replace hm := ite_no e1 hm
    have q1 := txt_no e1
    obtain ⟨rfl, rfl⟩ := ret_some hm
    clear hm
    clear e1
    have C1 := Lib.hid ((Cx.start h).alloc z6)
    clear h
    go_enter Tryd.func97, Tryd.ntmps97
    go_wp2_with fail
    change Calls _ _ _ (w.alloc zeroNd) _
    obtain ⟨q0, e0⟩ : ∃ q, q = w.heap.size := ⟨_, rfl⟩
    rw [← e0] at C1 ⊢
    clear e0
    generalize w.alloc zeroNd = w1 at *
    refine (begin_at C1.out.at_ 26).mono ?_
    rintro e w2 ⟨rfl, u2⟩
    have C2 := Lib.hid (C1.out.up u2)
    clear u2 C1
    have C3 := Lib.hid (C2.out.alloc #[.int .i64 26, .string (bs []), .int .i64 0, .int .i64 (hd s.l).line, .int .i64 (hd s.l).col, .slice none 0 0])
    clear C2
    obtain ⟨x0q1, x1q1, x2q1, x3q1, x4q1, x5q1⟩ := cells6 (C3.out.cells 0 rfl)
    obtain ⟨y0q1, y1q1, y2q1, y3q1, y4q1, y5q1⟩ := frozen6 (C3.out.cells 0 rfl)
    obtain ⟨x0q0, x1q0, x2q0, x3q0, x4q0, x5q0⟩ := cells6 (C3.out.cells 1 rfl)
    obtain ⟨y0q0, y1q0, y2q0, y3q0, y4q0, y5q0⟩ := frozen6 (C3.out.cells 1 rfl)
    have ne_q1_q0 : w2.heap.size ≠ q0 := C3.out.differ 0 1 (by decide) rfl rfl
    have ne_q0_q1 : q0 ≠ w2.heap.size := C3.out.differ 1 0 (by decide) rfl rfl
    go_wp2_with fail
    clear x0q1 x1q1 x2q1 x3q1 x4q1 x5q1 y0q1 y1q1 y2q1 y3q1 y4q1 y5q1 x0q0 x1q0 x2q0 x3q0 x4q0 x5q0 y0q0 y1q0 y2q0 y3q0 y4q0 y5q0 ne_q1_q0 ne_q0_q1
    obtain ⟨q1, e_q1⟩ : ∃ q, q = w2.heap.size := ⟨_, rfl⟩
    rw [← e_q1] at C3 ⊢
    clear e_q1
    generalize (World.alloc w2 _) = w4 at *
    refine (name_at C3.out.at_ M1.out).mono ?_
    rintro e w5 ⟨rfl, a5, f5⟩
    have C5 := Lib.hid (C3.out.call f5 a5)
    clear a5 f5 C3
    obtain ⟨x0q1, x1q1, x2q1, x3q1, x4q1, x5q1⟩ := cells6 (C5.out.cells 0 rfl)
    obtain ⟨y0q1, y1q1, y2q1, y3q1, y4q1, y5q1⟩ := frozen6 (C5.out.cells 0 rfl)
    obtain ⟨x0q0, x1q0, x2q0, x3q0, x4q0, x5q0⟩ := cells6 (C5.out.cells 1 rfl)
    obtain ⟨y0q0, y1q0, y2q0, y3q0, y4q0, y5q0⟩ := frozen6 (C5.out.cells 1 rfl)
    have ne_q1_q0 : q1 ≠ q0 := C5.out.differ 0 1 (by decide) rfl rfl
    have ne_q0_q1 : q0 ≠ q1 := C5.out.differ 1 0 (by decide) rfl rfl
    go_wp2_with fail
    clear x0q1 x1q1 x2q1 x3q1 x4q1 x5q1 y0q1 y1q1 y2q1 y3q1 y4q1 y5q1 x0q0 x1q0 x2q0 x3q0 x4q0 x5q0 y0q0 y1q0 y2q0 y3q0 y4q0 y5q0 ne_q1_q0 ne_q0_q1
    have C6 := Lib.hid (C5.out.set 0 rfl 1 (.string (bs nm)))
    clear C5
    generalize (World.setCell w5 _ _) = w7 at *
    refine (mark_at C6.out.at_).mono ?_
    rintro e w8 ⟨rfl, u8⟩
    have C8 := Lib.hid (C6.out.up u8)
    clear u8 C6
    have C9 := Lib.hid (C8.out.know (NdC.leaf _ _ (26 : Nat) (nm) 0 (hd s.l).line (hd s.l).col))
    clear C8
    obtain ⟨x0q1, x1q1, x2q1, x3q1, x4q1, x5q1⟩ := cells6 (C9.out.cells 0 rfl)
    obtain ⟨y0q1, y1q1, y2q1, y3q1, y4q1, y5q1⟩ := frozen6 (C9.out.cells 0 rfl)
    obtain ⟨x0q0, x1q0, x2q0, x3q0, x4q0, x5q0⟩ := cells6 (C9.out.cells 1 rfl)
    obtain ⟨y0q0, y1q0, y2q0, y3q0, y4q0, y5q0⟩ := frozen6 (C9.out.cells 1 rfl)
    have ne_q1_q0 : q1 ≠ q0 := C9.out.differ 0 1 (by decide) rfl rfl
    have ne_q0_q1 : q0 ≠ q1 := C9.out.differ 1 0 (by decide) rfl rfl
    go_wp2_with fail
    obtain ⟨b7, d7⟩ := C9.out.fin 1 rfl List.mem_cons_self
    exact bodyPost_ret (res_nodec (x := 2) (q := q0) (by kernel_rfl) rfl b7 rfl) rfl d7
set_option maxHeartbeats 4000000 in
theorem prime_run {rd : Rule → Nat → M Nd} (I : RunsL rd (.listed .expr) 99 (fun p => #[.pointer (some ⟨p, 0, none⟩)])) (J : Runs rd (.marked) 98) : Runs (mstep rd) .prime 94 := by
  intro w p A cap toks d s s' t h hd40 hp hm
  have D := Lib.hid hd40
  clear hd40
  replace hm := peek_some hm
  clear hp
  have Ih := Lib.hid I
  have Jh := Lib.hid J
  clear I J
  by_cases e4 : (hd s.l).kind = 4
  · replace hm := ite_yes e4 hm
    replace hm := pass_some hm
    obtain ⟨rfl, rfl⟩ := ret_some hm
    clear hm
    have K := Lib.hid (show (hd s.l).kind ≠ 0 by omega)
    have z4 := num_yes (m := 4) (show (hd s.l).kind = 4 by omega)
    clear e4
    have C1 := Lib.hid ((Cx.start h).alloc z6)
    clear h
    go_enter Tryd.func94, Tryd.ntmps94
    go_wp2_with fail
    change Calls _ _ _ (w.alloc zeroNd) _
    obtain ⟨q0, e0⟩ : ∃ q, q = w.heap.size := ⟨_, rfl⟩
    rw [← e0] at C1 ⊢
    clear e0
    generalize w.alloc zeroNd = w1 at *
    refine (next_at C1.out.at_).mono ?_
    rintro e w2 ⟨rfl, u2⟩
    have C2 := Lib.hid (C1.out.up u2)
    clear u2 C1
    have NT := Lib.hid (show w2.heap.size ≠ p from fun e => by have := Nat.lt_of_lt_of_le C2.out.pos C2.out.fr.size; omega)
    have C3 := Lib.hid (C2.out.more (.cells #[.int .i64 (hd s.l).kind, .string (bs (hd s.l).text), .int .i64 (hd s.l).n, .int .i64 (hd s.l).line, .int .i64 (hd s.l).col] 43))
    have T3 := Lib.hid (heap_alloc_new w2 (.cells #[.int .i64 (hd s.l).kind, .string (bs (hd s.l).text), .int .i64 (hd s.l).n, .int .i64 (hd s.l).line, .int .i64 (hd s.l).col] 43))
    clear C2
    simp only [tokT, tokA]
    obtain ⟨x0q0, x1q0, x2q0, x3q0, x4q0, x5q0⟩ := cells6 (C3.out.cells 0 rfl)
    obtain ⟨y0q0, y1q0, y2q0, y3q0, y4q0, y5q0⟩ := frozen6 (C3.out.cells 0 rfl)
    obtain ⟨t0, t1, t2, t3, t4⟩ := Tk.cells5 T3.out
    go_wp2_with fail
    clear x0q0 x1q0 x2q0 x3q0 x4q0 x5q0 y0q0 y1q0 y2q0 y3q0 y4q0 y5q0
    clear z4 t0 t1 t2 t3 t4
    obtain ⟨qt, e_qt⟩ : ∃ q, q = w2.heap.size := ⟨_, rfl⟩
    rw [← e_qt] at T3 NT ⊢
    clear e_qt
    generalize (World.alloc w2 _) = w4 at *
    refine (pass_at C3.out.at_ K.out 21).mono ?_
    rintro e w5 ⟨rfl, a5, f5⟩
    have C5 := Lib.hid (C3.out.call f5 a5)
    have T5 := Lib.hid ((f5.block qt (heap_lt T3.out) (fun e => NT.out e)).trans T3.out)
    clear T3
    clear a5 f5 C3
    have T9 := (((Fr.refl (fun _ => False) w5).alloc (.cells #[.int .i64 21, .string (bs []), .int .i64 0, .int .i64 (hd s.l).line, .int .i64 (hd s.l).col, .slice none 0 0] 27)).block qt (heap_lt T5.out) (fun e => e)).trans T5.out
    obtain ⟨t0, t1, t2, t3, t4⟩ := Tk.cells5 T9
    have hqt : w5.heap.size ≠ qt := fun e => by have := heap_lt T5.out; omega
    clear T9
    have C6 := Lib.hid (C5.out.know (NdC.leaf _ _ (21 : Nat) ([]) (hd s.l).n (hd s.l).line (hd s.l).col))
    clear C5
    have C7 := Lib.hid (C6.out.alloc #[.int .i64 21, .string (bs []), .int .i64 (hd s.l).n, .int .i64 (hd s.l).line, .int .i64 (hd s.l).col, .slice none 0 0])
    clear C6
    obtain ⟨x0q1, x1q1, x2q1, x3q1, x4q1, x5q1⟩ := cells6 (C7.out.cells 0 rfl)
    obtain ⟨y0q1, y1q1, y2q1, y3q1, y4q1, y5q1⟩ := frozen6 (C7.out.cells 0 rfl)
    obtain ⟨x0q0, x1q0, x2q0, x3q0, x4q0, x5q0⟩ := cells6 (C7.out.cells 1 rfl)
    obtain ⟨y0q0, y1q0, y2q0, y3q0, y4q0, y5q0⟩ := frozen6 (C7.out.cells 1 rfl)
    have ne_q1_q0 : w5.heap.size ≠ q0 := C7.out.differ 0 1 (by decide) rfl rfl
    have ne_q0_q1 : q0 ≠ w5.heap.size := C7.out.differ 1 0 (by decide) rfl rfl
    go_wp2_with fail
    obtain ⟨b7, d7⟩ := C7.out.fin 1 rfl List.mem_cons_self
    exact bodyPost_ret (res_nodec (x := 2) (q := q0) (by kernel_rfl) rfl b7 rfl) rfl d7
  · replace hm := ite_no e4 hm
    by_cases e5 : (hd s.l).kind = 5
    · replace hm := ite_yes e5 hm
      replace hm := pass_some hm
      obtain ⟨rfl, rfl⟩ := ret_some hm
      clear hm
      have K := Lib.hid (show (hd s.l).kind ≠ 0 by omega)
      have z4 := num_no (m := 4) (show (hd s.l).kind ≠ 4 by omega)
      have z5 := num_yes (m := 5) (show (hd s.l).kind = 5 by omega)
      clear e4 e5
      have C1 := Lib.hid ((Cx.start h).alloc z6)
      clear h
      go_enter Tryd.func94, Tryd.ntmps94
      go_wp2_with fail
      change Calls _ _ _ (w.alloc zeroNd) _
      obtain ⟨q0, e0⟩ : ∃ q, q = w.heap.size := ⟨_, rfl⟩
      rw [← e0] at C1 ⊢
      clear e0
      generalize w.alloc zeroNd = w1 at *
      refine (next_at C1.out.at_).mono ?_
      rintro e w2 ⟨rfl, u2⟩
      have C2 := Lib.hid (C1.out.up u2)
      clear u2 C1
      have NT := Lib.hid (show w2.heap.size ≠ p from fun e => by have := Nat.lt_of_lt_of_le C2.out.pos C2.out.fr.size; omega)
      have C3 := Lib.hid (C2.out.more (.cells #[.int .i64 (hd s.l).kind, .string (bs (hd s.l).text), .int .i64 (hd s.l).n, .int .i64 (hd s.l).line, .int .i64 (hd s.l).col] 43))
      have T3 := Lib.hid (heap_alloc_new w2 (.cells #[.int .i64 (hd s.l).kind, .string (bs (hd s.l).text), .int .i64 (hd s.l).n, .int .i64 (hd s.l).line, .int .i64 (hd s.l).col] 43))
      clear C2
      simp only [tokT, tokA]
      obtain ⟨x0q0, x1q0, x2q0, x3q0, x4q0, x5q0⟩ := cells6 (C3.out.cells 0 rfl)
      obtain ⟨y0q0, y1q0, y2q0, y3q0, y4q0, y5q0⟩ := frozen6 (C3.out.cells 0 rfl)
      obtain ⟨t0, t1, t2, t3, t4⟩ := Tk.cells5 T3.out
      go_wp2_with fail
      clear x0q0 x1q0 x2q0 x3q0 x4q0 x5q0 y0q0 y1q0 y2q0 y3q0 y4q0 y5q0
      clear z4 z5 t0 t1 t2 t3 t4
      obtain ⟨qt, e_qt⟩ : ∃ q, q = w2.heap.size := ⟨_, rfl⟩
      rw [← e_qt] at T3 NT ⊢
      clear e_qt
      generalize (World.alloc w2 _) = w4 at *
      refine (pass_at C3.out.at_ K.out 24).mono ?_
      rintro e w5 ⟨rfl, a5, f5⟩
      have C5 := Lib.hid (C3.out.call f5 a5)
      have T5 := Lib.hid ((f5.block qt (heap_lt T3.out) (fun e => NT.out e)).trans T3.out)
      clear T3
      clear a5 f5 C3
      have T9 := (((Fr.refl (fun _ => False) w5).alloc (.cells #[.int .i64 24, .string (bs []), .int .i64 0, .int .i64 (hd s.l).line, .int .i64 (hd s.l).col, .slice none 0 0] 27)).block qt (heap_lt T5.out) (fun e => e)).trans T5.out
      obtain ⟨t0, t1, t2, t3, t4⟩ := Tk.cells5 T9
      have hqt : w5.heap.size ≠ qt := fun e => by have := heap_lt T5.out; omega
      clear T9
      have C6 := Lib.hid (C5.out.know (NdC.leaf _ _ (24 : Nat) ((hd s.l).text) 0 (hd s.l).line (hd s.l).col))
      clear C5
      have C7 := Lib.hid (C6.out.alloc #[.int .i64 24, .string (bs (hd s.l).text), .int .i64 0, .int .i64 (hd s.l).line, .int .i64 (hd s.l).col, .slice none 0 0])
      clear C6
      obtain ⟨x0q1, x1q1, x2q1, x3q1, x4q1, x5q1⟩ := cells6 (C7.out.cells 0 rfl)
      obtain ⟨y0q1, y1q1, y2q1, y3q1, y4q1, y5q1⟩ := frozen6 (C7.out.cells 0 rfl)
      obtain ⟨x0q0, x1q0, x2q0, x3q0, x4q0, x5q0⟩ := cells6 (C7.out.cells 1 rfl)
      obtain ⟨y0q0, y1q0, y2q0, y3q0, y4q0, y5q0⟩ := frozen6 (C7.out.cells 1 rfl)
      have ne_q1_q0 : w5.heap.size ≠ q0 := C7.out.differ 0 1 (by decide) rfl rfl
      have ne_q0_q1 : q0 ≠ w5.heap.size := C7.out.differ 1 0 (by decide) rfl rfl
      go_wp2_with fail
      obtain ⟨b7, d7⟩ := C7.out.fin 1 rfl List.mem_cons_self
      exact bodyPost_ret (res_nodec (x := 2) (q := q0) (by kernel_rfl) rfl b7 rfl) rfl d7
    · replace hm := ite_no e5 hm
      by_cases e2 : (hd s.l).kind = 2
      · replace hm := ite_yes e2 hm
        have z4 := num_no (m := 4) (show (hd s.l).kind ≠ 4 by omega)
        have z5 := num_no (m := 5) (show (hd s.l).kind ≠ 5 by omega)
        have z2 := num_yes (m := 2) (show (hd s.l).kind = 2 by omega)
        have M1 := Lib.hid hm
        clear hm e2 e4 e5
        have C1 := Lib.hid ((Cx.start h).alloc z6)
        clear h
        go_enter Tryd.func94, Tryd.ntmps94
        go_wp2_with fail
        change Calls _ _ _ (w.alloc zeroNd) _
        obtain ⟨q0, e0⟩ : ∃ q, q = w.heap.size := ⟨_, rfl⟩
        rw [← e0] at C1 ⊢
        clear e0
        generalize w.alloc zeroNd = w1 at *
        refine (next_at C1.out.at_).mono ?_
        rintro e w2 ⟨rfl, u2⟩
        have C2 := Lib.hid (C1.out.up u2)
        clear u2 C1
        have NT := Lib.hid (show w2.heap.size ≠ p from fun e => by have := Nat.lt_of_lt_of_le C2.out.pos C2.out.fr.size; omega)
        have C3 := Lib.hid (C2.out.more (.cells #[.int .i64 (hd s.l).kind, .string (bs (hd s.l).text), .int .i64 (hd s.l).n, .int .i64 (hd s.l).line, .int .i64 (hd s.l).col] 43))
        have T3 := Lib.hid (heap_alloc_new w2 (.cells #[.int .i64 (hd s.l).kind, .string (bs (hd s.l).text), .int .i64 (hd s.l).n, .int .i64 (hd s.l).line, .int .i64 (hd s.l).col] 43))
        clear C2
        simp only [tokT, tokA]
        obtain ⟨x0q0, x1q0, x2q0, x3q0, x4q0, x5q0⟩ := cells6 (C3.out.cells 0 rfl)
        obtain ⟨y0q0, y1q0, y2q0, y3q0, y4q0, y5q0⟩ := frozen6 (C3.out.cells 0 rfl)
        obtain ⟨t0, t1, t2, t3, t4⟩ := Tk.cells5 T3.out
        go_wp2_with fail
        clear x0q0 x1q0 x2q0 x3q0 x4q0 x5q0 y0q0 y1q0 y2q0 y3q0 y4q0 y5q0
        clear z4 z5 z2 t0 t1 t2 t3 t4
        obtain ⟨qt, e_qt⟩ : ∃ q, q = w2.heap.size := ⟨_, rfl⟩
        rw [← e_qt] at T3 NT ⊢
        clear e_qt
        generalize (World.alloc w2 _) = w4 at *
        refine (nameOrCall_at Ih.out C3.out.at_ D.out M1.out).mono ?_
        rintro e w5 ⟨cs5, rfl, nd5, f5, a5⟩
        have C5 := Lib.hid (C3.out.tree f5 a5 nd5)
        obtain ⟨k5, m5, n5, l5, c5, ks5⟩ := t
        obtain ⟨A5, cc5, rfl, -⟩ := nd5.row
        clear nd5 f5 a5 C3
        obtain ⟨x0q0, x1q0, x2q0, x3q0, x4q0, x5q0⟩ := cells6 (C5.out.cells 0 rfl)
        obtain ⟨y0q0, y1q0, y2q0, y3q0, y4q0, y5q0⟩ := frozen6 (C5.out.cells 0 rfl)
        go_wp2_with fail
        obtain ⟨b7, d7⟩ := C5.out.fin 0 rfl List.mem_cons_self
        exact bodyPost_ret (res_nodec (x := 2) (q := q0) (by kernel_rfl) rfl b7 rfl) rfl d7
      · replace hm := ite_no e2 hm
        have z4 := num_no (m := 4) (show (hd s.l).kind ≠ 4 by omega)
        have z5 := num_no (m := 5) (show (hd s.l).kind ≠ 5 by omega)
        have z2 := num_no (m := 2) (show (hd s.l).kind ≠ 2 by omega)
        have M1 := Lib.hid hm
        clear hm e2 e4 e5
        have C1 := Lib.hid ((Cx.start h).alloc z6)
        clear h
        go_enter Tryd.func94, Tryd.ntmps94
        go_wp2_with fail
        change Calls _ _ _ (w.alloc zeroNd) _
        obtain ⟨q0, e0⟩ : ∃ q, q = w.heap.size := ⟨_, rfl⟩
        rw [← e0] at C1 ⊢
        clear e0
        generalize w.alloc zeroNd = w1 at *
        refine (next_at C1.out.at_).mono ?_
        rintro e w2 ⟨rfl, u2⟩
        have C2 := Lib.hid (C1.out.up u2)
        clear u2 C1
        have NT := Lib.hid (show w2.heap.size ≠ p from fun e => by have := Nat.lt_of_lt_of_le C2.out.pos C2.out.fr.size; omega)
        have C3 := Lib.hid (C2.out.more (.cells #[.int .i64 (hd s.l).kind, .string (bs (hd s.l).text), .int .i64 (hd s.l).n, .int .i64 (hd s.l).line, .int .i64 (hd s.l).col] 43))
        have T3 := Lib.hid (heap_alloc_new w2 (.cells #[.int .i64 (hd s.l).kind, .string (bs (hd s.l).text), .int .i64 (hd s.l).n, .int .i64 (hd s.l).line, .int .i64 (hd s.l).col] 43))
        clear C2
        simp only [tokT, tokA]
        obtain ⟨x0q0, x1q0, x2q0, x3q0, x4q0, x5q0⟩ := cells6 (C3.out.cells 0 rfl)
        obtain ⟨y0q0, y1q0, y2q0, y3q0, y4q0, y5q0⟩ := frozen6 (C3.out.cells 0 rfl)
        obtain ⟨t0, t1, t2, t3, t4⟩ := Tk.cells5 T3.out
        go_wp2_with fail
        clear x0q0 x1q0 x2q0 x3q0 x4q0 x5q0 y0q0 y1q0 y2q0 y3q0 y4q0 y5q0
        clear z4 z5 z2 t0 t1 t2 t3 t4
        obtain ⟨qt, e_qt⟩ : ∃ q, q = w2.heap.size := ⟨_, rfl⟩
        rw [← e_qt] at T3 NT ⊢
        clear e_qt
        generalize (World.alloc w2 _) = w4 at *
        refine (Jh.out _ p A cap toks d _ _ _ C3.out.at_ D.out (True.intro) M1.out).mono ?_
        rintro e w5 ⟨cs5, rfl, nd5, f5, a5⟩
        have C5 := Lib.hid (C3.out.tree f5 a5 nd5)
        obtain ⟨k5, m5, n5, l5, c5, ks5⟩ := t
        obtain ⟨A5, cc5, rfl, -⟩ := nd5.row
        clear nd5 f5 a5 C3
        obtain ⟨x0q0, x1q0, x2q0, x3q0, x4q0, x5q0⟩ := cells6 (C5.out.cells 0 rfl)
        obtain ⟨y0q0, y1q0, y2q0, y3q0, y4q0, y5q0⟩ := frozen6 (C5.out.cells 0 rfl)
        go_wp2_with fail
        obtain ⟨b7, d7⟩ := C5.out.fin 0 rfl List.mem_cons_self
        exact bodyPost_ret (res_nodec (x := 2) (q := q0) (by kernel_rfl) rfl b7 rfl) rfl d7
end Go.Proofs.YtemmdbjcllcelaaDoor.Pa
