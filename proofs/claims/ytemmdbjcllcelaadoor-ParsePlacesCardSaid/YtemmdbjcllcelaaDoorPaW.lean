/-
  Package parse: rules, one by one (written by wip/genPa.py).
-/
import Derived.Test.YtemmdbjcllcelaaDoorPaJL
import Derived.Test.YtemmdbjcllcelaaDoorPaV
import Derived.Test.YtemmdbjcllcelaaDoorHeld
import Derived.Deep.Heap
import Derived.Deep.Cut
namespace Go.Proofs.YtemmdbjcllcelaaDoor.Pa
open Go.RowKit
open Go.Proofs.YtemmdbjcllcelaaDoor.Tk (Tok TokC bs tokA zeroTok set5 set5_blk set5_fr blk_set eqL)
set_option maxRecDepth 100000
set_option maxHeartbeats 4000000 in
theorem indexed_run {rd : Rule → Nat → M Nd} (I : Runs rd (.expr) 87) : RunsY (mstep rd) (fun x => .indexed x) 96 := by
  intro w0 w p A cap toks d s s' t x cs vs ts h hx hd40 hp hm
  have D := Lib.hid hd40
  have K := Lib.hid (show (hd s.l).kind ≠ 0 from hp)
  obtain ⟨xk, xm, xn, xl, xc, xs⟩ := x
  obtain ⟨XA, xcc, rfl, -⟩ := (h.nd _ hx).row
  have HX := Lib.hid hx
  have C0 := Lib.hid h
  clear hd40 hp hx h
  have Ih := Lib.hid I
  clear I
  have hx := then_some (pass_some (peek_some hm))
  clear hm
  obtain ⟨t1, s1, h1, hm⟩ := hx
  have hx := then_some hm
  clear hm
  obtain ⟨⟨⟩, s2, h2, hm⟩ := hx
  obtain ⟨rfl, rfl⟩ := ret_some hm
  clear hm
  have M1 := Lib.hid h1
  have M2 := Lib.hid h2
  clear h1 h2
  go_enter Tryd.func96, Tryd.ntmps96
  have C1 := Lib.hid (C0.out.alloc #[.int .i64 xk, .string (bs xm), .int .i64 xn, .int .i64 xl, .int .i64 xc, .slice XA xs.length xcc])
  clear C0
  have C2 := Lib.hid (C1.out.alloc #[.int .i64 0, .string ⟨#[]⟩, .int .i64 0, .int .i64 0, .int .i64 0, .slice none 0 0])
  clear C1
  rw [Go.Deep.nblk_alloc] at C2
  obtain ⟨x0q0, x1q0, x2q0, x3q0, x4q0, x5q0⟩ := cells6 (C2.out.cells 0 rfl)
  obtain ⟨y0q0, y1q0, y2q0, y3q0, y4q0, y5q0⟩ := frozen6 (C2.out.cells 0 rfl)
  obtain ⟨x0qx, x1qx, x2qx, x3qx, x4qx, x5qx⟩ := cells6 (C2.out.cells 1 rfl)
  obtain ⟨y0qx, y1qx, y2qx, y3qx, y4qx, y5qx⟩ := frozen6 (C2.out.cells 1 rfl)
  have ne_q0_qx : (w.heap.size + 1) ≠ w.heap.size := C2.out.differ 0 1 (by decide) rfl rfl
  have ne_qx_q0 : w.heap.size ≠ (w.heap.size + 1) := C2.out.differ 1 0 (by decide) rfl rfl
  go_wp2_with fail
  clear x0q0 x1q0 x2q0 x3q0 x4q0 x5q0 y0q0 y1q0 y2q0 y3q0 y4q0 y5q0 x0qx x1qx x2qx x3qx x4qx x5qx y0qx y1qx y2qx y3qx y4qx y5qx ne_q0_qx ne_qx_q0
  obtain ⟨qx, e_qx⟩ : ∃ q, q = w.heap.size := ⟨_, rfl⟩
  rw [← e_qx] at C2 ⊢
  clear e_qx
  obtain ⟨q0, e_q0⟩ : ∃ q, q = qx + 1 := ⟨_, rfl⟩
  rw [← e_q0] at C2 ⊢
  clear e_q0
  generalize (World.alloc (World.alloc w _) _) = w3 at *
  refine (pass_at C2.out.at_ K.out 32).mono ?_
  rintro e w4 ⟨rfl, a4, f4⟩
  have C4 := Lib.hid (C2.out.call f4 a4)
  clear a4 f4 C2
  have C5 := Lib.hid (C4.out.alloc #[.int .i64 32, .string (bs []), .int .i64 0, .int .i64 (hd s.l).line, .int .i64 (hd s.l).col, .slice none 0 0])
  clear C4
  obtain ⟨x0q1, x1q1, x2q1, x3q1, x4q1, x5q1⟩ := cells6 (C5.out.cells 0 rfl)
  obtain ⟨y0q1, y1q1, y2q1, y3q1, y4q1, y5q1⟩ := frozen6 (C5.out.cells 0 rfl)
  obtain ⟨x0q0, x1q0, x2q0, x3q0, x4q0, x5q0⟩ := cells6 (C5.out.cells 1 rfl)
  obtain ⟨y0q0, y1q0, y2q0, y3q0, y4q0, y5q0⟩ := frozen6 (C5.out.cells 1 rfl)
  obtain ⟨x0qx, x1qx, x2qx, x3qx, x4qx, x5qx⟩ := cells6 (C5.out.cells 2 rfl)
  obtain ⟨y0qx, y1qx, y2qx, y3qx, y4qx, y5qx⟩ := frozen6 (C5.out.cells 2 rfl)
  have ne_q1_q0 : w4.heap.size ≠ q0 := C5.out.differ 0 1 (by decide) rfl rfl
  have ne_q1_qx : w4.heap.size ≠ qx := C5.out.differ 0 2 (by decide) rfl rfl
  have ne_q0_q1 : q0 ≠ w4.heap.size := C5.out.differ 1 0 (by decide) rfl rfl
  have ne_q0_qx : q0 ≠ qx := C5.out.differ 1 2 (by decide) rfl rfl
  have ne_qx_q1 : qx ≠ w4.heap.size := C5.out.differ 2 0 (by decide) rfl rfl
  have ne_qx_q0 : qx ≠ q0 := C5.out.differ 2 1 (by decide) rfl rfl
  go_upto_region 2 with fail
  clear x0q1 x1q1 x2q1 x3q1 x4q1 x5q1 y0q1 y1q1 y2q1 y3q1 y4q1 y5q1 x0q0 x1q0 x2q0 x3q0 x4q0 x5q0 y0q0 y1q0 y2q0 y3q0 y4q0 y5q0 x0qx x1qx x2qx x3qx x4qx x5qx y0qx y1qx y2qx y3qx y4qx y5qx ne_q1_q0 ne_q1_qx ne_q0_q1 ne_q0_qx ne_qx_q1 ne_qx_q0
  obtain ⟨q1, e_q1⟩ : ∃ q, q = w4.heap.size := ⟨_, rfl⟩
  rw [← e_q1] at C5 ⊢
  clear e_q1
  generalize (World.alloc w4 _) = w6 at *
  have C7 := Lib.hid (C5.out.up (Fr.drew (Fr.refl (fun _ => False) w6)))
  clear C5
  refine wp_region_held_drew (S := fun W => W.heap[qx]? = some (.cells #[.int .i64 xk, .string (bs xm), .int .i64 xn, .int .i64 xl, .int .i64 xc, .slice XA xs.length xcc] 27 (0, 0))) (by kernel_rfl) (by exact C7.out.cells 2 rfl) (fun hHeld => ?_)
  generalize w6.drew = w7 at *
  refine held_take (i := 0) (d := some 8) (v := ?_) rfl rfl (by kernel_rfl) (by kernel_rfl) (by kernel_rfl) (fun _ _ _ h => h) (by rfl) ?_ (by assumption) ?_
  rotate_left 1
  focus (intro w hSw; obtain ⟨c0, c1, c2, c3, c4, c5⟩ := cells6 (hSw); (try dsimp only at hSw); go_simp; first | done | with_reducible rfl)
  simp only [Act.put, List.setIfInBounds_toArray, List.set_cons_zero, List.set_cons_succ]
  refine held_take (i := 1) (d := some 9) (v := ?_) rfl rfl (by kernel_rfl) (by kernel_rfl) (by kernel_rfl) (fun _ _ _ h => h) (by rfl) ?_ (by assumption) ?_
  rotate_left 1
  focus (intro w hSw; (try dsimp only at hSw); go_simp; first | done | with_reducible rfl)
  simp only [Act.put, List.setIfInBounds_toArray, List.set_cons_zero, List.set_cons_succ]
  refine wpAnyH_ready (rs := [2]) (by kernel_rfl) (by simp) ?_
  refine (AllReadyH.cons (o := _) rfl (fun K hK => ?_) AllReadyH.nil)
  go_simp
  refine (Ih.out _ p A cap toks d _ _ _ C7.out.at_ D.out (True.intro) M1.out).mono ?_
  rintro e w8 ⟨cs8, rfl, nd8, f8, a8⟩
  have C8 := Lib.hid (C7.out.tree f8 a8 nd8)
  obtain ⟨k8, m8, n8, l8, c8, ks8⟩ := t1
  obtain ⟨A8, cc8, rfl, -⟩ := nd8.row
  clear nd8 f8 a8 C7
  go_simp
  refine hK.out _ _ (by exact C8.out.cells 2 rfl) (fun hHeld => ?_)
  clear hK K
  refine wpAnyH_ready (rs := [3]) (by kernel_rfl) (by simp) ?_
  refine (AllReadyH.cons (o := _) rfl (fun K hK => ?_) AllReadyH.nil)
  have R9 := C8.out.row [(Nd.mk xk xm xn xl xc xs, [.int .i64 xk, .string (bs xm), .int .i64 xn, .int .i64 xl, .int .i64 xc, .slice XA xs.length xcc]), (Nd.mk k8 m8 n8 l8 c8 ks8, [.int .i64 k8, .string (bs m8), .int .i64 n8, .int .i64 l8, .int .i64 c8, .slice A8 ks8.length cc8])] (sub_cons (List.mem_cons_of_mem _ HX.out) (sub_cons List.mem_cons_self sub_nil)) (by simp) (cs := #[.int .i64 xk, .string (bs xm), .int .i64 xn, .int .i64 xl, .int .i64 xc, .slice XA xs.length xcc, .int .i64 k8, .string (bs m8), .int .i64 n8, .int .i64 l8, .int .i64 c8, .slice A8 ks8.length cc8]) rfl
  have C9 := Lib.hid ((C8.out.more (.cells #[.int .i64 xk, .string (bs xm), .int .i64 xn, .int .i64 xl, .int .i64 xc, .slice XA xs.length xcc, .int .i64 k8, .string (bs m8), .int .i64 n8, .int .i64 l8, .int .i64 c8, .slice A8 ks8.length cc8] 27)).know (NdC.of R9 (32 : Nat) ([]) 0 (hd s.l).line (hd s.l).col))
  clear C8 R9
  go_simp
  refine hK.out _ _ (by exact C9.out.cells 2 rfl) (fun hHeld => ?_)
  clear hK K
  refine held_take (i := 4) (d := some 12) (v := ?_) rfl rfl (by kernel_rfl) (by kernel_rfl) (by kernel_rfl) (fun _ _ _ h => h) (by rfl) ?_ (by assumption) ?_
  rotate_left 1
  focus (intro w hSw; (try dsimp only at hSw); go_simp; first | done | with_reducible rfl)
  simp only [Act.put, List.setIfInBounds_toArray, List.set_cons_zero, List.set_cons_succ]
  refine wpAnyH_ready (rs := [5]) (by kernel_rfl) (by simp) ?_
  refine (AllReadyH.cons (o := _) rfl (fun K hK => ?_) AllReadyH.nil)
  obtain ⟨x0q1, x1q1, x2q1, x3q1, x4q1, x5q1⟩ := cells6 (C9.out.cells 0 rfl)
  obtain ⟨y0q1, y1q1, y2q1, y3q1, y4q1, y5q1⟩ := frozen6 (C9.out.cells 0 rfl)
  go_simp
  clear x0q1 x1q1 x2q1 x3q1 x4q1 x5q1 y0q1 y1q1 y2q1 y3q1 y4q1 y5q1
  have C10 := Lib.hid (C9.out.set 0 rfl 5 (.slice (some ⟨w8.heap.size, 0, none⟩) 2 2))
  clear C9
  refine hK.out _ _ (by exact C10.out.cells 2 rfl) (fun hHeld => ?_)
  clear hK K
  refine wpAnyH_done (by kernel_rfl) ?_ _
  clear hHeld
  generalize (World.setCell (World.alloc w8 _) _ _) = w11 at *
  go_wp2_with fail
  refine (want_at C10.out.at_ (by decide) M2.out).mono ?_
  rintro e w12 ⟨rfl, a12, f12⟩
  have C12 := Lib.hid (C10.out.call f12 a12)
  clear a12 f12 C10
  obtain ⟨x0q1, x1q1, x2q1, x3q1, x4q1, x5q1⟩ := cells6 (C12.out.cells 0 rfl)
  obtain ⟨y0q1, y1q1, y2q1, y3q1, y4q1, y5q1⟩ := frozen6 (C12.out.cells 0 rfl)
  obtain ⟨x0q0, x1q0, x2q0, x3q0, x4q0, x5q0⟩ := cells6 (C12.out.cells 1 rfl)
  obtain ⟨y0q0, y1q0, y2q0, y3q0, y4q0, y5q0⟩ := frozen6 (C12.out.cells 1 rfl)
  obtain ⟨x0qx, x1qx, x2qx, x3qx, x4qx, x5qx⟩ := cells6 (C12.out.cells 2 rfl)
  obtain ⟨y0qx, y1qx, y2qx, y3qx, y4qx, y5qx⟩ := frozen6 (C12.out.cells 2 rfl)
  have ne_q1_q0 : q1 ≠ q0 := C12.out.differ 0 1 (by decide) rfl rfl
  have ne_q1_qx : q1 ≠ qx := C12.out.differ 0 2 (by decide) rfl rfl
  have ne_q0_q1 : q0 ≠ q1 := C12.out.differ 1 0 (by decide) rfl rfl
  have ne_q0_qx : q0 ≠ qx := C12.out.differ 1 2 (by decide) rfl rfl
  have ne_qx_q1 : qx ≠ q1 := C12.out.differ 2 0 (by decide) rfl rfl
  have ne_qx_q0 : qx ≠ q0 := C12.out.differ 2 1 (by decide) rfl rfl
  go_wp2_with fail
  obtain ⟨b7, d7⟩ := Cx.finY (l := [_, _, _]) C12.out 1 rfl List.mem_cons_self (fun x hx => List.mem_cons_of_mem _ (List.mem_cons_of_mem _ (hx)))
  exact bodyPost_ret (res_nodec (x := 4) (q := q0) (by kernel_rfl) rfl b7 rfl) rfl ⟨_, rfl, d7⟩
set_option maxHeartbeats 4000000 in
theorem dotted_run {rd : Rule → Nat → M Nd} (I : Runs rd (.anyType) 58) (J : RunsL rd (.listed .expr) 99 (fun p => #[.pointer (some ⟨p, 0, none⟩)])) (LN : ∀ (d : Nat) (s s' : St) (t : Nd), rd (.listed .expr) d s = some (t, s') → t.kids.length ≤ s.l.length + 1) : RunsY (mstep rd) (fun x => .dotted x) 95 := by
  intro w0 w p A cap toks d s s' t x cs vs ts h hx hd40 hp hm
  have D := Lib.hid hd40
  have K := Lib.hid (show (hd s.l).kind ≠ 0 from hp)
  obtain ⟨xk, xm, xn, xl, xc, xs⟩ := x
  obtain ⟨XA, xcc, rfl, -⟩ := (h.nd _ hx).row
  have HX := Lib.hid hx
  have C0 := Lib.hid h
  clear hd40 hp hx h
  have Ih := Lib.hid I
  have Jh := Lib.hid J
  clear I J
  have hx := then_some (pass_some (peek_some hm))
  clear hm
  obtain ⟨b, s1, h1, hm⟩ := hx
  rcases takes_some h1 with ⟨e1, rfl, rfl⟩ | ⟨e1, rfl, rfl⟩
  · clear h1 LN
    have hx := then_some (ite_yes rfl hm)
    clear hm
    obtain ⟨t1, s2, h2, hm⟩ := hx
    have hx := then_some hm
    clear hm
    obtain ⟨⟨⟩, s3, h3, hm⟩ := hx
    obtain ⟨rfl, rfl⟩ := ret_some hm
    clear hm
    have M2 := Lib.hid h2
    have M3 := Lib.hid h3
    have E1 := Lib.hid e1
    clear h2 h3 e1
    go_enter Tryd.func95, Tryd.ntmps95
    have C1 := Lib.hid (C0.out.alloc #[.int .i64 xk, .string (bs xm), .int .i64 xn, .int .i64 xl, .int .i64 xc, .slice XA xs.length xcc])
    clear C0
    have C2 := Lib.hid (C1.out.alloc #[.int .i64 0, .string ⟨#[]⟩, .int .i64 0, .int .i64 0, .int .i64 0, .slice none 0 0])
    clear C1
    rw [Go.Deep.nblk_alloc] at C2
    obtain ⟨x0q0, x1q0, x2q0, x3q0, x4q0, x5q0⟩ := cells6 (C2.out.cells 0 rfl)
    obtain ⟨y0q0, y1q0, y2q0, y3q0, y4q0, y5q0⟩ := frozen6 (C2.out.cells 0 rfl)
    obtain ⟨x0qx, x1qx, x2qx, x3qx, x4qx, x5qx⟩ := cells6 (C2.out.cells 1 rfl)
    obtain ⟨y0qx, y1qx, y2qx, y3qx, y4qx, y5qx⟩ := frozen6 (C2.out.cells 1 rfl)
    have ne_q0_qx : (w.heap.size + 1) ≠ w.heap.size := C2.out.differ 0 1 (by decide) rfl rfl
    have ne_qx_q0 : w.heap.size ≠ (w.heap.size + 1) := C2.out.differ 1 0 (by decide) rfl rfl
    go_wp2_with fail
    clear x0q0 x1q0 x2q0 x3q0 x4q0 x5q0 y0q0 y1q0 y2q0 y3q0 y4q0 y5q0 x0qx x1qx x2qx x3qx x4qx x5qx y0qx y1qx y2qx y3qx y4qx y5qx ne_q0_qx ne_qx_q0
    obtain ⟨qx, e_qx⟩ : ∃ q, q = w.heap.size := ⟨_, rfl⟩
    rw [← e_qx] at C2 ⊢
    clear e_qx
    obtain ⟨q0, e_q0⟩ : ∃ q, q = qx + 1 := ⟨_, rfl⟩
    rw [← e_q0] at C2 ⊢
    clear e_q0
    generalize (World.alloc (World.alloc w _) _) = w3 at *
    refine (pass_at C2.out.at_ K.out 30).mono ?_
    rintro e w4 ⟨rfl, a4, f4⟩
    have C4 := Lib.hid (C2.out.call f4 a4)
    clear a4 f4 C2
    have C5 := Lib.hid (C4.out.alloc #[.int .i64 30, .string (bs []), .int .i64 0, .int .i64 (hd s.l).line, .int .i64 (hd s.l).col, .slice none 0 0])
    clear C4
    obtain ⟨x0q1, x1q1, x2q1, x3q1, x4q1, x5q1⟩ := cells6 (C5.out.cells 0 rfl)
    obtain ⟨y0q1, y1q1, y2q1, y3q1, y4q1, y5q1⟩ := frozen6 (C5.out.cells 0 rfl)
    obtain ⟨x0q0, x1q0, x2q0, x3q0, x4q0, x5q0⟩ := cells6 (C5.out.cells 1 rfl)
    obtain ⟨y0q0, y1q0, y2q0, y3q0, y4q0, y5q0⟩ := frozen6 (C5.out.cells 1 rfl)
    obtain ⟨x0qx, x1qx, x2qx, x3qx, x4qx, x5qx⟩ := cells6 (C5.out.cells 2 rfl)
    obtain ⟨y0qx, y1qx, y2qx, y3qx, y4qx, y5qx⟩ := frozen6 (C5.out.cells 2 rfl)
    have ne_q1_q0 : w4.heap.size ≠ q0 := C5.out.differ 0 1 (by decide) rfl rfl
    have ne_q1_qx : w4.heap.size ≠ qx := C5.out.differ 0 2 (by decide) rfl rfl
    have ne_q0_q1 : q0 ≠ w4.heap.size := C5.out.differ 1 0 (by decide) rfl rfl
    have ne_q0_qx : q0 ≠ qx := C5.out.differ 1 2 (by decide) rfl rfl
    have ne_qx_q1 : qx ≠ w4.heap.size := C5.out.differ 2 0 (by decide) rfl rfl
    have ne_qx_q0 : qx ≠ q0 := C5.out.differ 2 1 (by decide) rfl rfl
    go_wp2_with fail
    clear x0q1 x1q1 x2q1 x3q1 x4q1 x5q1 y0q1 y1q1 y2q1 y3q1 y4q1 y5q1 x0q0 x1q0 x2q0 x3q0 x4q0 x5q0 y0q0 y1q0 y2q0 y3q0 y4q0 y5q0 x0qx x1qx x2qx x3qx x4qx x5qx y0qx y1qx y2qx y3qx y4qx y5qx ne_q1_q0 ne_q1_qx ne_q0_q1 ne_q0_qx ne_qx_q1 ne_qx_q0
    obtain ⟨q1, e_q1⟩ : ∃ q, q = w4.heap.size := ⟨_, rfl⟩
    rw [← e_q1] at C5 ⊢
    clear e_q1
    generalize (World.alloc w4 _) = w6 at *
    refine (takes_yes_at C5.out.at_ E1.out (by decide)).mono ?_
    rintro e w7 ⟨rfl, a7, f7⟩
    have C7 := Lib.hid (C5.out.call f7 a7)
    clear a7 f7 C5
    obtain ⟨x0q1, x1q1, x2q1, x3q1, x4q1, x5q1⟩ := cells6 (C7.out.cells 0 rfl)
    obtain ⟨y0q1, y1q1, y2q1, y3q1, y4q1, y5q1⟩ := frozen6 (C7.out.cells 0 rfl)
    obtain ⟨x0q0, x1q0, x2q0, x3q0, x4q0, x5q0⟩ := cells6 (C7.out.cells 1 rfl)
    obtain ⟨y0q0, y1q0, y2q0, y3q0, y4q0, y5q0⟩ := frozen6 (C7.out.cells 1 rfl)
    obtain ⟨x0qx, x1qx, x2qx, x3qx, x4qx, x5qx⟩ := cells6 (C7.out.cells 2 rfl)
    obtain ⟨y0qx, y1qx, y2qx, y3qx, y4qx, y5qx⟩ := frozen6 (C7.out.cells 2 rfl)
    have ne_q1_q0 : q1 ≠ q0 := C7.out.differ 0 1 (by decide) rfl rfl
    have ne_q1_qx : q1 ≠ qx := C7.out.differ 0 2 (by decide) rfl rfl
    have ne_q0_q1 : q0 ≠ q1 := C7.out.differ 1 0 (by decide) rfl rfl
    have ne_q0_qx : q0 ≠ qx := C7.out.differ 1 2 (by decide) rfl rfl
    have ne_qx_q1 : qx ≠ q1 := C7.out.differ 2 0 (by decide) rfl rfl
    have ne_qx_q0 : qx ≠ q0 := C7.out.differ 2 1 (by decide) rfl rfl
    go_upto_region 4 with fail
    clear x0q1 x1q1 x2q1 x3q1 x4q1 x5q1 y0q1 y1q1 y2q1 y3q1 y4q1 y5q1 x0q0 x1q0 x2q0 x3q0 x4q0 x5q0 y0q0 y1q0 y2q0 y3q0 y4q0 y5q0 x0qx x1qx x2qx x3qx x4qx x5qx y0qx y1qx y2qx y3qx y4qx y5qx ne_q1_q0 ne_q1_qx ne_q0_q1 ne_q0_qx ne_qx_q1 ne_qx_q0
    have C8 := Lib.hid (C7.out.set 0 rfl 0 (.int .i64 37))
    clear C7
    generalize (World.setCell w7 _ _) = w9 at *
    have C10 := Lib.hid (C8.out.up (Fr.drew (Fr.refl (fun _ => False) w9)))
    clear C8
    refine wp_region_held_drew (S := fun W => W.heap[qx]? = some (.cells #[.int .i64 xk, .string (bs xm), .int .i64 xn, .int .i64 xl, .int .i64 xc, .slice XA xs.length xcc] 27 (0, 0))) (by kernel_rfl) (by exact C10.out.cells 2 rfl) (fun hHeld => ?_)
    generalize w9.drew = w10 at *
    refine held_take (i := 0) (d := some 11) (v := ?_) rfl rfl (by kernel_rfl) (by kernel_rfl) (by kernel_rfl) (fun _ _ _ h => h) (by rfl) ?_ (by assumption) ?_
    rotate_left 1
    focus (intro w hSw; obtain ⟨c0, c1, c2, c3, c4, c5⟩ := cells6 (hSw); (try dsimp only at hSw); go_simp; first | done | with_reducible rfl)
    simp only [Act.put, List.setIfInBounds_toArray, List.set_cons_zero, List.set_cons_succ]
    refine held_take (i := 1) (d := some 12) (v := ?_) rfl rfl (by kernel_rfl) (by kernel_rfl) (by kernel_rfl) (fun _ _ _ h => h) (by rfl) ?_ (by assumption) ?_
    rotate_left 1
    focus (intro w hSw; (try dsimp only at hSw); go_simp; first | done | with_reducible rfl)
    simp only [Act.put, List.setIfInBounds_toArray, List.set_cons_zero, List.set_cons_succ]
    refine wpAnyH_ready (rs := [2]) (by kernel_rfl) (by simp) ?_
    refine (AllReadyH.cons (o := _) rfl (fun K hK => ?_) AllReadyH.nil)
    go_simp
    refine (Ih.out _ p A cap toks d _ _ _ C10.out.at_ D.out (True.intro) M2.out).mono ?_
    rintro e w11 ⟨cs11, rfl, nd11, f11, a11⟩
    have C11 := Lib.hid (C10.out.tree f11 a11 nd11)
    obtain ⟨k11, m11, n11, l11, c11, ks11⟩ := t1
    obtain ⟨A11, cc11, rfl, -⟩ := nd11.row
    clear nd11 f11 a11 C10
    go_simp
    refine hK.out _ _ (by exact C11.out.cells 2 rfl) (fun hHeld => ?_)
    clear hK K
    refine wpAnyH_ready (rs := [3]) (by kernel_rfl) (by simp) ?_
    refine (AllReadyH.cons (o := _) rfl (fun K hK => ?_) AllReadyH.nil)
    have R12 := C11.out.row [(Nd.mk xk xm xn xl xc xs, [.int .i64 xk, .string (bs xm), .int .i64 xn, .int .i64 xl, .int .i64 xc, .slice XA xs.length xcc]), (Nd.mk k11 m11 n11 l11 c11 ks11, [.int .i64 k11, .string (bs m11), .int .i64 n11, .int .i64 l11, .int .i64 c11, .slice A11 ks11.length cc11])] (sub_cons (List.mem_cons_of_mem _ HX.out) (sub_cons List.mem_cons_self sub_nil)) (by simp) (cs := #[.int .i64 xk, .string (bs xm), .int .i64 xn, .int .i64 xl, .int .i64 xc, .slice XA xs.length xcc, .int .i64 k11, .string (bs m11), .int .i64 n11, .int .i64 l11, .int .i64 c11, .slice A11 ks11.length cc11]) rfl
    have C12 := Lib.hid ((C11.out.more (.cells #[.int .i64 xk, .string (bs xm), .int .i64 xn, .int .i64 xl, .int .i64 xc, .slice XA xs.length xcc, .int .i64 k11, .string (bs m11), .int .i64 n11, .int .i64 l11, .int .i64 c11, .slice A11 ks11.length cc11] 27)).know (NdC.of R12 (37 : Nat) ([]) 0 (hd s.l).line (hd s.l).col))
    clear C11 R12
    go_simp
    refine hK.out _ _ (by exact C12.out.cells 2 rfl) (fun hHeld => ?_)
    clear hK K
    refine held_take (i := 4) (d := some 15) (v := ?_) rfl rfl (by kernel_rfl) (by kernel_rfl) (by kernel_rfl) (fun _ _ _ h => h) (by rfl) ?_ (by assumption) ?_
    rotate_left 1
    focus (intro w hSw; (try dsimp only at hSw); go_simp; first | done | with_reducible rfl)
    simp only [Act.put, List.setIfInBounds_toArray, List.set_cons_zero, List.set_cons_succ]
    refine wpAnyH_ready (rs := [5]) (by kernel_rfl) (by simp) ?_
    refine (AllReadyH.cons (o := _) rfl (fun K hK => ?_) AllReadyH.nil)
    obtain ⟨x0q1, x1q1, x2q1, x3q1, x4q1, x5q1⟩ := cells6 (C12.out.cells 0 rfl)
    obtain ⟨y0q1, y1q1, y2q1, y3q1, y4q1, y5q1⟩ := frozen6 (C12.out.cells 0 rfl)
    go_simp
    clear x0q1 x1q1 x2q1 x3q1 x4q1 x5q1 y0q1 y1q1 y2q1 y3q1 y4q1 y5q1
    have C13 := Lib.hid (C12.out.set 0 rfl 5 (.slice (some ⟨w11.heap.size, 0, none⟩) 2 2))
    clear C12
    refine hK.out _ _ (by exact C13.out.cells 2 rfl) (fun hHeld => ?_)
    clear hK K
    refine wpAnyH_done (by kernel_rfl) ?_ _
    clear hHeld
    generalize (World.setCell (World.alloc w11 _) _ _) = w14 at *
    go_wp2_with fail
    refine (want_at C13.out.at_ (by decide) M3.out).mono ?_
    rintro e w15 ⟨rfl, a15, f15⟩
    have C15 := Lib.hid (C13.out.call f15 a15)
    clear a15 f15 C13
    obtain ⟨x0q1, x1q1, x2q1, x3q1, x4q1, x5q1⟩ := cells6 (C15.out.cells 0 rfl)
    obtain ⟨y0q1, y1q1, y2q1, y3q1, y4q1, y5q1⟩ := frozen6 (C15.out.cells 0 rfl)
    obtain ⟨x0q0, x1q0, x2q0, x3q0, x4q0, x5q0⟩ := cells6 (C15.out.cells 1 rfl)
    obtain ⟨y0q0, y1q0, y2q0, y3q0, y4q0, y5q0⟩ := frozen6 (C15.out.cells 1 rfl)
    obtain ⟨x0qx, x1qx, x2qx, x3qx, x4qx, x5qx⟩ := cells6 (C15.out.cells 2 rfl)
    obtain ⟨y0qx, y1qx, y2qx, y3qx, y4qx, y5qx⟩ := frozen6 (C15.out.cells 2 rfl)
    have ne_q1_q0 : q1 ≠ q0 := C15.out.differ 0 1 (by decide) rfl rfl
    have ne_q1_qx : q1 ≠ qx := C15.out.differ 0 2 (by decide) rfl rfl
    have ne_q0_q1 : q0 ≠ q1 := C15.out.differ 1 0 (by decide) rfl rfl
    have ne_q0_qx : q0 ≠ qx := C15.out.differ 1 2 (by decide) rfl rfl
    have ne_qx_q1 : qx ≠ q1 := C15.out.differ 2 0 (by decide) rfl rfl
    have ne_qx_q0 : qx ≠ q0 := C15.out.differ 2 1 (by decide) rfl rfl
    go_wp2_with fail
    obtain ⟨b7, d7⟩ := Cx.finY (l := [_, _, _]) C15.out 1 rfl List.mem_cons_self (fun x hx => List.mem_cons_of_mem _ (List.mem_cons_of_mem _ (hx)))
    exact bodyPost_ret (res_nodec (x := 4) (q := q0) (by kernel_rfl) rfl b7 rfl) rfl ⟨_, rfl, d7⟩
  · clear h1
    have hx := then_some (ite_no Bool.false_ne_true hm)
    clear hm
    obtain ⟨nm, s2, h2, hm⟩ := hx
    replace hm := peek_some hm
    have M2 := Lib.hid h2
    have E1 := Lib.hid e1
    clear h2 e1
    by_cases e2 : mark s2.l = [40]
    · replace hm := ite_yes e2 hm
      have hx := then_some hm
      clear hm
      obtain ⟨t1, s3, h3, hm⟩ := hx
      obtain ⟨rfl, rfl⟩ := ret_some hm
      clear hm
      have LE := Lib.hid (LN _ _ _ _ h3)
      have z2 := txt_yes e2
      clear e2 LN
      have M3 := Lib.hid h3
      clear h3
      go_enter Tryd.func95, Tryd.ntmps95
      have C1 := Lib.hid (C0.out.alloc #[.int .i64 xk, .string (bs xm), .int .i64 xn, .int .i64 xl, .int .i64 xc, .slice XA xs.length xcc])
      clear C0
      have C2 := Lib.hid (C1.out.alloc #[.int .i64 0, .string ⟨#[]⟩, .int .i64 0, .int .i64 0, .int .i64 0, .slice none 0 0])
      clear C1
      rw [Go.Deep.nblk_alloc] at C2
      obtain ⟨x0q0, x1q0, x2q0, x3q0, x4q0, x5q0⟩ := cells6 (C2.out.cells 0 rfl)
      obtain ⟨y0q0, y1q0, y2q0, y3q0, y4q0, y5q0⟩ := frozen6 (C2.out.cells 0 rfl)
      obtain ⟨x0qx, x1qx, x2qx, x3qx, x4qx, x5qx⟩ := cells6 (C2.out.cells 1 rfl)
      obtain ⟨y0qx, y1qx, y2qx, y3qx, y4qx, y5qx⟩ := frozen6 (C2.out.cells 1 rfl)
      have ne_q0_qx : (w.heap.size + 1) ≠ w.heap.size := C2.out.differ 0 1 (by decide) rfl rfl
      have ne_qx_q0 : w.heap.size ≠ (w.heap.size + 1) := C2.out.differ 1 0 (by decide) rfl rfl
      go_wp2_with fail
      clear x0q0 x1q0 x2q0 x3q0 x4q0 x5q0 y0q0 y1q0 y2q0 y3q0 y4q0 y5q0 x0qx x1qx x2qx x3qx x4qx x5qx y0qx y1qx y2qx y3qx y4qx y5qx ne_q0_qx ne_qx_q0
      obtain ⟨qx, e_qx⟩ : ∃ q, q = w.heap.size := ⟨_, rfl⟩
      rw [← e_qx] at C2 ⊢
      clear e_qx
      obtain ⟨q0, e_q0⟩ : ∃ q, q = qx + 1 := ⟨_, rfl⟩
      rw [← e_q0] at C2 ⊢
      clear e_q0
      generalize (World.alloc (World.alloc w _) _) = w3 at *
      refine (pass_at C2.out.at_ K.out 30).mono ?_
      rintro e w4 ⟨rfl, a4, f4⟩
      have C4 := Lib.hid (C2.out.call f4 a4)
      clear a4 f4 C2
      have C5 := Lib.hid (C4.out.alloc #[.int .i64 30, .string (bs []), .int .i64 0, .int .i64 (hd s.l).line, .int .i64 (hd s.l).col, .slice none 0 0])
      clear C4
      obtain ⟨x0q1, x1q1, x2q1, x3q1, x4q1, x5q1⟩ := cells6 (C5.out.cells 0 rfl)
      obtain ⟨y0q1, y1q1, y2q1, y3q1, y4q1, y5q1⟩ := frozen6 (C5.out.cells 0 rfl)
      obtain ⟨x0q0, x1q0, x2q0, x3q0, x4q0, x5q0⟩ := cells6 (C5.out.cells 1 rfl)
      obtain ⟨y0q0, y1q0, y2q0, y3q0, y4q0, y5q0⟩ := frozen6 (C5.out.cells 1 rfl)
      obtain ⟨x0qx, x1qx, x2qx, x3qx, x4qx, x5qx⟩ := cells6 (C5.out.cells 2 rfl)
      obtain ⟨y0qx, y1qx, y2qx, y3qx, y4qx, y5qx⟩ := frozen6 (C5.out.cells 2 rfl)
      have ne_q1_q0 : w4.heap.size ≠ q0 := C5.out.differ 0 1 (by decide) rfl rfl
      have ne_q1_qx : w4.heap.size ≠ qx := C5.out.differ 0 2 (by decide) rfl rfl
      have ne_q0_q1 : q0 ≠ w4.heap.size := C5.out.differ 1 0 (by decide) rfl rfl
      have ne_q0_qx : q0 ≠ qx := C5.out.differ 1 2 (by decide) rfl rfl
      have ne_qx_q1 : qx ≠ w4.heap.size := C5.out.differ 2 0 (by decide) rfl rfl
      have ne_qx_q0 : qx ≠ q0 := C5.out.differ 2 1 (by decide) rfl rfl
      go_wp2_with fail
      clear x0q1 x1q1 x2q1 x3q1 x4q1 x5q1 y0q1 y1q1 y2q1 y3q1 y4q1 y5q1 x0q0 x1q0 x2q0 x3q0 x4q0 x5q0 y0q0 y1q0 y2q0 y3q0 y4q0 y5q0 x0qx x1qx x2qx x3qx x4qx x5qx y0qx y1qx y2qx y3qx y4qx y5qx ne_q1_q0 ne_q1_qx ne_q0_q1 ne_q0_qx ne_qx_q1 ne_qx_q0
      obtain ⟨q1, e_q1⟩ : ∃ q, q = w4.heap.size := ⟨_, rfl⟩
      rw [← e_q1] at C5 ⊢
      clear e_q1
      generalize (World.alloc w4 _) = w6 at *
      refine (takes_no_at C5.out.at_ E1.out).mono ?_
      rintro e w7 ⟨rfl, u7⟩
      have C7 := Lib.hid (C5.out.up u7)
      clear u7 C5
      obtain ⟨x0q1, x1q1, x2q1, x3q1, x4q1, x5q1⟩ := cells6 (C7.out.cells 0 rfl)
      obtain ⟨y0q1, y1q1, y2q1, y3q1, y4q1, y5q1⟩ := frozen6 (C7.out.cells 0 rfl)
      obtain ⟨x0q0, x1q0, x2q0, x3q0, x4q0, x5q0⟩ := cells6 (C7.out.cells 1 rfl)
      obtain ⟨y0q0, y1q0, y2q0, y3q0, y4q0, y5q0⟩ := frozen6 (C7.out.cells 1 rfl)
      obtain ⟨x0qx, x1qx, x2qx, x3qx, x4qx, x5qx⟩ := cells6 (C7.out.cells 2 rfl)
      obtain ⟨y0qx, y1qx, y2qx, y3qx, y4qx, y5qx⟩ := frozen6 (C7.out.cells 2 rfl)
      have ne_q1_q0 : q1 ≠ q0 := C7.out.differ 0 1 (by decide) rfl rfl
      have ne_q1_qx : q1 ≠ qx := C7.out.differ 0 2 (by decide) rfl rfl
      have ne_q0_q1 : q0 ≠ q1 := C7.out.differ 1 0 (by decide) rfl rfl
      have ne_q0_qx : q0 ≠ qx := C7.out.differ 1 2 (by decide) rfl rfl
      have ne_qx_q1 : qx ≠ q1 := C7.out.differ 2 0 (by decide) rfl rfl
      have ne_qx_q0 : qx ≠ q0 := C7.out.differ 2 1 (by decide) rfl rfl
      go_wp2_with fail
      clear x0q1 x1q1 x2q1 x3q1 x4q1 x5q1 y0q1 y1q1 y2q1 y3q1 y4q1 y5q1 x0q0 x1q0 x2q0 x3q0 x4q0 x5q0 y0q0 y1q0 y2q0 y3q0 y4q0 y5q0 x0qx x1qx x2qx x3qx x4qx x5qx y0qx y1qx y2qx y3qx y4qx y5qx ne_q1_q0 ne_q1_qx ne_q0_q1 ne_q0_qx ne_qx_q1 ne_qx_q0
      refine (name_at C7.out.at_ M2.out).mono ?_
      rintro e w8 ⟨rfl, a8, f8⟩
      have C8 := Lib.hid (C7.out.call f8 a8)
      clear a8 f8 C7
      obtain ⟨x0q1, x1q1, x2q1, x3q1, x4q1, x5q1⟩ := cells6 (C8.out.cells 0 rfl)
      obtain ⟨y0q1, y1q1, y2q1, y3q1, y4q1, y5q1⟩ := frozen6 (C8.out.cells 0 rfl)
      obtain ⟨x0q0, x1q0, x2q0, x3q0, x4q0, x5q0⟩ := cells6 (C8.out.cells 1 rfl)
      obtain ⟨y0q0, y1q0, y2q0, y3q0, y4q0, y5q0⟩ := frozen6 (C8.out.cells 1 rfl)
      obtain ⟨x0qx, x1qx, x2qx, x3qx, x4qx, x5qx⟩ := cells6 (C8.out.cells 2 rfl)
      obtain ⟨y0qx, y1qx, y2qx, y3qx, y4qx, y5qx⟩ := frozen6 (C8.out.cells 2 rfl)
      have ne_q1_q0 : q1 ≠ q0 := C8.out.differ 0 1 (by decide) rfl rfl
      have ne_q1_qx : q1 ≠ qx := C8.out.differ 0 2 (by decide) rfl rfl
      have ne_q0_q1 : q0 ≠ q1 := C8.out.differ 1 0 (by decide) rfl rfl
      have ne_q0_qx : q0 ≠ qx := C8.out.differ 1 2 (by decide) rfl rfl
      have ne_qx_q1 : qx ≠ q1 := C8.out.differ 2 0 (by decide) rfl rfl
      have ne_qx_q0 : qx ≠ q0 := C8.out.differ 2 1 (by decide) rfl rfl
      go_upto_region 8 with fail
      clear x0q1 x1q1 x2q1 x3q1 x4q1 x5q1 y0q1 y1q1 y2q1 y3q1 y4q1 y5q1 x0q0 x1q0 x2q0 x3q0 x4q0 x5q0 y0q0 y1q0 y2q0 y3q0 y4q0 y5q0 x0qx x1qx x2qx x3qx x4qx x5qx y0qx y1qx y2qx y3qx y4qx y5qx ne_q1_q0 ne_q1_qx ne_q0_q1 ne_q0_qx ne_qx_q1 ne_qx_q0
      have C9 := Lib.hid (C8.out.set 0 rfl 1 (.string (bs nm)))
      clear C8
      generalize (World.setCell w8 _ _) = w10 at *
      obtain ⟨x0qxE, x1qxE, x2qxE, x3qxE, x4qxE, x5qxE⟩ := cells6 (C9.out.cells 2 rfl)
      obtain ⟨y0qxE, y1qxE, y2qxE, y3qxE, y4qxE, y5qxE⟩ := frozen6 (C9.out.cells 2 rfl)
      have C11 := Lib.hid (C9.out.alloc #[.int .i64 xk, .string (bs xm), .int .i64 xn, .int .i64 xl, .int .i64 xc, .slice XA xs.length xcc])
      clear C9
      obtain ⟨x0qr, x1qr, x2qr, x3qr, x4qr, x5qr⟩ := cells6 (C11.out.cells 0 rfl)
      obtain ⟨y0qr, y1qr, y2qr, y3qr, y4qr, y5qr⟩ := frozen6 (C11.out.cells 0 rfl)
      obtain ⟨x0q1, x1q1, x2q1, x3q1, x4q1, x5q1⟩ := cells6 (C11.out.cells 1 rfl)
      obtain ⟨y0q1, y1q1, y2q1, y3q1, y4q1, y5q1⟩ := frozen6 (C11.out.cells 1 rfl)
      obtain ⟨x0q0, x1q0, x2q0, x3q0, x4q0, x5q0⟩ := cells6 (C11.out.cells 2 rfl)
      obtain ⟨y0q0, y1q0, y2q0, y3q0, y4q0, y5q0⟩ := frozen6 (C11.out.cells 2 rfl)
      obtain ⟨x0qx, x1qx, x2qx, x3qx, x4qx, x5qx⟩ := cells6 (C11.out.cells 3 rfl)
      obtain ⟨y0qx, y1qx, y2qx, y3qx, y4qx, y5qx⟩ := frozen6 (C11.out.cells 3 rfl)
      have ne_qr_q1 : w10.heap.size ≠ q1 := C11.out.differ 0 1 (by decide) rfl rfl
      have ne_qr_q0 : w10.heap.size ≠ q0 := C11.out.differ 0 2 (by decide) rfl rfl
      have ne_qr_qx : w10.heap.size ≠ qx := C11.out.differ 0 3 (by decide) rfl rfl
      have ne_q1_qr : q1 ≠ w10.heap.size := C11.out.differ 1 0 (by decide) rfl rfl
      have ne_q1_q0 : q1 ≠ q0 := C11.out.differ 1 2 (by decide) rfl rfl
      have ne_q1_qx : q1 ≠ qx := C11.out.differ 1 3 (by decide) rfl rfl
      have ne_q0_qr : q0 ≠ w10.heap.size := C11.out.differ 2 0 (by decide) rfl rfl
      have ne_q0_q1 : q0 ≠ q1 := C11.out.differ 2 1 (by decide) rfl rfl
      have ne_q0_qx : q0 ≠ qx := C11.out.differ 2 3 (by decide) rfl rfl
      have ne_qx_qr : qx ≠ w10.heap.size := C11.out.differ 3 0 (by decide) rfl rfl
      have ne_qx_q1 : qx ≠ q1 := C11.out.differ 3 1 (by decide) rfl rfl
      have ne_qx_q0 : qx ≠ q0 := C11.out.differ 3 2 (by decide) rfl rfl
      go_wp2_with fail
      clear x0qr x1qr x2qr x3qr x4qr x5qr y0qr y1qr y2qr y3qr y4qr y5qr x0q1 x1q1 x2q1 x3q1 x4q1 x5q1 y0q1 y1q1 y2q1 y3q1 y4q1 y5q1 x0q0 x1q0 x2q0 x3q0 x4q0 x5q0 y0q0 y1q0 y2q0 y3q0 y4q0 y5q0 x0qx x1qx x2qx x3qx x4qx x5qx y0qx y1qx y2qx y3qx y4qx y5qx ne_qr_q1 ne_qr_q0 ne_qr_qx ne_q1_qr ne_q1_q0 ne_q1_qx ne_q0_qr ne_q0_q1 ne_q0_qx ne_qx_qr ne_qx_q1 ne_qx_q0 x0qxE x1qxE x2qxE x3qxE x4qxE x5qxE y0qxE y1qxE y2qxE y3qxE y4qxE y5qxE
      obtain ⟨qr, e_qr⟩ : ∃ q, q = w10.heap.size := ⟨_, rfl⟩
      rw [← e_qr] at C11 ⊢
      clear e_qr
      have C12 := Lib.hid (C11.out.set 1 rfl 5 (.slice (some ⟨qr, 0, none⟩) 1 1))
      clear C11
      generalize (World.setCell (World.alloc w10 _) _ _) = w13 at *
      refine (mark_at C12.out.at_).mono ?_
      rintro e w14 ⟨rfl, u14⟩
      have C14 := Lib.hid (C12.out.up u14)
      clear u14 C12
      obtain ⟨x0qr, x1qr, x2qr, x3qr, x4qr, x5qr⟩ := cells6 (C14.out.cells 0 rfl)
      obtain ⟨y0qr, y1qr, y2qr, y3qr, y4qr, y5qr⟩ := frozen6 (C14.out.cells 0 rfl)
      obtain ⟨x0q1, x1q1, x2q1, x3q1, x4q1, x5q1⟩ := cells6 (C14.out.cells 1 rfl)
      obtain ⟨y0q1, y1q1, y2q1, y3q1, y4q1, y5q1⟩ := frozen6 (C14.out.cells 1 rfl)
      obtain ⟨x0q0, x1q0, x2q0, x3q0, x4q0, x5q0⟩ := cells6 (C14.out.cells 2 rfl)
      obtain ⟨y0q0, y1q0, y2q0, y3q0, y4q0, y5q0⟩ := frozen6 (C14.out.cells 2 rfl)
      obtain ⟨x0qx, x1qx, x2qx, x3qx, x4qx, x5qx⟩ := cells6 (C14.out.cells 3 rfl)
      obtain ⟨y0qx, y1qx, y2qx, y3qx, y4qx, y5qx⟩ := frozen6 (C14.out.cells 3 rfl)
      have ne_qr_q1 : qr ≠ q1 := C14.out.differ 0 1 (by decide) rfl rfl
      have ne_qr_q0 : qr ≠ q0 := C14.out.differ 0 2 (by decide) rfl rfl
      have ne_qr_qx : qr ≠ qx := C14.out.differ 0 3 (by decide) rfl rfl
      have ne_q1_qr : q1 ≠ qr := C14.out.differ 1 0 (by decide) rfl rfl
      have ne_q1_q0 : q1 ≠ q0 := C14.out.differ 1 2 (by decide) rfl rfl
      have ne_q1_qx : q1 ≠ qx := C14.out.differ 1 3 (by decide) rfl rfl
      have ne_q0_qr : q0 ≠ qr := C14.out.differ 2 0 (by decide) rfl rfl
      have ne_q0_q1 : q0 ≠ q1 := C14.out.differ 2 1 (by decide) rfl rfl
      have ne_q0_qx : q0 ≠ qx := C14.out.differ 2 3 (by decide) rfl rfl
      have ne_qx_qr : qx ≠ qr := C14.out.differ 3 0 (by decide) rfl rfl
      have ne_qx_q1 : qx ≠ q1 := C14.out.differ 3 1 (by decide) rfl rfl
      have ne_qx_q0 : qx ≠ q0 := C14.out.differ 3 2 (by decide) rfl rfl
      go_upto_region 11 with fail
      clear x0qr x1qr x2qr x3qr x4qr x5qr y0qr y1qr y2qr y3qr y4qr y5qr x0q1 x1q1 x2q1 x3q1 x4q1 x5q1 y0q1 y1q1 y2q1 y3q1 y4q1 y5q1 x0q0 x1q0 x2q0 x3q0 x4q0 x5q0 y0q0 y1q0 y2q0 y3q0 y4q0 y5q0 x0qx x1qx x2qx x3qx x4qx x5qx y0qx y1qx y2qx y3qx y4qx y5qx ne_qr_q1 ne_qr_q0 ne_qr_qx ne_q1_qr ne_q1_q0 ne_q1_qx ne_q0_qr ne_q0_q1 ne_q0_qx ne_qx_qr ne_qx_q1 ne_qx_q0
      have C15 := Lib.hid (C14.out.set 1 rfl 0 (.int .i64 31))
      clear C14
      generalize (World.setCell w14 _ _) = w16 at *
      have C17 := Lib.hid (C15.out.up (Fr.drew (Fr.refl (fun _ => False) w16)))
      clear C15
      refine wp_region_held_drew (S := fun _ => True) (by kernel_rfl) (by trivial) (fun hHeld => ?_)
      generalize w16.drew = w17 at *
      refine held_take (i := 0) (d := some 29) (v := ?_) rfl rfl (by kernel_rfl) (by kernel_rfl) (by kernel_rfl) (fun _ _ _ h => h) (by rfl) ?_ (by assumption) ?_
      rotate_left 1
      focus (intro w hSw; (try dsimp only at hSw); go_simp; first | done | with_reducible rfl)
      simp only [Act.put, List.setIfInBounds_toArray, List.set_cons_zero, List.set_cons_succ]
      refine held_take (i := 2) (d := some 31) (v := ?_) rfl rfl (by kernel_rfl) (by kernel_rfl) (by kernel_rfl) (fun _ _ _ h => h) (by rfl) ?_ (by assumption) ?_
      rotate_left 1
      focus (intro w hSw; (try dsimp only at hSw); go_simp; first | done | with_reducible rfl)
      simp only [Act.put, List.setIfInBounds_toArray, List.set_cons_zero, List.set_cons_succ]
      have LS := Lib.hid C17.out.at_.len.2
      refine wpAnyH_ready (rs := [1, 3]) (by kernel_rfl) (by simp) ?_
      refine (AllReadyH.cons (o := _) rfl (fun K hK => ?_) (AllReadyH.cons (o := _) rfl (fun K hK => ?_) AllReadyH.nil))
      · skip
        obtain ⟨x0q1, x1q1, x2q1, x3q1, x4q1, x5q1⟩ := cells6 (C17.out.cells 1 rfl)
        obtain ⟨y0q1, y1q1, y2q1, y3q1, y4q1, y5q1⟩ := frozen6 (C17.out.cells 1 rfl)
        go_simp
        clear x0q1 x1q1 x2q1 x3q1 x4q1 x5q1 y0q1 y1q1 y2q1 y3q1 y4q1 y5q1
        refine hK.out _ _ (by trivial) (fun hHeld => ?_)
        clear hK K
        refine wpAnyH_ready (rs := [3]) (by kernel_rfl) (by simp) ?_
        refine (AllReadyH.cons (o := _) rfl (fun K hK => ?_) AllReadyH.nil)
        go_simp
        refine (Jh.out _ p A cap toks d _ _ _ C17.out.at_ D.out (by simp [Pre, Low]) M3.out).mono ?_
        rintro e w18 ⟨B18, cc18, rfl, kd18, f18, a18⟩
        have C18 := Lib.hid (C17.out.tree f18 a18 (NdC.of kd18 0 [] 0 0 0))
        clear kd18 f18 a18 C17
        go_simp
        refine hK.out _ _ (by trivial) (fun hHeld => ?_)
        clear hK K
        refine wpAnyH_ready (rs := [4]) (by kernel_rfl) (by simp) ?_
        refine (AllReadyH.cons (o := _) rfl (fun K hK => ?_) AllReadyH.nil)
        obtain ⟨A9, c9, N9, w9, hrun, k9⟩ := C18.out.append [(Nd.mk xk xm xn xl xc xs, [.int .i64 xk, .string (bs xm), .int .i64 xn, .int .i64 xl, .int .i64 xc, .slice XA xs.length xcc])] (sub_cons (List.mem_cons_of_mem _ HX.out) sub_nil) rfl 1 rfl (by decide) List.mem_cons_self (by have := LE.out; have := LS.out; omega) 31 nm 0 (hd s.l).line (hd s.l).col
        have HA := Lib.hid hrun
        have C200 := Lib.hid k9
        clear hrun k9 C18
        refine step_append_run rfl (.tmp 30) (.tmp 32) 25 rfl rfl rfl HA.out ?_
        go_simp
        clear HA
        refine hK.out _ _ (by trivial) (fun hHeld => ?_)
        clear hK K
        refine held_take (i := 5) (d := some 34) (v := ?_) rfl rfl (by kernel_rfl) (by kernel_rfl) (by kernel_rfl) (fun _ _ _ h => h) (by rfl) ?_ (by assumption) ?_
        rotate_left 1
        focus (intro w hSw; (try dsimp only at hSw); go_simp; first | done | with_reducible rfl)
        simp only [Act.put, List.setIfInBounds_toArray, List.set_cons_zero, List.set_cons_succ]
        refine wpAnyH_ready (rs := [6]) (by kernel_rfl) (by simp) ?_
        refine (AllReadyH.cons (o := _) rfl (fun K hK => ?_) AllReadyH.nil)
        obtain ⟨x0q1, x1q1, x2q1, x3q1, x4q1, x5q1⟩ := cells6 (C200.out.cells 0 rfl)
        obtain ⟨y0q1, y1q1, y2q1, y3q1, y4q1, y5q1⟩ := frozen6 (C200.out.cells 0 rfl)
        go_simp
        clear x0q1 x1q1 x2q1 x3q1 x4q1 x5q1 y0q1 y1q1 y2q1 y3q1 y4q1 y5q1
        have C201 := Lib.hid (C200.out.set 0 rfl 5 (.slice A9 N9 c9))
        clear C200
        refine hK.out _ _ (by trivial) (fun hHeld => ?_)
        clear hK K
        refine wpAnyH_done (by kernel_rfl) ?_ _
        clear hHeld
        generalize (World.setCell w9 _ _) = w202 at *
        obtain ⟨x0q1, x1q1, x2q1, x3q1, x4q1, x5q1⟩ := cells6 (C201.out.cells 0 rfl)
        obtain ⟨y0q1, y1q1, y2q1, y3q1, y4q1, y5q1⟩ := frozen6 (C201.out.cells 0 rfl)
        obtain ⟨x0q0, x1q0, x2q0, x3q0, x4q0, x5q0⟩ := cells6 (C201.out.cells 1 rfl)
        obtain ⟨y0q0, y1q0, y2q0, y3q0, y4q0, y5q0⟩ := frozen6 (C201.out.cells 1 rfl)
        obtain ⟨x0qx, x1qx, x2qx, x3qx, x4qx, x5qx⟩ := cells6 (C201.out.cells 2 rfl)
        obtain ⟨y0qx, y1qx, y2qx, y3qx, y4qx, y5qx⟩ := frozen6 (C201.out.cells 2 rfl)
        have ne_q1_q0 : q1 ≠ q0 := C201.out.differ 0 1 (by decide) rfl rfl
        have ne_q1_qx : q1 ≠ qx := C201.out.differ 0 2 (by decide) rfl rfl
        have ne_q0_q1 : q0 ≠ q1 := C201.out.differ 1 0 (by decide) rfl rfl
        have ne_q0_qx : q0 ≠ qx := C201.out.differ 1 2 (by decide) rfl rfl
        have ne_qx_q1 : qx ≠ q1 := C201.out.differ 2 0 (by decide) rfl rfl
        have ne_qx_q0 : qx ≠ q0 := C201.out.differ 2 1 (by decide) rfl rfl
        go_wp2_with fail
        obtain ⟨b7, d7⟩ := Cx.finY (l := [_, _, _]) C201.out 1 rfl List.mem_cons_self (fun x hx => List.mem_cons_of_mem _ (List.mem_cons_of_mem _ (hx)))
        exact bodyPost_ret (res_nodec (x := 4) (q := q0) (by kernel_rfl) rfl b7 rfl) rfl ⟨_, rfl, d7⟩
      · skip
        go_simp
        refine (Jh.out _ p A cap toks d _ _ _ C17.out.at_ D.out (by simp [Pre, Low]) M3.out).mono ?_
        rintro e w18 ⟨B18, cc18, rfl, kd18, f18, a18⟩
        have C18 := Lib.hid (C17.out.tree f18 a18 (NdC.of kd18 0 [] 0 0 0))
        clear kd18 f18 a18 C17
        go_simp
        refine hK.out _ _ (by trivial) (fun hHeld => ?_)
        clear hK K
        refine wpAnyH_ready (rs := [1]) (by kernel_rfl) (by simp) ?_
        refine (AllReadyH.cons (o := _) rfl (fun K hK => ?_) AllReadyH.nil)
        obtain ⟨x0q1, x1q1, x2q1, x3q1, x4q1, x5q1⟩ := cells6 (C18.out.cells 1 rfl)
        obtain ⟨y0q1, y1q1, y2q1, y3q1, y4q1, y5q1⟩ := frozen6 (C18.out.cells 1 rfl)
        go_simp
        clear x0q1 x1q1 x2q1 x3q1 x4q1 x5q1 y0q1 y1q1 y2q1 y3q1 y4q1 y5q1
        refine hK.out _ _ (by trivial) (fun hHeld => ?_)
        clear hK K
        refine wpAnyH_ready (rs := [4]) (by kernel_rfl) (by simp) ?_
        refine (AllReadyH.cons (o := _) rfl (fun K hK => ?_) AllReadyH.nil)
        obtain ⟨A9, c9, N9, w9, hrun, k9⟩ := C18.out.append [(Nd.mk xk xm xn xl xc xs, [.int .i64 xk, .string (bs xm), .int .i64 xn, .int .i64 xl, .int .i64 xc, .slice XA xs.length xcc])] (sub_cons (List.mem_cons_of_mem _ HX.out) sub_nil) rfl 1 rfl (by decide) List.mem_cons_self (by have := LE.out; have := LS.out; omega) 31 nm 0 (hd s.l).line (hd s.l).col
        have HA := Lib.hid hrun
        have C200 := Lib.hid k9
        clear hrun k9 C18
        refine step_append_run rfl (.tmp 30) (.tmp 32) 25 rfl rfl rfl HA.out ?_
        go_simp
        clear HA
        refine hK.out _ _ (by trivial) (fun hHeld => ?_)
        clear hK K
        refine held_take (i := 5) (d := some 34) (v := ?_) rfl rfl (by kernel_rfl) (by kernel_rfl) (by kernel_rfl) (fun _ _ _ h => h) (by rfl) ?_ (by assumption) ?_
        rotate_left 1
        focus (intro w hSw; (try dsimp only at hSw); go_simp; first | done | with_reducible rfl)
        simp only [Act.put, List.setIfInBounds_toArray, List.set_cons_zero, List.set_cons_succ]
        refine wpAnyH_ready (rs := [6]) (by kernel_rfl) (by simp) ?_
        refine (AllReadyH.cons (o := _) rfl (fun K hK => ?_) AllReadyH.nil)
        obtain ⟨x0q1, x1q1, x2q1, x3q1, x4q1, x5q1⟩ := cells6 (C200.out.cells 0 rfl)
        obtain ⟨y0q1, y1q1, y2q1, y3q1, y4q1, y5q1⟩ := frozen6 (C200.out.cells 0 rfl)
        go_simp
        clear x0q1 x1q1 x2q1 x3q1 x4q1 x5q1 y0q1 y1q1 y2q1 y3q1 y4q1 y5q1
        have C201 := Lib.hid (C200.out.set 0 rfl 5 (.slice A9 N9 c9))
        clear C200
        refine hK.out _ _ (by trivial) (fun hHeld => ?_)
        clear hK K
        refine wpAnyH_done (by kernel_rfl) ?_ _
        clear hHeld
        generalize (World.setCell w9 _ _) = w202 at *
        obtain ⟨x0q1, x1q1, x2q1, x3q1, x4q1, x5q1⟩ := cells6 (C201.out.cells 0 rfl)
        obtain ⟨y0q1, y1q1, y2q1, y3q1, y4q1, y5q1⟩ := frozen6 (C201.out.cells 0 rfl)
        obtain ⟨x0q0, x1q0, x2q0, x3q0, x4q0, x5q0⟩ := cells6 (C201.out.cells 1 rfl)
        obtain ⟨y0q0, y1q0, y2q0, y3q0, y4q0, y5q0⟩ := frozen6 (C201.out.cells 1 rfl)
        obtain ⟨x0qx, x1qx, x2qx, x3qx, x4qx, x5qx⟩ := cells6 (C201.out.cells 2 rfl)
        obtain ⟨y0qx, y1qx, y2qx, y3qx, y4qx, y5qx⟩ := frozen6 (C201.out.cells 2 rfl)
        have ne_q1_q0 : q1 ≠ q0 := C201.out.differ 0 1 (by decide) rfl rfl
        have ne_q1_qx : q1 ≠ qx := C201.out.differ 0 2 (by decide) rfl rfl
        have ne_q0_q1 : q0 ≠ q1 := C201.out.differ 1 0 (by decide) rfl rfl
        have ne_q0_qx : q0 ≠ qx := C201.out.differ 1 2 (by decide) rfl rfl
        have ne_qx_q1 : qx ≠ q1 := C201.out.differ 2 0 (by decide) rfl rfl
        have ne_qx_q0 : qx ≠ q0 := C201.out.differ 2 1 (by decide) rfl rfl
        go_wp2_with fail
        obtain ⟨b7, d7⟩ := Cx.finY (l := [_, _, _]) C201.out 1 rfl List.mem_cons_self (fun x hx => List.mem_cons_of_mem _ (List.mem_cons_of_mem _ (hx)))
        exact bodyPost_ret (res_nodec (x := 4) (q := q0) (by kernel_rfl) rfl b7 rfl) rfl ⟨_, rfl, d7⟩
    · replace hm := ite_no e2 hm
      obtain ⟨rfl, rfl⟩ := ret_some hm
      clear hm
      have z2 := txt_no e2
      clear e2 LN
      go_enter Tryd.func95, Tryd.ntmps95
      have C1 := Lib.hid (C0.out.alloc #[.int .i64 xk, .string (bs xm), .int .i64 xn, .int .i64 xl, .int .i64 xc, .slice XA xs.length xcc])
      clear C0
      have C2 := Lib.hid (C1.out.alloc #[.int .i64 0, .string ⟨#[]⟩, .int .i64 0, .int .i64 0, .int .i64 0, .slice none 0 0])
      clear C1
      rw [Go.Deep.nblk_alloc] at C2
      obtain ⟨x0q0, x1q0, x2q0, x3q0, x4q0, x5q0⟩ := cells6 (C2.out.cells 0 rfl)
      obtain ⟨y0q0, y1q0, y2q0, y3q0, y4q0, y5q0⟩ := frozen6 (C2.out.cells 0 rfl)
      obtain ⟨x0qx, x1qx, x2qx, x3qx, x4qx, x5qx⟩ := cells6 (C2.out.cells 1 rfl)
      obtain ⟨y0qx, y1qx, y2qx, y3qx, y4qx, y5qx⟩ := frozen6 (C2.out.cells 1 rfl)
      have ne_q0_qx : (w.heap.size + 1) ≠ w.heap.size := C2.out.differ 0 1 (by decide) rfl rfl
      have ne_qx_q0 : w.heap.size ≠ (w.heap.size + 1) := C2.out.differ 1 0 (by decide) rfl rfl
      go_wp2_with fail
      clear x0q0 x1q0 x2q0 x3q0 x4q0 x5q0 y0q0 y1q0 y2q0 y3q0 y4q0 y5q0 x0qx x1qx x2qx x3qx x4qx x5qx y0qx y1qx y2qx y3qx y4qx y5qx ne_q0_qx ne_qx_q0
      obtain ⟨qx, e_qx⟩ : ∃ q, q = w.heap.size := ⟨_, rfl⟩
      rw [← e_qx] at C2 ⊢
      clear e_qx
      obtain ⟨q0, e_q0⟩ : ∃ q, q = qx + 1 := ⟨_, rfl⟩
      rw [← e_q0] at C2 ⊢
      clear e_q0
      generalize (World.alloc (World.alloc w _) _) = w3 at *
      refine (pass_at C2.out.at_ K.out 30).mono ?_
      rintro e w4 ⟨rfl, a4, f4⟩
      have C4 := Lib.hid (C2.out.call f4 a4)
      clear a4 f4 C2
      have C5 := Lib.hid (C4.out.alloc #[.int .i64 30, .string (bs []), .int .i64 0, .int .i64 (hd s.l).line, .int .i64 (hd s.l).col, .slice none 0 0])
      clear C4
      obtain ⟨x0q1, x1q1, x2q1, x3q1, x4q1, x5q1⟩ := cells6 (C5.out.cells 0 rfl)
      obtain ⟨y0q1, y1q1, y2q1, y3q1, y4q1, y5q1⟩ := frozen6 (C5.out.cells 0 rfl)
      obtain ⟨x0q0, x1q0, x2q0, x3q0, x4q0, x5q0⟩ := cells6 (C5.out.cells 1 rfl)
      obtain ⟨y0q0, y1q0, y2q0, y3q0, y4q0, y5q0⟩ := frozen6 (C5.out.cells 1 rfl)
      obtain ⟨x0qx, x1qx, x2qx, x3qx, x4qx, x5qx⟩ := cells6 (C5.out.cells 2 rfl)
      obtain ⟨y0qx, y1qx, y2qx, y3qx, y4qx, y5qx⟩ := frozen6 (C5.out.cells 2 rfl)
      have ne_q1_q0 : w4.heap.size ≠ q0 := C5.out.differ 0 1 (by decide) rfl rfl
      have ne_q1_qx : w4.heap.size ≠ qx := C5.out.differ 0 2 (by decide) rfl rfl
      have ne_q0_q1 : q0 ≠ w4.heap.size := C5.out.differ 1 0 (by decide) rfl rfl
      have ne_q0_qx : q0 ≠ qx := C5.out.differ 1 2 (by decide) rfl rfl
      have ne_qx_q1 : qx ≠ w4.heap.size := C5.out.differ 2 0 (by decide) rfl rfl
      have ne_qx_q0 : qx ≠ q0 := C5.out.differ 2 1 (by decide) rfl rfl
      go_wp2_with fail
      clear x0q1 x1q1 x2q1 x3q1 x4q1 x5q1 y0q1 y1q1 y2q1 y3q1 y4q1 y5q1 x0q0 x1q0 x2q0 x3q0 x4q0 x5q0 y0q0 y1q0 y2q0 y3q0 y4q0 y5q0 x0qx x1qx x2qx x3qx x4qx x5qx y0qx y1qx y2qx y3qx y4qx y5qx ne_q1_q0 ne_q1_qx ne_q0_q1 ne_q0_qx ne_qx_q1 ne_qx_q0
      obtain ⟨q1, e_q1⟩ : ∃ q, q = w4.heap.size := ⟨_, rfl⟩
      rw [← e_q1] at C5 ⊢
      clear e_q1
      generalize (World.alloc w4 _) = w6 at *
      refine (takes_no_at C5.out.at_ E1.out).mono ?_
      rintro e w7 ⟨rfl, u7⟩
      have C7 := Lib.hid (C5.out.up u7)
      clear u7 C5
      obtain ⟨x0q1, x1q1, x2q1, x3q1, x4q1, x5q1⟩ := cells6 (C7.out.cells 0 rfl)
      obtain ⟨y0q1, y1q1, y2q1, y3q1, y4q1, y5q1⟩ := frozen6 (C7.out.cells 0 rfl)
      obtain ⟨x0q0, x1q0, x2q0, x3q0, x4q0, x5q0⟩ := cells6 (C7.out.cells 1 rfl)
      obtain ⟨y0q0, y1q0, y2q0, y3q0, y4q0, y5q0⟩ := frozen6 (C7.out.cells 1 rfl)
      obtain ⟨x0qx, x1qx, x2qx, x3qx, x4qx, x5qx⟩ := cells6 (C7.out.cells 2 rfl)
      obtain ⟨y0qx, y1qx, y2qx, y3qx, y4qx, y5qx⟩ := frozen6 (C7.out.cells 2 rfl)
      have ne_q1_q0 : q1 ≠ q0 := C7.out.differ 0 1 (by decide) rfl rfl
      have ne_q1_qx : q1 ≠ qx := C7.out.differ 0 2 (by decide) rfl rfl
      have ne_q0_q1 : q0 ≠ q1 := C7.out.differ 1 0 (by decide) rfl rfl
      have ne_q0_qx : q0 ≠ qx := C7.out.differ 1 2 (by decide) rfl rfl
      have ne_qx_q1 : qx ≠ q1 := C7.out.differ 2 0 (by decide) rfl rfl
      have ne_qx_q0 : qx ≠ q0 := C7.out.differ 2 1 (by decide) rfl rfl
      go_wp2_with fail
      clear x0q1 x1q1 x2q1 x3q1 x4q1 x5q1 y0q1 y1q1 y2q1 y3q1 y4q1 y5q1 x0q0 x1q0 x2q0 x3q0 x4q0 x5q0 y0q0 y1q0 y2q0 y3q0 y4q0 y5q0 x0qx x1qx x2qx x3qx x4qx x5qx y0qx y1qx y2qx y3qx y4qx y5qx ne_q1_q0 ne_q1_qx ne_q0_q1 ne_q0_qx ne_qx_q1 ne_qx_q0
      refine (name_at C7.out.at_ M2.out).mono ?_
      rintro e w8 ⟨rfl, a8, f8⟩
      have C8 := Lib.hid (C7.out.call f8 a8)
      clear a8 f8 C7
      obtain ⟨x0q1, x1q1, x2q1, x3q1, x4q1, x5q1⟩ := cells6 (C8.out.cells 0 rfl)
      obtain ⟨y0q1, y1q1, y2q1, y3q1, y4q1, y5q1⟩ := frozen6 (C8.out.cells 0 rfl)
      obtain ⟨x0q0, x1q0, x2q0, x3q0, x4q0, x5q0⟩ := cells6 (C8.out.cells 1 rfl)
      obtain ⟨y0q0, y1q0, y2q0, y3q0, y4q0, y5q0⟩ := frozen6 (C8.out.cells 1 rfl)
      obtain ⟨x0qx, x1qx, x2qx, x3qx, x4qx, x5qx⟩ := cells6 (C8.out.cells 2 rfl)
      obtain ⟨y0qx, y1qx, y2qx, y3qx, y4qx, y5qx⟩ := frozen6 (C8.out.cells 2 rfl)
      have ne_q1_q0 : q1 ≠ q0 := C8.out.differ 0 1 (by decide) rfl rfl
      have ne_q1_qx : q1 ≠ qx := C8.out.differ 0 2 (by decide) rfl rfl
      have ne_q0_q1 : q0 ≠ q1 := C8.out.differ 1 0 (by decide) rfl rfl
      have ne_q0_qx : q0 ≠ qx := C8.out.differ 1 2 (by decide) rfl rfl
      have ne_qx_q1 : qx ≠ q1 := C8.out.differ 2 0 (by decide) rfl rfl
      have ne_qx_q0 : qx ≠ q0 := C8.out.differ 2 1 (by decide) rfl rfl
      go_upto_region 8 with fail
      clear x0q1 x1q1 x2q1 x3q1 x4q1 x5q1 y0q1 y1q1 y2q1 y3q1 y4q1 y5q1 x0q0 x1q0 x2q0 x3q0 x4q0 x5q0 y0q0 y1q0 y2q0 y3q0 y4q0 y5q0 x0qx x1qx x2qx x3qx x4qx x5qx y0qx y1qx y2qx y3qx y4qx y5qx ne_q1_q0 ne_q1_qx ne_q0_q1 ne_q0_qx ne_qx_q1 ne_qx_q0
      have C9 := Lib.hid (C8.out.set 0 rfl 1 (.string (bs nm)))
      clear C8
      generalize (World.setCell w8 _ _) = w10 at *
      obtain ⟨x0qxE, x1qxE, x2qxE, x3qxE, x4qxE, x5qxE⟩ := cells6 (C9.out.cells 2 rfl)
      obtain ⟨y0qxE, y1qxE, y2qxE, y3qxE, y4qxE, y5qxE⟩ := frozen6 (C9.out.cells 2 rfl)
      have R11 := C9.out.row [(Nd.mk xk xm xn xl xc xs, [.int .i64 xk, .string (bs xm), .int .i64 xn, .int .i64 xl, .int .i64 xc, .slice XA xs.length xcc])] (sub_cons HX.out sub_nil) (by simp) (cs := #[.int .i64 xk, .string (bs xm), .int .i64 xn, .int .i64 xl, .int .i64 xc, .slice XA xs.length xcc]) rfl
      have C11 := Lib.hid ((C9.out.more (.cells #[.int .i64 xk, .string (bs xm), .int .i64 xn, .int .i64 xl, .int .i64 xc, .slice XA xs.length xcc] 27)).know (NdC.of R11 (30 : Nat) (nm) 0 (hd s.l).line (hd s.l).col))
      clear C9 R11
      obtain ⟨x0q1, x1q1, x2q1, x3q1, x4q1, x5q1⟩ := cells6 (C11.out.cells 0 rfl)
      obtain ⟨y0q1, y1q1, y2q1, y3q1, y4q1, y5q1⟩ := frozen6 (C11.out.cells 0 rfl)
      obtain ⟨x0q0, x1q0, x2q0, x3q0, x4q0, x5q0⟩ := cells6 (C11.out.cells 1 rfl)
      obtain ⟨y0q0, y1q0, y2q0, y3q0, y4q0, y5q0⟩ := frozen6 (C11.out.cells 1 rfl)
      obtain ⟨x0qx, x1qx, x2qx, x3qx, x4qx, x5qx⟩ := cells6 (C11.out.cells 2 rfl)
      obtain ⟨y0qx, y1qx, y2qx, y3qx, y4qx, y5qx⟩ := frozen6 (C11.out.cells 2 rfl)
      have ne_q1_q0 : q1 ≠ q0 := C11.out.differ 0 1 (by decide) rfl rfl
      have ne_q1_qx : q1 ≠ qx := C11.out.differ 0 2 (by decide) rfl rfl
      have ne_q0_q1 : q0 ≠ q1 := C11.out.differ 1 0 (by decide) rfl rfl
      have ne_q0_qx : q0 ≠ qx := C11.out.differ 1 2 (by decide) rfl rfl
      have ne_qx_q1 : qx ≠ q1 := C11.out.differ 2 0 (by decide) rfl rfl
      have ne_qx_q0 : qx ≠ q0 := C11.out.differ 2 1 (by decide) rfl rfl
      go_wp2_with fail
      clear x0q1 x1q1 x2q1 x3q1 x4q1 x5q1 y0q1 y1q1 y2q1 y3q1 y4q1 y5q1 x0q0 x1q0 x2q0 x3q0 x4q0 x5q0 y0q0 y1q0 y2q0 y3q0 y4q0 y5q0 x0qx x1qx x2qx x3qx x4qx x5qx y0qx y1qx y2qx y3qx y4qx y5qx ne_q1_q0 ne_q1_qx ne_q0_q1 ne_q0_qx ne_qx_q1 ne_qx_q0 x0qxE x1qxE x2qxE x3qxE x4qxE x5qxE y0qxE y1qxE y2qxE y3qxE y4qxE y5qxE
      have C12 := Lib.hid (C11.out.set 0 rfl 5 (.slice (some ⟨w10.heap.size, 0, none⟩) 1 1))
      clear C11
      generalize (World.setCell (World.alloc w10 _) _ _) = w13 at *
      refine (mark_at C12.out.at_).mono ?_
      rintro e w14 ⟨rfl, u14⟩
      have C14 := Lib.hid (C12.out.up u14)
      clear u14 C12
      obtain ⟨x0q1, x1q1, x2q1, x3q1, x4q1, x5q1⟩ := cells6 (C14.out.cells 0 rfl)
      obtain ⟨y0q1, y1q1, y2q1, y3q1, y4q1, y5q1⟩ := frozen6 (C14.out.cells 0 rfl)
      obtain ⟨x0q0, x1q0, x2q0, x3q0, x4q0, x5q0⟩ := cells6 (C14.out.cells 1 rfl)
      obtain ⟨y0q0, y1q0, y2q0, y3q0, y4q0, y5q0⟩ := frozen6 (C14.out.cells 1 rfl)
      obtain ⟨x0qx, x1qx, x2qx, x3qx, x4qx, x5qx⟩ := cells6 (C14.out.cells 2 rfl)
      obtain ⟨y0qx, y1qx, y2qx, y3qx, y4qx, y5qx⟩ := frozen6 (C14.out.cells 2 rfl)
      have ne_q1_q0 : q1 ≠ q0 := C14.out.differ 0 1 (by decide) rfl rfl
      have ne_q1_qx : q1 ≠ qx := C14.out.differ 0 2 (by decide) rfl rfl
      have ne_q0_q1 : q0 ≠ q1 := C14.out.differ 1 0 (by decide) rfl rfl
      have ne_q0_qx : q0 ≠ qx := C14.out.differ 1 2 (by decide) rfl rfl
      have ne_qx_q1 : qx ≠ q1 := C14.out.differ 2 0 (by decide) rfl rfl
      have ne_qx_q0 : qx ≠ q0 := C14.out.differ 2 1 (by decide) rfl rfl
      go_wp2_with fail
      obtain ⟨b7, d7⟩ := Cx.finY (l := [_, _, _]) C14.out 1 rfl List.mem_cons_self (fun x hx => List.mem_cons_of_mem _ (hx))
      exact bodyPost_ret (res_nodec (x := 4) (q := q0) (by kernel_rfl) rfl b7 rfl) rfl ⟨_, rfl, d7⟩
end Go.Proofs.YtemmdbjcllcelaaDoor.Pa
