/-
  Package parse: rules, one by one (written by wip/genPa.py).
-/
import Derived.Test.YtemmdbjcllcelaaDoorPaJL
import Derived.Test.YtemmdbjcllcelaaDoorPaQ
import Derived.Test.YtemmdbjcllcelaaDoorHeld
import Derived.Deep.Heap
import Derived.Deep.Cut
namespace Go.Proofs.YtemmdbjcllcelaaDoor.Pa
open Go.RowKit
open Go.Proofs.YtemmdbjcllcelaaDoor.Tk (Tok TokC bs tokA zeroTok set5 set5_blk set5_fr blk_set eqL)
set_option maxRecDepth 100000
set_option maxHeartbeats 4000000 in
theorem simple_run {rd : Rule → Nat → M Nd} (I : Runs rd (.expr) 87) : Runs (mstep rd) .simple 86 := by
  intro w p A cap toks d s s' t h hd40 hp hm
  have D := Lib.hid hd40
  clear hd40
  clear hp
  have Ih := Lib.hid I
  clear I
  have hx := then_some (peek_some hm)
  clear hm
  obtain ⟨t1, s1, h1, hm⟩ := hx
  replace hm := peek_some hm
  have M1 := Lib.hid h1
  clear h1
  by_cases e1 : mark s1.l = [58, 61]
  · replace hm := ite_yes e1 hm
    replace hm := pass_some hm
    have K := Lib.hid (kind_of_mark e1 (by decide))
    have z1 := txt_yes e1
    clear e1
    have hx := then_some hm
    clear hm
    obtain ⟨t2, s2, h2, hm⟩ := hx
    obtain ⟨rfl, rfl⟩ := ret_some hm
    clear hm
    have M2 := Lib.hid h2
    clear h2
    have C1 := Lib.hid ((Cx.start h).alloc z6)
    clear h
    go_enter Tryd.func86, Tryd.ntmps86
    go_wp2_with fail
    change Calls _ _ _ (w.alloc zeroNd) _
    obtain ⟨q0, e0⟩ : ∃ q, q = w.heap.size := ⟨_, rfl⟩
    rw [← e0] at C1 ⊢
    clear e0
    generalize w.alloc zeroNd = w1 at *
    refine (begin_at C1.out.at_ 19).mono ?_
    rintro e w2 ⟨rfl, u2⟩
    have C2 := Lib.hid (C1.out.up u2)
    clear u2 C1
    have C3 := Lib.hid (C2.out.alloc #[.int .i64 19, .string (bs []), .int .i64 0, .int .i64 (hd s.l).line, .int .i64 (hd s.l).col, .slice none 0 0])
    clear C2
    obtain ⟨x0q1, x1q1, x2q1, x3q1, x4q1, x5q1⟩ := cells6 (C3.out.cells 0 rfl)
    obtain ⟨y0q1, y1q1, y2q1, y3q1, y4q1, y5q1⟩ := frozen6 (C3.out.cells 0 rfl)
    obtain ⟨x0q0, x1q0, x2q0, x3q0, x4q0, x5q0⟩ := cells6 (C3.out.cells 1 rfl)
    obtain ⟨y0q0, y1q0, y2q0, y3q0, y4q0, y5q0⟩ := frozen6 (C3.out.cells 1 rfl)
    have ne_q1_q0 : w2.heap.size ≠ q0 := C3.out.differ 0 1 (by decide) rfl rfl
    have ne_q0_q1 : q0 ≠ w2.heap.size := C3.out.differ 1 0 (by decide) rfl rfl
    go_wp2_with fail
    clear x0q1 x1q1 x2q1 x3q1 x4q1 x5q1 y0q1 y1q1 y2q1 y3q1 y4q1 y5q1 x0q0 x1q0 x2q0 x3q0 x4q0 x5q0 y0q0 y1q0 y2q0 y3q0 y4q0 y5q0 ne_q1_q0 ne_q0_q1
    obtain ⟨q1, e_q1⟩ : ∃ q, q = w2.heap.size := ⟨_, rfl⟩
    rw [← e_q1] at C3 ⊢
    clear e_q1
    generalize (World.alloc w2 _) = w4 at *
    refine (Ih.out _ p A cap toks d _ _ _ C3.out.at_ D.out (True.intro) M1.out).mono ?_
    rintro e w5 ⟨cs5, rfl, nd5, f5, a5⟩
    have C5 := Lib.hid (C3.out.tree f5 a5 nd5)
    obtain ⟨k5, m5, n5, l5, c5, ks5⟩ := t1
    obtain ⟨A5, cc5, rfl, -⟩ := nd5.row
    clear nd5 f5 a5 C3
    have C6 := Lib.hid (C5.out.alloc #[.int .i64 k5, .string (bs m5), .int .i64 n5, .int .i64 l5, .int .i64 c5, .slice A5 ks5.length cc5])
    clear C5
    obtain ⟨x0q2, x1q2, x2q2, x3q2, x4q2, x5q2⟩ := cells6 (C6.out.cells 0 rfl)
    obtain ⟨y0q2, y1q2, y2q2, y3q2, y4q2, y5q2⟩ := frozen6 (C6.out.cells 0 rfl)
    obtain ⟨x0q1, x1q1, x2q1, x3q1, x4q1, x5q1⟩ := cells6 (C6.out.cells 1 rfl)
    obtain ⟨y0q1, y1q1, y2q1, y3q1, y4q1, y5q1⟩ := frozen6 (C6.out.cells 1 rfl)
    obtain ⟨x0q0, x1q0, x2q0, x3q0, x4q0, x5q0⟩ := cells6 (C6.out.cells 2 rfl)
    obtain ⟨y0q0, y1q0, y2q0, y3q0, y4q0, y5q0⟩ := frozen6 (C6.out.cells 2 rfl)
    have ne_q2_q1 : w5.heap.size ≠ q1 := C6.out.differ 0 1 (by decide) rfl rfl
    have ne_q2_q0 : w5.heap.size ≠ q0 := C6.out.differ 0 2 (by decide) rfl rfl
    have ne_q1_q2 : q1 ≠ w5.heap.size := C6.out.differ 1 0 (by decide) rfl rfl
    have ne_q1_q0 : q1 ≠ q0 := C6.out.differ 1 2 (by decide) rfl rfl
    have ne_q0_q2 : q0 ≠ w5.heap.size := C6.out.differ 2 0 (by decide) rfl rfl
    have ne_q0_q1 : q0 ≠ q1 := C6.out.differ 2 1 (by decide) rfl rfl
    go_wp2_with fail
    clear x0q2 x1q2 x2q2 x3q2 x4q2 x5q2 y0q2 y1q2 y2q2 y3q2 y4q2 y5q2 x0q1 x1q1 x2q1 x3q1 x4q1 x5q1 y0q1 y1q1 y2q1 y3q1 y4q1 y5q1 x0q0 x1q0 x2q0 x3q0 x4q0 x5q0 y0q0 y1q0 y2q0 y3q0 y4q0 y5q0 ne_q2_q1 ne_q2_q0 ne_q1_q2 ne_q1_q0 ne_q0_q2 ne_q0_q1
    obtain ⟨q2, e_q2⟩ : ∃ q, q = w5.heap.size := ⟨_, rfl⟩
    rw [← e_q2] at C6 ⊢
    clear e_q2
    generalize (World.alloc w5 _) = w7 at *
    refine (mark_at C6.out.at_).mono ?_
    rintro e w8 ⟨rfl, u8⟩
    have C8 := Lib.hid (C6.out.up u8)
    clear u8 C6
    obtain ⟨x0q2, x1q2, x2q2, x3q2, x4q2, x5q2⟩ := cells6 (C8.out.cells 0 rfl)
    obtain ⟨y0q2, y1q2, y2q2, y3q2, y4q2, y5q2⟩ := frozen6 (C8.out.cells 0 rfl)
    obtain ⟨x0q1, x1q1, x2q1, x3q1, x4q1, x5q1⟩ := cells6 (C8.out.cells 1 rfl)
    obtain ⟨y0q1, y1q1, y2q1, y3q1, y4q1, y5q1⟩ := frozen6 (C8.out.cells 1 rfl)
    obtain ⟨x0q0, x1q0, x2q0, x3q0, x4q0, x5q0⟩ := cells6 (C8.out.cells 2 rfl)
    obtain ⟨y0q0, y1q0, y2q0, y3q0, y4q0, y5q0⟩ := frozen6 (C8.out.cells 2 rfl)
    have ne_q2_q1 : q2 ≠ q1 := C8.out.differ 0 1 (by decide) rfl rfl
    have ne_q2_q0 : q2 ≠ q0 := C8.out.differ 0 2 (by decide) rfl rfl
    have ne_q1_q2 : q1 ≠ q2 := C8.out.differ 1 0 (by decide) rfl rfl
    have ne_q1_q0 : q1 ≠ q0 := C8.out.differ 1 2 (by decide) rfl rfl
    have ne_q0_q2 : q0 ≠ q2 := C8.out.differ 2 0 (by decide) rfl rfl
    have ne_q0_q1 : q0 ≠ q1 := C8.out.differ 2 1 (by decide) rfl rfl
    go_wp2_with fail
    clear x0q2 x1q2 x2q2 x3q2 x4q2 x5q2 y0q2 y1q2 y2q2 y3q2 y4q2 y5q2 x0q1 x1q1 x2q1 x3q1 x4q1 x5q1 y0q1 y1q1 y2q1 y3q1 y4q1 y5q1 x0q0 x1q0 x2q0 x3q0 x4q0 x5q0 y0q0 y1q0 y2q0 y3q0 y4q0 y5q0 ne_q2_q1 ne_q2_q0 ne_q1_q2 ne_q1_q0 ne_q0_q2 ne_q0_q1
    refine (pass_at C8.out.at_ K.out 12).mono ?_
    rintro e w9 ⟨rfl, a9, f9⟩
    have C9 := Lib.hid (C8.out.call f9 a9)
    clear a9 f9 C8
    obtain ⟨x0q1, x1q1, x2q1, x3q1, x4q1, x5q1⟩ := cells6 (C9.out.cells 1 rfl)
    obtain ⟨y0q1, y1q1, y2q1, y3q1, y4q1, y5q1⟩ := frozen6 (C9.out.cells 1 rfl)
    go_upto_region 10 with fail
    clear x0q1 x1q1 x2q1 x3q1 x4q1 x5q1 y0q1 y1q1 y2q1 y3q1 y4q1 y5q1
    have C10 := Lib.hid (C9.out.set 1 rfl 0 (.int .i64 12))
    clear C9
    have C11 := Lib.hid (C10.out.set 1 rfl 1 (.string (bs [])))
    clear C10
    have C12 := Lib.hid (C11.out.set 1 rfl 2 (.int .i64 0))
    clear C11
    have C13 := Lib.hid (C12.out.set 1 rfl 3 (.int .i64 (hd s1.l).line))
    clear C12
    have C14 := Lib.hid (C13.out.set 1 rfl 4 (.int .i64 (hd s1.l).col))
    clear C13
    have C15 := Lib.hid (C14.out.set 1 rfl 5 (.slice none 0 0))
    clear C14
    generalize (World.setCell (World.setCell (World.setCell (World.setCell (World.setCell (World.setCell w9 _ _) _ _) _ _) _ _) _ _) _ _) = w16 at *
    have C17 := Lib.hid (C15.out.up (Fr.drew (Fr.refl (fun _ => False) w16)))
    clear C15
    refine wp_region_held_drew (S := fun W => W.heap[q2]? = some (.cells #[.int .i64 k5, .string (bs m5), .int .i64 n5, .int .i64 l5, .int .i64 c5, .slice A5 ks5.length cc5] 27 (0, 0))) (by kernel_rfl) (by exact C17.out.cells 0 rfl) (fun hHeld => ?_)
    generalize w16.drew = w17 at *
    refine held_take (i := 0) (d := some 23) (v := ?_) rfl rfl (by kernel_rfl) (by kernel_rfl) (by kernel_rfl) (fun _ _ _ h => h) (by rfl) ?_ (by assumption) ?_
    rotate_left 1
    focus (intro w hSw; obtain ⟨c0, c1, c2, c3, c4, c5⟩ := cells6 (hSw); (try dsimp only at hSw); go_simp; first | done | with_reducible rfl)
    simp only [Act.put, List.setIfInBounds_toArray, List.set_cons_zero, List.set_cons_succ]
    refine held_take (i := 1) (d := some 24) (v := ?_) rfl rfl (by kernel_rfl) (by kernel_rfl) (by kernel_rfl) (fun _ _ _ h => h) (by rfl) ?_ (by assumption) ?_
    rotate_left 1
    focus (intro w hSw; (try dsimp only at hSw); go_simp; first | done | with_reducible rfl)
    simp only [Act.put, List.setIfInBounds_toArray, List.set_cons_zero, List.set_cons_succ]
    refine wpAnyH_ready (rs := [2]) (by kernel_rfl) (by simp) ?_
    refine (AllReadyH.cons (o := _) rfl (fun K hK => ?_) AllReadyH.nil)
    go_simp
    refine (Ih.out _ p A cap toks d _ _ _ C17.out.at_ D.out (True.intro) M2.out).mono ?_
    rintro e w18 ⟨cs18, rfl, nd18, f18, a18⟩
    have C18 := Lib.hid (C17.out.tree f18 a18 nd18)
    obtain ⟨k18, m18, n18, l18, c18, ks18⟩ := t2
    obtain ⟨A18, cc18, rfl, -⟩ := nd18.row
    clear nd18 f18 a18 C17
    go_simp
    refine hK.out _ _ (by exact C18.out.cells 0 rfl) (fun hHeld => ?_)
    clear hK K
    refine wpAnyH_ready (rs := [3]) (by kernel_rfl) (by simp) ?_
    refine (AllReadyH.cons (o := _) rfl (fun K hK => ?_) AllReadyH.nil)
    have R19 := C18.out.row [(Nd.mk k5 m5 n5 l5 c5 ks5, [.int .i64 k5, .string (bs m5), .int .i64 n5, .int .i64 l5, .int .i64 c5, .slice A5 ks5.length cc5]), (Nd.mk k18 m18 n18 l18 c18 ks18, [.int .i64 k18, .string (bs m18), .int .i64 n18, .int .i64 l18, .int .i64 c18, .slice A18 ks18.length cc18])] (sub_cons (List.mem_cons_of_mem _ List.mem_cons_self) (sub_cons List.mem_cons_self sub_nil)) (by simp) (cs := #[.int .i64 k5, .string (bs m5), .int .i64 n5, .int .i64 l5, .int .i64 c5, .slice A5 ks5.length cc5, .int .i64 k18, .string (bs m18), .int .i64 n18, .int .i64 l18, .int .i64 c18, .slice A18 ks18.length cc18]) rfl
    have C19 := Lib.hid ((C18.out.more (.cells #[.int .i64 k5, .string (bs m5), .int .i64 n5, .int .i64 l5, .int .i64 c5, .slice A5 ks5.length cc5, .int .i64 k18, .string (bs m18), .int .i64 n18, .int .i64 l18, .int .i64 c18, .slice A18 ks18.length cc18] 27)).know (NdC.of R19 (12 : Nat) ([]) 0 (hd s1.l).line (hd s1.l).col))
    clear C18 R19
    go_simp
    refine hK.out _ _ (by exact C19.out.cells 0 rfl) (fun hHeld => ?_)
    clear hK K
    refine held_take (i := 4) (d := some 27) (v := ?_) rfl rfl (by kernel_rfl) (by kernel_rfl) (by kernel_rfl) (fun _ _ _ h => h) (by rfl) ?_ (by assumption) ?_
    rotate_left 1
    focus (intro w hSw; (try dsimp only at hSw); go_simp; first | done | with_reducible rfl)
    simp only [Act.put, List.setIfInBounds_toArray, List.set_cons_zero, List.set_cons_succ]
    refine wpAnyH_ready (rs := [5]) (by kernel_rfl) (by simp) ?_
    refine (AllReadyH.cons (o := _) rfl (fun K hK => ?_) AllReadyH.nil)
    obtain ⟨x0q1, x1q1, x2q1, x3q1, x4q1, x5q1⟩ := cells6 (C19.out.cells 1 rfl)
    obtain ⟨y0q1, y1q1, y2q1, y3q1, y4q1, y5q1⟩ := frozen6 (C19.out.cells 1 rfl)
    go_simp
    clear x0q1 x1q1 x2q1 x3q1 x4q1 x5q1 y0q1 y1q1 y2q1 y3q1 y4q1 y5q1
    have C20 := Lib.hid (C19.out.set 1 rfl 5 (.slice (some ⟨w18.heap.size, 0, none⟩) 2 2))
    clear C19
    refine hK.out _ _ (by exact C20.out.cells 0 rfl) (fun hHeld => ?_)
    clear hK K
    refine wpAnyH_done (by kernel_rfl) ?_ _
    clear hHeld
    generalize (World.setCell (World.alloc w18 _) _ _) = w21 at *
    obtain ⟨x0q2, x1q2, x2q2, x3q2, x4q2, x5q2⟩ := cells6 (C20.out.cells 0 rfl)
    obtain ⟨y0q2, y1q2, y2q2, y3q2, y4q2, y5q2⟩ := frozen6 (C20.out.cells 0 rfl)
    obtain ⟨x0q1, x1q1, x2q1, x3q1, x4q1, x5q1⟩ := cells6 (C20.out.cells 1 rfl)
    obtain ⟨y0q1, y1q1, y2q1, y3q1, y4q1, y5q1⟩ := frozen6 (C20.out.cells 1 rfl)
    obtain ⟨x0q0, x1q0, x2q0, x3q0, x4q0, x5q0⟩ := cells6 (C20.out.cells 2 rfl)
    obtain ⟨y0q0, y1q0, y2q0, y3q0, y4q0, y5q0⟩ := frozen6 (C20.out.cells 2 rfl)
    have ne_q2_q1 : q2 ≠ q1 := C20.out.differ 0 1 (by decide) rfl rfl
    have ne_q2_q0 : q2 ≠ q0 := C20.out.differ 0 2 (by decide) rfl rfl
    have ne_q1_q2 : q1 ≠ q2 := C20.out.differ 1 0 (by decide) rfl rfl
    have ne_q1_q0 : q1 ≠ q0 := C20.out.differ 1 2 (by decide) rfl rfl
    have ne_q0_q2 : q0 ≠ q2 := C20.out.differ 2 0 (by decide) rfl rfl
    have ne_q0_q1 : q0 ≠ q1 := C20.out.differ 2 1 (by decide) rfl rfl
    go_wp2_with fail
    obtain ⟨b7, d7⟩ := C20.out.fin 2 rfl List.mem_cons_self
    exact bodyPost_ret (res_nodec (x := 2) (q := q0) (by kernel_rfl) rfl b7 rfl) rfl d7
  · replace hm := ite_no e1 hm
    have z1 := txt_no e1
    clear e1
    by_cases e2 : mark s1.l = [61]
    · replace hm := ite_yes e2 hm
      replace hm := pass_some hm
      have K := Lib.hid (kind_of_mark e2 (by decide))
      have z2 := txt_yes e2
      clear e2
      have hx := then_some hm
      clear hm
      obtain ⟨t2, s2, h2, hm⟩ := hx
      obtain ⟨rfl, rfl⟩ := ret_some hm
      clear hm
      have M2 := Lib.hid h2
      clear h2
      have C1 := Lib.hid ((Cx.start h).alloc z6)
      clear h
      go_enter Tryd.func86, Tryd.ntmps86
      go_wp2_with fail
      change Calls _ _ _ (w.alloc zeroNd) _
      obtain ⟨q0, e0⟩ : ∃ q, q = w.heap.size := ⟨_, rfl⟩
      rw [← e0] at C1 ⊢
      clear e0
      generalize w.alloc zeroNd = w1 at *
      refine (begin_at C1.out.at_ 19).mono ?_
      rintro e w2 ⟨rfl, u2⟩
      have C2 := Lib.hid (C1.out.up u2)
      clear u2 C1
      have C3 := Lib.hid (C2.out.alloc #[.int .i64 19, .string (bs []), .int .i64 0, .int .i64 (hd s.l).line, .int .i64 (hd s.l).col, .slice none 0 0])
      clear C2
      obtain ⟨x0q1, x1q1, x2q1, x3q1, x4q1, x5q1⟩ := cells6 (C3.out.cells 0 rfl)
      obtain ⟨y0q1, y1q1, y2q1, y3q1, y4q1, y5q1⟩ := frozen6 (C3.out.cells 0 rfl)
      obtain ⟨x0q0, x1q0, x2q0, x3q0, x4q0, x5q0⟩ := cells6 (C3.out.cells 1 rfl)
      obtain ⟨y0q0, y1q0, y2q0, y3q0, y4q0, y5q0⟩ := frozen6 (C3.out.cells 1 rfl)
      have ne_q1_q0 : w2.heap.size ≠ q0 := C3.out.differ 0 1 (by decide) rfl rfl
      have ne_q0_q1 : q0 ≠ w2.heap.size := C3.out.differ 1 0 (by decide) rfl rfl
      go_wp2_with fail
      clear x0q1 x1q1 x2q1 x3q1 x4q1 x5q1 y0q1 y1q1 y2q1 y3q1 y4q1 y5q1 x0q0 x1q0 x2q0 x3q0 x4q0 x5q0 y0q0 y1q0 y2q0 y3q0 y4q0 y5q0 ne_q1_q0 ne_q0_q1
      obtain ⟨q1, e_q1⟩ : ∃ q, q = w2.heap.size := ⟨_, rfl⟩
      rw [← e_q1] at C3 ⊢
      clear e_q1
      generalize (World.alloc w2 _) = w4 at *
      refine (Ih.out _ p A cap toks d _ _ _ C3.out.at_ D.out (True.intro) M1.out).mono ?_
      rintro e w5 ⟨cs5, rfl, nd5, f5, a5⟩
      have C5 := Lib.hid (C3.out.tree f5 a5 nd5)
      obtain ⟨k5, m5, n5, l5, c5, ks5⟩ := t1
      obtain ⟨A5, cc5, rfl, -⟩ := nd5.row
      clear nd5 f5 a5 C3
      have C6 := Lib.hid (C5.out.alloc #[.int .i64 k5, .string (bs m5), .int .i64 n5, .int .i64 l5, .int .i64 c5, .slice A5 ks5.length cc5])
      clear C5
      obtain ⟨x0q2, x1q2, x2q2, x3q2, x4q2, x5q2⟩ := cells6 (C6.out.cells 0 rfl)
      obtain ⟨y0q2, y1q2, y2q2, y3q2, y4q2, y5q2⟩ := frozen6 (C6.out.cells 0 rfl)
      obtain ⟨x0q1, x1q1, x2q1, x3q1, x4q1, x5q1⟩ := cells6 (C6.out.cells 1 rfl)
      obtain ⟨y0q1, y1q1, y2q1, y3q1, y4q1, y5q1⟩ := frozen6 (C6.out.cells 1 rfl)
      obtain ⟨x0q0, x1q0, x2q0, x3q0, x4q0, x5q0⟩ := cells6 (C6.out.cells 2 rfl)
      obtain ⟨y0q0, y1q0, y2q0, y3q0, y4q0, y5q0⟩ := frozen6 (C6.out.cells 2 rfl)
      have ne_q2_q1 : w5.heap.size ≠ q1 := C6.out.differ 0 1 (by decide) rfl rfl
      have ne_q2_q0 : w5.heap.size ≠ q0 := C6.out.differ 0 2 (by decide) rfl rfl
      have ne_q1_q2 : q1 ≠ w5.heap.size := C6.out.differ 1 0 (by decide) rfl rfl
      have ne_q1_q0 : q1 ≠ q0 := C6.out.differ 1 2 (by decide) rfl rfl
      have ne_q0_q2 : q0 ≠ w5.heap.size := C6.out.differ 2 0 (by decide) rfl rfl
      have ne_q0_q1 : q0 ≠ q1 := C6.out.differ 2 1 (by decide) rfl rfl
      go_wp2_with fail
      clear x0q2 x1q2 x2q2 x3q2 x4q2 x5q2 y0q2 y1q2 y2q2 y3q2 y4q2 y5q2 x0q1 x1q1 x2q1 x3q1 x4q1 x5q1 y0q1 y1q1 y2q1 y3q1 y4q1 y5q1 x0q0 x1q0 x2q0 x3q0 x4q0 x5q0 y0q0 y1q0 y2q0 y3q0 y4q0 y5q0 ne_q2_q1 ne_q2_q0 ne_q1_q2 ne_q1_q0 ne_q0_q2 ne_q0_q1
      obtain ⟨q2, e_q2⟩ : ∃ q, q = w5.heap.size := ⟨_, rfl⟩
      rw [← e_q2] at C6 ⊢
      clear e_q2
      generalize (World.alloc w5 _) = w7 at *
      refine (mark_at C6.out.at_).mono ?_
      rintro e w8 ⟨rfl, u8⟩
      have C8 := Lib.hid (C6.out.up u8)
      clear u8 C6
      obtain ⟨x0q2, x1q2, x2q2, x3q2, x4q2, x5q2⟩ := cells6 (C8.out.cells 0 rfl)
      obtain ⟨y0q2, y1q2, y2q2, y3q2, y4q2, y5q2⟩ := frozen6 (C8.out.cells 0 rfl)
      obtain ⟨x0q1, x1q1, x2q1, x3q1, x4q1, x5q1⟩ := cells6 (C8.out.cells 1 rfl)
      obtain ⟨y0q1, y1q1, y2q1, y3q1, y4q1, y5q1⟩ := frozen6 (C8.out.cells 1 rfl)
      obtain ⟨x0q0, x1q0, x2q0, x3q0, x4q0, x5q0⟩ := cells6 (C8.out.cells 2 rfl)
      obtain ⟨y0q0, y1q0, y2q0, y3q0, y4q0, y5q0⟩ := frozen6 (C8.out.cells 2 rfl)
      have ne_q2_q1 : q2 ≠ q1 := C8.out.differ 0 1 (by decide) rfl rfl
      have ne_q2_q0 : q2 ≠ q0 := C8.out.differ 0 2 (by decide) rfl rfl
      have ne_q1_q2 : q1 ≠ q2 := C8.out.differ 1 0 (by decide) rfl rfl
      have ne_q1_q0 : q1 ≠ q0 := C8.out.differ 1 2 (by decide) rfl rfl
      have ne_q0_q2 : q0 ≠ q2 := C8.out.differ 2 0 (by decide) rfl rfl
      have ne_q0_q1 : q0 ≠ q1 := C8.out.differ 2 1 (by decide) rfl rfl
      go_wp2_with fail
      clear x0q2 x1q2 x2q2 x3q2 x4q2 x5q2 y0q2 y1q2 y2q2 y3q2 y4q2 y5q2 x0q1 x1q1 x2q1 x3q1 x4q1 x5q1 y0q1 y1q1 y2q1 y3q1 y4q1 y5q1 x0q0 x1q0 x2q0 x3q0 x4q0 x5q0 y0q0 y1q0 y2q0 y3q0 y4q0 y5q0 ne_q2_q1 ne_q2_q0 ne_q1_q2 ne_q1_q0 ne_q0_q2 ne_q0_q1
      refine (pass_at C8.out.at_ K.out 13).mono ?_
      rintro e w9 ⟨rfl, a9, f9⟩
      have C9 := Lib.hid (C8.out.call f9 a9)
      clear a9 f9 C8
      obtain ⟨x0q1, x1q1, x2q1, x3q1, x4q1, x5q1⟩ := cells6 (C9.out.cells 1 rfl)
      obtain ⟨y0q1, y1q1, y2q1, y3q1, y4q1, y5q1⟩ := frozen6 (C9.out.cells 1 rfl)
      go_upto_region 10 with fail
      clear x0q1 x1q1 x2q1 x3q1 x4q1 x5q1 y0q1 y1q1 y2q1 y3q1 y4q1 y5q1
      have C10 := Lib.hid (C9.out.set 1 rfl 0 (.int .i64 13))
      clear C9
      have C11 := Lib.hid (C10.out.set 1 rfl 1 (.string (bs [])))
      clear C10
      have C12 := Lib.hid (C11.out.set 1 rfl 2 (.int .i64 0))
      clear C11
      have C13 := Lib.hid (C12.out.set 1 rfl 3 (.int .i64 (hd s1.l).line))
      clear C12
      have C14 := Lib.hid (C13.out.set 1 rfl 4 (.int .i64 (hd s1.l).col))
      clear C13
      have C15 := Lib.hid (C14.out.set 1 rfl 5 (.slice none 0 0))
      clear C14
      generalize (World.setCell (World.setCell (World.setCell (World.setCell (World.setCell (World.setCell w9 _ _) _ _) _ _) _ _) _ _) _ _) = w16 at *
      have C17 := Lib.hid (C15.out.up (Fr.drew (Fr.refl (fun _ => False) w16)))
      clear C15
      refine wp_region_held_drew (S := fun W => W.heap[q2]? = some (.cells #[.int .i64 k5, .string (bs m5), .int .i64 n5, .int .i64 l5, .int .i64 c5, .slice A5 ks5.length cc5] 27 (0, 0))) (by kernel_rfl) (by exact C17.out.cells 0 rfl) (fun hHeld => ?_)
      generalize w16.drew = w17 at *
      refine held_take (i := 0) (d := some 23) (v := ?_) rfl rfl (by kernel_rfl) (by kernel_rfl) (by kernel_rfl) (fun _ _ _ h => h) (by rfl) ?_ (by assumption) ?_
      rotate_left 1
      focus (intro w hSw; obtain ⟨c0, c1, c2, c3, c4, c5⟩ := cells6 (hSw); (try dsimp only at hSw); go_simp; first | done | with_reducible rfl)
      simp only [Act.put, List.setIfInBounds_toArray, List.set_cons_zero, List.set_cons_succ]
      refine held_take (i := 1) (d := some 24) (v := ?_) rfl rfl (by kernel_rfl) (by kernel_rfl) (by kernel_rfl) (fun _ _ _ h => h) (by rfl) ?_ (by assumption) ?_
      rotate_left 1
      focus (intro w hSw; (try dsimp only at hSw); go_simp; first | done | with_reducible rfl)
      simp only [Act.put, List.setIfInBounds_toArray, List.set_cons_zero, List.set_cons_succ]
      refine wpAnyH_ready (rs := [2]) (by kernel_rfl) (by simp) ?_
      refine (AllReadyH.cons (o := _) rfl (fun K hK => ?_) AllReadyH.nil)
      go_simp
      refine (Ih.out _ p A cap toks d _ _ _ C17.out.at_ D.out (True.intro) M2.out).mono ?_
      rintro e w18 ⟨cs18, rfl, nd18, f18, a18⟩
      have C18 := Lib.hid (C17.out.tree f18 a18 nd18)
      obtain ⟨k18, m18, n18, l18, c18, ks18⟩ := t2
      obtain ⟨A18, cc18, rfl, -⟩ := nd18.row
      clear nd18 f18 a18 C17
      go_simp
      refine hK.out _ _ (by exact C18.out.cells 0 rfl) (fun hHeld => ?_)
      clear hK K
      refine wpAnyH_ready (rs := [3]) (by kernel_rfl) (by simp) ?_
      refine (AllReadyH.cons (o := _) rfl (fun K hK => ?_) AllReadyH.nil)
      have R19 := C18.out.row [(Nd.mk k5 m5 n5 l5 c5 ks5, [.int .i64 k5, .string (bs m5), .int .i64 n5, .int .i64 l5, .int .i64 c5, .slice A5 ks5.length cc5]), (Nd.mk k18 m18 n18 l18 c18 ks18, [.int .i64 k18, .string (bs m18), .int .i64 n18, .int .i64 l18, .int .i64 c18, .slice A18 ks18.length cc18])] (sub_cons (List.mem_cons_of_mem _ List.mem_cons_self) (sub_cons List.mem_cons_self sub_nil)) (by simp) (cs := #[.int .i64 k5, .string (bs m5), .int .i64 n5, .int .i64 l5, .int .i64 c5, .slice A5 ks5.length cc5, .int .i64 k18, .string (bs m18), .int .i64 n18, .int .i64 l18, .int .i64 c18, .slice A18 ks18.length cc18]) rfl
      have C19 := Lib.hid ((C18.out.more (.cells #[.int .i64 k5, .string (bs m5), .int .i64 n5, .int .i64 l5, .int .i64 c5, .slice A5 ks5.length cc5, .int .i64 k18, .string (bs m18), .int .i64 n18, .int .i64 l18, .int .i64 c18, .slice A18 ks18.length cc18] 27)).know (NdC.of R19 (13 : Nat) ([]) 0 (hd s1.l).line (hd s1.l).col))
      clear C18 R19
      go_simp
      refine hK.out _ _ (by exact C19.out.cells 0 rfl) (fun hHeld => ?_)
      clear hK K
      refine held_take (i := 4) (d := some 27) (v := ?_) rfl rfl (by kernel_rfl) (by kernel_rfl) (by kernel_rfl) (fun _ _ _ h => h) (by rfl) ?_ (by assumption) ?_
      rotate_left 1
      focus (intro w hSw; (try dsimp only at hSw); go_simp; first | done | with_reducible rfl)
      simp only [Act.put, List.setIfInBounds_toArray, List.set_cons_zero, List.set_cons_succ]
      refine wpAnyH_ready (rs := [5]) (by kernel_rfl) (by simp) ?_
      refine (AllReadyH.cons (o := _) rfl (fun K hK => ?_) AllReadyH.nil)
      obtain ⟨x0q1, x1q1, x2q1, x3q1, x4q1, x5q1⟩ := cells6 (C19.out.cells 1 rfl)
      obtain ⟨y0q1, y1q1, y2q1, y3q1, y4q1, y5q1⟩ := frozen6 (C19.out.cells 1 rfl)
      go_simp
      clear x0q1 x1q1 x2q1 x3q1 x4q1 x5q1 y0q1 y1q1 y2q1 y3q1 y4q1 y5q1
      have C20 := Lib.hid (C19.out.set 1 rfl 5 (.slice (some ⟨w18.heap.size, 0, none⟩) 2 2))
      clear C19
      refine hK.out _ _ (by exact C20.out.cells 0 rfl) (fun hHeld => ?_)
      clear hK K
      refine wpAnyH_done (by kernel_rfl) ?_ _
      clear hHeld
      generalize (World.setCell (World.alloc w18 _) _ _) = w21 at *
      obtain ⟨x0q2, x1q2, x2q2, x3q2, x4q2, x5q2⟩ := cells6 (C20.out.cells 0 rfl)
      obtain ⟨y0q2, y1q2, y2q2, y3q2, y4q2, y5q2⟩ := frozen6 (C20.out.cells 0 rfl)
      obtain ⟨x0q1, x1q1, x2q1, x3q1, x4q1, x5q1⟩ := cells6 (C20.out.cells 1 rfl)
      obtain ⟨y0q1, y1q1, y2q1, y3q1, y4q1, y5q1⟩ := frozen6 (C20.out.cells 1 rfl)
      obtain ⟨x0q0, x1q0, x2q0, x3q0, x4q0, x5q0⟩ := cells6 (C20.out.cells 2 rfl)
      obtain ⟨y0q0, y1q0, y2q0, y3q0, y4q0, y5q0⟩ := frozen6 (C20.out.cells 2 rfl)
      have ne_q2_q1 : q2 ≠ q1 := C20.out.differ 0 1 (by decide) rfl rfl
      have ne_q2_q0 : q2 ≠ q0 := C20.out.differ 0 2 (by decide) rfl rfl
      have ne_q1_q2 : q1 ≠ q2 := C20.out.differ 1 0 (by decide) rfl rfl
      have ne_q1_q0 : q1 ≠ q0 := C20.out.differ 1 2 (by decide) rfl rfl
      have ne_q0_q2 : q0 ≠ q2 := C20.out.differ 2 0 (by decide) rfl rfl
      have ne_q0_q1 : q0 ≠ q1 := C20.out.differ 2 1 (by decide) rfl rfl
      go_wp2_with fail
      obtain ⟨b7, d7⟩ := C20.out.fin 2 rfl List.mem_cons_self
      exact bodyPost_ret (res_nodec (x := 2) (q := q0) (by kernel_rfl) rfl b7 rfl) rfl d7
    · replace hm := ite_no e2 hm
      have z2 := txt_no e2
      clear e2
      obtain ⟨rfl, rfl⟩ := ret_some hm
      clear hm
      have C1 := Lib.hid ((Cx.start h).alloc z6)
      clear h
      go_enter Tryd.func86, Tryd.ntmps86
      go_wp2_with fail
      change Calls _ _ _ (w.alloc zeroNd) _
      obtain ⟨q0, e0⟩ : ∃ q, q = w.heap.size := ⟨_, rfl⟩
      rw [← e0] at C1 ⊢
      clear e0
      generalize w.alloc zeroNd = w1 at *
      refine (begin_at C1.out.at_ 19).mono ?_
      rintro e w2 ⟨rfl, u2⟩
      have C2 := Lib.hid (C1.out.up u2)
      clear u2 C1
      have C3 := Lib.hid (C2.out.alloc #[.int .i64 19, .string (bs []), .int .i64 0, .int .i64 (hd s.l).line, .int .i64 (hd s.l).col, .slice none 0 0])
      clear C2
      obtain ⟨x0q1, x1q1, x2q1, x3q1, x4q1, x5q1⟩ := cells6 (C3.out.cells 0 rfl)
      obtain ⟨y0q1, y1q1, y2q1, y3q1, y4q1, y5q1⟩ := frozen6 (C3.out.cells 0 rfl)
      obtain ⟨x0q0, x1q0, x2q0, x3q0, x4q0, x5q0⟩ := cells6 (C3.out.cells 1 rfl)
      obtain ⟨y0q0, y1q0, y2q0, y3q0, y4q0, y5q0⟩ := frozen6 (C3.out.cells 1 rfl)
      have ne_q1_q0 : w2.heap.size ≠ q0 := C3.out.differ 0 1 (by decide) rfl rfl
      have ne_q0_q1 : q0 ≠ w2.heap.size := C3.out.differ 1 0 (by decide) rfl rfl
      go_wp2_with fail
      clear x0q1 x1q1 x2q1 x3q1 x4q1 x5q1 y0q1 y1q1 y2q1 y3q1 y4q1 y5q1 x0q0 x1q0 x2q0 x3q0 x4q0 x5q0 y0q0 y1q0 y2q0 y3q0 y4q0 y5q0 ne_q1_q0 ne_q0_q1
      obtain ⟨q1, e_q1⟩ : ∃ q, q = w2.heap.size := ⟨_, rfl⟩
      rw [← e_q1] at C3 ⊢
      clear e_q1
      generalize (World.alloc w2 _) = w4 at *
      refine (Ih.out _ p A cap toks d _ _ _ C3.out.at_ D.out (True.intro) M1.out).mono ?_
      rintro e w5 ⟨cs5, rfl, nd5, f5, a5⟩
      have C5 := Lib.hid (C3.out.tree f5 a5 nd5)
      obtain ⟨k5, m5, n5, l5, c5, ks5⟩ := t1
      obtain ⟨A5, cc5, rfl, -⟩ := nd5.row
      clear nd5 f5 a5 C3
      have C6 := Lib.hid (C5.out.alloc #[.int .i64 k5, .string (bs m5), .int .i64 n5, .int .i64 l5, .int .i64 c5, .slice A5 ks5.length cc5])
      clear C5
      obtain ⟨x0q2, x1q2, x2q2, x3q2, x4q2, x5q2⟩ := cells6 (C6.out.cells 0 rfl)
      obtain ⟨y0q2, y1q2, y2q2, y3q2, y4q2, y5q2⟩ := frozen6 (C6.out.cells 0 rfl)
      obtain ⟨x0q1, x1q1, x2q1, x3q1, x4q1, x5q1⟩ := cells6 (C6.out.cells 1 rfl)
      obtain ⟨y0q1, y1q1, y2q1, y3q1, y4q1, y5q1⟩ := frozen6 (C6.out.cells 1 rfl)
      obtain ⟨x0q0, x1q0, x2q0, x3q0, x4q0, x5q0⟩ := cells6 (C6.out.cells 2 rfl)
      obtain ⟨y0q0, y1q0, y2q0, y3q0, y4q0, y5q0⟩ := frozen6 (C6.out.cells 2 rfl)
      have ne_q2_q1 : w5.heap.size ≠ q1 := C6.out.differ 0 1 (by decide) rfl rfl
      have ne_q2_q0 : w5.heap.size ≠ q0 := C6.out.differ 0 2 (by decide) rfl rfl
      have ne_q1_q2 : q1 ≠ w5.heap.size := C6.out.differ 1 0 (by decide) rfl rfl
      have ne_q1_q0 : q1 ≠ q0 := C6.out.differ 1 2 (by decide) rfl rfl
      have ne_q0_q2 : q0 ≠ w5.heap.size := C6.out.differ 2 0 (by decide) rfl rfl
      have ne_q0_q1 : q0 ≠ q1 := C6.out.differ 2 1 (by decide) rfl rfl
      go_wp2_with fail
      clear x0q2 x1q2 x2q2 x3q2 x4q2 x5q2 y0q2 y1q2 y2q2 y3q2 y4q2 y5q2 x0q1 x1q1 x2q1 x3q1 x4q1 x5q1 y0q1 y1q1 y2q1 y3q1 y4q1 y5q1 x0q0 x1q0 x2q0 x3q0 x4q0 x5q0 y0q0 y1q0 y2q0 y3q0 y4q0 y5q0 ne_q2_q1 ne_q2_q0 ne_q1_q2 ne_q1_q0 ne_q0_q2 ne_q0_q1
      obtain ⟨q2, e_q2⟩ : ∃ q, q = w5.heap.size := ⟨_, rfl⟩
      rw [← e_q2] at C6 ⊢
      clear e_q2
      generalize (World.alloc w5 _) = w7 at *
      refine (mark_at C6.out.at_).mono ?_
      rintro e w8 ⟨rfl, u8⟩
      have C8 := Lib.hid (C6.out.up u8)
      clear u8 C6
      obtain ⟨x0q2E, x1q2E, x2q2E, x3q2E, x4q2E, x5q2E⟩ := cells6 (C8.out.cells 0 rfl)
      obtain ⟨y0q2E, y1q2E, y2q2E, y3q2E, y4q2E, y5q2E⟩ := frozen6 (C8.out.cells 0 rfl)
      have R9 := C8.out.row [(Nd.mk k5 m5 n5 l5 c5 ks5, [.int .i64 k5, .string (bs m5), .int .i64 n5, .int .i64 l5, .int .i64 c5, .slice A5 ks5.length cc5])] (sub_cons List.mem_cons_self sub_nil) (by simp) (cs := #[.int .i64 k5, .string (bs m5), .int .i64 n5, .int .i64 l5, .int .i64 c5, .slice A5 ks5.length cc5]) rfl
      have C9 := Lib.hid ((C8.out.more (.cells #[.int .i64 k5, .string (bs m5), .int .i64 n5, .int .i64 l5, .int .i64 c5, .slice A5 ks5.length cc5] 27)).know (NdC.of R9 (19 : Nat) ([]) 0 (hd s.l).line (hd s.l).col))
      clear C8 R9
      obtain ⟨x0q2, x1q2, x2q2, x3q2, x4q2, x5q2⟩ := cells6 (C9.out.cells 0 rfl)
      obtain ⟨y0q2, y1q2, y2q2, y3q2, y4q2, y5q2⟩ := frozen6 (C9.out.cells 0 rfl)
      obtain ⟨x0q1, x1q1, x2q1, x3q1, x4q1, x5q1⟩ := cells6 (C9.out.cells 1 rfl)
      obtain ⟨y0q1, y1q1, y2q1, y3q1, y4q1, y5q1⟩ := frozen6 (C9.out.cells 1 rfl)
      obtain ⟨x0q0, x1q0, x2q0, x3q0, x4q0, x5q0⟩ := cells6 (C9.out.cells 2 rfl)
      obtain ⟨y0q0, y1q0, y2q0, y3q0, y4q0, y5q0⟩ := frozen6 (C9.out.cells 2 rfl)
      have ne_q2_q1 : q2 ≠ q1 := C9.out.differ 0 1 (by decide) rfl rfl
      have ne_q2_q0 : q2 ≠ q0 := C9.out.differ 0 2 (by decide) rfl rfl
      have ne_q1_q2 : q1 ≠ q2 := C9.out.differ 1 0 (by decide) rfl rfl
      have ne_q1_q0 : q1 ≠ q0 := C9.out.differ 1 2 (by decide) rfl rfl
      have ne_q0_q2 : q0 ≠ q2 := C9.out.differ 2 0 (by decide) rfl rfl
      have ne_q0_q1 : q0 ≠ q1 := C9.out.differ 2 1 (by decide) rfl rfl
      go_wp2_with fail
      have C10 := Lib.hid (C9.out.set 1 rfl 5 (.slice (some ⟨w8.heap.size, 0, none⟩) 1 1))
      clear C9
      obtain ⟨b7, d7⟩ := C10.out.fin 2 rfl List.mem_cons_self
      exact bodyPost_ret (res_nodec (x := 2) (q := q0) (by kernel_rfl) rfl b7 rfl) rfl d7
theorem choose_run {rd : Rule → Nat → M Nd} (Iblock : Runs rd .block 59) (IvarStmt : Runs rd .varStmt 79) (IifStmt : Runs rd .ifStmt 80) (IforStmt : Runs rd .forStmt 81) (IreturnStmt : Runs rd .returnStmt 84) (IprintStmt : Runs rd .printStmt 85) (Isimple : Runs rd .simple 86) : RunsC (mstep rd) := by
  intro w p A cap toks d s s' t h hd40 hm
  replace hm := peek_some hm
  by_cases e0 : mark s.l = [123]
  · replace hm := ite_yes e0 hm
    rw [show chosen (mark s.l) = 59 by unfold chosen; rw [if_pos e0]]
    exact Iblock w p A cap toks d _ _ _ h hd40 (True.intro) hm
  replace hm := ite_no e0 hm
  by_cases e1 : mark s.l = [118, 97, 114]
  · replace hm := ite_yes e1 hm
    rw [show chosen (mark s.l) = 79 by unfold chosen; rw [if_neg e0]; rw [if_pos e1]]
    exact IvarStmt w p A cap toks d _ _ _ h hd40 (kind_of_mark e1 (by decide)) hm
  replace hm := ite_no e1 hm
  by_cases e2 : mark s.l = [105, 102]
  · replace hm := ite_yes e2 hm
    rw [show chosen (mark s.l) = 80 by unfold chosen; rw [if_neg e0]; rw [if_neg e1]; rw [if_pos e2]]
    exact IifStmt w p A cap toks d _ _ _ h hd40 (kind_of_mark e2 (by decide)) hm
  replace hm := ite_no e2 hm
  by_cases e3 : mark s.l = [102, 111, 114]
  · replace hm := ite_yes e3 hm
    rw [show chosen (mark s.l) = 81 by unfold chosen; rw [if_neg e0]; rw [if_neg e1]; rw [if_neg e2]; rw [if_pos e3]]
    exact IforStmt w p A cap toks d _ _ _ h hd40 (kind_of_mark e3 (by decide)) hm
  replace hm := ite_no e3 hm
  by_cases e4 : mark s.l = [98, 114, 101, 97, 107]
  · replace hm := ite_yes e4 hm
    rw [show chosen (mark s.l) = 82 by unfold chosen; rw [if_neg e0]; rw [if_neg e1]; rw [if_neg e2]; rw [if_neg e3]; rw [if_pos e4]]
    replace hm := pass_some hm
    obtain ⟨rfl, rfl⟩ := ret_some hm
    exact breakStmt_at h (kind_of_mark e4 (by decide))
  replace hm := ite_no e4 hm
  by_cases e5 : mark s.l = [99, 111, 110, 116, 105, 110, 117, 101]
  · replace hm := ite_yes e5 hm
    rw [show chosen (mark s.l) = 83 by unfold chosen; rw [if_neg e0]; rw [if_neg e1]; rw [if_neg e2]; rw [if_neg e3]; rw [if_neg e4]; rw [if_pos e5]]
    replace hm := pass_some hm
    obtain ⟨rfl, rfl⟩ := ret_some hm
    exact continueStmt_at h (kind_of_mark e5 (by decide))
  replace hm := ite_no e5 hm
  by_cases e6 : mark s.l = [114, 101, 116, 117, 114, 110]
  · replace hm := ite_yes e6 hm
    rw [show chosen (mark s.l) = 84 by unfold chosen; rw [if_neg e0]; rw [if_neg e1]; rw [if_neg e2]; rw [if_neg e3]; rw [if_neg e4]; rw [if_neg e5]; rw [if_pos e6]]
    exact IreturnStmt w p A cap toks d _ _ _ h hd40 (kind_of_mark e6 (by decide)) hm
  replace hm := ite_no e6 hm
  by_cases e7 : mark s.l = [112, 114, 105, 110, 116]
  · replace hm := ite_yes e7 hm
    rw [show chosen (mark s.l) = 85 by unfold chosen; rw [if_neg e0]; rw [if_neg e1]; rw [if_neg e2]; rw [if_neg e3]; rw [if_neg e4]; rw [if_neg e5]; rw [if_neg e6]; rw [if_pos e7]]
    exact IprintStmt w p A cap toks d _ _ _ h hd40 (kind_of_mark e7 (by decide)) hm
  replace hm := ite_no e7 hm
  rw [show chosen (mark s.l) = 86 by unfold chosen; rw [if_neg e0]; rw [if_neg e1]; rw [if_neg e2]; rw [if_neg e3]; rw [if_neg e4]; rw [if_neg e5]; rw [if_neg e6]; rw [if_neg e7]]
  exact Isimple w p A cap toks d _ _ _ h hd40 True.intro hm
end Go.Proofs.YtemmdbjcllcelaaDoor.Pa
