/-
  Package parse: rules, one by one (written by wip/genPa.py).
-/
import Derived.Test.YtemmdbjcllcelaaDoorPaJL
import Derived.Test.YtemmdbjcllcelaaDoorPaW
import Derived.Test.YtemmdbjcllcelaaDoorHeld
import Derived.Deep.Heap
import Derived.Deep.Cut
namespace Go.Proofs.YtemmdbjcllcelaaDoor.Pa
open Go.RowKit
open Go.Proofs.YtemmdbjcllcelaaDoor.Tk (Tok TokC bs tokA zeroTok set5 set5_blk set5_fr blk_set eqL)
set_option maxRecDepth 100000
theorem dotted_less {n : Nat} {x : Nd} {d : Nat} {s s' : St} {t : Nd} (h : mrun n (.dotted x) d s = some (t, s')) : s'.l.length ≤ s.l.tail.length := by
  cases n with
  | zero => cases h
  | succ n =>
    obtain ⟨b, s1, h1, hm⟩ := then_some (pass_some (peek_some (show mstep (mrun n) (.dotted x) d s = some (t, s') from h)))
    have a1 := (by have := Dn.takes [40]; unfold Dn at this; exact this _ _ _ h1 : s1.l.length ≤ s.l.tail.length)
    cases b with
    | true =>
      obtain ⟨t1, s2, h2, hm⟩ := then_some (ite_yes rfl hm)
      obtain ⟨_, s3, h3, hm⟩ := then_some hm
      obtain ⟨_, rfl⟩ := ret_some hm
      have a2 := mrun_less h2
      have a3 := (by have := Dn.want [41]; unfold Dn at this; exact this _ _ _ h3 : s'.l.length ≤ s2.l.length)
      omega
    | false =>
      obtain ⟨nm, s2, h2, hm⟩ := then_some (ite_no Bool.false_ne_true hm)
      have a2 := (by have := Dn.name; unfold Dn at this; exact this _ _ _ h2 : s2.l.length ≤ s1.l.length)
      replace hm := peek_some hm
      by_cases e : mark s2.l = [40]
      · obtain ⟨t1, s3, h3, hm⟩ := then_some (ite_yes e hm)
        obtain ⟨_, rfl⟩ := ret_some hm
        have a3 := mrun_less h3
        omega
      · obtain ⟨_, rfl⟩ := ret_some (ite_no e hm)
        omega
theorem indexed_less {n : Nat} {x : Nd} {d : Nat} {s s' : St} {t : Nd} (h : mrun n (.indexed x) d s = some (t, s')) : s'.l.length ≤ s.l.tail.length := by
  cases n with
  | zero => cases h
  | succ n =>
    obtain ⟨t1, s2, h2, hm⟩ := then_some (pass_some (peek_some (show mstep (mrun n) (.indexed x) d s = some (t, s') from h)))
    obtain ⟨_, s3, h3, hm⟩ := then_some hm
    obtain ⟨_, rfl⟩ := ret_some hm
    have a2 := mrun_less h2
    have a3 := (by have := Dn.want [93]; unfold Dn at this; exact this _ _ _ h3 : s'.l.length ≤ s2.l.length)
    simp only at a2
    omega
set_option maxHeartbeats 8000000 in
theorem post_run {n : Nat} (I : Runs (mrun n) .prime 94) (J : RunsY (mrun n) (fun x => .dotted x) 95) (L : RunsY (mrun n) (fun x => .indexed x) 96) : Runs (mrun (n + 1)) .post 93 := by
  intro w p A cap toks d s s' t h hd40 _ hm
  have D := Lib.hid hd40
  obtain ⟨t1, s1, h1, hx⟩ := then_some (peek_some (show mstep (mrun n) .post d s = some (t, s') from hm))
  have M1 := Lib.hid h1
  have M2 := Lib.hid hx
  clear hd40 hx h1 hm
  have Ih := Lib.hid I
  have Jh := Lib.hid J
  have Lh := Lib.hid L
  clear I J L
  have C1 := Lib.hid ((Cx.start h).alloc z6)
  clear h
  go_enter Tryd.func93, Tryd.ntmps93
  go_wp2_with fail
  change Calls _ _ _ (w.alloc zeroNd) _
  obtain ⟨q0, e0⟩ : ∃ q, q = w.heap.size := ⟨_, rfl⟩
  rw [← e0] at C1 ⊢
  clear e0
  generalize w.alloc zeroNd = w1 at *
  refine (Ih.out _ p A cap toks d _ _ _ C1.out.at_ D.out (True.intro) M1.out).mono ?_
  rintro e w2 ⟨cs2, rfl, nd2, f2, a2⟩
  have C2 := Lib.hid (C1.out.tree f2 a2 nd2)
  obtain ⟨k2, m2, n2, l2, c2, ks2⟩ := t1
  obtain ⟨A2, cc2, rfl, -⟩ := nd2.row
  clear nd2 f2 a2 C1
  have C3 := Lib.hid (C2.out.alloc #[.int .i64 k2, .string (bs m2), .int .i64 n2, .int .i64 l2, .int .i64 c2, .slice A2 ks2.length cc2])
  clear C2
  obtain ⟨x0q1, x1q1, x2q1, x3q1, x4q1, x5q1⟩ := cells6 (C3.out.cells 0 rfl)
  obtain ⟨y0q1, y1q1, y2q1, y3q1, y4q1, y5q1⟩ := frozen6 (C3.out.cells 0 rfl)
  obtain ⟨x0q0, x1q0, x2q0, x3q0, x4q0, x5q0⟩ := cells6 (C3.out.cells 1 rfl)
  obtain ⟨y0q0, y1q0, y2q0, y3q0, y4q0, y5q0⟩ := frozen6 (C3.out.cells 1 rfl)
  have ne_q1_q0 : w2.heap.size ≠ q0 := C3.out.differ 0 1 (by decide) rfl rfl
  have ne_q0_q1 : q0 ≠ w2.heap.size := C3.out.differ 1 0 (by decide) rfl rfl
  go_wp2_with fail
  clear x0q1 x1q1 x2q1 x3q1 x4q1 x5q1 y0q1 y1q1 y2q1 y3q1 y4q1 y5q1 x0q0 x1q0 x2q0 x3q0 x4q0 x5q0 y0q0 y1q0 y2q0 y3q0 y4q0 y5q0 ne_q1_q0 ne_q0_q1
  obtain ⟨q1, e_q1⟩ : ∃ q, q = w2.heap.size := ⟨_, rfl⟩
  rw [← e_q1] at C3 ⊢
  clear e_q1
  generalize (World.alloc w2 _) = w4 at *
  go_loopw [] (fun wr => ∃ (lk : Nat) (lm : List UInt8) (ln ll lc : Nat) (lks : List Nd) (LB : Option Addr) (lcc : Nat) (s5 : St) (m : Nat), Hid (Cx w wr p A cap toks d s5 [(q1, #[.int .i64 lk, .string (bs lm), .int .i64 ln, .int .i64 ll, .int .i64 lc, .slice LB lks.length lcc]), (q0, z6)] [(Nd.mk lk lm ln ll lc lks, [.int .i64 lk, .string (bs lm), .int .i64 ln, .int .i64 ll, .int .i64 lc, .slice LB lks.length lcc])] ∧ m ≤ n ∧ mrun m (.postLoop (Nd.mk lk lm ln ll lc lks)) d s5 = some (t, s'))) (fun wr => toks.length - atOf wr p)
  case atStart => exact ⟨_, _, _, _, _, _, _, _, s1, n, Lib.hid ⟨C3.out, Nat.le_refl _, M2.out⟩⟩
  case round =>
    obtain ⟨lk, lm, ln, ll, lc, lks, LB, lcc, s5, m, hq⟩ := hrel
    clear C3
    obtain ⟨k, hk⟩ : ∃ k, m = k + 1 := by
      cases m with
      | zero => exact absurd hq.out.2.2 (by simp [mrun])
      | succ k => exact ⟨k, rfl⟩
    subst hk
    have hx : (if mark s5.l = [46] then M.andThen (mrun k (.dotted (Nd.mk lk lm ln ll lc lks)) d) fun y => mrun k (.postLoop y) d else if mark s5.l = [91] then M.andThen (mrun k (.indexed (Nd.mk lk lm ln ll lc lks)) d) fun y => mrun k (.postLoop y) d else M.ret (Nd.mk lk lm ln ll lc lks)) s5 = some (t, s') := show mstep (mrun k) (.postLoop (Nd.mk lk lm ln ll lc lks)) d s5 = some (t, s') from hq.out.2.2
    have X := Lib.hid hq.out.1.at_.len.1
    have LEK := Lib.hid (Nat.le_of_succ_le hq.out.2.1)
    have CQ := Lib.hid hq.out.1
    clear hq
    by_cases e1 : mark s5.l = [46]
    · replace hx := ite_yes e1 hx
      have K := Lib.hid (kind_of_mark e1 (by decide))
      have z1 := txt_yes e1
      clear e1
      obtain ⟨t7, s7, h7, h8⟩ := then_some hx
      have hl7 := dotted_less h7
      have M7 := Lib.hid (mrun_up LEK.out h7)
      have M8 := Lib.hid h8
      have hl5 : s5.l.tail.length + 1 = s5.l.length := by
        cases hl : s5.l with
        | nil => have := K.out; rw [hl] at this; exact absurd rfl this
        | cons x l => simp
      have LE := Lib.hid (And.intro hl7 hl5)
      clear hx h7 h8 hl7 hl5
      go_wp2_with fail
      refine (mark_at CQ.out.at_).mono ?_
      rintro e w101 ⟨rfl, u101⟩
      have C101 := Lib.hid (CQ.out.up u101)
      clear u101 CQ
      obtain ⟨x0q1, x1q1, x2q1, x3q1, x4q1, x5q1⟩ := cells6 (C101.out.cells 0 rfl)
      obtain ⟨y0q1, y1q1, y2q1, y3q1, y4q1, y5q1⟩ := frozen6 (C101.out.cells 0 rfl)
      obtain ⟨x0q0, x1q0, x2q0, x3q0, x4q0, x5q0⟩ := cells6 (C101.out.cells 1 rfl)
      obtain ⟨y0q0, y1q0, y2q0, y3q0, y4q0, y5q0⟩ := frozen6 (C101.out.cells 1 rfl)
      have ne_q1_q0 : q1 ≠ q0 := C101.out.differ 0 1 (by decide) rfl rfl
      have ne_q0_q1 : q0 ≠ q1 := C101.out.differ 1 0 (by decide) rfl rfl
      go_wp2_with fail
      clear x0q1 x1q1 x2q1 x3q1 x4q1 x5q1 y0q1 y1q1 y2q1 y3q1 y4q1 y5q1 x0q0 x1q0 x2q0 x3q0 x4q0 x5q0 y0q0 y1q0 y2q0 y3q0 y4q0 y5q0 ne_q1_q0 ne_q0_q1
      refine (Jh.out w _ p A cap toks d _ _ _ _ _ _ _ C101.out List.mem_cons_self D.out (K.out) M7.out).mono ?_
      rintro e w102 ⟨cs102, rfl, cx102⟩
      have C102 := Lib.hid cx102
      obtain ⟨k102, m102, n102, l102, c102, ks102⟩ := t7
      obtain ⟨A102, cc102, rfl, -⟩ := (C102.out.nd _ List.mem_cons_self).row
      clear C101 cx102
      obtain ⟨x0q1, x1q1, x2q1, x3q1, x4q1, x5q1⟩ := cells6 (C102.out.cells 0 rfl)
      obtain ⟨y0q1, y1q1, y2q1, y3q1, y4q1, y5q1⟩ := frozen6 (C102.out.cells 0 rfl)
      obtain ⟨x0q0, x1q0, x2q0, x3q0, x4q0, x5q0⟩ := cells6 (C102.out.cells 1 rfl)
      obtain ⟨y0q0, y1q0, y2q0, y3q0, y4q0, y5q0⟩ := frozen6 (C102.out.cells 1 rfl)
      have ne_q1_q0 : q1 ≠ q0 := C102.out.differ 0 1 (by decide) rfl rfl
      have ne_q0_q1 : q0 ≠ q1 := C102.out.differ 1 0 (by decide) rfl rfl
      go_wp2_with fail
      clear x0q1 x1q1 x2q1 x3q1 x4q1 x5q1 y0q1 y1q1 y2q1 y3q1 y4q1 y5q1 x0q0 x1q0 x2q0 x3q0 x4q0 x5q0 y0q0 y1q0 y2q0 y3q0 y4q0 y5q0 ne_q1_q0 ne_q0_q1
      have C103 := Lib.hid (C102.out.set 0 rfl 0 (.int .i64 k102))
      clear C102
      have C104 := Lib.hid (C103.out.set 0 rfl 1 (.string (bs m102)))
      clear C103
      have C105 := Lib.hid (C104.out.set 0 rfl 2 (.int .i64 n102))
      clear C104
      have C106 := Lib.hid (C105.out.set 0 rfl 3 (.int .i64 l102))
      clear C105
      have C107 := Lib.hid (C106.out.set 0 rfl 4 (.int .i64 c102))
      clear C106
      have C108 := Lib.hid (C107.out.set 0 rfl 5 (.slice A102 ks102.length cc102))
      clear C107
      generalize (World.setCell (World.setCell (World.setCell (World.setCell (World.setCell (World.setCell w102 _ _) _ _) _ _) _ _) _ _) _ _) = w109 at *
      go_roundw
      case rel => exact ⟨_, _, _, _, _, _, _, _, s7, k, Lib.hid ⟨C108.out.less (sub_cons List.mem_cons_self sub_nil), LEK.out, M8.out⟩⟩
      case measure => rw [C108.out.at_.len.1, X.out]; have := LE.out; omega
    · replace hx := ite_no e1 hx
      have z1 := txt_no e1
      clear e1
      by_cases e2 : mark s5.l = [91]
      · replace hx := ite_yes e2 hx
        have K := Lib.hid (kind_of_mark e2 (by decide))
        have z2 := txt_yes e2
        clear e2
        obtain ⟨t7, s7, h7, h8⟩ := then_some hx
        have hl7 := indexed_less h7
        have M7 := Lib.hid (mrun_up LEK.out h7)
        have M8 := Lib.hid h8
        have hl5 : s5.l.tail.length + 1 = s5.l.length := by
          cases hl : s5.l with
          | nil => have := K.out; rw [hl] at this; exact absurd rfl this
          | cons x l => simp
        have LE := Lib.hid (And.intro hl7 hl5)
        clear hx h7 h8 hl7 hl5
        go_wp2_with fail
        refine (mark_at CQ.out.at_).mono ?_
        rintro e w101 ⟨rfl, u101⟩
        have C101 := Lib.hid (CQ.out.up u101)
        clear u101 CQ
        obtain ⟨x0q1, x1q1, x2q1, x3q1, x4q1, x5q1⟩ := cells6 (C101.out.cells 0 rfl)
        obtain ⟨y0q1, y1q1, y2q1, y3q1, y4q1, y5q1⟩ := frozen6 (C101.out.cells 0 rfl)
        obtain ⟨x0q0, x1q0, x2q0, x3q0, x4q0, x5q0⟩ := cells6 (C101.out.cells 1 rfl)
        obtain ⟨y0q0, y1q0, y2q0, y3q0, y4q0, y5q0⟩ := frozen6 (C101.out.cells 1 rfl)
        have ne_q1_q0 : q1 ≠ q0 := C101.out.differ 0 1 (by decide) rfl rfl
        have ne_q0_q1 : q0 ≠ q1 := C101.out.differ 1 0 (by decide) rfl rfl
        go_wp2_with fail
        clear x0q1 x1q1 x2q1 x3q1 x4q1 x5q1 y0q1 y1q1 y2q1 y3q1 y4q1 y5q1 x0q0 x1q0 x2q0 x3q0 x4q0 x5q0 y0q0 y1q0 y2q0 y3q0 y4q0 y5q0 ne_q1_q0 ne_q0_q1
        refine (Lh.out w _ p A cap toks d _ _ _ _ _ _ _ C101.out List.mem_cons_self D.out (K.out) M7.out).mono ?_
        rintro e w102 ⟨cs102, rfl, cx102⟩
        have C102 := Lib.hid cx102
        obtain ⟨k102, m102, n102, l102, c102, ks102⟩ := t7
        obtain ⟨A102, cc102, rfl, -⟩ := (C102.out.nd _ List.mem_cons_self).row
        clear C101 cx102
        obtain ⟨x0q1, x1q1, x2q1, x3q1, x4q1, x5q1⟩ := cells6 (C102.out.cells 0 rfl)
        obtain ⟨y0q1, y1q1, y2q1, y3q1, y4q1, y5q1⟩ := frozen6 (C102.out.cells 0 rfl)
        obtain ⟨x0q0, x1q0, x2q0, x3q0, x4q0, x5q0⟩ := cells6 (C102.out.cells 1 rfl)
        obtain ⟨y0q0, y1q0, y2q0, y3q0, y4q0, y5q0⟩ := frozen6 (C102.out.cells 1 rfl)
        have ne_q1_q0 : q1 ≠ q0 := C102.out.differ 0 1 (by decide) rfl rfl
        have ne_q0_q1 : q0 ≠ q1 := C102.out.differ 1 0 (by decide) rfl rfl
        go_wp2_with fail
        clear x0q1 x1q1 x2q1 x3q1 x4q1 x5q1 y0q1 y1q1 y2q1 y3q1 y4q1 y5q1 x0q0 x1q0 x2q0 x3q0 x4q0 x5q0 y0q0 y1q0 y2q0 y3q0 y4q0 y5q0 ne_q1_q0 ne_q0_q1
        have C103 := Lib.hid (C102.out.set 0 rfl 0 (.int .i64 k102))
        clear C102
        have C104 := Lib.hid (C103.out.set 0 rfl 1 (.string (bs m102)))
        clear C103
        have C105 := Lib.hid (C104.out.set 0 rfl 2 (.int .i64 n102))
        clear C104
        have C106 := Lib.hid (C105.out.set 0 rfl 3 (.int .i64 l102))
        clear C105
        have C107 := Lib.hid (C106.out.set 0 rfl 4 (.int .i64 c102))
        clear C106
        have C108 := Lib.hid (C107.out.set 0 rfl 5 (.slice A102 ks102.length cc102))
        clear C107
        generalize (World.setCell (World.setCell (World.setCell (World.setCell (World.setCell (World.setCell w102 _ _) _ _) _ _) _ _) _ _) _ _) = w109 at *
        go_roundw
        case rel => exact ⟨_, _, _, _, _, _, _, _, s7, k, Lib.hid ⟨C108.out.less (sub_cons List.mem_cons_self sub_nil), LEK.out, M8.out⟩⟩
        case measure => rw [C108.out.at_.len.1, X.out]; have := LE.out; omega
      · obtain ⟨rfl, rfl⟩ := ret_some (ite_no e2 hx)
        have z2 := txt_no e2
        clear e2 hx
        go_wp2_with fail
        refine (mark_at CQ.out.at_).mono ?_
        rintro e w101 ⟨rfl, u101⟩
        have C101 := Lib.hid (CQ.out.up u101)
        clear u101 CQ
        obtain ⟨x0q1, x1q1, x2q1, x3q1, x4q1, x5q1⟩ := cells6 (C101.out.cells 0 rfl)
        obtain ⟨y0q1, y1q1, y2q1, y3q1, y4q1, y5q1⟩ := frozen6 (C101.out.cells 0 rfl)
        obtain ⟨x0q0, x1q0, x2q0, x3q0, x4q0, x5q0⟩ := cells6 (C101.out.cells 1 rfl)
        obtain ⟨y0q0, y1q0, y2q0, y3q0, y4q0, y5q0⟩ := frozen6 (C101.out.cells 1 rfl)
        have ne_q1_q0 : q1 ≠ q0 := C101.out.differ 0 1 (by decide) rfl rfl
        have ne_q0_q1 : q0 ≠ q1 := C101.out.differ 1 0 (by decide) rfl rfl
        go_wp2_with fail
        obtain ⟨b7, d7⟩ := C101.out.fin 1 rfl List.mem_cons_self
        exact bodyPost_ret (res_nodec (x := 2) (q := q0) (by kernel_rfl) rfl b7 rfl) rfl d7
set_option maxHeartbeats 4000000 in
theorem method_run {rd : Rule → Nat → M Nd} (I : RunsL rd (.listed .anyType) 55 (fun p => #[.pointer (some ⟨p, 0, none⟩), mv 58 p])) (J : RunsN rd (.anyType) [[59], [125]] 58) (LN : ∀ (d : Nat) (s s' : St) (t : Nd), rd (.listed .anyType) d s = some (t, s') → t.kids.length ≤ s.l.length + 1) : Runs (mstep rd) .method 52 := by
  intro w p A cap toks d s s' t h hd40 hp hm
  have D := Lib.hid hd40
  clear hd40
  clear hp
  have Ih := Lib.hid I
  have Jh := Lib.hid J
  clear I J
  have hx := then_some (peek_some hm)
  clear hm
  obtain ⟨nm, s1, h1, hm⟩ := hx
  have hx := then_some hm
  clear hm
  obtain ⟨t1, s2, h2, hm⟩ := hx
  have hx := then_some hm
  clear hm
  obtain ⟨t2, s3, h3, hm⟩ := hx
  obtain ⟨rfl, rfl⟩ := ret_some hm
  clear hm
  have LE := Lib.hid (LN _ _ _ _ h2)
  clear LN
  have M1 := Lib.hid h1
  have M2 := Lib.hid h2
  have M3 := Lib.hid h3
  clear h1 h2 h3
  have C1 := Lib.hid ((Cx.start h).alloc z6)
  clear h
  go_enter Tryd.func52, Tryd.ntmps52
  go_wp2_with fail
  change Calls _ _ _ (w.alloc zeroNd) _
  obtain ⟨q0, e0⟩ : ∃ q, q = w.heap.size := ⟨_, rfl⟩
  rw [← e0] at C1 ⊢
  clear e0
  generalize w.alloc zeroNd = w1 at *
  refine (begin_at C1.out.at_ 5).mono ?_
  rintro e w2 ⟨rfl, u2⟩
  have C2 := Lib.hid (C1.out.up u2)
  clear u2 C1
  have C3 := Lib.hid (C2.out.alloc #[.int .i64 5, .string (bs []), .int .i64 0, .int .i64 (hd s.l).line, .int .i64 (hd s.l).col, .slice none 0 0])
  clear C2
  obtain ⟨x0q1, x1q1, x2q1, x3q1, x4q1, x5q1⟩ := cells6 (C3.out.cells 0 rfl)
  obtain ⟨y0q1, y1q1, y2q1, y3q1, y4q1, y5q1⟩ := frozen6 (C3.out.cells 0 rfl)
  obtain ⟨x0q0, x1q0, x2q0, x3q0, x4q0, x5q0⟩ := cells6 (C3.out.cells 1 rfl)
  obtain ⟨y0q0, y1q0, y2q0, y3q0, y4q0, y5q0⟩ := frozen6 (C3.out.cells 1 rfl)
  have ne_q1_q0 : w2.heap.size ≠ q0 := C3.out.differ 0 1 (by decide) rfl rfl
  have ne_q0_q1 : q0 ≠ w2.heap.size := C3.out.differ 1 0 (by decide) rfl rfl
  go_wp2_with fail
  clear x0q1 x1q1 x2q1 x3q1 x4q1 x5q1 y0q1 y1q1 y2q1 y3q1 y4q1 y5q1 x0q0 x1q0 x2q0 x3q0 x4q0 x5q0 y0q0 y1q0 y2q0 y3q0 y4q0 y5q0 ne_q1_q0 ne_q0_q1
  obtain ⟨q1, e_q1⟩ : ∃ q, q = w2.heap.size := ⟨_, rfl⟩
  rw [← e_q1] at C3 ⊢
  clear e_q1
  generalize (World.alloc w2 _) = w4 at *
  refine (name_at C3.out.at_ M1.out).mono ?_
  rintro e w5 ⟨rfl, a5, f5⟩
  have C5 := Lib.hid (C3.out.call f5 a5)
  clear a5 f5 C3
  obtain ⟨x0q1, x1q1, x2q1, x3q1, x4q1, x5q1⟩ := cells6 (C5.out.cells 0 rfl)
  obtain ⟨y0q1, y1q1, y2q1, y3q1, y4q1, y5q1⟩ := frozen6 (C5.out.cells 0 rfl)
  obtain ⟨x0q0, x1q0, x2q0, x3q0, x4q0, x5q0⟩ := cells6 (C5.out.cells 1 rfl)
  obtain ⟨y0q0, y1q0, y2q0, y3q0, y4q0, y5q0⟩ := frozen6 (C5.out.cells 1 rfl)
  have ne_q1_q0 : q1 ≠ q0 := C5.out.differ 0 1 (by decide) rfl rfl
  have ne_q0_q1 : q0 ≠ q1 := C5.out.differ 1 0 (by decide) rfl rfl
  go_wp2_with fail
  clear x0q1 x1q1 x2q1 x3q1 x4q1 x5q1 y0q1 y1q1 y2q1 y3q1 y4q1 y5q1 x0q0 x1q0 x2q0 x3q0 x4q0 x5q0 y0q0 y1q0 y2q0 y3q0 y4q0 y5q0 ne_q1_q0 ne_q0_q1
  have C6 := Lib.hid (C5.out.set 0 rfl 1 (.string (bs nm)))
  clear C5
  generalize (World.setCell w5 _ _) = w7 at *
  have LS := Lib.hid C6.out.at_.len.2
  refine (Ih.out _ p A cap toks d _ _ _ C6.out.at_ D.out (by simp [Pre, Low]) M2.out).mono ?_
  rintro e w8 ⟨B8, cc8, rfl, kd8, f8, a8⟩
  have C8 := Lib.hid (C6.out.tree f8 a8 (NdC.of kd8 0 [] 0 0 0))
  clear kd8 f8 a8 C6
  have C9 := Lib.hid (C8.out.more (.cells #[.string ⟨#[59]⟩, .string ⟨#[125]⟩] 9))
  clear C8
  have b1_m := Lib.hid (marks_row (ms := [[59], [125]]) (heap_alloc_new w8 (.cells #[.string ⟨#[59]⟩, .string ⟨#[125]⟩] 9)) rfl)
  obtain ⟨b1, e_b1⟩ : ∃ q, q = (w8).heap.size := ⟨_, rfl⟩
  rw [← e_b1] at b1_m
  obtain ⟨x0q1, x1q1, x2q1, x3q1, x4q1, x5q1⟩ := cells6 (C9.out.cells 0 rfl)
  obtain ⟨y0q1, y1q1, y2q1, y3q1, y4q1, y5q1⟩ := frozen6 (C9.out.cells 0 rfl)
  obtain ⟨x0q0, x1q0, x2q0, x3q0, x4q0, x5q0⟩ := cells6 (C9.out.cells 1 rfl)
  obtain ⟨y0q0, y1q0, y2q0, y3q0, y4q0, y5q0⟩ := frozen6 (C9.out.cells 1 rfl)
  have ne_q1_q0 : q1 ≠ q0 := C9.out.differ 0 1 (by decide) rfl rfl
  have ne_q0_q1 : q0 ≠ q1 := C9.out.differ 1 0 (by decide) rfl rfl
  go_wp2_with fail
  clear x0q1 x1q1 x2q1 x3q1 x4q1 x5q1 y0q1 y1q1 y2q1 y3q1 y4q1 y5q1 x0q0 x1q0 x2q0 x3q0 x4q0 x5q0 y0q0 y1q0 y2q0 y3q0 y4q0 y5q0 ne_q1_q0 ne_q0_q1
  rw [← e_b1]
  clear e_b1
  generalize (World.alloc w8 _) = w10 at *
  refine (Jh.out _ p A cap toks d _ _ _ b1 2 C9.out.at_ D.out rfl b1_m.out.1 b1_m.out.2 M3.out).mono ?_
  rintro e w11 ⟨cs11, rfl, nd11, f11, a11⟩
  have C11 := Lib.hid (C9.out.tree f11 a11 nd11)
  obtain ⟨k11, m11, n11, l11, c11, ks11⟩ := t2
  obtain ⟨A11, cc11, rfl, -⟩ := nd11.row
  clear nd11 f11 a11 C9
  have C12 := Lib.hid (C11.out.alloc #[.int .i64 k11, .string (bs m11), .int .i64 n11, .int .i64 l11, .int .i64 c11, .slice A11 ks11.length cc11])
  clear C11
  obtain ⟨x0q2, x1q2, x2q2, x3q2, x4q2, x5q2⟩ := cells6 (C12.out.cells 0 rfl)
  obtain ⟨y0q2, y1q2, y2q2, y3q2, y4q2, y5q2⟩ := frozen6 (C12.out.cells 0 rfl)
  obtain ⟨x0q1, x1q1, x2q1, x3q1, x4q1, x5q1⟩ := cells6 (C12.out.cells 1 rfl)
  obtain ⟨y0q1, y1q1, y2q1, y3q1, y4q1, y5q1⟩ := frozen6 (C12.out.cells 1 rfl)
  obtain ⟨x0q0, x1q0, x2q0, x3q0, x4q0, x5q0⟩ := cells6 (C12.out.cells 2 rfl)
  obtain ⟨y0q0, y1q0, y2q0, y3q0, y4q0, y5q0⟩ := frozen6 (C12.out.cells 2 rfl)
  have ne_q2_q1 : w11.heap.size ≠ q1 := C12.out.differ 0 1 (by decide) rfl rfl
  have ne_q2_q0 : w11.heap.size ≠ q0 := C12.out.differ 0 2 (by decide) rfl rfl
  have ne_q1_q2 : q1 ≠ w11.heap.size := C12.out.differ 1 0 (by decide) rfl rfl
  have ne_q1_q0 : q1 ≠ q0 := C12.out.differ 1 2 (by decide) rfl rfl
  have ne_q0_q2 : q0 ≠ w11.heap.size := C12.out.differ 2 0 (by decide) rfl rfl
  have ne_q0_q1 : q0 ≠ q1 := C12.out.differ 2 1 (by decide) rfl rfl
  go_upto_region 5 with fail
  clear x0q2 x1q2 x2q2 x3q2 x4q2 x5q2 y0q2 y1q2 y2q2 y3q2 y4q2 y5q2 x0q1 x1q1 x2q1 x3q1 x4q1 x5q1 y0q1 y1q1 y2q1 y3q1 y4q1 y5q1 x0q0 x1q0 x2q0 x3q0 x4q0 x5q0 y0q0 y1q0 y2q0 y3q0 y4q0 y5q0 ne_q2_q1 ne_q2_q0 ne_q1_q2 ne_q1_q0 ne_q0_q2 ne_q0_q1
  obtain ⟨q2, e_q2⟩ : ∃ q, q = w11.heap.size := ⟨_, rfl⟩
  rw [← e_q2] at C12 ⊢
  clear e_q2
  generalize (World.alloc w11 _) = w13 at *
  obtain ⟨x0q2E, x1q2E, x2q2E, x3q2E, x4q2E, x5q2E⟩ := cells6 (C12.out.cells 0 rfl)
  obtain ⟨y0q2E, y1q2E, y2q2E, y3q2E, y4q2E, y5q2E⟩ := frozen6 (C12.out.cells 0 rfl)
  have C14 := Lib.hid (C12.out.alloc #[.int .i64 k11, .string (bs m11), .int .i64 n11, .int .i64 l11, .int .i64 c11, .slice A11 ks11.length cc11])
  clear C12
  obtain ⟨A9, c9, N9, w9, hrun, k9⟩ := C14.out.append [(Nd.mk k11 m11 n11 l11 c11 ks11, [.int .i64 k11, .string (bs m11), .int .i64 n11, .int .i64 l11, .int .i64 c11, .slice A11 ks11.length cc11])] (sub_cons List.mem_cons_self sub_nil) rfl 1 rfl (by decide) (List.mem_cons_of_mem _ List.mem_cons_self) (by have := LE.out; have := LS.out; omega) 5 nm 0 (hd s.l).line (hd s.l).col
  have HA := Lib.hid hrun
  have C200 := Lib.hid k9
  clear hrun k9 C14
  obtain ⟨x0q1, x1q1, x2q1, x3q1, x4q1, x5q1⟩ := cells6 (C200.out.cells 1 rfl)
  obtain ⟨y0q1, y1q1, y2q1, y3q1, y4q1, y5q1⟩ := frozen6 (C200.out.cells 1 rfl)
  obtain ⟨x0q0, x1q0, x2q0, x3q0, x4q0, x5q0⟩ := cells6 (C200.out.cells 2 rfl)
  obtain ⟨y0q0, y1q0, y2q0, y3q0, y4q0, y5q0⟩ := frozen6 (C200.out.cells 2 rfl)
  have ne_q1_q0 : q1 ≠ q0 := C200.out.differ 1 2 (by decide) rfl rfl
  have ne_q0_q1 : q0 ≠ q1 := C200.out.differ 2 1 (by decide) rfl rfl
  go_wp2_with (at_builtin; refine Lib.wpList_append_run _ rfl (.tmp 21) (.tmp 22) 25 25 rfl _ _ rfl rfl _ _ HA.out ?_)
  go_wp2_with fail
  have C201 := C200.out.set 1 rfl 5 (.slice A9 N9 c9)
  obtain ⟨b7, d7⟩ := C201.fin 2 rfl List.mem_cons_self
  exact bodyPost_ret (res_nodec (x := 2) (q := q0) (by kernel_rfl) rfl b7 rfl) rfl d7
end Go.Proofs.YtemmdbjcllcelaaDoor.Pa
