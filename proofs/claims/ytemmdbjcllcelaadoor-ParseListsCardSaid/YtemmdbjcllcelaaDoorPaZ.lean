/-
  Package parse: rules, one by one (written by wip/genPa.py).
-/
import Derived.Test.YtemmdbjcllcelaaDoorPaJL
import Derived.Test.YtemmdbjcllcelaaDoorPaY
import Derived.Test.YtemmdbjcllcelaaDoorHeld
import Derived.Deep.Heap
import Derived.Deep.Cut
namespace Go.Proofs.YtemmdbjcllcelaaDoor.Pa
open Go.RowKit
open Go.Proofs.YtemmdbjcllcelaaDoor.Tk (Tok TokC bs tokA zeroTok set5 set5_blk set5_fr blk_set eqL)
set_option maxRecDepth 100000
theorem fns_row {w : World} {b p : Nat} {gs : List Nat} {cs : Array Value} {t : TypeId} (h : w.heap[b]? = some (.cells cs t (0, 0))) (e : cs.toList = gs.map fun g => mv g p) (hp : p < b) : ∀ (k g : Nat), gs[k]? = some g → ∃ b', (some ⟨b, 0, none⟩ : Option Addr) = some ⟨b', 0, none⟩ ∧ b' < w.heap.size ∧ b' ≠ p ∧ w.cell? ⟨b', k, none⟩ = some (mv g p) :=
  fun k g hk => ⟨b, rfl, heap_lt h, by omega, by rw [cell_of_row w b k _ _ _ h, ← Array.getElem?_toList, e, List.getElem?_map, hk]; rfl⟩
/-- The calls that the language brings along. -/
def parts_of : List (Nat × List Rule × List Nat) := [(33, [.expr], [87]), (34, [.anyType, .expr], [58, 87]), (35, [.anyType], [58]), (36, [], [])]
def RunsB (rd : Rule → Nat → M Nd) : Prop :=
  ∀ (kind : Nat) (ps : List Rule) (gs : List Nat), (kind, ps, gs) ∈ parts_of → ∀ (w : World) (p : Nat) (A : Option Addr) (cap : Nat) (toks : List Tok) (d : Nat) (s s' : St) (t : Nd), At w p A cap toks d s → d ≤ 40 → (hd s.l).kind ≠ 0 → ∀ (B : Option Addr) (n : Nat), gs.length = n →
    (∀ (k g : Nat), gs[k]? = some g → ∃ b, B = some ⟨b, 0, none⟩ ∧ b < w.heap.size ∧ b ≠ p ∧ w.cell? ⟨b, k, none⟩ = some (mv g p)) → rd (.built kind ps) d s = some (t, s') →
    Calls Tryd.prog 100 #[.pointer (some ⟨p, 0, none⟩), .int .i64 kind, .slice B n n] w fun e w' => Did w p A cap toks d t s' e w'
set_option maxHeartbeats 4000000 in
theorem marked_run {rd : Rule → Nat → M Nd} (I : RunsB rd) (J : Runs rd (.wrapped) 101) : Runs (mstep rd) .marked 98 := by
  intro w p A cap toks d s s' t h hd40 hp hm
  have D := Lib.hid hd40
  clear hd40
  replace hm := peek_some hm
  clear hp
  have Ih := Lib.hid I
  have Jh := Lib.hid J
  clear I J
  by_cases e0 : mark s.l = [116, 114, 117, 101]
  · replace hm := ite_yes e0 hm
    have K := Lib.hid (kind_of_mark e0 (by decide))
    have zz0 := txt_yes e0
    clear e0
    replace hm := pass_some hm
    obtain ⟨rfl, rfl⟩ := ret_some hm
    clear hm
    have C1 := Lib.hid ((Cx.start h).alloc z6)
    clear h
    go_enter Tryd.func98, Tryd.ntmps98
    go_wp2_with fail
    change Calls _ _ _ (w.alloc zeroNd) _
    obtain ⟨q0, e0⟩ : ∃ q, q = w.heap.size := ⟨_, rfl⟩
    rw [← e0] at C1 ⊢
    clear e0
    generalize w.alloc zeroNd = w1 at *
    refine (mark_at C1.out.at_).mono ?_
    rintro e w2 ⟨rfl, u2⟩
    have C2 := Lib.hid (C1.out.up u2)
    clear u2 C1
    obtain ⟨x0q0, x1q0, x2q0, x3q0, x4q0, x5q0⟩ := cells6 (C2.out.cells 0 rfl)
    obtain ⟨y0q0, y1q0, y2q0, y3q0, y4q0, y5q0⟩ := frozen6 (C2.out.cells 0 rfl)
    go_wp2_with fail
    clear x0q0 x1q0 x2q0 x3q0 x4q0 x5q0 y0q0 y1q0 y2q0 y3q0 y4q0 y5q0
    refine (pass_at C2.out.at_ K.out 22).mono ?_
    rintro e w3 ⟨rfl, a3, f3⟩
    have C3 := Lib.hid (C2.out.call f3 a3)
    clear a3 f3 C2
    have C4 := Lib.hid (C3.out.know (NdC.leaf _ _ (22 : Nat) ([]) 0 (hd s.l).line (hd s.l).col))
    clear C3
    obtain ⟨x0q0, x1q0, x2q0, x3q0, x4q0, x5q0⟩ := cells6 (C4.out.cells 0 rfl)
    obtain ⟨y0q0, y1q0, y2q0, y3q0, y4q0, y5q0⟩ := frozen6 (C4.out.cells 0 rfl)
    go_wp2_with fail
    obtain ⟨b7, d7⟩ := C4.out.fin 0 rfl List.mem_cons_self
    exact bodyPost_ret (res_nodec (x := 2) (q := q0) (by kernel_rfl) rfl b7 rfl) rfl d7
  · have zz0 := txt_no e0
    replace hm := ite_no e0 hm
    by_cases e1 : mark s.l = [102, 97, 108, 115, 101]
    · replace hm := ite_yes e1 hm
      have K := Lib.hid (kind_of_mark e1 (by decide))
      have zz1 := txt_yes e1
      clear e0 e1
      replace hm := pass_some hm
      obtain ⟨rfl, rfl⟩ := ret_some hm
      clear hm
      have C1 := Lib.hid ((Cx.start h).alloc z6)
      clear h
      go_enter Tryd.func98, Tryd.ntmps98
      go_wp2_with fail
      change Calls _ _ _ (w.alloc zeroNd) _
      obtain ⟨q0, e0⟩ : ∃ q, q = w.heap.size := ⟨_, rfl⟩
      rw [← e0] at C1 ⊢
      clear e0
      generalize w.alloc zeroNd = w1 at *
      refine (mark_at C1.out.at_).mono ?_
      rintro e w2 ⟨rfl, u2⟩
      have C2 := Lib.hid (C1.out.up u2)
      clear u2 C1
      obtain ⟨x0q0, x1q0, x2q0, x3q0, x4q0, x5q0⟩ := cells6 (C2.out.cells 0 rfl)
      obtain ⟨y0q0, y1q0, y2q0, y3q0, y4q0, y5q0⟩ := frozen6 (C2.out.cells 0 rfl)
      go_wp2_with fail
      clear x0q0 x1q0 x2q0 x3q0 x4q0 x5q0 y0q0 y1q0 y2q0 y3q0 y4q0 y5q0
      refine (pass_at C2.out.at_ K.out 23).mono ?_
      rintro e w3 ⟨rfl, a3, f3⟩
      have C3 := Lib.hid (C2.out.call f3 a3)
      clear a3 f3 C2
      have C4 := Lib.hid (C3.out.know (NdC.leaf _ _ (23 : Nat) ([]) 0 (hd s.l).line (hd s.l).col))
      clear C3
      obtain ⟨x0q0, x1q0, x2q0, x3q0, x4q0, x5q0⟩ := cells6 (C4.out.cells 0 rfl)
      obtain ⟨y0q0, y1q0, y2q0, y3q0, y4q0, y5q0⟩ := frozen6 (C4.out.cells 0 rfl)
      go_wp2_with fail
      obtain ⟨b7, d7⟩ := C4.out.fin 0 rfl List.mem_cons_self
      exact bodyPost_ret (res_nodec (x := 2) (q := q0) (by kernel_rfl) rfl b7 rfl) rfl d7
    · have zz1 := txt_no e1
      replace hm := ite_no e1 hm
      by_cases e2 : mark s.l = [110, 105, 108]
      · replace hm := ite_yes e2 hm
        have K := Lib.hid (kind_of_mark e2 (by decide))
        have zz2 := txt_yes e2
        clear e0 e1 e2
        replace hm := pass_some hm
        obtain ⟨rfl, rfl⟩ := ret_some hm
        clear hm
        have C1 := Lib.hid ((Cx.start h).alloc z6)
        clear h
        go_enter Tryd.func98, Tryd.ntmps98
        go_wp2_with fail
        change Calls _ _ _ (w.alloc zeroNd) _
        obtain ⟨q0, e0⟩ : ∃ q, q = w.heap.size := ⟨_, rfl⟩
        rw [← e0] at C1 ⊢
        clear e0
        generalize w.alloc zeroNd = w1 at *
        refine (mark_at C1.out.at_).mono ?_
        rintro e w2 ⟨rfl, u2⟩
        have C2 := Lib.hid (C1.out.up u2)
        clear u2 C1
        obtain ⟨x0q0, x1q0, x2q0, x3q0, x4q0, x5q0⟩ := cells6 (C2.out.cells 0 rfl)
        obtain ⟨y0q0, y1q0, y2q0, y3q0, y4q0, y5q0⟩ := frozen6 (C2.out.cells 0 rfl)
        go_wp2_with fail
        clear x0q0 x1q0 x2q0 x3q0 x4q0 x5q0 y0q0 y1q0 y2q0 y3q0 y4q0 y5q0
        refine (pass_at C2.out.at_ K.out 25).mono ?_
        rintro e w3 ⟨rfl, a3, f3⟩
        have C3 := Lib.hid (C2.out.call f3 a3)
        clear a3 f3 C2
        have C4 := Lib.hid (C3.out.know (NdC.leaf _ _ (25 : Nat) ([]) 0 (hd s.l).line (hd s.l).col))
        clear C3
        obtain ⟨x0q0, x1q0, x2q0, x3q0, x4q0, x5q0⟩ := cells6 (C4.out.cells 0 rfl)
        obtain ⟨y0q0, y1q0, y2q0, y3q0, y4q0, y5q0⟩ := frozen6 (C4.out.cells 0 rfl)
        go_wp2_with fail
        obtain ⟨b7, d7⟩ := C4.out.fin 0 rfl List.mem_cons_self
        exact bodyPost_ret (res_nodec (x := 2) (q := q0) (by kernel_rfl) rfl b7 rfl) rfl d7
      · have zz2 := txt_no e2
        replace hm := ite_no e2 hm
        by_cases e3 : mark s.l = [108, 101, 110]
        · replace hm := ite_yes e3 hm
          have K := Lib.hid (kind_of_mark e3 (by decide))
          have zz3 := txt_yes e3
          clear e0 e1 e2 e3
          have M1 := Lib.hid hm
          clear hm
          have C1 := Lib.hid ((Cx.start h).alloc z6)
          clear h
          go_enter Tryd.func98, Tryd.ntmps98
          go_wp2_with fail
          change Calls _ _ _ (w.alloc zeroNd) _
          obtain ⟨q0, e0⟩ : ∃ q, q = w.heap.size := ⟨_, rfl⟩
          rw [← e0] at C1 ⊢
          clear e0
          generalize w.alloc zeroNd = w1 at *
          refine (mark_at C1.out.at_).mono ?_
          rintro e w2 ⟨rfl, u2⟩
          have C2 := Lib.hid (C1.out.up u2)
          clear u2 C1
          have hpb : p < (w2).heap.size := Nat.lt_of_lt_of_le C2.out.pos C2.out.fr.size
          have C3 := Lib.hid (C2.out.more (.cells #[mv 87 p] 72))
          clear C2
          have b1_m := Lib.hid (fns_row (gs := [87]) (p := p) (heap_alloc_new w2 (.cells #[mv 87 p] 72)) rfl hpb)
          clear hpb
          obtain ⟨b1, e_b1⟩ : ∃ q, q = (w2).heap.size := ⟨_, rfl⟩
          rw [← e_b1] at b1_m
          obtain ⟨x0q0, x1q0, x2q0, x3q0, x4q0, x5q0⟩ := cells6 (C3.out.cells 0 rfl)
          obtain ⟨y0q0, y1q0, y2q0, y3q0, y4q0, y5q0⟩ := frozen6 (C3.out.cells 0 rfl)
          go_wp2_with fail
          clear x0q0 x1q0 x2q0 x3q0 x4q0 x5q0 y0q0 y1q0 y2q0 y3q0 y4q0 y5q0
          rw [← e_b1]
          clear e_b1
          generalize (World.alloc w2 _) = w4 at *
          refine (Ih.out 33 [.expr] [87] (by simp [parts_of]) _ p A cap toks d _ _ _ C3.out.at_ D.out K.out _ 1 rfl b1_m.out M1.out).mono ?_
          rintro e w5 ⟨cs5, rfl, nd5, f5, a5⟩
          have C5 := Lib.hid (C3.out.tree f5 a5 nd5)
          obtain ⟨k5, m5, n5, l5, c5, ks5⟩ := t
          obtain ⟨A5, cc5, rfl, -⟩ := nd5.row
          clear nd5 f5 a5 C3
          obtain ⟨x0q0, x1q0, x2q0, x3q0, x4q0, x5q0⟩ := cells6 (C5.out.cells 0 rfl)
          obtain ⟨y0q0, y1q0, y2q0, y3q0, y4q0, y5q0⟩ := frozen6 (C5.out.cells 0 rfl)
          go_wp2_with fail
          obtain ⟨b7, d7⟩ := C5.out.fin 0 rfl List.mem_cons_self
          exact bodyPost_ret (res_nodec (x := 2) (q := q0) (by kernel_rfl) rfl b7 rfl) rfl d7
        · have zz3 := txt_no e3
          replace hm := ite_no e3 hm
          by_cases e4 : mark s.l = [109, 97, 107, 101]
          · replace hm := ite_yes e4 hm
            have K := Lib.hid (kind_of_mark e4 (by decide))
            have zz4 := txt_yes e4
            clear e0 e1 e2 e3 e4
            have M1 := Lib.hid hm
            clear hm
            have C1 := Lib.hid ((Cx.start h).alloc z6)
            clear h
            go_enter Tryd.func98, Tryd.ntmps98
            go_wp2_with fail
            change Calls _ _ _ (w.alloc zeroNd) _
            obtain ⟨q0, e0⟩ : ∃ q, q = w.heap.size := ⟨_, rfl⟩
            rw [← e0] at C1 ⊢
            clear e0
            generalize w.alloc zeroNd = w1 at *
            refine (mark_at C1.out.at_).mono ?_
            rintro e w2 ⟨rfl, u2⟩
            have C2 := Lib.hid (C1.out.up u2)
            clear u2 C1
            have hpb : p < (w2).heap.size := Nat.lt_of_lt_of_le C2.out.pos C2.out.fr.size
            have C3 := Lib.hid (C2.out.more (.cells #[mv 58 p, mv 87 p] 72))
            clear C2
            have b1_m := Lib.hid (fns_row (gs := [58, 87]) (p := p) (heap_alloc_new w2 (.cells #[mv 58 p, mv 87 p] 72)) rfl hpb)
            clear hpb
            obtain ⟨b1, e_b1⟩ : ∃ q, q = (w2).heap.size := ⟨_, rfl⟩
            rw [← e_b1] at b1_m
            obtain ⟨x0q0, x1q0, x2q0, x3q0, x4q0, x5q0⟩ := cells6 (C3.out.cells 0 rfl)
            obtain ⟨y0q0, y1q0, y2q0, y3q0, y4q0, y5q0⟩ := frozen6 (C3.out.cells 0 rfl)
            go_wp2_with fail
            clear x0q0 x1q0 x2q0 x3q0 x4q0 x5q0 y0q0 y1q0 y2q0 y3q0 y4q0 y5q0
            rw [← e_b1]
            clear e_b1
            generalize (World.alloc w2 _) = w4 at *
            refine (Ih.out 34 [.anyType, .expr] [58, 87] (by simp [parts_of]) _ p A cap toks d _ _ _ C3.out.at_ D.out K.out _ 2 rfl b1_m.out M1.out).mono ?_
            rintro e w5 ⟨cs5, rfl, nd5, f5, a5⟩
            have C5 := Lib.hid (C3.out.tree f5 a5 nd5)
            obtain ⟨k5, m5, n5, l5, c5, ks5⟩ := t
            obtain ⟨A5, cc5, rfl, -⟩ := nd5.row
            clear nd5 f5 a5 C3
            obtain ⟨x0q0, x1q0, x2q0, x3q0, x4q0, x5q0⟩ := cells6 (C5.out.cells 0 rfl)
            obtain ⟨y0q0, y1q0, y2q0, y3q0, y4q0, y5q0⟩ := frozen6 (C5.out.cells 0 rfl)
            go_wp2_with fail
            obtain ⟨b7, d7⟩ := C5.out.fin 0 rfl List.mem_cons_self
            exact bodyPost_ret (res_nodec (x := 2) (q := q0) (by kernel_rfl) rfl b7 rfl) rfl d7
          · have zz4 := txt_no e4
            replace hm := ite_no e4 hm
            by_cases e5 : mark s.l = [110, 101, 119]
            · replace hm := ite_yes e5 hm
              have K := Lib.hid (kind_of_mark e5 (by decide))
              have zz5 := txt_yes e5
              clear e0 e1 e2 e3 e4 e5
              have M1 := Lib.hid hm
              clear hm
              have C1 := Lib.hid ((Cx.start h).alloc z6)
              clear h
              go_enter Tryd.func98, Tryd.ntmps98
              go_wp2_with fail
              change Calls _ _ _ (w.alloc zeroNd) _
              obtain ⟨q0, e0⟩ : ∃ q, q = w.heap.size := ⟨_, rfl⟩
              rw [← e0] at C1 ⊢
              clear e0
              generalize w.alloc zeroNd = w1 at *
              refine (mark_at C1.out.at_).mono ?_
              rintro e w2 ⟨rfl, u2⟩
              have C2 := Lib.hid (C1.out.up u2)
              clear u2 C1
              have hpb : p < (w2).heap.size := Nat.lt_of_lt_of_le C2.out.pos C2.out.fr.size
              have C3 := Lib.hid (C2.out.more (.cells #[mv 58 p] 72))
              clear C2
              have b1_m := Lib.hid (fns_row (gs := [58]) (p := p) (heap_alloc_new w2 (.cells #[mv 58 p] 72)) rfl hpb)
              clear hpb
              obtain ⟨b1, e_b1⟩ : ∃ q, q = (w2).heap.size := ⟨_, rfl⟩
              rw [← e_b1] at b1_m
              obtain ⟨x0q0, x1q0, x2q0, x3q0, x4q0, x5q0⟩ := cells6 (C3.out.cells 0 rfl)
              obtain ⟨y0q0, y1q0, y2q0, y3q0, y4q0, y5q0⟩ := frozen6 (C3.out.cells 0 rfl)
              go_wp2_with fail
              clear x0q0 x1q0 x2q0 x3q0 x4q0 x5q0 y0q0 y1q0 y2q0 y3q0 y4q0 y5q0
              rw [← e_b1]
              clear e_b1
              generalize (World.alloc w2 _) = w4 at *
              refine (Ih.out 35 [.anyType] [58] (by simp [parts_of]) _ p A cap toks d _ _ _ C3.out.at_ D.out K.out _ 1 rfl b1_m.out M1.out).mono ?_
              rintro e w5 ⟨cs5, rfl, nd5, f5, a5⟩
              have C5 := Lib.hid (C3.out.tree f5 a5 nd5)
              obtain ⟨k5, m5, n5, l5, c5, ks5⟩ := t
              obtain ⟨A5, cc5, rfl, -⟩ := nd5.row
              clear nd5 f5 a5 C3
              obtain ⟨x0q0, x1q0, x2q0, x3q0, x4q0, x5q0⟩ := cells6 (C5.out.cells 0 rfl)
              obtain ⟨y0q0, y1q0, y2q0, y3q0, y4q0, y5q0⟩ := frozen6 (C5.out.cells 0 rfl)
              go_wp2_with fail
              obtain ⟨b7, d7⟩ := C5.out.fin 0 rfl List.mem_cons_self
              exact bodyPost_ret (res_nodec (x := 2) (q := q0) (by kernel_rfl) rfl b7 rfl) rfl d7
            · have zz5 := txt_no e5
              replace hm := ite_no e5 hm
              by_cases e6 : mark s.l = [105, 110, 112, 117, 116]
              · replace hm := ite_yes e6 hm
                have K := Lib.hid (kind_of_mark e6 (by decide))
                have zz6 := txt_yes e6
                clear e0 e1 e2 e3 e4 e5 e6
                have M1 := Lib.hid hm
                clear hm
                have C1 := Lib.hid ((Cx.start h).alloc z6)
                clear h
                go_enter Tryd.func98, Tryd.ntmps98
                go_wp2_with fail
                change Calls _ _ _ (w.alloc zeroNd) _
                obtain ⟨q0, e0⟩ : ∃ q, q = w.heap.size := ⟨_, rfl⟩
                rw [← e0] at C1 ⊢
                clear e0
                generalize w.alloc zeroNd = w1 at *
                refine (mark_at C1.out.at_).mono ?_
                rintro e w2 ⟨rfl, u2⟩
                have C2 := Lib.hid (C1.out.up u2)
                clear u2 C1
                obtain ⟨x0q0, x1q0, x2q0, x3q0, x4q0, x5q0⟩ := cells6 (C2.out.cells 0 rfl)
                obtain ⟨y0q0, y1q0, y2q0, y3q0, y4q0, y5q0⟩ := frozen6 (C2.out.cells 0 rfl)
                go_wp2_with fail
                clear x0q0 x1q0 x2q0 x3q0 x4q0 x5q0 y0q0 y1q0 y2q0 y3q0 y4q0 y5q0
                refine (Ih.out 36 [] [] (by simp [parts_of]) _ p A cap toks d _ _ _ C2.out.at_ D.out K.out none 0 rfl (fun k g hk => by simp at hk) M1.out).mono ?_
                rintro e w3 ⟨cs3, rfl, nd3, f3, a3⟩
                have C3 := Lib.hid (C2.out.tree f3 a3 nd3)
                obtain ⟨k3, m3, n3, l3, c3, ks3⟩ := t
                obtain ⟨A3, cc3, rfl, -⟩ := nd3.row
                clear nd3 f3 a3 C2
                obtain ⟨x0q0, x1q0, x2q0, x3q0, x4q0, x5q0⟩ := cells6 (C3.out.cells 0 rfl)
                obtain ⟨y0q0, y1q0, y2q0, y3q0, y4q0, y5q0⟩ := frozen6 (C3.out.cells 0 rfl)
                go_wp2_with fail
                obtain ⟨b7, d7⟩ := C3.out.fin 0 rfl List.mem_cons_self
                exact bodyPost_ret (res_nodec (x := 2) (q := q0) (by kernel_rfl) rfl b7 rfl) rfl d7
              · have zz6 := txt_no e6
                replace hm := ite_no e6 hm
                by_cases e7 : mark s.l = [40]
                · replace hm := ite_yes e7 hm
                  have K := Lib.hid (kind_of_mark e7 (by decide))
                  have zz7 := txt_yes e7
                  clear e0 e1 e2 e3 e4 e5 e6 e7
                  have M1 := Lib.hid hm
                  clear hm
                  have C1 := Lib.hid ((Cx.start h).alloc z6)
                  clear h
                  go_enter Tryd.func98, Tryd.ntmps98
                  go_wp2_with fail
                  change Calls _ _ _ (w.alloc zeroNd) _
                  obtain ⟨q0, e0⟩ : ∃ q, q = w.heap.size := ⟨_, rfl⟩
                  rw [← e0] at C1 ⊢
                  clear e0
                  generalize w.alloc zeroNd = w1 at *
                  refine (mark_at C1.out.at_).mono ?_
                  rintro e w2 ⟨rfl, u2⟩
                  have C2 := Lib.hid (C1.out.up u2)
                  clear u2 C1
                  obtain ⟨x0q0, x1q0, x2q0, x3q0, x4q0, x5q0⟩ := cells6 (C2.out.cells 0 rfl)
                  obtain ⟨y0q0, y1q0, y2q0, y3q0, y4q0, y5q0⟩ := frozen6 (C2.out.cells 0 rfl)
                  go_wp2_with fail
                  clear x0q0 x1q0 x2q0 x3q0 x4q0 x5q0 y0q0 y1q0 y2q0 y3q0 y4q0 y5q0
                  refine (Jh.out _ p A cap toks d _ _ _ C2.out.at_ D.out (True.intro) M1.out).mono ?_
                  rintro e w3 ⟨cs3, rfl, nd3, f3, a3⟩
                  have C3 := Lib.hid (C2.out.tree f3 a3 nd3)
                  obtain ⟨k3, m3, n3, l3, c3, ks3⟩ := t
                  obtain ⟨A3, cc3, rfl, -⟩ := nd3.row
                  clear nd3 f3 a3 C2
                  obtain ⟨x0q0, x1q0, x2q0, x3q0, x4q0, x5q0⟩ := cells6 (C3.out.cells 0 rfl)
                  obtain ⟨y0q0, y1q0, y2q0, y3q0, y4q0, y5q0⟩ := frozen6 (C3.out.cells 0 rfl)
                  go_wp2_with fail
                  obtain ⟨b7, d7⟩ := C3.out.fin 0 rfl List.mem_cons_self
                  exact bodyPost_ret (res_nodec (x := 2) (q := q0) (by kernel_rfl) rfl b7 rfl) rfl d7
                · have zz7 := txt_no e7
                  replace hm := ite_no e7 hm
                  clear e0 e1 e2 e3 e4 e5 e6 e7
                  have hx := then_some hm
                  clear hm
                  obtain ⟨⟨⟩, sF, hF, hm⟩ := hx
                  have MF := Lib.hid hF
                  clear hF
                  obtain ⟨rfl, rfl⟩ := ret_some hm
                  clear hm
                  have C1 := Lib.hid ((Cx.start h).alloc z6)
                  clear h
                  go_enter Tryd.func98, Tryd.ntmps98
                  go_wp2_with fail
                  change Calls _ _ _ (w.alloc zeroNd) _
                  obtain ⟨q0, e0⟩ : ∃ q, q = w.heap.size := ⟨_, rfl⟩
                  rw [← e0] at C1 ⊢
                  clear e0
                  generalize w.alloc zeroNd = w1 at *
                  refine (mark_at C1.out.at_).mono ?_
                  rintro e w2 ⟨rfl, u2⟩
                  have C2 := Lib.hid (C1.out.up u2)
                  clear u2 C1
                  obtain ⟨x0q0, x1q0, x2q0, x3q0, x4q0, x5q0⟩ := cells6 (C2.out.cells 0 rfl)
                  obtain ⟨y0q0, y1q0, y2q0, y3q0, y4q0, y5q0⟩ := frozen6 (C2.out.cells 0 rfl)
                  go_wp2_with fail
                  clear x0q0 x1q0 x2q0 x3q0 x4q0 x5q0 y0q0 y1q0 y2q0 y3q0 y4q0 y5q0
                  refine (fail_at C2.out.at_ (e := 13) MF.out).mono ?_
                  rintro e w3 ⟨rfl, a3, f3⟩
                  have C3 := Lib.hid (C2.out.call f3 a3)
                  clear a3 f3 C2
                  have C4 := Lib.hid (C3.out.know (NdC.leaf _ _ (0 : Nat) ([]) 0 0 0))
                  clear C3
                  obtain ⟨x0q0, x1q0, x2q0, x3q0, x4q0, x5q0⟩ := cells6 (C4.out.cells 0 rfl)
                  obtain ⟨y0q0, y1q0, y2q0, y3q0, y4q0, y5q0⟩ := frozen6 (C4.out.cells 0 rfl)
                  go_wp2_with fail
                  obtain ⟨b7, d7⟩ := C4.out.fin 0 rfl List.mem_cons_self
                  exact bodyPost_ret (res_nodec (x := 2) (q := q0) (by kernel_rfl) rfl b7 rfl) rfl d7
set_option maxHeartbeats 4000000 in
theorem funcDecl_run {rd : Rule → Nat → M Nd} (I : RunsL rd (.listed .param) 55 (fun p => #[.pointer (some ⟨p, 0, none⟩), mv 56 p])) (J : RunsN rd (.anyType) [[123]] 58) (L : Runs rd (.block) 59) (R : Runs rd (.receiver) 54) (LN : ∀ (d : Nat) (s s' : St) (t : Nd), rd (.listed .param) d s = some (t, s') → t.kids.length ≤ s.l.length + 1) : Runs (mstep rd) .funcDecl 31 := by
  intro w p A cap toks d s s' t h hd40 hp hm
  have D := Lib.hid hd40
  clear hd40
  have K := Lib.hid (show (hd s.l).kind ≠ 0 from hp)
  clear hp
  have Ih := Lib.hid I
  have Jh := Lib.hid J
  have Lh := Lib.hid L
  have Rh := Lib.hid R
  clear I J L R
  replace hm := peek_some (pass_some (peek_some hm))
  have hx := then_some hm
  clear hm
  obtain ⟨tr, s1, h1, hm⟩ := hx
  have hx := then_some hm
  clear hm
  obtain ⟨nm, s2, h2, hm⟩ := hx
  have hx := then_some hm
  clear hm
  obtain ⟨t1, s3, h3, hm⟩ := hx
  have hx := then_some hm
  clear hm
  obtain ⟨t2, s4, h4, hm⟩ := hx
  have hx := then_some hm
  clear hm
  obtain ⟨t3, s5, h5, hm⟩ := hx
  obtain ⟨rfl, rfl⟩ := ret_some hm
  clear hm
  have LE := Lib.hid (LN _ _ _ _ h3)
  clear LN
  have M2 := Lib.hid h2
  have M3 := Lib.hid h3
  have M4 := Lib.hid h4
  have M5 := Lib.hid h5
  clear h2 h3 h4 h5
  by_cases e1 : mark s.l.tail = [40]
  · replace h1 := ite_yes e1 h1
    have z1 := txt_yes e1
    have M1 := Lib.hid h1
    clear h1
    clear e1
    have C1 := Lib.hid ((Cx.start h).alloc z6)
    clear h
    go_enter Tryd.func31, Tryd.ntmps31
    go_wp2_with fail
    change Calls _ _ _ (w.alloc zeroNd) _
    obtain ⟨q0, e0⟩ : ∃ q, q = w.heap.size := ⟨_, rfl⟩
    rw [← e0] at C1 ⊢
    clear e0
    generalize w.alloc zeroNd = w1 at *
    refine (pass_at C1.out.at_ K.out 6).mono ?_
    rintro e w2 ⟨rfl, a2, f2⟩
    have C2 := Lib.hid (C1.out.call f2 a2)
    clear a2 f2 C1
    have C3 := Lib.hid (C2.out.alloc #[.int .i64 6, .string (bs []), .int .i64 0, .int .i64 (hd s.l).line, .int .i64 (hd s.l).col, .slice none 0 0])
    clear C2
    have C4 := Lib.hid (C3.out.alloc #[.int .i64 38, .string ⟨#[]⟩, .int .i64 0, .int .i64 0, .int .i64 0, .slice none 0 0])
    clear C3
    rw [Go.Deep.nblk_alloc] at C4
    obtain ⟨x0q2, x1q2, x2q2, x3q2, x4q2, x5q2⟩ := cells6 (C4.out.cells 0 rfl)
    obtain ⟨y0q2, y1q2, y2q2, y3q2, y4q2, y5q2⟩ := frozen6 (C4.out.cells 0 rfl)
    obtain ⟨x0q1, x1q1, x2q1, x3q1, x4q1, x5q1⟩ := cells6 (C4.out.cells 1 rfl)
    obtain ⟨y0q1, y1q1, y2q1, y3q1, y4q1, y5q1⟩ := frozen6 (C4.out.cells 1 rfl)
    obtain ⟨x0q0, x1q0, x2q0, x3q0, x4q0, x5q0⟩ := cells6 (C4.out.cells 2 rfl)
    obtain ⟨y0q0, y1q0, y2q0, y3q0, y4q0, y5q0⟩ := frozen6 (C4.out.cells 2 rfl)
    have ne_q2_q1 : (w2.heap.size + 1) ≠ w2.heap.size := C4.out.differ 0 1 (by decide) rfl rfl
    have ne_q2_q0 : (w2.heap.size + 1) ≠ q0 := C4.out.differ 0 2 (by decide) rfl rfl
    have ne_q1_q2 : w2.heap.size ≠ (w2.heap.size + 1) := C4.out.differ 1 0 (by decide) rfl rfl
    have ne_q1_q0 : w2.heap.size ≠ q0 := C4.out.differ 1 2 (by decide) rfl rfl
    have ne_q0_q2 : q0 ≠ (w2.heap.size + 1) := C4.out.differ 2 0 (by decide) rfl rfl
    have ne_q0_q1 : q0 ≠ w2.heap.size := C4.out.differ 2 1 (by decide) rfl rfl
    go_wp2_with fail
    clear x0q2 x1q2 x2q2 x3q2 x4q2 x5q2 y0q2 y1q2 y2q2 y3q2 y4q2 y5q2 x0q1 x1q1 x2q1 x3q1 x4q1 x5q1 y0q1 y1q1 y2q1 y3q1 y4q1 y5q1 x0q0 x1q0 x2q0 x3q0 x4q0 x5q0 y0q0 y1q0 y2q0 y3q0 y4q0 y5q0 ne_q2_q1 ne_q2_q0 ne_q1_q2 ne_q1_q0 ne_q0_q2 ne_q0_q1
    obtain ⟨q1, e_q1⟩ : ∃ q, q = w2.heap.size := ⟨_, rfl⟩
    rw [← e_q1] at C4 ⊢
    clear e_q1
    obtain ⟨q2, e_q2⟩ : ∃ q, q = q1 + 1 := ⟨_, rfl⟩
    rw [← e_q2] at C4 ⊢
    clear e_q2
    generalize (World.alloc (World.alloc w2 _) _) = w5 at *
    refine (mark_at C4.out.at_).mono ?_
    rintro e w6 ⟨rfl, u6⟩
    have C6 := Lib.hid (C4.out.up u6)
    clear u6 C4
    obtain ⟨x0q2, x1q2, x2q2, x3q2, x4q2, x5q2⟩ := cells6 (C6.out.cells 0 rfl)
    obtain ⟨y0q2, y1q2, y2q2, y3q2, y4q2, y5q2⟩ := frozen6 (C6.out.cells 0 rfl)
    obtain ⟨x0q1, x1q1, x2q1, x3q1, x4q1, x5q1⟩ := cells6 (C6.out.cells 1 rfl)
    obtain ⟨y0q1, y1q1, y2q1, y3q1, y4q1, y5q1⟩ := frozen6 (C6.out.cells 1 rfl)
    obtain ⟨x0q0, x1q0, x2q0, x3q0, x4q0, x5q0⟩ := cells6 (C6.out.cells 2 rfl)
    obtain ⟨y0q0, y1q0, y2q0, y3q0, y4q0, y5q0⟩ := frozen6 (C6.out.cells 2 rfl)
    have ne_q2_q1 : q2 ≠ q1 := C6.out.differ 0 1 (by decide) rfl rfl
    have ne_q2_q0 : q2 ≠ q0 := C6.out.differ 0 2 (by decide) rfl rfl
    have ne_q1_q2 : q1 ≠ q2 := C6.out.differ 1 0 (by decide) rfl rfl
    have ne_q1_q0 : q1 ≠ q0 := C6.out.differ 1 2 (by decide) rfl rfl
    have ne_q0_q2 : q0 ≠ q2 := C6.out.differ 2 0 (by decide) rfl rfl
    have ne_q0_q1 : q0 ≠ q1 := C6.out.differ 2 1 (by decide) rfl rfl
    go_wp2_with fail
    clear x0q2 x1q2 x2q2 x3q2 x4q2 x5q2 y0q2 y1q2 y2q2 y3q2 y4q2 y5q2 x0q1 x1q1 x2q1 x3q1 x4q1 x5q1 y0q1 y1q1 y2q1 y3q1 y4q1 y5q1 x0q0 x1q0 x2q0 x3q0 x4q0 x5q0 y0q0 y1q0 y2q0 y3q0 y4q0 y5q0 ne_q2_q1 ne_q2_q0 ne_q1_q2 ne_q1_q0 ne_q0_q2 ne_q0_q1
    refine (Rh.out _ p A cap toks d _ _ _ C6.out.at_ D.out (True.intro) M1.out).mono ?_
    rintro e w7 ⟨cs7, rfl, nd7, f7, a7⟩
    have C7 := Lib.hid (C6.out.tree f7 a7 nd7)
    obtain ⟨k7, m7, n7, l7, c7, ks7⟩ := tr
    obtain ⟨A7, cc7, rfl, -⟩ := nd7.row
    clear nd7 f7 a7 C6
    obtain ⟨x0q2, x1q2, x2q2, x3q2, x4q2, x5q2⟩ := cells6 (C7.out.cells 0 rfl)
    obtain ⟨y0q2, y1q2, y2q2, y3q2, y4q2, y5q2⟩ := frozen6 (C7.out.cells 0 rfl)
    obtain ⟨x0q1, x1q1, x2q1, x3q1, x4q1, x5q1⟩ := cells6 (C7.out.cells 1 rfl)
    obtain ⟨y0q1, y1q1, y2q1, y3q1, y4q1, y5q1⟩ := frozen6 (C7.out.cells 1 rfl)
    obtain ⟨x0q0, x1q0, x2q0, x3q0, x4q0, x5q0⟩ := cells6 (C7.out.cells 2 rfl)
    obtain ⟨y0q0, y1q0, y2q0, y3q0, y4q0, y5q0⟩ := frozen6 (C7.out.cells 2 rfl)
    have ne_q2_q1 : q2 ≠ q1 := C7.out.differ 0 1 (by decide) rfl rfl
    have ne_q2_q0 : q2 ≠ q0 := C7.out.differ 0 2 (by decide) rfl rfl
    have ne_q1_q2 : q1 ≠ q2 := C7.out.differ 1 0 (by decide) rfl rfl
    have ne_q1_q0 : q1 ≠ q0 := C7.out.differ 1 2 (by decide) rfl rfl
    have ne_q0_q2 : q0 ≠ q2 := C7.out.differ 2 0 (by decide) rfl rfl
    have ne_q0_q1 : q0 ≠ q1 := C7.out.differ 2 1 (by decide) rfl rfl
    go_wp2_with fail
    clear x0q2 x1q2 x2q2 x3q2 x4q2 x5q2 y0q2 y1q2 y2q2 y3q2 y4q2 y5q2 x0q1 x1q1 x2q1 x3q1 x4q1 x5q1 y0q1 y1q1 y2q1 y3q1 y4q1 y5q1 x0q0 x1q0 x2q0 x3q0 x4q0 x5q0 y0q0 y1q0 y2q0 y3q0 y4q0 y5q0 ne_q2_q1 ne_q2_q0 ne_q1_q2 ne_q1_q0 ne_q0_q2 ne_q0_q1
    have C8 := Lib.hid (C7.out.set 0 rfl 0 (.int .i64 k7))
    clear C7
    have C9 := Lib.hid (C8.out.set 0 rfl 1 (.string (bs m7)))
    clear C8
    have C10 := Lib.hid (C9.out.set 0 rfl 2 (.int .i64 n7))
    clear C9
    have C11 := Lib.hid (C10.out.set 0 rfl 3 (.int .i64 l7))
    clear C10
    have C12 := Lib.hid (C11.out.set 0 rfl 4 (.int .i64 c7))
    clear C11
    have C13 := Lib.hid (C12.out.set 0 rfl 5 (.slice A7 ks7.length cc7))
    clear C12
    generalize (World.setCell (World.setCell (World.setCell (World.setCell (World.setCell (World.setCell w7 _ _) _ _) _ _) _ _) _ _) _ _) = w14 at *
    refine (name_at C13.out.at_ M2.out).mono ?_
    rintro e w15 ⟨rfl, a15, f15⟩
    have C15 := Lib.hid (C13.out.call f15 a15)
    clear a15 f15 C13
    obtain ⟨x0q2, x1q2, x2q2, x3q2, x4q2, x5q2⟩ := cells6 (C15.out.cells 0 rfl)
    obtain ⟨y0q2, y1q2, y2q2, y3q2, y4q2, y5q2⟩ := frozen6 (C15.out.cells 0 rfl)
    obtain ⟨x0q1, x1q1, x2q1, x3q1, x4q1, x5q1⟩ := cells6 (C15.out.cells 1 rfl)
    obtain ⟨y0q1, y1q1, y2q1, y3q1, y4q1, y5q1⟩ := frozen6 (C15.out.cells 1 rfl)
    obtain ⟨x0q0, x1q0, x2q0, x3q0, x4q0, x5q0⟩ := cells6 (C15.out.cells 2 rfl)
    obtain ⟨y0q0, y1q0, y2q0, y3q0, y4q0, y5q0⟩ := frozen6 (C15.out.cells 2 rfl)
    have ne_q2_q1 : q2 ≠ q1 := C15.out.differ 0 1 (by decide) rfl rfl
    have ne_q2_q0 : q2 ≠ q0 := C15.out.differ 0 2 (by decide) rfl rfl
    have ne_q1_q2 : q1 ≠ q2 := C15.out.differ 1 0 (by decide) rfl rfl
    have ne_q1_q0 : q1 ≠ q0 := C15.out.differ 1 2 (by decide) rfl rfl
    have ne_q0_q2 : q0 ≠ q2 := C15.out.differ 2 0 (by decide) rfl rfl
    have ne_q0_q1 : q0 ≠ q1 := C15.out.differ 2 1 (by decide) rfl rfl
    go_wp2_with fail
    clear x0q2 x1q2 x2q2 x3q2 x4q2 x5q2 y0q2 y1q2 y2q2 y3q2 y4q2 y5q2 x0q1 x1q1 x2q1 x3q1 x4q1 x5q1 y0q1 y1q1 y2q1 y3q1 y4q1 y5q1 x0q0 x1q0 x2q0 x3q0 x4q0 x5q0 y0q0 y1q0 y2q0 y3q0 y4q0 y5q0 ne_q2_q1 ne_q2_q0 ne_q1_q2 ne_q1_q0 ne_q0_q2 ne_q0_q1
    have C16 := Lib.hid (C15.out.set 1 rfl 1 (.string (bs nm)))
    clear C15
    generalize (World.setCell w15 _ _) = w17 at *
    have LS := Lib.hid C16.out.at_.len.2
    refine (Ih.out _ p A cap toks d _ _ _ C16.out.at_ D.out (by simp [Pre, Low]) M3.out).mono ?_
    rintro e w18 ⟨B18, cc18, rfl, kd18, f18, a18⟩
    have C18 := Lib.hid (C16.out.tree f18 a18 (NdC.of kd18 0 [] 0 0 0))
    clear kd18 f18 a18 C16
    have C19 := Lib.hid (C18.out.more (.cells #[.string ⟨#[123]⟩] 9))
    clear C18
    have b1_m := Lib.hid (marks_row (ms := [[123]]) (heap_alloc_new w18 (.cells #[.string ⟨#[123]⟩] 9)) rfl)
    obtain ⟨b1, e_b1⟩ : ∃ q, q = (w18).heap.size := ⟨_, rfl⟩
    rw [← e_b1] at b1_m
    obtain ⟨x0q2, x1q2, x2q2, x3q2, x4q2, x5q2⟩ := cells6 (C19.out.cells 0 rfl)
    obtain ⟨y0q2, y1q2, y2q2, y3q2, y4q2, y5q2⟩ := frozen6 (C19.out.cells 0 rfl)
    obtain ⟨x0q1, x1q1, x2q1, x3q1, x4q1, x5q1⟩ := cells6 (C19.out.cells 1 rfl)
    obtain ⟨y0q1, y1q1, y2q1, y3q1, y4q1, y5q1⟩ := frozen6 (C19.out.cells 1 rfl)
    obtain ⟨x0q0, x1q0, x2q0, x3q0, x4q0, x5q0⟩ := cells6 (C19.out.cells 2 rfl)
    obtain ⟨y0q0, y1q0, y2q0, y3q0, y4q0, y5q0⟩ := frozen6 (C19.out.cells 2 rfl)
    have ne_q2_q1 : q2 ≠ q1 := C19.out.differ 0 1 (by decide) rfl rfl
    have ne_q2_q0 : q2 ≠ q0 := C19.out.differ 0 2 (by decide) rfl rfl
    have ne_q1_q2 : q1 ≠ q2 := C19.out.differ 1 0 (by decide) rfl rfl
    have ne_q1_q0 : q1 ≠ q0 := C19.out.differ 1 2 (by decide) rfl rfl
    have ne_q0_q2 : q0 ≠ q2 := C19.out.differ 2 0 (by decide) rfl rfl
    have ne_q0_q1 : q0 ≠ q1 := C19.out.differ 2 1 (by decide) rfl rfl
    go_wp2_with fail
    clear x0q2 x1q2 x2q2 x3q2 x4q2 x5q2 y0q2 y1q2 y2q2 y3q2 y4q2 y5q2 x0q1 x1q1 x2q1 x3q1 x4q1 x5q1 y0q1 y1q1 y2q1 y3q1 y4q1 y5q1 x0q0 x1q0 x2q0 x3q0 x4q0 x5q0 y0q0 y1q0 y2q0 y3q0 y4q0 y5q0 ne_q2_q1 ne_q2_q0 ne_q1_q2 ne_q1_q0 ne_q0_q2 ne_q0_q1
    rw [← e_b1]
    clear e_b1
    generalize (World.alloc w18 _) = w20 at *
    refine (Jh.out _ p A cap toks d _ _ _ b1 1 C19.out.at_ D.out rfl b1_m.out.1 b1_m.out.2 M4.out).mono ?_
    rintro e w21 ⟨cs21, rfl, nd21, f21, a21⟩
    have C21 := Lib.hid (C19.out.tree f21 a21 nd21)
    obtain ⟨k21, m21, n21, l21, c21, ks21⟩ := t2
    obtain ⟨A21, cc21, rfl, -⟩ := nd21.row
    clear nd21 f21 a21 C19
    have C22 := Lib.hid (C21.out.alloc #[.int .i64 k21, .string (bs m21), .int .i64 n21, .int .i64 l21, .int .i64 c21, .slice A21 ks21.length cc21])
    clear C21
    obtain ⟨x0q3, x1q3, x2q3, x3q3, x4q3, x5q3⟩ := cells6 (C22.out.cells 0 rfl)
    obtain ⟨y0q3, y1q3, y2q3, y3q3, y4q3, y5q3⟩ := frozen6 (C22.out.cells 0 rfl)
    obtain ⟨x0q2, x1q2, x2q2, x3q2, x4q2, x5q2⟩ := cells6 (C22.out.cells 1 rfl)
    obtain ⟨y0q2, y1q2, y2q2, y3q2, y4q2, y5q2⟩ := frozen6 (C22.out.cells 1 rfl)
    obtain ⟨x0q1, x1q1, x2q1, x3q1, x4q1, x5q1⟩ := cells6 (C22.out.cells 2 rfl)
    obtain ⟨y0q1, y1q1, y2q1, y3q1, y4q1, y5q1⟩ := frozen6 (C22.out.cells 2 rfl)
    obtain ⟨x0q0, x1q0, x2q0, x3q0, x4q0, x5q0⟩ := cells6 (C22.out.cells 3 rfl)
    obtain ⟨y0q0, y1q0, y2q0, y3q0, y4q0, y5q0⟩ := frozen6 (C22.out.cells 3 rfl)
    have ne_q3_q2 : w21.heap.size ≠ q2 := C22.out.differ 0 1 (by decide) rfl rfl
    have ne_q3_q1 : w21.heap.size ≠ q1 := C22.out.differ 0 2 (by decide) rfl rfl
    have ne_q3_q0 : w21.heap.size ≠ q0 := C22.out.differ 0 3 (by decide) rfl rfl
    have ne_q2_q3 : q2 ≠ w21.heap.size := C22.out.differ 1 0 (by decide) rfl rfl
    have ne_q2_q1 : q2 ≠ q1 := C22.out.differ 1 2 (by decide) rfl rfl
    have ne_q2_q0 : q2 ≠ q0 := C22.out.differ 1 3 (by decide) rfl rfl
    have ne_q1_q3 : q1 ≠ w21.heap.size := C22.out.differ 2 0 (by decide) rfl rfl
    have ne_q1_q2 : q1 ≠ q2 := C22.out.differ 2 1 (by decide) rfl rfl
    have ne_q1_q0 : q1 ≠ q0 := C22.out.differ 2 3 (by decide) rfl rfl
    have ne_q0_q3 : q0 ≠ w21.heap.size := C22.out.differ 3 0 (by decide) rfl rfl
    have ne_q0_q2 : q0 ≠ q2 := C22.out.differ 3 1 (by decide) rfl rfl
    have ne_q0_q1 : q0 ≠ q1 := C22.out.differ 3 2 (by decide) rfl rfl
    go_wp2_with fail
    clear x0q3 x1q3 x2q3 x3q3 x4q3 x5q3 y0q3 y1q3 y2q3 y3q3 y4q3 y5q3 x0q2 x1q2 x2q2 x3q2 x4q2 x5q2 y0q2 y1q2 y2q2 y3q2 y4q2 y5q2 x0q1 x1q1 x2q1 x3q1 x4q1 x5q1 y0q1 y1q1 y2q1 y3q1 y4q1 y5q1 x0q0 x1q0 x2q0 x3q0 x4q0 x5q0 y0q0 y1q0 y2q0 y3q0 y4q0 y5q0 ne_q3_q2 ne_q3_q1 ne_q3_q0 ne_q2_q3 ne_q2_q1 ne_q2_q0 ne_q1_q3 ne_q1_q2 ne_q1_q0 ne_q0_q3 ne_q0_q2 ne_q0_q1
    obtain ⟨q3, e_q3⟩ : ∃ q, q = w21.heap.size := ⟨_, rfl⟩
    rw [← e_q3] at C22 ⊢
    clear e_q3
    generalize (World.alloc w21 _) = w23 at *
    refine (Lh.out _ p A cap toks d _ _ _ C22.out.at_ D.out (True.intro) M5.out).mono ?_
    rintro e w24 ⟨cs24, rfl, nd24, f24, a24⟩
    have C24 := Lib.hid (C22.out.tree f24 a24 nd24)
    obtain ⟨k24, m24, n24, l24, c24, ks24⟩ := t3
    obtain ⟨A24, cc24, rfl, -⟩ := nd24.row
    clear nd24 f24 a24 C22
    have C25 := Lib.hid (C24.out.alloc #[.int .i64 k24, .string (bs m24), .int .i64 n24, .int .i64 l24, .int .i64 c24, .slice A24 ks24.length cc24])
    clear C24
    obtain ⟨x0q4, x1q4, x2q4, x3q4, x4q4, x5q4⟩ := cells6 (C25.out.cells 0 rfl)
    obtain ⟨y0q4, y1q4, y2q4, y3q4, y4q4, y5q4⟩ := frozen6 (C25.out.cells 0 rfl)
    obtain ⟨x0q3, x1q3, x2q3, x3q3, x4q3, x5q3⟩ := cells6 (C25.out.cells 1 rfl)
    obtain ⟨y0q3, y1q3, y2q3, y3q3, y4q3, y5q3⟩ := frozen6 (C25.out.cells 1 rfl)
    obtain ⟨x0q2, x1q2, x2q2, x3q2, x4q2, x5q2⟩ := cells6 (C25.out.cells 2 rfl)
    obtain ⟨y0q2, y1q2, y2q2, y3q2, y4q2, y5q2⟩ := frozen6 (C25.out.cells 2 rfl)
    obtain ⟨x0q1, x1q1, x2q1, x3q1, x4q1, x5q1⟩ := cells6 (C25.out.cells 3 rfl)
    obtain ⟨y0q1, y1q1, y2q1, y3q1, y4q1, y5q1⟩ := frozen6 (C25.out.cells 3 rfl)
    obtain ⟨x0q0, x1q0, x2q0, x3q0, x4q0, x5q0⟩ := cells6 (C25.out.cells 4 rfl)
    obtain ⟨y0q0, y1q0, y2q0, y3q0, y4q0, y5q0⟩ := frozen6 (C25.out.cells 4 rfl)
    have ne_q4_q3 : w24.heap.size ≠ q3 := C25.out.differ 0 1 (by decide) rfl rfl
    have ne_q4_q2 : w24.heap.size ≠ q2 := C25.out.differ 0 2 (by decide) rfl rfl
    have ne_q4_q1 : w24.heap.size ≠ q1 := C25.out.differ 0 3 (by decide) rfl rfl
    have ne_q4_q0 : w24.heap.size ≠ q0 := C25.out.differ 0 4 (by decide) rfl rfl
    have ne_q3_q4 : q3 ≠ w24.heap.size := C25.out.differ 1 0 (by decide) rfl rfl
    have ne_q3_q2 : q3 ≠ q2 := C25.out.differ 1 2 (by decide) rfl rfl
    have ne_q3_q1 : q3 ≠ q1 := C25.out.differ 1 3 (by decide) rfl rfl
    have ne_q3_q0 : q3 ≠ q0 := C25.out.differ 1 4 (by decide) rfl rfl
    have ne_q2_q4 : q2 ≠ w24.heap.size := C25.out.differ 2 0 (by decide) rfl rfl
    have ne_q2_q3 : q2 ≠ q3 := C25.out.differ 2 1 (by decide) rfl rfl
    have ne_q2_q1 : q2 ≠ q1 := C25.out.differ 2 3 (by decide) rfl rfl
    have ne_q2_q0 : q2 ≠ q0 := C25.out.differ 2 4 (by decide) rfl rfl
    have ne_q1_q4 : q1 ≠ w24.heap.size := C25.out.differ 3 0 (by decide) rfl rfl
    have ne_q1_q3 : q1 ≠ q3 := C25.out.differ 3 1 (by decide) rfl rfl
    have ne_q1_q2 : q1 ≠ q2 := C25.out.differ 3 2 (by decide) rfl rfl
    have ne_q1_q0 : q1 ≠ q0 := C25.out.differ 3 4 (by decide) rfl rfl
    have ne_q0_q4 : q0 ≠ w24.heap.size := C25.out.differ 4 0 (by decide) rfl rfl
    have ne_q0_q3 : q0 ≠ q3 := C25.out.differ 4 1 (by decide) rfl rfl
    have ne_q0_q2 : q0 ≠ q2 := C25.out.differ 4 2 (by decide) rfl rfl
    have ne_q0_q1 : q0 ≠ q1 := C25.out.differ 4 3 (by decide) rfl rfl
    go_upto_region 9 with fail
    clear x0q4 x1q4 x2q4 x3q4 x4q4 x5q4 y0q4 y1q4 y2q4 y3q4 y4q4 y5q4 x0q3 x1q3 x2q3 x3q3 x4q3 x5q3 y0q3 y1q3 y2q3 y3q3 y4q3 y5q3 x0q2 x1q2 x2q2 x3q2 x4q2 x5q2 y0q2 y1q2 y2q2 y3q2 y4q2 y5q2 x0q1 x1q1 x2q1 x3q1 x4q1 x5q1 y0q1 y1q1 y2q1 y3q1 y4q1 y5q1 x0q0 x1q0 x2q0 x3q0 x4q0 x5q0 y0q0 y1q0 y2q0 y3q0 y4q0 y5q0 ne_q4_q3 ne_q4_q2 ne_q4_q1 ne_q4_q0 ne_q3_q4 ne_q3_q2 ne_q3_q1 ne_q3_q0 ne_q2_q4 ne_q2_q3 ne_q2_q1 ne_q2_q0 ne_q1_q4 ne_q1_q3 ne_q1_q2 ne_q1_q0 ne_q0_q4 ne_q0_q3 ne_q0_q2 ne_q0_q1
    obtain ⟨q4, e_q4⟩ : ∃ q, q = w24.heap.size := ⟨_, rfl⟩
    rw [← e_q4] at C25 ⊢
    clear e_q4
    generalize (World.alloc w24 _) = w26 at *
    obtain ⟨x0q4E, x1q4E, x2q4E, x3q4E, x4q4E, x5q4E⟩ := cells6 (C25.out.cells 0 rfl)
    obtain ⟨y0q4E, y1q4E, y2q4E, y3q4E, y4q4E, y5q4E⟩ := frozen6 (C25.out.cells 0 rfl)
    obtain ⟨x0q3E, x1q3E, x2q3E, x3q3E, x4q3E, x5q3E⟩ := cells6 (C25.out.cells 1 rfl)
    obtain ⟨y0q3E, y1q3E, y2q3E, y3q3E, y4q3E, y5q3E⟩ := frozen6 (C25.out.cells 1 rfl)
    obtain ⟨x0q2E, x1q2E, x2q2E, x3q2E, x4q2E, x5q2E⟩ := cells6 (C25.out.cells 2 rfl)
    obtain ⟨y0q2E, y1q2E, y2q2E, y3q2E, y4q2E, y5q2E⟩ := frozen6 (C25.out.cells 2 rfl)
    have C27 := Lib.hid (C25.out.alloc #[.int .i64 k7, .string (bs m7), .int .i64 n7, .int .i64 l7, .int .i64 c7, .slice A7 ks7.length cc7, .int .i64 k21, .string (bs m21), .int .i64 n21, .int .i64 l21, .int .i64 c21, .slice A21 ks21.length cc21, .int .i64 k24, .string (bs m24), .int .i64 n24, .int .i64 l24, .int .i64 c24, .slice A24 ks24.length cc24])
    clear C25
    obtain ⟨A9, c9, N9, w9, hrun, k9⟩ := C27.out.append [(Nd.mk k7 m7 n7 l7 c7 ks7, [.int .i64 k7, .string (bs m7), .int .i64 n7, .int .i64 l7, .int .i64 c7, .slice A7 ks7.length cc7]), (Nd.mk k21 m21 n21 l21 c21 ks21, [.int .i64 k21, .string (bs m21), .int .i64 n21, .int .i64 l21, .int .i64 c21, .slice A21 ks21.length cc21]), (Nd.mk k24 m24 n24 l24 c24 ks24, [.int .i64 k24, .string (bs m24), .int .i64 n24, .int .i64 l24, .int .i64 c24, .slice A24 ks24.length cc24])] (sub_cons (List.mem_cons_of_mem _ (List.mem_cons_of_mem _ (List.mem_cons_of_mem _ List.mem_cons_self))) (sub_cons (List.mem_cons_of_mem _ List.mem_cons_self) (sub_cons List.mem_cons_self sub_nil))) rfl 3 rfl (by decide) (List.mem_cons_of_mem _ (List.mem_cons_of_mem _ List.mem_cons_self)) (by have := LE.out; have := LS.out; omega) 6 nm 0 (hd s.l).line (hd s.l).col
    have HA := Lib.hid hrun
    have C200 := Lib.hid k9
    clear hrun k9 C27
    obtain ⟨x0q1, x1q1, x2q1, x3q1, x4q1, x5q1⟩ := cells6 (C200.out.cells 3 rfl)
    obtain ⟨y0q1, y1q1, y2q1, y3q1, y4q1, y5q1⟩ := frozen6 (C200.out.cells 3 rfl)
    obtain ⟨x0q0, x1q0, x2q0, x3q0, x4q0, x5q0⟩ := cells6 (C200.out.cells 4 rfl)
    obtain ⟨y0q0, y1q0, y2q0, y3q0, y4q0, y5q0⟩ := frozen6 (C200.out.cells 4 rfl)
    have ne_q1_q0 : q1 ≠ q0 := C200.out.differ 3 4 (by decide) rfl rfl
    have ne_q0_q1 : q0 ≠ q1 := C200.out.differ 4 3 (by decide) rfl rfl
    go_wp2_with (at_builtin; refine Lib.wpList_append_run _ rfl (.tmp 33) (.tmp 34) 25 25 rfl _ _ rfl rfl _ _ HA.out ?_)
    go_wp2_with fail
    have C201 := C200.out.set 3 rfl 5 (.slice A9 N9 c9)
    obtain ⟨b7, d7⟩ := C201.fin 4 rfl List.mem_cons_self
    exact bodyPost_ret (res_nodec (x := 2) (q := q0) (by kernel_rfl) rfl b7 rfl) rfl d7
  · obtain ⟨rfl, rfl⟩ := ret_some (ite_no e1 h1)
    have z1 := txt_no e1
    clear e1 h1
    have C1 := Lib.hid ((Cx.start h).alloc z6)
    clear h
    go_enter Tryd.func31, Tryd.ntmps31
    go_wp2_with fail
    change Calls _ _ _ (w.alloc zeroNd) _
    obtain ⟨q0, e0⟩ : ∃ q, q = w.heap.size := ⟨_, rfl⟩
    rw [← e0] at C1 ⊢
    clear e0
    generalize w.alloc zeroNd = w1 at *
    refine (pass_at C1.out.at_ K.out 6).mono ?_
    rintro e w2 ⟨rfl, a2, f2⟩
    have C2 := Lib.hid (C1.out.call f2 a2)
    clear a2 f2 C1
    have C3 := Lib.hid (C2.out.alloc #[.int .i64 6, .string (bs []), .int .i64 0, .int .i64 (hd s.l).line, .int .i64 (hd s.l).col, .slice none 0 0])
    clear C2
    have C4 := Lib.hid (C3.out.alloc #[.int .i64 38, .string ⟨#[]⟩, .int .i64 0, .int .i64 0, .int .i64 0, .slice none 0 0])
    clear C3
    rw [Go.Deep.nblk_alloc] at C4
    obtain ⟨x0q2, x1q2, x2q2, x3q2, x4q2, x5q2⟩ := cells6 (C4.out.cells 0 rfl)
    obtain ⟨y0q2, y1q2, y2q2, y3q2, y4q2, y5q2⟩ := frozen6 (C4.out.cells 0 rfl)
    obtain ⟨x0q1, x1q1, x2q1, x3q1, x4q1, x5q1⟩ := cells6 (C4.out.cells 1 rfl)
    obtain ⟨y0q1, y1q1, y2q1, y3q1, y4q1, y5q1⟩ := frozen6 (C4.out.cells 1 rfl)
    obtain ⟨x0q0, x1q0, x2q0, x3q0, x4q0, x5q0⟩ := cells6 (C4.out.cells 2 rfl)
    obtain ⟨y0q0, y1q0, y2q0, y3q0, y4q0, y5q0⟩ := frozen6 (C4.out.cells 2 rfl)
    have ne_q2_q1 : (w2.heap.size + 1) ≠ w2.heap.size := C4.out.differ 0 1 (by decide) rfl rfl
    have ne_q2_q0 : (w2.heap.size + 1) ≠ q0 := C4.out.differ 0 2 (by decide) rfl rfl
    have ne_q1_q2 : w2.heap.size ≠ (w2.heap.size + 1) := C4.out.differ 1 0 (by decide) rfl rfl
    have ne_q1_q0 : w2.heap.size ≠ q0 := C4.out.differ 1 2 (by decide) rfl rfl
    have ne_q0_q2 : q0 ≠ (w2.heap.size + 1) := C4.out.differ 2 0 (by decide) rfl rfl
    have ne_q0_q1 : q0 ≠ w2.heap.size := C4.out.differ 2 1 (by decide) rfl rfl
    go_wp2_with fail
    clear x0q2 x1q2 x2q2 x3q2 x4q2 x5q2 y0q2 y1q2 y2q2 y3q2 y4q2 y5q2 x0q1 x1q1 x2q1 x3q1 x4q1 x5q1 y0q1 y1q1 y2q1 y3q1 y4q1 y5q1 x0q0 x1q0 x2q0 x3q0 x4q0 x5q0 y0q0 y1q0 y2q0 y3q0 y4q0 y5q0 ne_q2_q1 ne_q2_q0 ne_q1_q2 ne_q1_q0 ne_q0_q2 ne_q0_q1
    obtain ⟨q1, e_q1⟩ : ∃ q, q = w2.heap.size := ⟨_, rfl⟩
    rw [← e_q1] at C4 ⊢
    clear e_q1
    obtain ⟨q2, e_q2⟩ : ∃ q, q = q1 + 1 := ⟨_, rfl⟩
    rw [← e_q2] at C4 ⊢
    clear e_q2
    generalize (World.alloc (World.alloc w2 _) _) = w5 at *
    refine (mark_at C4.out.at_).mono ?_
    rintro e w6 ⟨rfl, u6⟩
    have C6 := Lib.hid (C4.out.up u6)
    clear u6 C4
    obtain ⟨x0q2, x1q2, x2q2, x3q2, x4q2, x5q2⟩ := cells6 (C6.out.cells 0 rfl)
    obtain ⟨y0q2, y1q2, y2q2, y3q2, y4q2, y5q2⟩ := frozen6 (C6.out.cells 0 rfl)
    obtain ⟨x0q1, x1q1, x2q1, x3q1, x4q1, x5q1⟩ := cells6 (C6.out.cells 1 rfl)
    obtain ⟨y0q1, y1q1, y2q1, y3q1, y4q1, y5q1⟩ := frozen6 (C6.out.cells 1 rfl)
    obtain ⟨x0q0, x1q0, x2q0, x3q0, x4q0, x5q0⟩ := cells6 (C6.out.cells 2 rfl)
    obtain ⟨y0q0, y1q0, y2q0, y3q0, y4q0, y5q0⟩ := frozen6 (C6.out.cells 2 rfl)
    have ne_q2_q1 : q2 ≠ q1 := C6.out.differ 0 1 (by decide) rfl rfl
    have ne_q2_q0 : q2 ≠ q0 := C6.out.differ 0 2 (by decide) rfl rfl
    have ne_q1_q2 : q1 ≠ q2 := C6.out.differ 1 0 (by decide) rfl rfl
    have ne_q1_q0 : q1 ≠ q0 := C6.out.differ 1 2 (by decide) rfl rfl
    have ne_q0_q2 : q0 ≠ q2 := C6.out.differ 2 0 (by decide) rfl rfl
    have ne_q0_q1 : q0 ≠ q1 := C6.out.differ 2 1 (by decide) rfl rfl
    go_wp2_with fail
    clear x0q2 x1q2 x2q2 x3q2 x4q2 x5q2 y0q2 y1q2 y2q2 y3q2 y4q2 y5q2 x0q1 x1q1 x2q1 x3q1 x4q1 x5q1 y0q1 y1q1 y2q1 y3q1 y4q1 y5q1 x0q0 x1q0 x2q0 x3q0 x4q0 x5q0 y0q0 y1q0 y2q0 y3q0 y4q0 y5q0 ne_q2_q1 ne_q2_q0 ne_q1_q2 ne_q1_q0 ne_q0_q2 ne_q0_q1
    refine (name_at C6.out.at_ M2.out).mono ?_
    rintro e w7 ⟨rfl, a7, f7⟩
    have C7 := Lib.hid (C6.out.call f7 a7)
    clear a7 f7 C6
    obtain ⟨x0q2, x1q2, x2q2, x3q2, x4q2, x5q2⟩ := cells6 (C7.out.cells 0 rfl)
    obtain ⟨y0q2, y1q2, y2q2, y3q2, y4q2, y5q2⟩ := frozen6 (C7.out.cells 0 rfl)
    obtain ⟨x0q1, x1q1, x2q1, x3q1, x4q1, x5q1⟩ := cells6 (C7.out.cells 1 rfl)
    obtain ⟨y0q1, y1q1, y2q1, y3q1, y4q1, y5q1⟩ := frozen6 (C7.out.cells 1 rfl)
    obtain ⟨x0q0, x1q0, x2q0, x3q0, x4q0, x5q0⟩ := cells6 (C7.out.cells 2 rfl)
    obtain ⟨y0q0, y1q0, y2q0, y3q0, y4q0, y5q0⟩ := frozen6 (C7.out.cells 2 rfl)
    have ne_q2_q1 : q2 ≠ q1 := C7.out.differ 0 1 (by decide) rfl rfl
    have ne_q2_q0 : q2 ≠ q0 := C7.out.differ 0 2 (by decide) rfl rfl
    have ne_q1_q2 : q1 ≠ q2 := C7.out.differ 1 0 (by decide) rfl rfl
    have ne_q1_q0 : q1 ≠ q0 := C7.out.differ 1 2 (by decide) rfl rfl
    have ne_q0_q2 : q0 ≠ q2 := C7.out.differ 2 0 (by decide) rfl rfl
    have ne_q0_q1 : q0 ≠ q1 := C7.out.differ 2 1 (by decide) rfl rfl
    go_wp2_with fail
    clear x0q2 x1q2 x2q2 x3q2 x4q2 x5q2 y0q2 y1q2 y2q2 y3q2 y4q2 y5q2 x0q1 x1q1 x2q1 x3q1 x4q1 x5q1 y0q1 y1q1 y2q1 y3q1 y4q1 y5q1 x0q0 x1q0 x2q0 x3q0 x4q0 x5q0 y0q0 y1q0 y2q0 y3q0 y4q0 y5q0 ne_q2_q1 ne_q2_q0 ne_q1_q2 ne_q1_q0 ne_q0_q2 ne_q0_q1
    have C8 := Lib.hid (C7.out.set 1 rfl 1 (.string (bs nm)))
    clear C7
    generalize (World.setCell w7 _ _) = w9 at *
    have LS := Lib.hid C8.out.at_.len.2
    refine (Ih.out _ p A cap toks d _ _ _ C8.out.at_ D.out (by simp [Pre, Low]) M3.out).mono ?_
    rintro e w10 ⟨B10, cc10, rfl, kd10, f10, a10⟩
    have C10 := Lib.hid (C8.out.tree f10 a10 (NdC.of kd10 0 [] 0 0 0))
    clear kd10 f10 a10 C8
    have C11 := Lib.hid (C10.out.more (.cells #[.string ⟨#[123]⟩] 9))
    clear C10
    have b1_m := Lib.hid (marks_row (ms := [[123]]) (heap_alloc_new w10 (.cells #[.string ⟨#[123]⟩] 9)) rfl)
    obtain ⟨b1, e_b1⟩ : ∃ q, q = (w10).heap.size := ⟨_, rfl⟩
    rw [← e_b1] at b1_m
    obtain ⟨x0q2, x1q2, x2q2, x3q2, x4q2, x5q2⟩ := cells6 (C11.out.cells 0 rfl)
    obtain ⟨y0q2, y1q2, y2q2, y3q2, y4q2, y5q2⟩ := frozen6 (C11.out.cells 0 rfl)
    obtain ⟨x0q1, x1q1, x2q1, x3q1, x4q1, x5q1⟩ := cells6 (C11.out.cells 1 rfl)
    obtain ⟨y0q1, y1q1, y2q1, y3q1, y4q1, y5q1⟩ := frozen6 (C11.out.cells 1 rfl)
    obtain ⟨x0q0, x1q0, x2q0, x3q0, x4q0, x5q0⟩ := cells6 (C11.out.cells 2 rfl)
    obtain ⟨y0q0, y1q0, y2q0, y3q0, y4q0, y5q0⟩ := frozen6 (C11.out.cells 2 rfl)
    have ne_q2_q1 : q2 ≠ q1 := C11.out.differ 0 1 (by decide) rfl rfl
    have ne_q2_q0 : q2 ≠ q0 := C11.out.differ 0 2 (by decide) rfl rfl
    have ne_q1_q2 : q1 ≠ q2 := C11.out.differ 1 0 (by decide) rfl rfl
    have ne_q1_q0 : q1 ≠ q0 := C11.out.differ 1 2 (by decide) rfl rfl
    have ne_q0_q2 : q0 ≠ q2 := C11.out.differ 2 0 (by decide) rfl rfl
    have ne_q0_q1 : q0 ≠ q1 := C11.out.differ 2 1 (by decide) rfl rfl
    go_wp2_with fail
    clear x0q2 x1q2 x2q2 x3q2 x4q2 x5q2 y0q2 y1q2 y2q2 y3q2 y4q2 y5q2 x0q1 x1q1 x2q1 x3q1 x4q1 x5q1 y0q1 y1q1 y2q1 y3q1 y4q1 y5q1 x0q0 x1q0 x2q0 x3q0 x4q0 x5q0 y0q0 y1q0 y2q0 y3q0 y4q0 y5q0 ne_q2_q1 ne_q2_q0 ne_q1_q2 ne_q1_q0 ne_q0_q2 ne_q0_q1
    rw [← e_b1]
    clear e_b1
    generalize (World.alloc w10 _) = w12 at *
    refine (Jh.out _ p A cap toks d _ _ _ b1 1 C11.out.at_ D.out rfl b1_m.out.1 b1_m.out.2 M4.out).mono ?_
    rintro e w13 ⟨cs13, rfl, nd13, f13, a13⟩
    have C13 := Lib.hid (C11.out.tree f13 a13 nd13)
    obtain ⟨k13, m13, n13, l13, c13, ks13⟩ := t2
    obtain ⟨A13, cc13, rfl, -⟩ := nd13.row
    clear nd13 f13 a13 C11
    have C14 := Lib.hid (C13.out.alloc #[.int .i64 k13, .string (bs m13), .int .i64 n13, .int .i64 l13, .int .i64 c13, .slice A13 ks13.length cc13])
    clear C13
    obtain ⟨x0q3, x1q3, x2q3, x3q3, x4q3, x5q3⟩ := cells6 (C14.out.cells 0 rfl)
    obtain ⟨y0q3, y1q3, y2q3, y3q3, y4q3, y5q3⟩ := frozen6 (C14.out.cells 0 rfl)
    obtain ⟨x0q2, x1q2, x2q2, x3q2, x4q2, x5q2⟩ := cells6 (C14.out.cells 1 rfl)
    obtain ⟨y0q2, y1q2, y2q2, y3q2, y4q2, y5q2⟩ := frozen6 (C14.out.cells 1 rfl)
    obtain ⟨x0q1, x1q1, x2q1, x3q1, x4q1, x5q1⟩ := cells6 (C14.out.cells 2 rfl)
    obtain ⟨y0q1, y1q1, y2q1, y3q1, y4q1, y5q1⟩ := frozen6 (C14.out.cells 2 rfl)
    obtain ⟨x0q0, x1q0, x2q0, x3q0, x4q0, x5q0⟩ := cells6 (C14.out.cells 3 rfl)
    obtain ⟨y0q0, y1q0, y2q0, y3q0, y4q0, y5q0⟩ := frozen6 (C14.out.cells 3 rfl)
    have ne_q3_q2 : w13.heap.size ≠ q2 := C14.out.differ 0 1 (by decide) rfl rfl
    have ne_q3_q1 : w13.heap.size ≠ q1 := C14.out.differ 0 2 (by decide) rfl rfl
    have ne_q3_q0 : w13.heap.size ≠ q0 := C14.out.differ 0 3 (by decide) rfl rfl
    have ne_q2_q3 : q2 ≠ w13.heap.size := C14.out.differ 1 0 (by decide) rfl rfl
    have ne_q2_q1 : q2 ≠ q1 := C14.out.differ 1 2 (by decide) rfl rfl
    have ne_q2_q0 : q2 ≠ q0 := C14.out.differ 1 3 (by decide) rfl rfl
    have ne_q1_q3 : q1 ≠ w13.heap.size := C14.out.differ 2 0 (by decide) rfl rfl
    have ne_q1_q2 : q1 ≠ q2 := C14.out.differ 2 1 (by decide) rfl rfl
    have ne_q1_q0 : q1 ≠ q0 := C14.out.differ 2 3 (by decide) rfl rfl
    have ne_q0_q3 : q0 ≠ w13.heap.size := C14.out.differ 3 0 (by decide) rfl rfl
    have ne_q0_q2 : q0 ≠ q2 := C14.out.differ 3 1 (by decide) rfl rfl
    have ne_q0_q1 : q0 ≠ q1 := C14.out.differ 3 2 (by decide) rfl rfl
    go_wp2_with fail
    clear x0q3 x1q3 x2q3 x3q3 x4q3 x5q3 y0q3 y1q3 y2q3 y3q3 y4q3 y5q3 x0q2 x1q2 x2q2 x3q2 x4q2 x5q2 y0q2 y1q2 y2q2 y3q2 y4q2 y5q2 x0q1 x1q1 x2q1 x3q1 x4q1 x5q1 y0q1 y1q1 y2q1 y3q1 y4q1 y5q1 x0q0 x1q0 x2q0 x3q0 x4q0 x5q0 y0q0 y1q0 y2q0 y3q0 y4q0 y5q0 ne_q3_q2 ne_q3_q1 ne_q3_q0 ne_q2_q3 ne_q2_q1 ne_q2_q0 ne_q1_q3 ne_q1_q2 ne_q1_q0 ne_q0_q3 ne_q0_q2 ne_q0_q1
    obtain ⟨q3, e_q3⟩ : ∃ q, q = w13.heap.size := ⟨_, rfl⟩
    rw [← e_q3] at C14 ⊢
    clear e_q3
    generalize (World.alloc w13 _) = w15 at *
    refine (Lh.out _ p A cap toks d _ _ _ C14.out.at_ D.out (True.intro) M5.out).mono ?_
    rintro e w16 ⟨cs16, rfl, nd16, f16, a16⟩
    have C16 := Lib.hid (C14.out.tree f16 a16 nd16)
    obtain ⟨k16, m16, n16, l16, c16, ks16⟩ := t3
    obtain ⟨A16, cc16, rfl, -⟩ := nd16.row
    clear nd16 f16 a16 C14
    have C17 := Lib.hid (C16.out.alloc #[.int .i64 k16, .string (bs m16), .int .i64 n16, .int .i64 l16, .int .i64 c16, .slice A16 ks16.length cc16])
    clear C16
    have C18 := Lib.hid (C17.out.know (NdC.leaf _ _ (38 : Nat) ([]) 0 0 0))
    clear C17
    obtain ⟨x0q4, x1q4, x2q4, x3q4, x4q4, x5q4⟩ := cells6 (C18.out.cells 0 rfl)
    obtain ⟨y0q4, y1q4, y2q4, y3q4, y4q4, y5q4⟩ := frozen6 (C18.out.cells 0 rfl)
    obtain ⟨x0q3, x1q3, x2q3, x3q3, x4q3, x5q3⟩ := cells6 (C18.out.cells 1 rfl)
    obtain ⟨y0q3, y1q3, y2q3, y3q3, y4q3, y5q3⟩ := frozen6 (C18.out.cells 1 rfl)
    obtain ⟨x0q2, x1q2, x2q2, x3q2, x4q2, x5q2⟩ := cells6 (C18.out.cells 2 rfl)
    obtain ⟨y0q2, y1q2, y2q2, y3q2, y4q2, y5q2⟩ := frozen6 (C18.out.cells 2 rfl)
    obtain ⟨x0q1, x1q1, x2q1, x3q1, x4q1, x5q1⟩ := cells6 (C18.out.cells 3 rfl)
    obtain ⟨y0q1, y1q1, y2q1, y3q1, y4q1, y5q1⟩ := frozen6 (C18.out.cells 3 rfl)
    obtain ⟨x0q0, x1q0, x2q0, x3q0, x4q0, x5q0⟩ := cells6 (C18.out.cells 4 rfl)
    obtain ⟨y0q0, y1q0, y2q0, y3q0, y4q0, y5q0⟩ := frozen6 (C18.out.cells 4 rfl)
    have ne_q4_q3 : w16.heap.size ≠ q3 := C18.out.differ 0 1 (by decide) rfl rfl
    have ne_q4_q2 : w16.heap.size ≠ q2 := C18.out.differ 0 2 (by decide) rfl rfl
    have ne_q4_q1 : w16.heap.size ≠ q1 := C18.out.differ 0 3 (by decide) rfl rfl
    have ne_q4_q0 : w16.heap.size ≠ q0 := C18.out.differ 0 4 (by decide) rfl rfl
    have ne_q3_q4 : q3 ≠ w16.heap.size := C18.out.differ 1 0 (by decide) rfl rfl
    have ne_q3_q2 : q3 ≠ q2 := C18.out.differ 1 2 (by decide) rfl rfl
    have ne_q3_q1 : q3 ≠ q1 := C18.out.differ 1 3 (by decide) rfl rfl
    have ne_q3_q0 : q3 ≠ q0 := C18.out.differ 1 4 (by decide) rfl rfl
    have ne_q2_q4 : q2 ≠ w16.heap.size := C18.out.differ 2 0 (by decide) rfl rfl
    have ne_q2_q3 : q2 ≠ q3 := C18.out.differ 2 1 (by decide) rfl rfl
    have ne_q2_q1 : q2 ≠ q1 := C18.out.differ 2 3 (by decide) rfl rfl
    have ne_q2_q0 : q2 ≠ q0 := C18.out.differ 2 4 (by decide) rfl rfl
    have ne_q1_q4 : q1 ≠ w16.heap.size := C18.out.differ 3 0 (by decide) rfl rfl
    have ne_q1_q3 : q1 ≠ q3 := C18.out.differ 3 1 (by decide) rfl rfl
    have ne_q1_q2 : q1 ≠ q2 := C18.out.differ 3 2 (by decide) rfl rfl
    have ne_q1_q0 : q1 ≠ q0 := C18.out.differ 3 4 (by decide) rfl rfl
    have ne_q0_q4 : q0 ≠ w16.heap.size := C18.out.differ 4 0 (by decide) rfl rfl
    have ne_q0_q3 : q0 ≠ q3 := C18.out.differ 4 1 (by decide) rfl rfl
    have ne_q0_q2 : q0 ≠ q2 := C18.out.differ 4 2 (by decide) rfl rfl
    have ne_q0_q1 : q0 ≠ q1 := C18.out.differ 4 3 (by decide) rfl rfl
    go_upto_region 9 with fail
    clear x0q4 x1q4 x2q4 x3q4 x4q4 x5q4 y0q4 y1q4 y2q4 y3q4 y4q4 y5q4 x0q3 x1q3 x2q3 x3q3 x4q3 x5q3 y0q3 y1q3 y2q3 y3q3 y4q3 y5q3 x0q2 x1q2 x2q2 x3q2 x4q2 x5q2 y0q2 y1q2 y2q2 y3q2 y4q2 y5q2 x0q1 x1q1 x2q1 x3q1 x4q1 x5q1 y0q1 y1q1 y2q1 y3q1 y4q1 y5q1 x0q0 x1q0 x2q0 x3q0 x4q0 x5q0 y0q0 y1q0 y2q0 y3q0 y4q0 y5q0 ne_q4_q3 ne_q4_q2 ne_q4_q1 ne_q4_q0 ne_q3_q4 ne_q3_q2 ne_q3_q1 ne_q3_q0 ne_q2_q4 ne_q2_q3 ne_q2_q1 ne_q2_q0 ne_q1_q4 ne_q1_q3 ne_q1_q2 ne_q1_q0 ne_q0_q4 ne_q0_q3 ne_q0_q2 ne_q0_q1
    obtain ⟨q4, e_q4⟩ : ∃ q, q = w16.heap.size := ⟨_, rfl⟩
    rw [← e_q4] at C18 ⊢
    clear e_q4
    generalize (World.alloc w16 _) = w19 at *
    obtain ⟨x0q4E, x1q4E, x2q4E, x3q4E, x4q4E, x5q4E⟩ := cells6 (C18.out.cells 0 rfl)
    obtain ⟨y0q4E, y1q4E, y2q4E, y3q4E, y4q4E, y5q4E⟩ := frozen6 (C18.out.cells 0 rfl)
    obtain ⟨x0q3E, x1q3E, x2q3E, x3q3E, x4q3E, x5q3E⟩ := cells6 (C18.out.cells 1 rfl)
    obtain ⟨y0q3E, y1q3E, y2q3E, y3q3E, y4q3E, y5q3E⟩ := frozen6 (C18.out.cells 1 rfl)
    obtain ⟨x0q2E, x1q2E, x2q2E, x3q2E, x4q2E, x5q2E⟩ := cells6 (C18.out.cells 2 rfl)
    obtain ⟨y0q2E, y1q2E, y2q2E, y3q2E, y4q2E, y5q2E⟩ := frozen6 (C18.out.cells 2 rfl)
    have C20 := Lib.hid (C18.out.alloc #[.int .i64 38, .string ⟨#[]⟩, .int .i64 0, .int .i64 0, .int .i64 0, .slice none 0 0, .int .i64 k13, .string (bs m13), .int .i64 n13, .int .i64 l13, .int .i64 c13, .slice A13 ks13.length cc13, .int .i64 k16, .string (bs m16), .int .i64 n16, .int .i64 l16, .int .i64 c16, .slice A16 ks16.length cc16])
    clear C18
    obtain ⟨A9, c9, N9, w9, hrun, k9⟩ := C20.out.append [(Nd.mk (38 : Nat) [] 0 0 0 [], [.int .i64 38, .string ⟨#[]⟩, .int .i64 0, .int .i64 0, .int .i64 0, .slice none 0 0]), (Nd.mk k13 m13 n13 l13 c13 ks13, [.int .i64 k13, .string (bs m13), .int .i64 n13, .int .i64 l13, .int .i64 c13, .slice A13 ks13.length cc13]), (Nd.mk k16 m16 n16 l16 c16 ks16, [.int .i64 k16, .string (bs m16), .int .i64 n16, .int .i64 l16, .int .i64 c16, .slice A16 ks16.length cc16])] (sub_cons List.mem_cons_self (sub_cons (List.mem_cons_of_mem _ (List.mem_cons_of_mem _ List.mem_cons_self)) (sub_cons (List.mem_cons_of_mem _ List.mem_cons_self) sub_nil))) rfl 3 rfl (by decide) (List.mem_cons_of_mem _ (List.mem_cons_of_mem _ (List.mem_cons_of_mem _ List.mem_cons_self))) (by have := LE.out; have := LS.out; omega) 6 nm 0 (hd s.l).line (hd s.l).col
    have HA := Lib.hid hrun
    have C200 := Lib.hid k9
    clear hrun k9 C20
    obtain ⟨x0q1, x1q1, x2q1, x3q1, x4q1, x5q1⟩ := cells6 (C200.out.cells 3 rfl)
    obtain ⟨y0q1, y1q1, y2q1, y3q1, y4q1, y5q1⟩ := frozen6 (C200.out.cells 3 rfl)
    obtain ⟨x0q0, x1q0, x2q0, x3q0, x4q0, x5q0⟩ := cells6 (C200.out.cells 4 rfl)
    obtain ⟨y0q0, y1q0, y2q0, y3q0, y4q0, y5q0⟩ := frozen6 (C200.out.cells 4 rfl)
    have ne_q1_q0 : q1 ≠ q0 := C200.out.differ 3 4 (by decide) rfl rfl
    have ne_q0_q1 : q0 ≠ q1 := C200.out.differ 4 3 (by decide) rfl rfl
    go_wp2_with (at_builtin; refine Lib.wpList_append_run _ rfl (.tmp 33) (.tmp 34) 25 25 rfl _ _ rfl rfl _ _ HA.out ?_)
    go_wp2_with fail
    have C201 := C200.out.set 3 rfl 5 (.slice A9 N9 c9)
    obtain ⟨b7, d7⟩ := C201.fin 4 rfl List.mem_cons_self
    exact bodyPost_ret (res_nodec (x := 2) (q := q0) (by kernel_rfl) rfl b7 rfl) rfl d7
end Go.Proofs.YtemmdbjcllcelaaDoor.Pa
