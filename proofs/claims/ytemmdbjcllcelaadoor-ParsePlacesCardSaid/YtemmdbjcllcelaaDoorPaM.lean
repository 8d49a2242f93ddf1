/-
  Package parse: rules, one by one (written by wip/genPa.py).
-/
import Derived.Test.YtemmdbjcllcelaaDoorPaJL
namespace Go.Proofs.YtemmdbjcllcelaaDoor.Pa
open Go.RowKit
open Go.Proofs.YtemmdbjcllcelaaDoor.Tk (Tok TokC bs tokA zeroTok set5 set5_blk set5_fr blk_set eqL)
set_option maxRecDepth 100000
theorem txt_yes {m l : List UInt8} (h : m = l) : ((bs m).toList == l) = true := by rw [Tk.bs_list, h]; simp
theorem txt_no {m l : List UInt8} (h : m ≠ l) : ((bs m).toList == l) = false := by rw [Tk.bs_list]; simpa using h
theorem txt_nyes {m l : List UInt8} (h : m = l) : (!((bs m).toList == l)) = false := by rw [txt_yes h]; rfl
theorem txt_nno {m l : List UInt8} (h : m ≠ l) : (!((bs m).toList == l)) = true := by rw [txt_no h]; rfl
theorem marks_row {w : World} {b : Nat} {ms : List (List UInt8)} {cs : Array Value} {t : TypeId} (h : w.heap[b]? = some (.cells cs t (0, 0))) (e : cs.toList = ms.map fun m => .string (bs m)) : b < w.heap.size ∧ ∀ (k : Nat) (m : List UInt8), ms[k]? = some m → w.cell? ⟨b, k, none⟩ = some (.string (bs m)) :=
  ⟨heap_lt h, fun k m hk => by
    rw [cell_of_row w b k _ _ _ h, ← Array.getElem?_toList, e, List.getElem?_map, hk]; rfl⟩
theorem next_at {w : World} {p cap nest : Nat} {A : Option Addr} {toks : List Tok} {s : St} (h : At w p A cap toks nest s) :
    Calls Tryd.prog 26 #[.pointer (some ⟨p, 0, none⟩)] w fun e w' => e = .returned (tokT (hd s.l)) ∧ Up w w' := by
  obtain ⟨j, t, h1, ht, hl⟩ := h.tok
  rw [hl]; exact next_any h1 ht
theorem num_yes {n m : Nat} (h : n = m) : ((n : Int) == (m : Int)) = true := by subst h; simp
theorem num_no {n m : Nat} (h : n ≠ m) : ((n : Int) == (m : Int)) = false := by simp; omega
theorem sub_nil {α : Type} {l : List α} : ∀ x ∈ ([] : List α), x ∈ l := fun _ h => (List.not_mem_nil h).elim
theorem sub_cons {α : Type} {l k : List α} {a : α} (h : a ∈ l) (h' : ∀ x ∈ k, x ∈ l) : ∀ x ∈ a :: k, x ∈ l := fun x hx => by
  rcases List.mem_cons.1 hx with rfl | hx
  · exact h
  · exact h' x hx
theorem Cx.node {w w0 : World} {p cap nest : Nat} {A : Option Addr} {toks : List Tok} {s : St} {vs : List (Nat × Array Value)} {ts : List (Nd × List Value)} (h : Cx w0 w p A cap toks nest s vs ts) {ks : List Nd} {u0 u1 u2 u3 u4 : Value} {B : Option Addr} {c : Nat} (hm : (Nd.mk 0 [] 0 0 0 ks, [u0, u1, u2, u3, u4, .slice B ks.length c]) ∈ ts) (kind : Nat) (nm : List UInt8) (n l c' : Nat) :
    Cx w0 w p A cap toks nest s vs ((Nd.mk kind nm n l c' ks, [.int .i64 kind, .string (bs nm), .int .i64 n, .int .i64 l, .int .i64 c', .slice B ks.length c]) :: ts) := by
  obtain ⟨A', c2, e, hk⟩ := (h.nd _ hm).row
  simp only [List.cons.injEq, Value.slice.injEq, and_true, true_and] at e
  obtain ⟨_, _, _, _, _, rfl, rfl⟩ := e
  exact h.know (NdC.of hk kind nm n l c')
set_option maxHeartbeats 4000000 in
theorem field_run {rd : Rule → Nat → M Nd} (I : Runs rd (.anyType) 58) : Runs (mstep rd) .field 53 := by
  intro w p A cap toks d s s' t h hd40 hp hm
  have D := Lib.hid hd40
  clear hd40
  have M1 := Lib.hid (show M.typedName rd 4 d s = some (t, s') from hm)
  clear hm hp
  have Ih := Lib.hid I
  clear I
  have C1 := Lib.hid ((Cx.start h).alloc z6)
  clear h
  go_enter Tryd.func53, Tryd.ntmps53
  go_wp2_with fail
  change Calls _ _ _ (w.alloc zeroNd) _
  obtain ⟨q0, e0⟩ : ∃ q, q = w.heap.size := ⟨_, rfl⟩
  rw [← e0] at C1 ⊢
  clear e0
  generalize w.alloc zeroNd = w1 at *
  refine (typedName_run Ih.out C1.out.at_ D.out M1.out).mono ?_
  rintro e w2 ⟨cs2, rfl, nd2, f2, a2⟩
  have C2 := Lib.hid (C1.out.tree f2 a2 nd2)
  obtain ⟨k2, m2, n2, l2, c2, ks2⟩ := t
  obtain ⟨A2, cc2, rfl, -⟩ := nd2.row
  clear nd2 f2 a2 C1
  obtain ⟨x0q0, x1q0, x2q0, x3q0, x4q0, x5q0⟩ := cells6 (C2.out.cells 0 rfl)
  obtain ⟨y0q0, y1q0, y2q0, y3q0, y4q0, y5q0⟩ := frozen6 (C2.out.cells 0 rfl)
  go_wp2_with fail
  obtain ⟨b7, d7⟩ := C2.out.fin 0 rfl List.mem_cons_self
  exact bodyPost_ret (res_nodec (x := 2) (q := q0) (by kernel_rfl) rfl b7 rfl) rfl d7
set_option maxHeartbeats 4000000 in
theorem param_run {rd : Rule → Nat → M Nd} (I : Runs rd (.anyType) 58) : Runs (mstep rd) .param 56 := by
  intro w p A cap toks d s s' t h hd40 hp hm
  have D := Lib.hid hd40
  clear hd40
  have M1 := Lib.hid (show M.typedName rd 7 d s = some (t, s') from hm)
  clear hm hp
  have Ih := Lib.hid I
  clear I
  have C1 := Lib.hid ((Cx.start h).alloc z6)
  clear h
  go_enter Tryd.func56, Tryd.ntmps56
  go_wp2_with fail
  change Calls _ _ _ (w.alloc zeroNd) _
  obtain ⟨q0, e0⟩ : ∃ q, q = w.heap.size := ⟨_, rfl⟩
  rw [← e0] at C1 ⊢
  clear e0
  generalize w.alloc zeroNd = w1 at *
  refine (typedName_run Ih.out C1.out.at_ D.out M1.out).mono ?_
  rintro e w2 ⟨cs2, rfl, nd2, f2, a2⟩
  have C2 := Lib.hid (C1.out.tree f2 a2 nd2)
  obtain ⟨k2, m2, n2, l2, c2, ks2⟩ := t
  obtain ⟨A2, cc2, rfl, -⟩ := nd2.row
  clear nd2 f2 a2 C1
  obtain ⟨x0q0, x1q0, x2q0, x3q0, x4q0, x5q0⟩ := cells6 (C2.out.cells 0 rfl)
  obtain ⟨y0q0, y1q0, y2q0, y3q0, y4q0, y5q0⟩ := frozen6 (C2.out.cells 0 rfl)
  go_wp2_with fail
  obtain ⟨b7, d7⟩ := C2.out.fin 0 rfl List.mem_cons_self
  exact bodyPost_ret (res_nodec (x := 2) (q := q0) (by kernel_rfl) rfl b7 rfl) rfl d7
set_option maxHeartbeats 4000000 in
theorem typeDecl_run {rd : Rule → Nat → M Nd} (I : RunsL rd (.braced .method) 51 (fun p => #[.pointer (some ⟨p, 0, none⟩), mv 52 p])) (J : RunsL rd (.braced .field) 51 (fun p => #[.pointer (some ⟨p, 0, none⟩), mv 53 p])) : Runs (mstep rd) .typeDecl 30 := by
  intro w p A cap toks d s s' t h hd40 hp hm
  have D := Lib.hid hd40
  clear hd40
  have hk : (hd s.l).kind ≠ 0 := hp
  have K := Lib.hid hk
  clear hk hp
  have Ih := Lib.hid I
  have Jh := Lib.hid J
  clear I J
  have hx := then_some (pass_some (peek_some hm))
  clear hm
  obtain ⟨nm, s1, h1, hm⟩ := hx
  have hx := then_some hm
  clear hm
  obtain ⟨b, s2, h2, hm⟩ := hx
  have M1 := Lib.hid h1
  clear h1
  rcases takes_some h2 with ⟨e2, rfl, rfl⟩ | ⟨e2, rfl, rfl⟩
  · clear h2
    have hx := then_some (ite_yes rfl hm)
    clear hm
    obtain ⟨t1, s3, h3, hm⟩ := hx
    obtain ⟨rfl, rfl⟩ := ret_some hm
    clear hm
    have M3 := Lib.hid h3
    have E2 := Lib.hid e2
    clear h3 e2
    have C1 := Lib.hid ((Cx.start h).alloc z6)
    clear h
    go_enter Tryd.func30, Tryd.ntmps30
    go_wp2_with fail
    change Calls _ _ _ (w.alloc zeroNd) _
    obtain ⟨q0, e0⟩ : ∃ q, q = w.heap.size := ⟨_, rfl⟩
    rw [← e0] at C1 ⊢
    clear e0
    generalize w.alloc zeroNd = w1 at *
    refine (pass_at C1.out.at_ K.out 2).mono ?_
    rintro e w2 ⟨rfl, a2, f2⟩
    have C2 := Lib.hid (C1.out.call f2 a2)
    clear a2 f2 C1
    have C3 := Lib.hid (C2.out.alloc #[.int .i64 (2 : Nat), .string (bs []), .int .i64 0, .int .i64 (hd s.l).line, .int .i64 (hd s.l).col, .slice none 0 0])
    clear C2
    obtain ⟨x0q1, x1q1, x2q1, x3q1, x4q1, x5q1⟩ := cells6 (C3.out.cells 0 rfl)
    obtain ⟨y0q1, y1q1, y2q1, y3q1, y4q1, y5q1⟩ := frozen6 (C3.out.cells 0 rfl)
    obtain ⟨x0q0, x1q0, x2q0, x3q0, x4q0, x5q0⟩ := cells6 (C3.out.cells 1 rfl)
    obtain ⟨y0q0, y1q0, y2q0, y3q0, y4q0, y5q0⟩ := frozen6 (C3.out.cells 1 rfl)
    have ne_q1_q0 : w2.heap.size ≠ q0 := C3.out.differ 0 1 (by decide) rfl rfl
    have ne_q0_q1 : q0 ≠ w2.heap.size := C3.out.differ 1 0 (by decide) rfl rfl
    go_wp2_with fail
    clear x0q1 x1q1 x2q1 x3q1 x4q1 x5q1 y0q1 y1q1 y2q1 y3q1 y4q1 y5q1 x0q0 x1q0 x2q0 x3q0 x4q0 x5q0 y0q0 y1q0 y2q0 y3q0 y4q0 y5q0 ne_q1_q0 ne_q0_q1
    obtain ⟨q1, e_q1⟩ : ∃ q, q = w2.heap.size := ⟨_, rfl⟩
    rw [← e_q1] at C3 ⊢
    clear e_q1
    generalize (World.alloc w2 _) = w4 at *
    refine (name_at C3.out.at_ M1.out).mono ?_
    rintro e w5 ⟨rfl, a5, f5⟩
    have C5 := Lib.hid (C3.out.call f5 a5)
    clear a5 f5 C3
    obtain ⟨x0q1, x1q1, x2q1, x3q1, x4q1, x5q1⟩ := cells6 (C5.out.cells 0 rfl)
    obtain ⟨y0q1, y1q1, y2q1, y3q1, y4q1, y5q1⟩ := frozen6 (C5.out.cells 0 rfl)
    obtain ⟨x0q0, x1q0, x2q0, x3q0, x4q0, x5q0⟩ := cells6 (C5.out.cells 1 rfl)
    obtain ⟨y0q0, y1q0, y2q0, y3q0, y4q0, y5q0⟩ := frozen6 (C5.out.cells 1 rfl)
    have ne_q1_q0 : q1 ≠ q0 := C5.out.differ 0 1 (by decide) rfl rfl
    have ne_q0_q1 : q0 ≠ q1 := C5.out.differ 1 0 (by decide) rfl rfl
    go_wp2_with fail
    clear x0q1 x1q1 x2q1 x3q1 x4q1 x5q1 y0q1 y1q1 y2q1 y3q1 y4q1 y5q1 x0q0 x1q0 x2q0 x3q0 x4q0 x5q0 y0q0 y1q0 y2q0 y3q0 y4q0 y5q0 ne_q1_q0 ne_q0_q1
    have C6 := Lib.hid (C5.out.set 0 rfl 1 (.string (bs nm)))
    clear C5
    generalize (World.setCell w5 _ _) = w7 at *
    refine (takes_yes_at C6.out.at_ E2.out (by decide)).mono ?_
    rintro e w8 ⟨rfl, a8, f8⟩
    have C8 := Lib.hid (C6.out.call f8 a8)
    clear a8 f8 C6
    obtain ⟨x0q1, x1q1, x2q1, x3q1, x4q1, x5q1⟩ := cells6 (C8.out.cells 0 rfl)
    obtain ⟨y0q1, y1q1, y2q1, y3q1, y4q1, y5q1⟩ := frozen6 (C8.out.cells 0 rfl)
    obtain ⟨x0q0, x1q0, x2q0, x3q0, x4q0, x5q0⟩ := cells6 (C8.out.cells 1 rfl)
    obtain ⟨y0q0, y1q0, y2q0, y3q0, y4q0, y5q0⟩ := frozen6 (C8.out.cells 1 rfl)
    have ne_q1_q0 : q1 ≠ q0 := C8.out.differ 0 1 (by decide) rfl rfl
    have ne_q0_q1 : q0 ≠ q1 := C8.out.differ 1 0 (by decide) rfl rfl
    go_wp2_with fail
    clear x0q1 x1q1 x2q1 x3q1 x4q1 x5q1 y0q1 y1q1 y2q1 y3q1 y4q1 y5q1 x0q0 x1q0 x2q0 x3q0 x4q0 x5q0 y0q0 y1q0 y2q0 y3q0 y4q0 y5q0 ne_q1_q0 ne_q0_q1
    have C9 := Lib.hid (C8.out.set 0 rfl 0 (.int .i64 3))
    clear C8
    generalize (World.setCell w8 _ _) = w10 at *
    refine (Ih.out _ p A cap toks d _ _ _ C9.out.at_ D.out (by simp [Pre, Line]) M3.out).mono ?_
    rintro e w11 ⟨B11, cc11, rfl, kd11, f11, a11⟩
    have C11 := Lib.hid (C9.out.tree f11 a11 (NdC.of kd11 0 [] 0 0 0))
    clear kd11 f11 a11 C9
    have C12 := Lib.hid (C11.out.node List.mem_cons_self (3 : Nat) (nm) 0 (hd s.l).line (hd s.l).col)
    clear C11
    obtain ⟨x0q1, x1q1, x2q1, x3q1, x4q1, x5q1⟩ := cells6 (C12.out.cells 0 rfl)
    obtain ⟨y0q1, y1q1, y2q1, y3q1, y4q1, y5q1⟩ := frozen6 (C12.out.cells 0 rfl)
    obtain ⟨x0q0, x1q0, x2q0, x3q0, x4q0, x5q0⟩ := cells6 (C12.out.cells 1 rfl)
    obtain ⟨y0q0, y1q0, y2q0, y3q0, y4q0, y5q0⟩ := frozen6 (C12.out.cells 1 rfl)
    have ne_q1_q0 : q1 ≠ q0 := C12.out.differ 0 1 (by decide) rfl rfl
    have ne_q0_q1 : q0 ≠ q1 := C12.out.differ 1 0 (by decide) rfl rfl
    go_wp2_with fail
    have C13 := Lib.hid (C12.out.set 0 rfl 5 (.slice B11 t1.kids.length cc11))
    clear C12
    obtain ⟨b7, d7⟩ := C13.out.fin 1 rfl List.mem_cons_self
    exact bodyPost_ret (res_nodec (x := 2) (q := q0) (by kernel_rfl) rfl b7 rfl) rfl d7
  · clear h2
    have hx := then_some (ite_no Bool.false_ne_true hm)
    clear hm
    obtain ⟨⟨⟩, s3, h3, hm⟩ := hx
    have hx := then_some hm
    clear hm
    obtain ⟨t1, s4, h4, hm⟩ := hx
    obtain ⟨rfl, rfl⟩ := ret_some hm
    clear hm
    have M3 := Lib.hid h3
    have M4 := Lib.hid h4
    have E2 := Lib.hid e2
    clear h3 h4 e2
    have C1 := Lib.hid ((Cx.start h).alloc z6)
    clear h
    go_enter Tryd.func30, Tryd.ntmps30
    go_wp2_with fail
    change Calls _ _ _ (w.alloc zeroNd) _
    obtain ⟨q0, e0⟩ : ∃ q, q = w.heap.size := ⟨_, rfl⟩
    rw [← e0] at C1 ⊢
    clear e0
    generalize w.alloc zeroNd = w1 at *
    refine (pass_at C1.out.at_ K.out 2).mono ?_
    rintro e w2 ⟨rfl, a2, f2⟩
    have C2 := Lib.hid (C1.out.call f2 a2)
    clear a2 f2 C1
    have C3 := Lib.hid (C2.out.alloc #[.int .i64 (2 : Nat), .string (bs []), .int .i64 0, .int .i64 (hd s.l).line, .int .i64 (hd s.l).col, .slice none 0 0])
    clear C2
    obtain ⟨x0q1, x1q1, x2q1, x3q1, x4q1, x5q1⟩ := cells6 (C3.out.cells 0 rfl)
    obtain ⟨y0q1, y1q1, y2q1, y3q1, y4q1, y5q1⟩ := frozen6 (C3.out.cells 0 rfl)
    obtain ⟨x0q0, x1q0, x2q0, x3q0, x4q0, x5q0⟩ := cells6 (C3.out.cells 1 rfl)
    obtain ⟨y0q0, y1q0, y2q0, y3q0, y4q0, y5q0⟩ := frozen6 (C3.out.cells 1 rfl)
    have ne_q1_q0 : w2.heap.size ≠ q0 := C3.out.differ 0 1 (by decide) rfl rfl
    have ne_q0_q1 : q0 ≠ w2.heap.size := C3.out.differ 1 0 (by decide) rfl rfl
    go_wp2_with fail
    clear x0q1 x1q1 x2q1 x3q1 x4q1 x5q1 y0q1 y1q1 y2q1 y3q1 y4q1 y5q1 x0q0 x1q0 x2q0 x3q0 x4q0 x5q0 y0q0 y1q0 y2q0 y3q0 y4q0 y5q0 ne_q1_q0 ne_q0_q1
    obtain ⟨q1, e_q1⟩ : ∃ q, q = w2.heap.size := ⟨_, rfl⟩
    rw [← e_q1] at C3 ⊢
    clear e_q1
    generalize (World.alloc w2 _) = w4 at *
    refine (name_at C3.out.at_ M1.out).mono ?_
    rintro e w5 ⟨rfl, a5, f5⟩
    have C5 := Lib.hid (C3.out.call f5 a5)
    clear a5 f5 C3
    obtain ⟨x0q1, x1q1, x2q1, x3q1, x4q1, x5q1⟩ := cells6 (C5.out.cells 0 rfl)
    obtain ⟨y0q1, y1q1, y2q1, y3q1, y4q1, y5q1⟩ := frozen6 (C5.out.cells 0 rfl)
    obtain ⟨x0q0, x1q0, x2q0, x3q0, x4q0, x5q0⟩ := cells6 (C5.out.cells 1 rfl)
    obtain ⟨y0q0, y1q0, y2q0, y3q0, y4q0, y5q0⟩ := frozen6 (C5.out.cells 1 rfl)
    have ne_q1_q0 : q1 ≠ q0 := C5.out.differ 0 1 (by decide) rfl rfl
    have ne_q0_q1 : q0 ≠ q1 := C5.out.differ 1 0 (by decide) rfl rfl
    go_wp2_with fail
    clear x0q1 x1q1 x2q1 x3q1 x4q1 x5q1 y0q1 y1q1 y2q1 y3q1 y4q1 y5q1 x0q0 x1q0 x2q0 x3q0 x4q0 x5q0 y0q0 y1q0 y2q0 y3q0 y4q0 y5q0 ne_q1_q0 ne_q0_q1
    have C6 := Lib.hid (C5.out.set 0 rfl 1 (.string (bs nm)))
    clear C5
    generalize (World.setCell w5 _ _) = w7 at *
    refine (takes_no_at C6.out.at_ E2.out).mono ?_
    rintro e w8 ⟨rfl, u8⟩
    have C8 := Lib.hid (C6.out.up u8)
    clear u8 C6
    obtain ⟨x0q1, x1q1, x2q1, x3q1, x4q1, x5q1⟩ := cells6 (C8.out.cells 0 rfl)
    obtain ⟨y0q1, y1q1, y2q1, y3q1, y4q1, y5q1⟩ := frozen6 (C8.out.cells 0 rfl)
    obtain ⟨x0q0, x1q0, x2q0, x3q0, x4q0, x5q0⟩ := cells6 (C8.out.cells 1 rfl)
    obtain ⟨y0q0, y1q0, y2q0, y3q0, y4q0, y5q0⟩ := frozen6 (C8.out.cells 1 rfl)
    have ne_q1_q0 : q1 ≠ q0 := C8.out.differ 0 1 (by decide) rfl rfl
    have ne_q0_q1 : q0 ≠ q1 := C8.out.differ 1 0 (by decide) rfl rfl
    go_wp2_with fail
    clear x0q1 x1q1 x2q1 x3q1 x4q1 x5q1 y0q1 y1q1 y2q1 y3q1 y4q1 y5q1 x0q0 x1q0 x2q0 x3q0 x4q0 x5q0 y0q0 y1q0 y2q0 y3q0 y4q0 y5q0 ne_q1_q0 ne_q0_q1
    refine (want_at C8.out.at_ (by decide) M3.out).mono ?_
    rintro e w9 ⟨rfl, a9, f9⟩
    have C9 := Lib.hid (C8.out.call f9 a9)
    clear a9 f9 C8
    obtain ⟨x0q1, x1q1, x2q1, x3q1, x4q1, x5q1⟩ := cells6 (C9.out.cells 0 rfl)
    obtain ⟨y0q1, y1q1, y2q1, y3q1, y4q1, y5q1⟩ := frozen6 (C9.out.cells 0 rfl)
    obtain ⟨x0q0, x1q0, x2q0, x3q0, x4q0, x5q0⟩ := cells6 (C9.out.cells 1 rfl)
    obtain ⟨y0q0, y1q0, y2q0, y3q0, y4q0, y5q0⟩ := frozen6 (C9.out.cells 1 rfl)
    have ne_q1_q0 : q1 ≠ q0 := C9.out.differ 0 1 (by decide) rfl rfl
    have ne_q0_q1 : q0 ≠ q1 := C9.out.differ 1 0 (by decide) rfl rfl
    go_wp2_with fail
    clear x0q1 x1q1 x2q1 x3q1 x4q1 x5q1 y0q1 y1q1 y2q1 y3q1 y4q1 y5q1 x0q0 x1q0 x2q0 x3q0 x4q0 x5q0 y0q0 y1q0 y2q0 y3q0 y4q0 y5q0 ne_q1_q0 ne_q0_q1
    refine (Jh.out _ p A cap toks d _ _ _ C9.out.at_ D.out (by simp [Pre, Line]) M4.out).mono ?_
    rintro e w10 ⟨B10, cc10, rfl, kd10, f10, a10⟩
    have C10 := Lib.hid (C9.out.tree f10 a10 (NdC.of kd10 0 [] 0 0 0))
    clear kd10 f10 a10 C9
    have C11 := Lib.hid (C10.out.node List.mem_cons_self (2 : Nat) (nm) 0 (hd s.l).line (hd s.l).col)
    clear C10
    obtain ⟨x0q1, x1q1, x2q1, x3q1, x4q1, x5q1⟩ := cells6 (C11.out.cells 0 rfl)
    obtain ⟨y0q1, y1q1, y2q1, y3q1, y4q1, y5q1⟩ := frozen6 (C11.out.cells 0 rfl)
    obtain ⟨x0q0, x1q0, x2q0, x3q0, x4q0, x5q0⟩ := cells6 (C11.out.cells 1 rfl)
    obtain ⟨y0q0, y1q0, y2q0, y3q0, y4q0, y5q0⟩ := frozen6 (C11.out.cells 1 rfl)
    have ne_q1_q0 : q1 ≠ q0 := C11.out.differ 0 1 (by decide) rfl rfl
    have ne_q0_q1 : q0 ≠ q1 := C11.out.differ 1 0 (by decide) rfl rfl
    go_wp2_with fail
    have C12 := Lib.hid (C11.out.set 0 rfl 5 (.slice B10 t1.kids.length cc10))
    clear C11
    obtain ⟨b7, d7⟩ := C12.out.fin 1 rfl List.mem_cons_self
    exact bodyPost_ret (res_nodec (x := 2) (q := q0) (by kernel_rfl) rfl b7 rfl) rfl d7
set_option maxHeartbeats 4000000 in
theorem decl_run {rd : Rule → Nat → M Nd} (I : Runs rd (.typeDecl) 30) (J : Runs rd (.funcDecl) 31) : Runs (mstep rd) .decl 18 := by
  intro w p A cap toks d s s' t h hd40 hp hm
  have D := Lib.hid hd40
  clear hd40
  replace hm := peek_some hm
  clear hp
  have Ih := Lib.hid I
  have Jh := Lib.hid J
  clear I J
  by_cases e1 : mark s.l = [116, 121, 112, 101]
  · replace hm := ite_yes e1 hm
    have q1 := txt_yes e1
    have M1 := Lib.hid hm
    have E1 := Lib.hid e1
    clear hm e1
    have C1 := Lib.hid ((Cx.start h).alloc z6)
    clear h
    go_enter Tryd.func18, Tryd.ntmps18
    go_wp2_with fail
    change Calls _ _ _ (w.alloc zeroNd) _
    obtain ⟨q0, e0⟩ : ∃ q, q = w.heap.size := ⟨_, rfl⟩
    rw [← e0] at C1 ⊢
    clear e0
    generalize w.alloc zeroNd = w1 at *
    refine (mark_at C1.out.at_).mono ?_
    rintro e w2 ⟨rfl, u2⟩
    have C2 := Lib.hid (C1.out.up u2)
    clear u2 C1
    obtain ⟨x0q0, x1q0, x2q0, x3q0, x4q0, x5q0⟩ := cells6 (C2.out.cells 0 rfl)
    obtain ⟨y0q0, y1q0, y2q0, y3q0, y4q0, y5q0⟩ := frozen6 (C2.out.cells 0 rfl)
    go_wp2_with fail
    clear x0q0 x1q0 x2q0 x3q0 x4q0 x5q0 y0q0 y1q0 y2q0 y3q0 y4q0 y5q0
    refine (Ih.out _ p A cap toks d _ _ _ C2.out.at_ D.out (kind_of_mark E1.out (by decide)) M1.out).mono ?_
    rintro e w3 ⟨cs3, rfl, nd3, f3, a3⟩
    have C3 := Lib.hid (C2.out.tree f3 a3 nd3)
    obtain ⟨k3, m3, n3, l3, c3, ks3⟩ := t
    obtain ⟨A3, cc3, rfl, -⟩ := nd3.row
    clear nd3 f3 a3 C2
    obtain ⟨x0q0, x1q0, x2q0, x3q0, x4q0, x5q0⟩ := cells6 (C3.out.cells 0 rfl)
    obtain ⟨y0q0, y1q0, y2q0, y3q0, y4q0, y5q0⟩ := frozen6 (C3.out.cells 0 rfl)
    go_wp2_with fail
    obtain ⟨b7, d7⟩ := C3.out.fin 0 rfl List.mem_cons_self
    exact bodyPost_ret (res_nodec (x := 2) (q := q0) (by kernel_rfl) rfl b7 rfl) rfl d7
  · replace hm := ite_no e1 hm
    have q1 := txt_no e1
    clear e1
    by_cases e2 : mark s.l = [102, 117, 110, 99]
    · replace hm := ite_yes e2 hm
      have q2 := txt_yes e2
      have M1 := Lib.hid hm
      have E2 := Lib.hid e2
      clear hm e2
      have C1 := Lib.hid ((Cx.start h).alloc z6)
      clear h
      go_enter Tryd.func18, Tryd.ntmps18
      go_wp2_with fail
      change Calls _ _ _ (w.alloc zeroNd) _
      obtain ⟨q0, e0⟩ : ∃ q, q = w.heap.size := ⟨_, rfl⟩
      rw [← e0] at C1 ⊢
      clear e0
      generalize w.alloc zeroNd = w1 at *
      refine (mark_at C1.out.at_).mono ?_
      rintro e w2 ⟨rfl, u2⟩
      have C2 := Lib.hid (C1.out.up u2)
      clear u2 C1
      obtain ⟨x0q0, x1q0, x2q0, x3q0, x4q0, x5q0⟩ := cells6 (C2.out.cells 0 rfl)
      obtain ⟨y0q0, y1q0, y2q0, y3q0, y4q0, y5q0⟩ := frozen6 (C2.out.cells 0 rfl)
      go_wp2_with fail
      clear x0q0 x1q0 x2q0 x3q0 x4q0 x5q0 y0q0 y1q0 y2q0 y3q0 y4q0 y5q0
      refine (Jh.out _ p A cap toks d _ _ _ C2.out.at_ D.out (kind_of_mark E2.out (by decide)) M1.out).mono ?_
      rintro e w3 ⟨cs3, rfl, nd3, f3, a3⟩
      have C3 := Lib.hid (C2.out.tree f3 a3 nd3)
      obtain ⟨k3, m3, n3, l3, c3, ks3⟩ := t
      obtain ⟨A3, cc3, rfl, -⟩ := nd3.row
      clear nd3 f3 a3 C2
      obtain ⟨x0q0, x1q0, x2q0, x3q0, x4q0, x5q0⟩ := cells6 (C3.out.cells 0 rfl)
      obtain ⟨y0q0, y1q0, y2q0, y3q0, y4q0, y5q0⟩ := frozen6 (C3.out.cells 0 rfl)
      go_wp2_with fail
      obtain ⟨b7, d7⟩ := C3.out.fin 0 rfl List.mem_cons_self
      exact bodyPost_ret (res_nodec (x := 2) (q := q0) (by kernel_rfl) rfl b7 rfl) rfl d7
    · replace hm := ite_no e2 hm
      have q2 := txt_no e2
      clear e2
      have hx := then_some hm
      clear hm
      obtain ⟨⟨⟩, sF, hF, hm⟩ := hx
      have MF := Lib.hid hF
      clear hF
      obtain ⟨rfl, rfl⟩ := ret_some hm
      clear hm
      have C1 := Lib.hid ((Cx.start h).alloc z6)
      clear h
      go_enter Tryd.func18, Tryd.ntmps18
      go_wp2_with fail
      change Calls _ _ _ (w.alloc zeroNd) _
      obtain ⟨q0, e0⟩ : ∃ q, q = w.heap.size := ⟨_, rfl⟩
      rw [← e0] at C1 ⊢
      clear e0
      generalize w.alloc zeroNd = w1 at *
      refine (mark_at C1.out.at_).mono ?_
      rintro e w2 ⟨rfl, u2⟩
      have C2 := Lib.hid (C1.out.up u2)
      clear u2 C1
      obtain ⟨x0q0, x1q0, x2q0, x3q0, x4q0, x5q0⟩ := cells6 (C2.out.cells 0 rfl)
      obtain ⟨y0q0, y1q0, y2q0, y3q0, y4q0, y5q0⟩ := frozen6 (C2.out.cells 0 rfl)
      go_wp2_with fail
      clear x0q0 x1q0 x2q0 x3q0 x4q0 x5q0 y0q0 y1q0 y2q0 y3q0 y4q0 y5q0
      refine (fail_at C2.out.at_ (e := 13) MF.out).mono ?_
      rintro e w3 ⟨rfl, a3, f3⟩
      have C3 := Lib.hid (C2.out.call f3 a3)
      clear a3 f3 C2
      have C4 := Lib.hid (C3.out.know (NdC.leaf _ _ (0 : Nat) ([]) 0 0 0))
      clear C3
      obtain ⟨x0q0, x1q0, x2q0, x3q0, x4q0, x5q0⟩ := cells6 (C4.out.cells 0 rfl)
      obtain ⟨y0q0, y1q0, y2q0, y3q0, y4q0, y5q0⟩ := frozen6 (C4.out.cells 0 rfl)
      go_wp2_with fail
      obtain ⟨b7, d7⟩ := C4.out.fin 0 rfl List.mem_cons_self
      exact bodyPost_ret (res_nodec (x := 2) (q := q0) (by kernel_rfl) rfl b7 rfl) rfl d7
set_option maxHeartbeats 4000000 in
theorem block_run {rd : Rule → Nat → M Nd} (I : RunsL rd (.braced .stmt) 51 (fun p => #[.pointer (some ⟨p, 0, none⟩), mv 74 p])) : Runs (mstep rd) .block 59 := by
  intro w p A cap toks d s s' t h hd40 hp hm
  have D := Lib.hid hd40
  clear hd40
  have hx := then_some (peek_some hm)
  clear hm
  obtain ⟨t1, s1, h1, hm⟩ := hx
  obtain ⟨rfl, rfl⟩ := ret_some hm
  clear hm
  have M1 := Lib.hid h1
  clear h1
  clear hp
  have Ih := Lib.hid I
  clear I
  have C1 := Lib.hid ((Cx.start h).alloc z6)
  clear h
  go_enter Tryd.func59, Tryd.ntmps59
  go_wp2_with fail
  change Calls _ _ _ (w.alloc zeroNd) _
  obtain ⟨q0, e0⟩ : ∃ q, q = w.heap.size := ⟨_, rfl⟩
  rw [← e0] at C1 ⊢
  clear e0
  generalize w.alloc zeroNd = w1 at *
  refine (begin_at C1.out.at_ 10).mono ?_
  rintro e w2 ⟨rfl, u2⟩
  have C2 := Lib.hid (C1.out.up u2)
  clear u2 C1
  have C3 := Lib.hid (C2.out.alloc #[.int .i64 (10 : Nat), .string (bs []), .int .i64 0, .int .i64 (hd s.l).line, .int .i64 (hd s.l).col, .slice none 0 0])
  clear C2
  obtain ⟨x0q1, x1q1, x2q1, x3q1, x4q1, x5q1⟩ := cells6 (C3.out.cells 0 rfl)
  obtain ⟨y0q1, y1q1, y2q1, y3q1, y4q1, y5q1⟩ := frozen6 (C3.out.cells 0 rfl)
  obtain ⟨x0q0, x1q0, x2q0, x3q0, x4q0, x5q0⟩ := cells6 (C3.out.cells 1 rfl)
  obtain ⟨y0q0, y1q0, y2q0, y3q0, y4q0, y5q0⟩ := frozen6 (C3.out.cells 1 rfl)
  have ne_q1_q0 : w2.heap.size ≠ q0 := C3.out.differ 0 1 (by decide) rfl rfl
  have ne_q0_q1 : q0 ≠ w2.heap.size := C3.out.differ 1 0 (by decide) rfl rfl
  go_wp2_with fail
  clear x0q1 x1q1 x2q1 x3q1 x4q1 x5q1 y0q1 y1q1 y2q1 y3q1 y4q1 y5q1 x0q0 x1q0 x2q0 x3q0 x4q0 x5q0 y0q0 y1q0 y2q0 y3q0 y4q0 y5q0 ne_q1_q0 ne_q0_q1
  obtain ⟨q1, e_q1⟩ : ∃ q, q = w2.heap.size := ⟨_, rfl⟩
  rw [← e_q1] at C3 ⊢
  clear e_q1
  generalize (World.alloc w2 _) = w4 at *
  refine (Ih.out _ p A cap toks d _ _ _ C3.out.at_ D.out (by simp [Pre, Line]) M1.out).mono ?_
  rintro e w5 ⟨B5, cc5, rfl, kd5, f5, a5⟩
  have C5 := Lib.hid (C3.out.tree f5 a5 (NdC.of kd5 0 [] 0 0 0))
  clear kd5 f5 a5 C3
  have C6 := Lib.hid (C5.out.node List.mem_cons_self (10 : Nat) ([]) 0 (hd s.l).line (hd s.l).col)
  clear C5
  obtain ⟨x0q1, x1q1, x2q1, x3q1, x4q1, x5q1⟩ := cells6 (C6.out.cells 0 rfl)
  obtain ⟨y0q1, y1q1, y2q1, y3q1, y4q1, y5q1⟩ := frozen6 (C6.out.cells 0 rfl)
  obtain ⟨x0q0, x1q0, x2q0, x3q0, x4q0, x5q0⟩ := cells6 (C6.out.cells 1 rfl)
  obtain ⟨y0q0, y1q0, y2q0, y3q0, y4q0, y5q0⟩ := frozen6 (C6.out.cells 1 rfl)
  have ne_q1_q0 : q1 ≠ q0 := C6.out.differ 0 1 (by decide) rfl rfl
  have ne_q0_q1 : q0 ≠ q1 := C6.out.differ 1 0 (by decide) rfl rfl
  go_wp2_with fail
  have C7 := Lib.hid (C6.out.set 0 rfl 5 (.slice B5 t1.kids.length cc5))
  clear C6
  obtain ⟨b7, d7⟩ := C7.out.fin 1 rfl List.mem_cons_self
  exact bodyPost_ret (res_nodec (x := 2) (q := q0) (by kernel_rfl) rfl b7 rfl) rfl d7
set_option maxHeartbeats 4000000 in
theorem file_run {rd : Rule → Nat → M Nd} (I : RunsL rd (.lines .decl true) 17 (fun p => #[.pointer (some ⟨p, 0, none⟩), mv 18 p, mv 19 p])) : Runs (mstep rd) .file 13 := by
  intro w p A cap toks d s s' t h hd40 hp hm
  have D := Lib.hid hd40
  clear hd40
  have hx := then_some (peek_some hm)
  clear hm
  obtain ⟨t1, s1, h1, hm⟩ := hx
  obtain ⟨rfl, rfl⟩ := ret_some hm
  clear hm
  have M1 := Lib.hid h1
  clear h1
  clear hp
  have Ih := Lib.hid I
  clear I
  have C1 := Lib.hid ((Cx.start h).alloc z6)
  clear h
  go_enter Tryd.func13, Tryd.ntmps13
  go_wp2_with fail
  change Calls _ _ _ (w.alloc zeroNd) _
  obtain ⟨q0, e0⟩ : ∃ q, q = w.heap.size := ⟨_, rfl⟩
  rw [← e0] at C1 ⊢
  clear e0
  generalize w.alloc zeroNd = w1 at *
  refine (begin_at C1.out.at_ 1).mono ?_
  rintro e w2 ⟨rfl, u2⟩
  have C2 := Lib.hid (C1.out.up u2)
  clear u2 C1
  have C3 := Lib.hid (C2.out.alloc #[.int .i64 (1 : Nat), .string (bs []), .int .i64 0, .int .i64 (hd s.l).line, .int .i64 (hd s.l).col, .slice none 0 0])
  clear C2
  obtain ⟨x0q1, x1q1, x2q1, x3q1, x4q1, x5q1⟩ := cells6 (C3.out.cells 0 rfl)
  obtain ⟨y0q1, y1q1, y2q1, y3q1, y4q1, y5q1⟩ := frozen6 (C3.out.cells 0 rfl)
  obtain ⟨x0q0, x1q0, x2q0, x3q0, x4q0, x5q0⟩ := cells6 (C3.out.cells 1 rfl)
  obtain ⟨y0q0, y1q0, y2q0, y3q0, y4q0, y5q0⟩ := frozen6 (C3.out.cells 1 rfl)
  have ne_q1_q0 : w2.heap.size ≠ q0 := C3.out.differ 0 1 (by decide) rfl rfl
  have ne_q0_q1 : q0 ≠ w2.heap.size := C3.out.differ 1 0 (by decide) rfl rfl
  go_wp2_with fail
  clear x0q1 x1q1 x2q1 x3q1 x4q1 x5q1 y0q1 y1q1 y2q1 y3q1 y4q1 y5q1 x0q0 x1q0 x2q0 x3q0 x4q0 x5q0 y0q0 y1q0 y2q0 y3q0 y4q0 y5q0 ne_q1_q0 ne_q0_q1
  obtain ⟨q1, e_q1⟩ : ∃ q, q = w2.heap.size := ⟨_, rfl⟩
  rw [← e_q1] at C3 ⊢
  clear e_q1
  generalize (World.alloc w2 _) = w4 at *
  refine (Ih.out _ p A cap toks d _ _ _ C3.out.at_ D.out (by simp [Pre, Line]) M1.out).mono ?_
  rintro e w5 ⟨B5, cc5, rfl, kd5, f5, a5⟩
  have C5 := Lib.hid (C3.out.tree f5 a5 (NdC.of kd5 0 [] 0 0 0))
  clear kd5 f5 a5 C3
  have C6 := Lib.hid (C5.out.node List.mem_cons_self (1 : Nat) ([]) 0 (hd s.l).line (hd s.l).col)
  clear C5
  obtain ⟨x0q1, x1q1, x2q1, x3q1, x4q1, x5q1⟩ := cells6 (C6.out.cells 0 rfl)
  obtain ⟨y0q1, y1q1, y2q1, y3q1, y4q1, y5q1⟩ := frozen6 (C6.out.cells 0 rfl)
  obtain ⟨x0q0, x1q0, x2q0, x3q0, x4q0, x5q0⟩ := cells6 (C6.out.cells 1 rfl)
  obtain ⟨y0q0, y1q0, y2q0, y3q0, y4q0, y5q0⟩ := frozen6 (C6.out.cells 1 rfl)
  have ne_q1_q0 : q1 ≠ q0 := C6.out.differ 0 1 (by decide) rfl rfl
  have ne_q0_q1 : q0 ≠ q1 := C6.out.differ 1 0 (by decide) rfl rfl
  go_wp2_with fail
  have C7 := Lib.hid (C6.out.set 0 rfl 5 (.slice B5 t1.kids.length cc5))
  clear C6
  obtain ⟨b7, d7⟩ := C7.out.fin 1 rfl List.mem_cons_self
  exact bodyPost_ret (res_nodec (x := 2) (q := q0) (by kernel_rfl) rfl b7 rfl) rfl d7
set_option maxHeartbeats 4000000 in
theorem wrapped_run {rd : Rule → Nat → M Nd} (I : Runs rd (.expr) 87) : Runs (mstep rd) .wrapped 101 := by
  intro w p A cap toks d s s' t h hd40 hp hm
  have D := Lib.hid hd40
  clear hd40
  have hx := then_some (peek_some hm)
  clear hm
  obtain ⟨⟨⟩, s1, h1, hm⟩ := hx
  have hx := then_some hm
  clear hm
  obtain ⟨t1, s2, h2, hm⟩ := hx
  have hx := then_some hm
  clear hm
  obtain ⟨⟨⟩, s3, h3, hm⟩ := hx
  obtain ⟨rfl, rfl⟩ := ret_some hm
  clear hm
  have M1 := Lib.hid h1
  have M2 := Lib.hid h2
  have M3 := Lib.hid h3
  clear h1 h2 h3
  clear hp
  have Ih := Lib.hid I
  clear I
  have C1 := Lib.hid ((Cx.start h).alloc z6)
  clear h
  go_enter Tryd.func101, Tryd.ntmps101
  go_wp2_with fail
  change Calls _ _ _ (w.alloc zeroNd) _
  obtain ⟨q0, e0⟩ : ∃ q, q = w.heap.size := ⟨_, rfl⟩
  rw [← e0] at C1 ⊢
  clear e0
  generalize w.alloc zeroNd = w1 at *
  refine (want_at C1.out.at_ (by decide) M1.out).mono ?_
  rintro e w2 ⟨rfl, a2, f2⟩
  have C2 := Lib.hid (C1.out.call f2 a2)
  clear a2 f2 C1
  obtain ⟨x0q0, x1q0, x2q0, x3q0, x4q0, x5q0⟩ := cells6 (C2.out.cells 0 rfl)
  obtain ⟨y0q0, y1q0, y2q0, y3q0, y4q0, y5q0⟩ := frozen6 (C2.out.cells 0 rfl)
  go_wp2_with fail
  clear x0q0 x1q0 x2q0 x3q0 x4q0 x5q0 y0q0 y1q0 y2q0 y3q0 y4q0 y5q0
  refine (Ih.out _ p A cap toks d _ _ _ C2.out.at_ D.out (True.intro) M2.out).mono ?_
  rintro e w3 ⟨cs3, rfl, nd3, f3, a3⟩
  have C3 := Lib.hid (C2.out.tree f3 a3 nd3)
  obtain ⟨k3, m3, n3, l3, c3, ks3⟩ := t
  obtain ⟨A3, cc3, rfl, -⟩ := nd3.row
  clear nd3 f3 a3 C2
  have C4 := Lib.hid (C3.out.alloc #[.int .i64 k3, .string (bs m3), .int .i64 n3, .int .i64 l3, .int .i64 c3, .slice A3 ks3.length cc3])
  clear C3
  obtain ⟨x0q1, x1q1, x2q1, x3q1, x4q1, x5q1⟩ := cells6 (C4.out.cells 0 rfl)
  obtain ⟨y0q1, y1q1, y2q1, y3q1, y4q1, y5q1⟩ := frozen6 (C4.out.cells 0 rfl)
  obtain ⟨x0q0, x1q0, x2q0, x3q0, x4q0, x5q0⟩ := cells6 (C4.out.cells 1 rfl)
  obtain ⟨y0q0, y1q0, y2q0, y3q0, y4q0, y5q0⟩ := frozen6 (C4.out.cells 1 rfl)
  have ne_q1_q0 : w3.heap.size ≠ q0 := C4.out.differ 0 1 (by decide) rfl rfl
  have ne_q0_q1 : q0 ≠ w3.heap.size := C4.out.differ 1 0 (by decide) rfl rfl
  go_wp2_with fail
  clear x0q1 x1q1 x2q1 x3q1 x4q1 x5q1 y0q1 y1q1 y2q1 y3q1 y4q1 y5q1 x0q0 x1q0 x2q0 x3q0 x4q0 x5q0 y0q0 y1q0 y2q0 y3q0 y4q0 y5q0 ne_q1_q0 ne_q0_q1
  obtain ⟨q1, e_q1⟩ : ∃ q, q = w3.heap.size := ⟨_, rfl⟩
  rw [← e_q1] at C4 ⊢
  clear e_q1
  generalize (World.alloc w3 _) = w5 at *
  refine (want_at C4.out.at_ (by decide) M3.out).mono ?_
  rintro e w6 ⟨rfl, a6, f6⟩
  have C6 := Lib.hid (C4.out.call f6 a6)
  clear a6 f6 C4
  obtain ⟨x0q1, x1q1, x2q1, x3q1, x4q1, x5q1⟩ := cells6 (C6.out.cells 0 rfl)
  obtain ⟨y0q1, y1q1, y2q1, y3q1, y4q1, y5q1⟩ := frozen6 (C6.out.cells 0 rfl)
  obtain ⟨x0q0, x1q0, x2q0, x3q0, x4q0, x5q0⟩ := cells6 (C6.out.cells 1 rfl)
  obtain ⟨y0q0, y1q0, y2q0, y3q0, y4q0, y5q0⟩ := frozen6 (C6.out.cells 1 rfl)
  have ne_q1_q0 : q1 ≠ q0 := C6.out.differ 0 1 (by decide) rfl rfl
  have ne_q0_q1 : q0 ≠ q1 := C6.out.differ 1 0 (by decide) rfl rfl
  go_wp2_with fail
  obtain ⟨b7, d7⟩ := C6.out.fin 1 rfl List.mem_cons_self
  exact bodyPost_ret (res_nodec (x := 2) (q := q0) (by kernel_rfl) rfl b7 rfl) rfl d7
set_option maxHeartbeats 4000000 in
theorem printStmt_run {rd : Rule → Nat → M Nd} (I : Runs rd (.expr) 87) : Runs (mstep rd) .printStmt 85 := by
  intro w p A cap toks d s s' t h hd40 hp hm
  have D := Lib.hid hd40
  clear hd40
  have K := Lib.hid (show (hd s.l).kind ≠ 0 from hp)
  have hx := then_some (pass_some (peek_some hm))
  clear hm
  obtain ⟨⟨⟩, s1, h1, hm⟩ := hx
  have hx := then_some hm
  clear hm
  obtain ⟨t1, s2, h2, hm⟩ := hx
  have hx := then_some hm
  clear hm
  obtain ⟨⟨⟩, s3, h3, hm⟩ := hx
  obtain ⟨rfl, rfl⟩ := ret_some hm
  clear hm
  have M1 := Lib.hid h1
  have M2 := Lib.hid h2
  have M3 := Lib.hid h3
  clear h1 h2 h3
  clear hp
  have Ih := Lib.hid I
  clear I
  have C1 := Lib.hid ((Cx.start h).alloc z6)
  clear h
  go_enter Tryd.func85, Tryd.ntmps85
  go_wp2_with fail
  change Calls _ _ _ (w.alloc zeroNd) _
  obtain ⟨q0, e0⟩ : ∃ q, q = w.heap.size := ⟨_, rfl⟩
  rw [← e0] at C1 ⊢
  clear e0
  generalize w.alloc zeroNd = w1 at *
  refine (pass_at C1.out.at_ K.out 20).mono ?_
  rintro e w2 ⟨rfl, a2, f2⟩
  have C2 := Lib.hid (C1.out.call f2 a2)
  clear a2 f2 C1
  have C3 := Lib.hid (C2.out.alloc #[.int .i64 (20 : Nat), .string (bs []), .int .i64 0, .int .i64 (hd s.l).line, .int .i64 (hd s.l).col, .slice none 0 0])
  clear C2
  obtain ⟨x0q1, x1q1, x2q1, x3q1, x4q1, x5q1⟩ := cells6 (C3.out.cells 0 rfl)
  obtain ⟨y0q1, y1q1, y2q1, y3q1, y4q1, y5q1⟩ := frozen6 (C3.out.cells 0 rfl)
  obtain ⟨x0q0, x1q0, x2q0, x3q0, x4q0, x5q0⟩ := cells6 (C3.out.cells 1 rfl)
  obtain ⟨y0q0, y1q0, y2q0, y3q0, y4q0, y5q0⟩ := frozen6 (C3.out.cells 1 rfl)
  have ne_q1_q0 : w2.heap.size ≠ q0 := C3.out.differ 0 1 (by decide) rfl rfl
  have ne_q0_q1 : q0 ≠ w2.heap.size := C3.out.differ 1 0 (by decide) rfl rfl
  go_wp2_with fail
  clear x0q1 x1q1 x2q1 x3q1 x4q1 x5q1 y0q1 y1q1 y2q1 y3q1 y4q1 y5q1 x0q0 x1q0 x2q0 x3q0 x4q0 x5q0 y0q0 y1q0 y2q0 y3q0 y4q0 y5q0 ne_q1_q0 ne_q0_q1
  obtain ⟨q1, e_q1⟩ : ∃ q, q = w2.heap.size := ⟨_, rfl⟩
  rw [← e_q1] at C3 ⊢
  clear e_q1
  generalize (World.alloc w2 _) = w4 at *
  refine (want_at C3.out.at_ (by decide) M1.out).mono ?_
  rintro e w5 ⟨rfl, a5, f5⟩
  have C5 := Lib.hid (C3.out.call f5 a5)
  clear a5 f5 C3
  obtain ⟨x0q1, x1q1, x2q1, x3q1, x4q1, x5q1⟩ := cells6 (C5.out.cells 0 rfl)
  obtain ⟨y0q1, y1q1, y2q1, y3q1, y4q1, y5q1⟩ := frozen6 (C5.out.cells 0 rfl)
  obtain ⟨x0q0, x1q0, x2q0, x3q0, x4q0, x5q0⟩ := cells6 (C5.out.cells 1 rfl)
  obtain ⟨y0q0, y1q0, y2q0, y3q0, y4q0, y5q0⟩ := frozen6 (C5.out.cells 1 rfl)
  have ne_q1_q0 : q1 ≠ q0 := C5.out.differ 0 1 (by decide) rfl rfl
  have ne_q0_q1 : q0 ≠ q1 := C5.out.differ 1 0 (by decide) rfl rfl
  go_wp2_with fail
  clear x0q1 x1q1 x2q1 x3q1 x4q1 x5q1 y0q1 y1q1 y2q1 y3q1 y4q1 y5q1 x0q0 x1q0 x2q0 x3q0 x4q0 x5q0 y0q0 y1q0 y2q0 y3q0 y4q0 y5q0 ne_q1_q0 ne_q0_q1
  refine (Ih.out _ p A cap toks d _ _ _ C5.out.at_ D.out (True.intro) M2.out).mono ?_
  rintro e w6 ⟨cs6, rfl, nd6, f6, a6⟩
  have C6 := Lib.hid (C5.out.tree f6 a6 nd6)
  obtain ⟨k6, m6, n6, l6, c6, ks6⟩ := t1
  obtain ⟨A6, cc6, rfl, -⟩ := nd6.row
  clear nd6 f6 a6 C5
  have R7 := C6.out.row [(Nd.mk k6 m6 n6 l6 c6 ks6, [.int .i64 k6, .string (bs m6), .int .i64 n6, .int .i64 l6, .int .i64 c6, .slice A6 ks6.length cc6])] (sub_cons List.mem_cons_self sub_nil) (by simp) (cs := #[.int .i64 k6, .string (bs m6), .int .i64 n6, .int .i64 l6, .int .i64 c6, .slice A6 ks6.length cc6]) rfl
  have C7 := Lib.hid ((C6.out.more (.cells #[.int .i64 k6, .string (bs m6), .int .i64 n6, .int .i64 l6, .int .i64 c6, .slice A6 ks6.length cc6] 27)).know (NdC.of R7 (20 : Nat) ([]) 0 (hd s.l).line (hd s.l).col))
  clear C6 R7
  obtain ⟨x0q1, x1q1, x2q1, x3q1, x4q1, x5q1⟩ := cells6 (C7.out.cells 0 rfl)
  obtain ⟨y0q1, y1q1, y2q1, y3q1, y4q1, y5q1⟩ := frozen6 (C7.out.cells 0 rfl)
  obtain ⟨x0q0, x1q0, x2q0, x3q0, x4q0, x5q0⟩ := cells6 (C7.out.cells 1 rfl)
  obtain ⟨y0q0, y1q0, y2q0, y3q0, y4q0, y5q0⟩ := frozen6 (C7.out.cells 1 rfl)
  have ne_q1_q0 : q1 ≠ q0 := C7.out.differ 0 1 (by decide) rfl rfl
  have ne_q0_q1 : q0 ≠ q1 := C7.out.differ 1 0 (by decide) rfl rfl
  go_wp2_with fail
  clear x0q1 x1q1 x2q1 x3q1 x4q1 x5q1 y0q1 y1q1 y2q1 y3q1 y4q1 y5q1 x0q0 x1q0 x2q0 x3q0 x4q0 x5q0 y0q0 y1q0 y2q0 y3q0 y4q0 y5q0 ne_q1_q0 ne_q0_q1
  have C8 := Lib.hid (C7.out.set 0 rfl 5 (.slice (some ⟨w6.heap.size, 0, none⟩) 1 1))
  clear C7
  generalize (World.setCell (World.alloc w6 _) _ _) = w9 at *
  refine (want_at C8.out.at_ (by decide) M3.out).mono ?_
  rintro e w10 ⟨rfl, a10, f10⟩
  have C10 := Lib.hid (C8.out.call f10 a10)
  clear a10 f10 C8
  obtain ⟨x0q1, x1q1, x2q1, x3q1, x4q1, x5q1⟩ := cells6 (C10.out.cells 0 rfl)
  obtain ⟨y0q1, y1q1, y2q1, y3q1, y4q1, y5q1⟩ := frozen6 (C10.out.cells 0 rfl)
  obtain ⟨x0q0, x1q0, x2q0, x3q0, x4q0, x5q0⟩ := cells6 (C10.out.cells 1 rfl)
  obtain ⟨y0q0, y1q0, y2q0, y3q0, y4q0, y5q0⟩ := frozen6 (C10.out.cells 1 rfl)
  have ne_q1_q0 : q1 ≠ q0 := C10.out.differ 0 1 (by decide) rfl rfl
  have ne_q0_q1 : q0 ≠ q1 := C10.out.differ 1 0 (by decide) rfl rfl
  go_wp2_with fail
  obtain ⟨b7, d7⟩ := C10.out.fin 1 rfl List.mem_cons_self
  exact bodyPost_ret (res_nodec (x := 2) (q := q0) (by kernel_rfl) rfl b7 rfl) rfl d7
set_option maxHeartbeats 4000000 in
theorem breakStmt_at {w : World} {p : Nat} {A : Option Addr} {cap : Nat} {toks : List Tok} {d : Nat} {s : St} (h : At w p A cap toks d s) (hk : (hd s.l).kind ≠ 0) :
    Calls Tryd.prog 82 #[.pointer (some ⟨p, 0, none⟩)] w fun e w' => Did w p A cap toks d (at_ 16 s.l [] 0 []) { s with l := s.l.tail } e w' := by
  have K := Lib.hid hk
  clear hk
  have C1 := Lib.hid ((Cx.start h).alloc z6)
  clear h
  go_enter Tryd.func82, Tryd.ntmps82
  go_wp2_with fail
  change Calls _ _ _ (w.alloc zeroNd) _
  obtain ⟨q0, e0⟩ : ∃ q, q = w.heap.size := ⟨_, rfl⟩
  rw [← e0] at C1 ⊢
  clear e0
  generalize w.alloc zeroNd = w1 at *
  refine (pass_at C1.out.at_ K.out 16).mono ?_
  rintro e w2 ⟨rfl, a2, f2⟩
  have C2 := Lib.hid (C1.out.call f2 a2)
  clear a2 f2 C1
  have C3 := Lib.hid (C2.out.know (NdC.leaf _ _ (16 : Nat) ([]) 0 (hd s.l).line (hd s.l).col))
  clear C2
  obtain ⟨x0q0, x1q0, x2q0, x3q0, x4q0, x5q0⟩ := cells6 (C3.out.cells 0 rfl)
  obtain ⟨y0q0, y1q0, y2q0, y3q0, y4q0, y5q0⟩ := frozen6 (C3.out.cells 0 rfl)
  go_wp2_with fail
  obtain ⟨b7, d7⟩ := C3.out.fin 0 rfl List.mem_cons_self
  exact bodyPost_ret (res_nodec (x := 2) (q := q0) (by kernel_rfl) rfl b7 rfl) rfl d7
set_option maxHeartbeats 4000000 in
theorem continueStmt_at {w : World} {p : Nat} {A : Option Addr} {cap : Nat} {toks : List Tok} {d : Nat} {s : St} (h : At w p A cap toks d s) (hk : (hd s.l).kind ≠ 0) :
    Calls Tryd.prog 83 #[.pointer (some ⟨p, 0, none⟩)] w fun e w' => Did w p A cap toks d (at_ 17 s.l [] 0 []) { s with l := s.l.tail } e w' := by
  have K := Lib.hid hk
  clear hk
  have C1 := Lib.hid ((Cx.start h).alloc z6)
  clear h
  go_enter Tryd.func83, Tryd.ntmps83
  go_wp2_with fail
  change Calls _ _ _ (w.alloc zeroNd) _
  obtain ⟨q0, e0⟩ : ∃ q, q = w.heap.size := ⟨_, rfl⟩
  rw [← e0] at C1 ⊢
  clear e0
  generalize w.alloc zeroNd = w1 at *
  refine (pass_at C1.out.at_ K.out 17).mono ?_
  rintro e w2 ⟨rfl, a2, f2⟩
  have C2 := Lib.hid (C1.out.call f2 a2)
  clear a2 f2 C1
  have C3 := Lib.hid (C2.out.know (NdC.leaf _ _ (17 : Nat) ([]) 0 (hd s.l).line (hd s.l).col))
  clear C2
  obtain ⟨x0q0, x1q0, x2q0, x3q0, x4q0, x5q0⟩ := cells6 (C3.out.cells 0 rfl)
  obtain ⟨y0q0, y1q0, y2q0, y3q0, y4q0, y5q0⟩ := frozen6 (C3.out.cells 0 rfl)
  go_wp2_with fail
  obtain ⟨b7, d7⟩ := C3.out.fin 0 rfl List.mem_cons_self
  exact bodyPost_ret (res_nodec (x := 2) (q := q0) (by kernel_rfl) rfl b7 rfl) rfl d7
set_option maxHeartbeats 4000000 in
theorem unary_run {rd : Rule → Nat → M Nd} (I : Runs rd (.unary) 91) (J : Runs rd (.post) 93) : Runs (mstep rd) .unary 91 := by
  intro w p A cap toks d s s' t h hd40 hp hm
  have D := Lib.hid hd40
  clear hd40
  replace hm := peek_some hm
  clear hp
  have Ih := Lib.hid I
  have Jh := Lib.hid J
  clear I J
  by_cases e1 : mark s.l = [45]
  · replace hm := ite_yes (.inl e1) hm
    have K := Lib.hid (kind_of_mark e1 (by decide))
    have q1 := txt_yes e1
    have q1n := txt_nyes e1
    have q2 := txt_no (l := [33]) (show mark s.l ≠ [33] by rw [e1]; decide)
    clear e1
    have hx := then_some (pass_some hm)
    clear hm
    obtain ⟨t1, s1, h1, hm⟩ := hx
    obtain ⟨rfl, rfl⟩ := ret_some hm
    clear hm
    have M1 := Lib.hid h1
    clear h1
    have C1 := Lib.hid ((Cx.start h).alloc z6)
    clear h
    go_enter Tryd.func91, Tryd.ntmps91
    go_wp2_with fail
    change Calls _ _ _ (w.alloc zeroNd) _
    obtain ⟨q0, e0⟩ : ∃ q, q = w.heap.size := ⟨_, rfl⟩
    rw [← e0] at C1 ⊢
    clear e0
    generalize w.alloc zeroNd = w1 at *
    refine (mark_at C1.out.at_).mono ?_
    rintro e w2 ⟨rfl, u2⟩
    have C2 := Lib.hid (C1.out.up u2)
    clear u2 C1
    obtain ⟨x0q0, x1q0, x2q0, x3q0, x4q0, x5q0⟩ := cells6 (C2.out.cells 0 rfl)
    obtain ⟨y0q0, y1q0, y2q0, y3q0, y4q0, y5q0⟩ := frozen6 (C2.out.cells 0 rfl)
    go_wp2_with fail
    clear x0q0 x1q0 x2q0 x3q0 x4q0 x5q0 y0q0 y1q0 y2q0 y3q0 y4q0 y5q0
    refine (pass_at C2.out.at_ K.out 27).mono ?_
    rintro e w3 ⟨rfl, a3, f3⟩
    have C3 := Lib.hid (C2.out.call f3 a3)
    clear a3 f3 C2
    have C4 := Lib.hid (C3.out.alloc #[.int .i64 (27 : Nat), .string (bs (mark s.l)), .int .i64 0, .int .i64 (hd s.l).line, .int .i64 (hd s.l).col, .slice none 0 0])
    clear C3
    obtain ⟨x0q1, x1q1, x2q1, x3q1, x4q1, x5q1⟩ := cells6 (C4.out.cells 0 rfl)
    obtain ⟨y0q1, y1q1, y2q1, y3q1, y4q1, y5q1⟩ := frozen6 (C4.out.cells 0 rfl)
    obtain ⟨x0q0, x1q0, x2q0, x3q0, x4q0, x5q0⟩ := cells6 (C4.out.cells 1 rfl)
    obtain ⟨y0q0, y1q0, y2q0, y3q0, y4q0, y5q0⟩ := frozen6 (C4.out.cells 1 rfl)
    have ne_q1_q0 : w3.heap.size ≠ q0 := C4.out.differ 0 1 (by decide) rfl rfl
    have ne_q0_q1 : q0 ≠ w3.heap.size := C4.out.differ 1 0 (by decide) rfl rfl
    go_wp2_with fail
    clear x0q1 x1q1 x2q1 x3q1 x4q1 x5q1 y0q1 y1q1 y2q1 y3q1 y4q1 y5q1 x0q0 x1q0 x2q0 x3q0 x4q0 x5q0 y0q0 y1q0 y2q0 y3q0 y4q0 y5q0 ne_q1_q0 ne_q0_q1
    obtain ⟨q1, e_q1⟩ : ∃ q, q = w3.heap.size := ⟨_, rfl⟩
    rw [← e_q1] at C4 ⊢
    clear e_q1
    generalize (World.alloc w3 _) = w5 at *
    refine (Ih.out _ p A cap toks d _ _ _ C4.out.at_ D.out (True.intro) M1.out).mono ?_
    rintro e w6 ⟨cs6, rfl, nd6, f6, a6⟩
    have C6 := Lib.hid (C4.out.tree f6 a6 nd6)
    obtain ⟨k6, m6, n6, l6, c6, ks6⟩ := t1
    obtain ⟨A6, cc6, rfl, -⟩ := nd6.row
    clear nd6 f6 a6 C4
    have R7 := C6.out.row [(Nd.mk k6 m6 n6 l6 c6 ks6, [.int .i64 k6, .string (bs m6), .int .i64 n6, .int .i64 l6, .int .i64 c6, .slice A6 ks6.length cc6])] (sub_cons List.mem_cons_self sub_nil) (by simp) (cs := #[.int .i64 k6, .string (bs m6), .int .i64 n6, .int .i64 l6, .int .i64 c6, .slice A6 ks6.length cc6]) rfl
    have C7 := Lib.hid ((C6.out.more (.cells #[.int .i64 k6, .string (bs m6), .int .i64 n6, .int .i64 l6, .int .i64 c6, .slice A6 ks6.length cc6] 27)).know (NdC.of R7 (27 : Nat) ((mark s.l)) 0 (hd s.l).line (hd s.l).col))
    clear C6 R7
    obtain ⟨x0q1, x1q1, x2q1, x3q1, x4q1, x5q1⟩ := cells6 (C7.out.cells 0 rfl)
    obtain ⟨y0q1, y1q1, y2q1, y3q1, y4q1, y5q1⟩ := frozen6 (C7.out.cells 0 rfl)
    obtain ⟨x0q0, x1q0, x2q0, x3q0, x4q0, x5q0⟩ := cells6 (C7.out.cells 1 rfl)
    obtain ⟨y0q0, y1q0, y2q0, y3q0, y4q0, y5q0⟩ := frozen6 (C7.out.cells 1 rfl)
    have ne_q1_q0 : q1 ≠ q0 := C7.out.differ 0 1 (by decide) rfl rfl
    have ne_q0_q1 : q0 ≠ q1 := C7.out.differ 1 0 (by decide) rfl rfl
    go_wp2_with fail
    have C8 := Lib.hid (C7.out.set 0 rfl 5 (.slice (some ⟨w6.heap.size, 0, none⟩) 1 1))
    clear C7
    obtain ⟨b7, d7⟩ := C8.out.fin 1 rfl List.mem_cons_self
    exact bodyPost_ret (res_nodec (x := 2) (q := q0) (by kernel_rfl) rfl b7 rfl) rfl d7
  · have q1 := txt_no e1
    have q1n := txt_nno e1
    by_cases e2 : mark s.l = [33]
    · replace hm := ite_yes (.inr e2) hm
      have K := Lib.hid (kind_of_mark e2 (by decide))
      have q2 := txt_yes e2
      have q2n := txt_nyes e2
      clear e1 e2
      have hx := then_some (pass_some hm)
      clear hm
      obtain ⟨t1, s1, h1, hm⟩ := hx
      obtain ⟨rfl, rfl⟩ := ret_some hm
      clear hm
      have M1 := Lib.hid h1
      clear h1
      have C1 := Lib.hid ((Cx.start h).alloc z6)
      clear h
      go_enter Tryd.func91, Tryd.ntmps91
      go_wp2_with fail
      change Calls _ _ _ (w.alloc zeroNd) _
      obtain ⟨q0, e0⟩ : ∃ q, q = w.heap.size := ⟨_, rfl⟩
      rw [← e0] at C1 ⊢
      clear e0
      generalize w.alloc zeroNd = w1 at *
      refine (mark_at C1.out.at_).mono ?_
      rintro e w2 ⟨rfl, u2⟩
      have C2 := Lib.hid (C1.out.up u2)
      clear u2 C1
      obtain ⟨x0q0, x1q0, x2q0, x3q0, x4q0, x5q0⟩ := cells6 (C2.out.cells 0 rfl)
      obtain ⟨y0q0, y1q0, y2q0, y3q0, y4q0, y5q0⟩ := frozen6 (C2.out.cells 0 rfl)
      go_wp2_with fail
      clear x0q0 x1q0 x2q0 x3q0 x4q0 x5q0 y0q0 y1q0 y2q0 y3q0 y4q0 y5q0
      refine (pass_at C2.out.at_ K.out 27).mono ?_
      rintro e w3 ⟨rfl, a3, f3⟩
      have C3 := Lib.hid (C2.out.call f3 a3)
      clear a3 f3 C2
      have C4 := Lib.hid (C3.out.alloc #[.int .i64 (27 : Nat), .string (bs (mark s.l)), .int .i64 0, .int .i64 (hd s.l).line, .int .i64 (hd s.l).col, .slice none 0 0])
      clear C3
      obtain ⟨x0q1, x1q1, x2q1, x3q1, x4q1, x5q1⟩ := cells6 (C4.out.cells 0 rfl)
      obtain ⟨y0q1, y1q1, y2q1, y3q1, y4q1, y5q1⟩ := frozen6 (C4.out.cells 0 rfl)
      obtain ⟨x0q0, x1q0, x2q0, x3q0, x4q0, x5q0⟩ := cells6 (C4.out.cells 1 rfl)
      obtain ⟨y0q0, y1q0, y2q0, y3q0, y4q0, y5q0⟩ := frozen6 (C4.out.cells 1 rfl)
      have ne_q1_q0 : w3.heap.size ≠ q0 := C4.out.differ 0 1 (by decide) rfl rfl
      have ne_q0_q1 : q0 ≠ w3.heap.size := C4.out.differ 1 0 (by decide) rfl rfl
      go_wp2_with fail
      clear x0q1 x1q1 x2q1 x3q1 x4q1 x5q1 y0q1 y1q1 y2q1 y3q1 y4q1 y5q1 x0q0 x1q0 x2q0 x3q0 x4q0 x5q0 y0q0 y1q0 y2q0 y3q0 y4q0 y5q0 ne_q1_q0 ne_q0_q1
      obtain ⟨q1, e_q1⟩ : ∃ q, q = w3.heap.size := ⟨_, rfl⟩
      rw [← e_q1] at C4 ⊢
      clear e_q1
      generalize (World.alloc w3 _) = w5 at *
      refine (Ih.out _ p A cap toks d _ _ _ C4.out.at_ D.out (True.intro) M1.out).mono ?_
      rintro e w6 ⟨cs6, rfl, nd6, f6, a6⟩
      have C6 := Lib.hid (C4.out.tree f6 a6 nd6)
      obtain ⟨k6, m6, n6, l6, c6, ks6⟩ := t1
      obtain ⟨A6, cc6, rfl, -⟩ := nd6.row
      clear nd6 f6 a6 C4
      have R7 := C6.out.row [(Nd.mk k6 m6 n6 l6 c6 ks6, [.int .i64 k6, .string (bs m6), .int .i64 n6, .int .i64 l6, .int .i64 c6, .slice A6 ks6.length cc6])] (sub_cons List.mem_cons_self sub_nil) (by simp) (cs := #[.int .i64 k6, .string (bs m6), .int .i64 n6, .int .i64 l6, .int .i64 c6, .slice A6 ks6.length cc6]) rfl
      have C7 := Lib.hid ((C6.out.more (.cells #[.int .i64 k6, .string (bs m6), .int .i64 n6, .int .i64 l6, .int .i64 c6, .slice A6 ks6.length cc6] 27)).know (NdC.of R7 (27 : Nat) ((mark s.l)) 0 (hd s.l).line (hd s.l).col))
      clear C6 R7
      obtain ⟨x0q1, x1q1, x2q1, x3q1, x4q1, x5q1⟩ := cells6 (C7.out.cells 0 rfl)
      obtain ⟨y0q1, y1q1, y2q1, y3q1, y4q1, y5q1⟩ := frozen6 (C7.out.cells 0 rfl)
      obtain ⟨x0q0, x1q0, x2q0, x3q0, x4q0, x5q0⟩ := cells6 (C7.out.cells 1 rfl)
      obtain ⟨y0q0, y1q0, y2q0, y3q0, y4q0, y5q0⟩ := frozen6 (C7.out.cells 1 rfl)
      have ne_q1_q0 : q1 ≠ q0 := C7.out.differ 0 1 (by decide) rfl rfl
      have ne_q0_q1 : q0 ≠ q1 := C7.out.differ 1 0 (by decide) rfl rfl
      go_wp2_with fail
      have C8 := Lib.hid (C7.out.set 0 rfl 5 (.slice (some ⟨w6.heap.size, 0, none⟩) 1 1))
      clear C7
      obtain ⟨b7, d7⟩ := C8.out.fin 1 rfl List.mem_cons_self
      exact bodyPost_ret (res_nodec (x := 2) (q := q0) (by kernel_rfl) rfl b7 rfl) rfl d7
    · replace hm := ite_no (fun h => h.elim e1 e2) hm
      have q2 := txt_no e2
      have q2n := txt_nno e2
      clear e1 e2
      have M1 := Lib.hid hm
      clear hm
      have C1 := Lib.hid ((Cx.start h).alloc z6)
      clear h
      go_enter Tryd.func91, Tryd.ntmps91
      go_wp2_with fail
      change Calls _ _ _ (w.alloc zeroNd) _
      obtain ⟨q0, e0⟩ : ∃ q, q = w.heap.size := ⟨_, rfl⟩
      rw [← e0] at C1 ⊢
      clear e0
      generalize w.alloc zeroNd = w1 at *
      refine (mark_at C1.out.at_).mono ?_
      rintro e w2 ⟨rfl, u2⟩
      have C2 := Lib.hid (C1.out.up u2)
      clear u2 C1
      obtain ⟨x0q0, x1q0, x2q0, x3q0, x4q0, x5q0⟩ := cells6 (C2.out.cells 0 rfl)
      obtain ⟨y0q0, y1q0, y2q0, y3q0, y4q0, y5q0⟩ := frozen6 (C2.out.cells 0 rfl)
      go_wp2_with fail
      clear x0q0 x1q0 x2q0 x3q0 x4q0 x5q0 y0q0 y1q0 y2q0 y3q0 y4q0 y5q0
      refine (Jh.out _ p A cap toks d _ _ _ C2.out.at_ D.out (True.intro) M1.out).mono ?_
      rintro e w3 ⟨cs3, rfl, nd3, f3, a3⟩
      have C3 := Lib.hid (C2.out.tree f3 a3 nd3)
      obtain ⟨k3, m3, n3, l3, c3, ks3⟩ := t
      obtain ⟨A3, cc3, rfl, -⟩ := nd3.row
      clear nd3 f3 a3 C2
      obtain ⟨x0q0, x1q0, x2q0, x3q0, x4q0, x5q0⟩ := cells6 (C3.out.cells 0 rfl)
      obtain ⟨y0q0, y1q0, y2q0, y3q0, y4q0, y5q0⟩ := frozen6 (C3.out.cells 0 rfl)
      go_wp2_with fail
      obtain ⟨b7, d7⟩ := C3.out.fin 0 rfl List.mem_cons_self
      exact bodyPost_ret (res_nodec (x := 2) (q := q0) (by kernel_rfl) rfl b7 rfl) rfl d7
end Go.Proofs.YtemmdbjcllcelaaDoor.Pa
