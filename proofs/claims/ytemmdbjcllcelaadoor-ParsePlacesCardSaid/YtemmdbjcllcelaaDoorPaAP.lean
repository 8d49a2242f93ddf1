/-
  Package parse: rules, one by one (written by wip/genPa.py).
  Package parse: Parse: of any text.
-/
import Derived.Test.YtemmdbjcllcelaaDoorPaZ
import Derived.Test.YtemmdbjcllcelaaDoorPaTL
namespace Go.Proofs.YtemmdbjcllcelaaDoor.Pa
open Go.RowKit
open Go.Proofs.YtemmdbjcllcelaaDoor.Tk (Tok TokC bs tokA zeroTok set5 set5_blk set5_fr blk_set eqL)
set_option maxRecDepth 100000
structure All (rd : Rule → Nat → M Nd) : Prop where
  file : Runs rd .file 13
  decl : Runs rd .decl 18
  typeDecl : Runs rd .typeDecl 30
  funcDecl : Runs rd .funcDecl 31
  field : Runs rd .field 53
  param : Runs rd .param 56
  method : Runs rd .method 52
  receiver : Runs rd .receiver 54
  anyType : Runs rd .anyType 58
  typeOnly : Runs rd .typeOnly 73
  expr : Runs rd .expr 87
  unary : Runs rd .unary 91
  post : Runs rd .post 93
  prime : Runs rd .prime 94
  marked : Runs rd .marked 98
  wrapped : Runs rd .wrapped 101
  block : Runs rd .block 59
  stmt : Runs rd .stmt 74
  varStmt : Runs rd .varStmt 79
  ifStmt : Runs rd .ifStmt 80
  elsePart : Runs rd .elsePart 88
  forStmt : Runs rd .forStmt 81
  returnStmt : Runs rd .returnStmt 84
  printStmt : Runs rd .printStmt 85
  simple : Runs rd .simple 86
  loosest : Runs rd (.binary 1) 89
  binary : ∀ k : Nat, k ≠ 0 → k ≤ 6 → RunsA rd (.binary k) 90 (fun p => #[.pointer (some ⟨p, 0, none⟩), .int .i64 (k : Int)])
  choose : RunsC rd
  dotted : RunsY rd (fun x => .dotted x) 95
  indexed : RunsY rd (fun x => .indexed x) 96
  listed_anyType : RunsL rd (.listed .anyType) 55 (fun p => #[.pointer (some ⟨p, 0, none⟩), mv 58 p])
  listed_param : RunsL rd (.listed .param) 55 (fun p => #[.pointer (some ⟨p, 0, none⟩), mv 56 p])
  listed_expr : RunsL rd (.listed .expr) 55 (fun p => #[.pointer (some ⟨p, 0, none⟩), mv 87 p])
  args : RunsL rd (.listed .expr) 99 (fun p => #[.pointer (some ⟨p, 0, none⟩)])
  lines_decl : RunsL rd (.lines .decl true) 17 (fun p => #[.pointer (some ⟨p, 0, none⟩), mv 18 p, mv 19 p])
  lines_method : RunsL rd (.lines .method false) 17 (fun p => #[.pointer (some ⟨p, 0, none⟩), mv 52 p, mv 70 p])
  lines_field : RunsL rd (.lines .field false) 17 (fun p => #[.pointer (some ⟨p, 0, none⟩), mv 53 p, mv 70 p])
  lines_stmt : RunsL rd (.lines .stmt false) 17 (fun p => #[.pointer (some ⟨p, 0, none⟩), mv 74 p, mv 70 p])
  braced_method : RunsL rd (.braced .method) 51 (fun p => #[.pointer (some ⟨p, 0, none⟩), mv 52 p])
  braced_field : RunsL rd (.braced .field) 51 (fun p => #[.pointer (some ⟨p, 0, none⟩), mv 53 p])
  braced_stmt : RunsL rd (.braced .stmt) 51 (fun p => #[.pointer (some ⟨p, 0, none⟩), mv 74 p])
  n1 : RunsN rd .anyType [[59], [125]] 58
  n2 : RunsN rd .anyType [[123]] 58
  n3 : RunsN rd .expr [[123]] 87
  n4 : RunsN rd .expr [[59], [125]] 87
  built : RunsB rd
theorem z0 {r : Rule} {d : Nat} {s : St} {x : Nd × St} (h : mrun 0 r d s = some x) : False := by cases h
theorem All.zero : All (mrun 0) := {
  file := fun _ _ _ _ _ _ _ _ _ _ _ _ hm => (z0 hm).elim
  decl := fun _ _ _ _ _ _ _ _ _ _ _ _ hm => (z0 hm).elim
  typeDecl := fun _ _ _ _ _ _ _ _ _ _ _ _ hm => (z0 hm).elim
  funcDecl := fun _ _ _ _ _ _ _ _ _ _ _ _ hm => (z0 hm).elim
  field := fun _ _ _ _ _ _ _ _ _ _ _ _ hm => (z0 hm).elim
  param := fun _ _ _ _ _ _ _ _ _ _ _ _ hm => (z0 hm).elim
  method := fun _ _ _ _ _ _ _ _ _ _ _ _ hm => (z0 hm).elim
  receiver := fun _ _ _ _ _ _ _ _ _ _ _ _ hm => (z0 hm).elim
  anyType := fun _ _ _ _ _ _ _ _ _ _ _ _ hm => (z0 hm).elim
  typeOnly := fun _ _ _ _ _ _ _ _ _ _ _ _ hm => (z0 hm).elim
  expr := fun _ _ _ _ _ _ _ _ _ _ _ _ hm => (z0 hm).elim
  unary := fun _ _ _ _ _ _ _ _ _ _ _ _ hm => (z0 hm).elim
  post := fun _ _ _ _ _ _ _ _ _ _ _ _ hm => (z0 hm).elim
  prime := fun _ _ _ _ _ _ _ _ _ _ _ _ hm => (z0 hm).elim
  marked := fun _ _ _ _ _ _ _ _ _ _ _ _ hm => (z0 hm).elim
  wrapped := fun _ _ _ _ _ _ _ _ _ _ _ _ hm => (z0 hm).elim
  block := fun _ _ _ _ _ _ _ _ _ _ _ _ hm => (z0 hm).elim
  stmt := fun _ _ _ _ _ _ _ _ _ _ _ _ hm => (z0 hm).elim
  varStmt := fun _ _ _ _ _ _ _ _ _ _ _ _ hm => (z0 hm).elim
  ifStmt := fun _ _ _ _ _ _ _ _ _ _ _ _ hm => (z0 hm).elim
  elsePart := fun _ _ _ _ _ _ _ _ _ _ _ _ hm => (z0 hm).elim
  forStmt := fun _ _ _ _ _ _ _ _ _ _ _ _ hm => (z0 hm).elim
  returnStmt := fun _ _ _ _ _ _ _ _ _ _ _ _ hm => (z0 hm).elim
  printStmt := fun _ _ _ _ _ _ _ _ _ _ _ _ hm => (z0 hm).elim
  simple := fun _ _ _ _ _ _ _ _ _ _ _ _ hm => (z0 hm).elim
  loosest := fun _ _ _ _ _ _ _ _ _ _ _ _ hm => (z0 hm).elim
  binary := fun _ _ _ _ _ _ _ _ _ _ _ _ _ _ _ hm => (z0 hm).elim
  choose := fun _ _ _ _ _ _ _ _ _ _ _ hm => (z0 hm).elim
  dotted := fun _ _ _ _ _ _ _ _ _ _ _ _ _ _ _ _ _ _ hm => (z0 hm).elim
  indexed := fun _ _ _ _ _ _ _ _ _ _ _ _ _ _ _ _ _ _ hm => (z0 hm).elim
  listed_anyType := fun _ _ _ _ _ _ _ _ _ _ _ _ hm => (z0 hm).elim
  listed_param := fun _ _ _ _ _ _ _ _ _ _ _ _ hm => (z0 hm).elim
  listed_expr := fun _ _ _ _ _ _ _ _ _ _ _ _ hm => (z0 hm).elim
  args := fun _ _ _ _ _ _ _ _ _ _ _ _ hm => (z0 hm).elim
  lines_decl := fun _ _ _ _ _ _ _ _ _ _ _ _ hm => (z0 hm).elim
  lines_method := fun _ _ _ _ _ _ _ _ _ _ _ _ hm => (z0 hm).elim
  lines_field := fun _ _ _ _ _ _ _ _ _ _ _ _ hm => (z0 hm).elim
  lines_stmt := fun _ _ _ _ _ _ _ _ _ _ _ _ hm => (z0 hm).elim
  braced_method := fun _ _ _ _ _ _ _ _ _ _ _ _ hm => (z0 hm).elim
  braced_field := fun _ _ _ _ _ _ _ _ _ _ _ _ hm => (z0 hm).elim
  braced_stmt := fun _ _ _ _ _ _ _ _ _ _ _ _ hm => (z0 hm).elim
  n1 := fun _ _ _ _ _ _ _ _ _ _ _ _ _ _ _ _ hm => (z0 hm).elim
  n2 := fun _ _ _ _ _ _ _ _ _ _ _ _ _ _ _ _ hm => (z0 hm).elim
  n3 := fun _ _ _ _ _ _ _ _ _ _ _ _ _ _ _ _ hm => (z0 hm).elim
  n4 := fun _ _ _ _ _ _ _ _ _ _ _ _ _ _ _ _ hm => (z0 hm).elim
  built := fun _ _ _ _ _ _ _ _ _ _ _ _ _ _ _ _ _ _ _ _ hm => (z0 hm).elim
}
theorem low_pre {r : Rule} (h : r = .anyType ∨ r = .expr ∨ r = .param ∨ r = .decl ∨ r = .method ∨ r = .field ∨ r = .stmt) (l : List Tok) : Pre r l := by rcases h with rfl | rfl | rfl | rfl | rfl | rfl | rfl <;> trivial
set_option maxHeartbeats 4000000 in
theorem All.next {n : Nat} (I : All (mrun n)) : All (mrun (n + 1)) := by
  have hexpr : Runs (mrun (n + 1)) .expr 87 := expr_run I.loosest
  have hany : Runs (mrun (n + 1)) .anyType 58 := anyType_run I.typeOnly
  have hbin : ∀ k : Nat, k ≠ 0 → k ≤ 6 → RunsA (mrun (n + 1)) (.binary k) 90 (fun p => #[.pointer (some ⟨p, 0, none⟩), .int .i64 (k : Int)]) := fun k h0 h6 => binary_run I.unary I.binary k h0 h6
  have hle : RunsL (mrun (n + 1)) (.listed .expr) 55 (fun p => #[.pointer (some ⟨p, 0, none⟩), mv 87 p]) := listed_run I.expr (enters_of Tryd.func87 (by kernel_rfl) rfl) (low_pre (by simp))
  exact {
    file := file_run I.lines_decl
    decl := decl_run I.typeDecl I.funcDecl
    typeDecl := typeDecl_run I.braced_method I.braced_field
    funcDecl := funcDecl_run I.listed_param I.n2 I.block I.receiver (fun _ _ _ _ h => listed_len h)
    field := field_run I.anyType
    param := param_run I.anyType
    method := method_run I.listed_anyType I.n1 (fun _ _ _ _ h => listed_len h)
    receiver := receiver_run
    anyType := hany
    typeOnly := typeOnly_run I.anyType
    expr := hexpr
    unary := unary_run I.unary I.post
    post := post_run I.prime I.dotted I.indexed
    prime := prime_run I.args I.marked
    marked := marked_run I.built I.wrapped
    wrapped := wrapped_run I.expr
    block := block_run I.braced_stmt
    stmt := stmt_run I.choose
    varStmt := varStmt_run I.anyType I.expr
    ifStmt := ifStmt_run I.expr I.block I.elsePart
    elsePart := elsePart_run I.ifStmt I.block
    forStmt := forStmt_run I.n3 I.block
    returnStmt := returnStmt_run I.n4
    printStmt := printStmt_run I.expr
    simple := simple_run I.expr
    loosest := loosest_run (hbin 1 (by decide) (by decide))
    binary := hbin
    choose := choose_run I.block I.varStmt I.ifStmt I.forStmt I.returnStmt I.printStmt I.simple
    dotted := dotted_run I.anyType I.args (fun _ _ _ _ h => listed_len h)
    indexed := indexed_run I.expr
    listed_anyType := listed_run I.anyType (enters_of Tryd.func58 (by kernel_rfl) rfl) (low_pre (by simp))
    listed_param := listed_run I.param (enters_of Tryd.func56 (by kernel_rfl) rfl) (low_pre (by simp))
    listed_expr := hle
    args := args_run hle
    lines_decl := lines_run I.decl (enters_of Tryd.func18 (by kernel_rfl) rfl) (low_pre (by simp)) (fun w p A cap toks d s h => atEnd_at h) (enters_of Tryd.func19 (by kernel_rfl) rfl)
    lines_method := lines_run I.method (enters_of Tryd.func52 (by kernel_rfl) rfl) (low_pre (by simp)) (fun w p A cap toks d s h => atBrace_at h) (enters_of Tryd.func70 (by kernel_rfl) rfl)
    lines_field := lines_run I.field (enters_of Tryd.func53 (by kernel_rfl) rfl) (low_pre (by simp)) (fun w p A cap toks d s h => atBrace_at h) (enters_of Tryd.func70 (by kernel_rfl) rfl)
    lines_stmt := lines_run I.stmt (enters_of Tryd.func74 (by kernel_rfl) rfl) (low_pre (by simp)) (fun w p A cap toks d s h => atBrace_at h) (enters_of Tryd.func70 (by kernel_rfl) rfl)
    braced_method := _root_.Go.Proofs.YtemmdbjcllcelaaDoor.Pa.braced_method I.lines_method
    braced_field := _root_.Go.Proofs.YtemmdbjcllcelaaDoor.Pa.braced_field I.lines_field
    braced_stmt := _root_.Go.Proofs.YtemmdbjcllcelaaDoor.Pa.braced_stmt I.lines_stmt
    n1 := orNone_at I.anyType (enters_of Tryd.func58 (by kernel_rfl) rfl) (low_pre (by simp)) (by decide)
    n2 := orNone_at I.anyType (enters_of Tryd.func58 (by kernel_rfl) rfl) (low_pre (by simp)) (by decide)
    n3 := orNone_at I.expr (enters_of Tryd.func87 (by kernel_rfl) rfl) (low_pre (by simp)) (by decide)
    n4 := orNone_at I.expr (enters_of Tryd.func87 (by kernel_rfl) rfl) (low_pre (by simp)) (by decide)
    built := fun kind ps gs hp w p A cap toks d s s' t h hd hk B m hm hB hr => by
      simp only [parts_of, List.mem_cons, Prod.mk.injEq, List.not_mem_nil, or_false] at hp
      have HE := I.expr
      have HA := I.anyType
      refine built_run (N := n) (ps := ps) (gs := gs) ?_ ?_ ?_ h hd hk hm hB hr
      · rcases hp with ⟨_, rfl, rfl⟩ | ⟨_, rfl, rfl⟩ | ⟨_, rfl, rfl⟩ | ⟨_, rfl, rfl⟩ <;> rfl
      · rcases hp with ⟨_, rfl, rfl⟩ | ⟨_, rfl, rfl⟩ | ⟨_, rfl, rfl⟩ | ⟨_, rfl, rfl⟩ <;> decide
      · have e1 : Runs (mrun n) .expr 87 ∧ (∀ (args : Array Value) (w : World), (callFunc 87 args).run Tryd.prog w = .ok (.enter 87 args) w) ∧ ∀ l, Pre .expr l := ⟨HE, (enters_of Tryd.func87 (by kernel_rfl) rfl), fun _ => True.intro⟩
        have e2 : Runs (mrun n) .anyType 58 ∧ (∀ (args : Array Value) (w : World), (callFunc 58 args).run Tryd.prog w = .ok (.enter 58 args) w) ∧ ∀ l, Pre .anyType l := ⟨HA, (enters_of Tryd.func58 (by kernel_rfl) rfl), fun _ => True.intro⟩
        intro k r g h1 h2
        rcases hp with ⟨_, rfl, rfl⟩ | ⟨_, rfl, rfl⟩ | ⟨_, rfl, rfl⟩ | ⟨_, rfl, rfl⟩
        · match k, h1, h2 with
          | 0, h1, h2 => cases h1; cases h2; exact e1
          | k + 1, h1, h2 => simp at h1
        · match k, h1, h2 with
          | 0, h1, h2 => cases h1; cases h2; exact e2
          | 1, h1, h2 => cases h1; cases h2; exact e1
          | k + 2, h1, h2 => simp at h1
        · match k, h1, h2 with
          | 0, h1, h2 => cases h1; cases h2; exact e2
          | k + 1, h1, h2 => simp at h1
        · simp at h1
  }
theorem all : ∀ n, All (mrun n)
  | 0 => All.zero
  | n + 1 => (all n).next
end Go.Proofs.YtemmdbjcllcelaaDoor.Pa
namespace Go.Proofs.YtemmdbjcllcelaaDoor.Pa
open Go.RowKit
open Go.Proofs.YtemmdbjcllcelaaDoor.Tk (Tok TokC bs tokA zeroTok set5 set5_blk set5_fr blk_set eqL LexAll Laid)
set_option maxRecDepth 100000

/-- A node, a place and an error number, handed back. -/
theorem res_parse {fn : Func} {a b c : Nat} (hr : fn.results = #[.cell a 27, .cell b 29, .tmp c]) {tmps : Array Value} {w : World} {q r : Nat} {cs ds : Array Value} {e : Value} (h1 : tmps.getD a undef = .pointer (some ⟨q, 0, none⟩)) (h2 : tmps.getD b undef = .pointer (some ⟨r, 0, none⟩)) (h3 : tmps.getD c undef = e)
    (hb : w.heap[q]? = some (.cells cs 27 (0, 0))) (hs : cs.size = 6) (hb2 : w.heap[r]? = some (.cells ds 29 (0, 0))) (hs2 : ds.size = 2) : (results fn tmps).run Tryd.prog w = .ok (.tuple #[.agg cs, .agg ds, e]) w := by
  have e1 := run_loadVar_row (P := Tryd.prog) w q 27 27 cs (0, 0) _ hb Tryd.underlying27 rfl (by rw [hs]; kernel_rfl)
  have e2 := run_loadVar_row (P := Tryd.prog) w r 29 29 ds (0, 0) _ hb2 Tryd.underlying29 rfl (by rw [hs2]; kernel_rfl)
  rw [Array.getD_eq_getD_getElem?] at h1 h2 h3
  simp [results, hr, h1, h2, h3, asAddr, e1, e2]
theorem drew_blk {w : World} {q : Nat} {o : Option Obj} (h : w.heap[q]? = o) : w.drew.heap[q]? = o := h
/-- What Parse answers. -/
def ParseDone (w : World) (T : List UInt8) (e : Ending) (w' : World) : Prop := Up w w' ∧ ∃ R, LexAll T R ∧ match R with
  | .bad line col c => 0 < c ∧ e = .returned (.tuple #[.agg (n6 0 [] 0 0 0 (.slice none 0 0)), .agg #[.int .i64 line, .int .i64 col], .int .i64 c])
  | .ok toks => ∃ n, match run n .file 0 toks with
    | .ok t _ => ∃ cs, e = .returned (.tuple #[.agg cs.toArray, .agg #[.int .i64 0, .int .i64 0], .int .i64 0]) ∧ NdC w' (fun b => w.heap.size ≤ b) t cs
    | .bad line col c => c ≠ 0 ∧ e = .returned (.tuple #[.agg (n6 0 [] 0 0 0 (.slice none 0 0)), .agg #[.int .i64 line, .int .i64 col], .int .i64 c])
    | .dry => False
abbrev zeroPl : Obj := .cells #[.int .i64 0, .int .i64 0] 29
theorem cells2 {w : World} {q : Nat} {c0 c1 : Value} {t : TypeId} (h : w.heap[q]? = some (.cells #[c0, c1] t (0, 0))) :
    w.cell? ⟨q, 0, none⟩ = some c0 ∧ w.cell? ⟨q, 1, none⟩ = some c1 ∧ w.frozen? ⟨q, 0, none⟩ = false ∧ w.frozen? ⟨q, 1, none⟩ = false := by
  refine ⟨?_, ?_, frozen_of_row _ q _ _ _ h, frozen_of_row _ q _ _ _ h⟩ <;> (rw [cell_of_row w q _ _ _ _ h]; rfl)

set_option maxHeartbeats 1600000 in
theorem parse_any {w : World} (T : List UInt8) (L : Laid w) (hw : 2 + 1 ≤ w.heap.size) : Calls Tryd.prog 7 #[.string (bs T)] w (ParseDone w T) := by
  have U1 := Lib.hid (show Up w ((w.alloc zeroNd).alloc zeroPl) from ((Fr.refl _ _).alloc _).alloc _)
  have L1 := Lib.hid (L.kept U1.out (fun h => h) (fun h => h))
  have B0 := Lib.hid (show ((w.alloc zeroNd).alloc zeroPl).heap[w.heap.size]? = some zeroNd from (Below.heap_alloc _ _ _ (by simp)).trans (heap_alloc_new w _))
  have B1 := Lib.hid (show ((w.alloc zeroNd).alloc zeroPl).heap[w.heap.size + 1]? = some zeroPl by have := heap_alloc_new (w.alloc zeroNd) zeroPl; rwa [World.size_alloc] at this)
  have HW := Lib.hid (show 2 + 1 ≤ ((w.alloc zeroNd).alloc zeroPl).heap.size by have := heap_lt B0.out; omega)
  clear L hw
  go_enter Tryd.func7, Tryd.ntmps7
  go_wp2_with fail
  change Calls _ _ _ ((w.alloc zeroNd).alloc zeroPl) _
  obtain ⟨q0, e0⟩ : ∃ q, q = w.heap.size := ⟨_, rfl⟩
  rw [← e0] at B0 B1 ⊢
  obtain ⟨q1, e1⟩ : ∃ q, q = q0 + 1 := ⟨_, rfl⟩
  rw [← e1] at B1 ⊢
  have Q := Lib.hid (And.intro e0 e1)
  clear e0 e1
  generalize (w.alloc zeroNd).alloc zeroPl = w1 at *
  refine (Tk.all_any T L1.out HW.out).mono ?_
  rintro e w2 ⟨u2, R, hR, hr⟩
  have LX := Lib.hid hR
  have U2 := Lib.hid (Fr.trans U1.out u2 (fun _ _ e => e))
  have C0 := Lib.hid ((u2.block q0 (heap_lt B0.out) (fun e => e)).trans B0.out)
  have C1 := Lib.hid ((u2.block q1 (heap_lt B1.out) (fun e => e)).trans B1.out)
  clear hR
  cases R with
  | bad line col c =>
    obtain ⟨hc0, rfl⟩ := hr
    have CP := Lib.hid hc0
    have e1 : ((c : Int) == 0) = false := by simp; omega
    have e2 : ((c : Int) != 0) = true := by rw [bne, e1]; rfl
    have V := Lib.hid (U2.out.alloc (.cells #[.int .i64 0, .string (bs []), .int .i64 0, .int .i64 line, .int .i64 col] 43))
    have D0 := Lib.hid ((Below.heap_alloc w2 (.cells #[.int .i64 0, .string (bs []), .int .i64 0, .int .i64 line, .int .i64 col] 43) q0 (heap_lt C0.out)).trans C0.out)
    have D1 := Lib.hid ((Below.heap_alloc w2 (.cells #[.int .i64 0, .string (bs []), .int .i64 0, .int .i64 line, .int .i64 col] 43) q1 (heap_lt C1.out)).trans C1.out)
    have Y := Lib.hid (Tk.cells5 (heap_alloc_new w2 (.cells #[.int .i64 0, .string (bs []), .int .i64 0, .int .i64 line, .int .i64 col] 43)))
    have NE := Lib.hid (show q0 ≠ q1 ∧ q0 ≠ w2.heap.size ∧ q1 ≠ w2.heap.size from ⟨by have := Q.out; omega, by have := heap_lt C0.out; omega, by have := heap_lt C1.out; omega⟩)
    clear hc0 u2
    unfold tokA
    go_upto_region 3 with fail
    obtain ⟨t0, t1, t2, t3, t4⟩ := Y.out
    obtain ⟨x0, x1, x2, x3, x4, x5⟩ := cells6 D0.out
    obtain ⟨y0, y1, y2, y3, y4, y5⟩ := frozen6 D0.out
    obtain ⟨p0, p1, p2, p3⟩ := cells2 D1.out
    obtain ⟨n1, n2, n3⟩ := NE.out
    obtain ⟨qt, e_qt⟩ : ∃ q, q = w2.heap.size := ⟨_, rfl⟩
    rw [← e_qt] at t0 t1 t2 t3 t4 n2 n3 ⊢
    clear e_qt NE Y
    generalize w2.alloc _ = w3 at *
    go_region
    all_goals go_wp2_with fail
    have f6 := set6_fr w3 q0 (.int .i64 0) (.string ⟨#[]⟩) (.int .i64 0) (.int .i64 0) (.int .i64 0) (.slice none 0 0)
    have b6 := set6_blk D0.out (.int .i64 0) (.string ⟨#[]⟩) (.int .i64 0) (.int .i64 0) (.int .i64 0) (.slice none 0 0)
    have d6 := (f6.block q1 (heap_lt D1.out) (fun e => n1 e.symm)).trans D1.out
    have b7 := blk_set (blk_set d6 0 (.int .i64 line)) 1 (.int .i64 col)
    have f7 := (Tk.fr_set (w := set6 w3 q0 (.int .i64 0) (.string ⟨#[]⟩) (.int .i64 0) (.int .i64 0) (.int .i64 0) (.slice none 0 0)) (p := q1) 0 (.int .i64 line)).setCell (p := ⟨q1, 1, none⟩) (fun _ => rfl) (.int .i64 col)
    have b8 := (f7.block q0 (heap_lt b6) n1).trans b6
    have fu := Fr.trans (Fr.trans V.out f6 (fun i hi e => by have := Q.out; omega)) f7 (fun i hi e => by have := Q.out; omega)
    have hd : ParseDone w T (.returned (.tuple #[.agg (n6 0 [] 0 0 0 (.slice none 0 0)), .agg #[.int .i64 line, .int .i64 col], .int .i64 c])) _ := ⟨fu.drew, .bad line col c, LX.out, CP.out, rfl⟩
    refine bodyPost_ret (res_parse (a := 2) (b := 3) (c := 4) (q := q0) (r := q1) (by kernel_rfl) rfl rfl rfl (drew_blk b8) rfl (drew_blk b7) rfl) rfl ?_
    exact hd
  | ok toks =>
    obtain ⟨v, rfl, hown⟩ := hr
    obtain ⟨A, cap, rfl, hrow⟩ := hown.reads.parts
    obtain ⟨E, hE0, hEn, hfew⟩ := lex_ends LX.out
    have V0 := (Fr.refl (fun _ => False) w2).alloc (.cells #[.int .i64 0, .string (bs []), .int .i64 0, .int .i64 0, .int .i64 0] 43)
    have V1 := V0.alloc (.cells #[.slice A toks.length cap, .int .i64 0, .int .i64 0, .int .i64 0, .int .i64 0, .int .i64 0] 48)
    have hpb := heap_alloc_new (w2.alloc (.cells #[.int .i64 0, .string (bs []), .int .i64 0, .int .i64 0, .int .i64 0] 43)) (.cells #[.slice A toks.length cap, .int .i64 0, .int .i64 0, .int .i64 0, .int .i64 0, .int .i64 0] 48)
    rw [World.size_alloc] at hpb
    have AT := Lib.hid (show At _ (w2.heap.size + 1) A cap toks 0 ⟨toks, 0, 0, 0⟩ from ⟨⟨0, ⟨hpb, SlP.kept hrow V1 (fun _ _ e => e) (fun b hb => by have := (hown.lt b hb.2).2; omega) (fun _ _ _ h => h), hEn.pos, hfew, fun j t hj => hEn.last_iff hE0 j t hj⟩, rfl⟩, fun h => absurd rfl h⟩)
    have W3 := Lib.hid (Fr.trans U2.out V1 (fun _ _ e => e))
    have D0 := Lib.hid ((V1.block q0 (heap_lt C0.out) (fun e => e)).trans C0.out)
    have D1 := Lib.hid ((V1.block q1 (heap_lt C1.out) (fun e => e)).trans C1.out)
    have NE := Lib.hid (show q0 ≠ q1 ∧ q0 ≠ w2.heap.size + 1 ∧ q1 ≠ w2.heap.size + 1 ∧ w.heap.size ≤ w2.heap.size from ⟨by have := Q.out; omega, by have := heap_lt C0.out; omega, by have := heap_lt C1.out; omega, U2.out.size⟩)
    have FE := Lib.hid (file_ends hE0 hEn)
    clear hown hrow hE0 hEn hfew V0 V1 hpb u2
    unfold tokA
    go_wp2_with fail
    obtain ⟨p, e_p⟩ : ∃ q, q = w2.heap.size + 1 := ⟨_, rfl⟩
    rw [← e_p] at AT NE ⊢
    have PP := Lib.hid (show w.heap.size ≤ p by have := NE.out; omega)
    clear e_p
    generalize (World.alloc (World.alloc w2 _) _) = w3 at *
    obtain ⟨n, hfe⟩ := FE.out
    rcases hfe with ⟨t, rest, h1, h2⟩ | ⟨line, col, e, t, h1, h0, h2⟩
    · have H1 := Lib.hid h1
      refine ((all (n + 12)).file w3 p A cap toks 0 _ _ t AT.out (by omega) True.intro h2).mono ?_
      clear h1 h2
      rintro e w4 ⟨cs, rfl, nd, f4, a4⟩
      obtain ⟨k7, m7, n7, l7, c7, ks7⟩ := t
      obtain ⟨A7, cc7, rfl, -⟩ := nd.row
      have ND := Lib.hid nd
      have F4 := Lib.hid f4
      have V4 := (Fr.refl (fun _ => False) w4).alloc (.cells (n6 k7 m7 n7 l7 c7 (.slice A7 ks7.length cc7)) 27)
      have V := Lib.hid V4
      have A5 := Lib.hid (a4.up V4)
      have G0 := Lib.hid ((V4.block q0 (heap_lt ((f4.block q0 (heap_lt D0.out) (fun e => NE.out.2.1 e)).trans D0.out)) (fun e => e)).trans ((f4.block q0 (heap_lt D0.out) (fun e => NE.out.2.1 e)).trans D0.out))
      have G1 := Lib.hid ((V4.block q1 (heap_lt ((f4.block q1 (heap_lt D1.out) (fun e => NE.out.2.2.1 e)).trans D1.out)) (fun e => e)).trans ((f4.block q1 (heap_lt D1.out) (fun e => NE.out.2.2.1 e)).trans D1.out))
      have B9 := Lib.hid (heap_alloc_new w4 (.cells (n6 k7 m7 n7 l7 c7 (.slice A7 ks7.length cc7)) 27))
      have SZ := Lib.hid (show q0 < w3.heap.size ∧ q1 < w3.heap.size ∧ w3.heap.size ≤ w4.heap.size from ⟨heap_lt D0.out, heap_lt D1.out, f4.size⟩)
      have n1 : q0 ≠ q1 := NE.out.1
      have n1' : q1 ≠ q0 := fun e => n1 e.symm
      have n2 : w4.heap.size ≠ q0 := by have := SZ.out; omega
      have n3 : w4.heap.size ≠ q1 := by have := SZ.out; omega
      clear nd f4 a4 V4 FE
      have c3 := A5.out.c3
      obtain ⟨x0, x1, x2, x3, x4, x5⟩ := cells6 G0.out
      obtain ⟨y0, y1, y2, y3, y4, y5⟩ := frozen6 G0.out
      obtain ⟨p0, p1, p2, p3⟩ := cells2 G1.out
      obtain ⟨r0, r1, r2, r3, r4, r5⟩ := cells6 B9.out
      go_wp2_with fail
      have f6 := set6_fr (w4.alloc (.cells (n6 k7 m7 n7 l7 c7 (.slice A7 ks7.length cc7)) 27)) q0 (.int .i64 k7) (.string (bs m7)) (.int .i64 n7) (.int .i64 l7) (.int .i64 c7) (.slice A7 ks7.length cc7)
      have b6 := set6_blk G0.out (.int .i64 k7) (.string (bs m7)) (.int .i64 n7) (.int .i64 l7) (.int .i64 c7) (.slice A7 ks7.length cc7)
      have d6 := (f6.block q1 (heap_lt G1.out) (fun e => n1 e.symm)).trans G1.out
      have b7 := blk_set (blk_set d6 0 (.int .i64 0)) 1 (.int .i64 0)
      have f7 := (Tk.fr_set (w := set6 (w4.alloc (.cells (n6 k7 m7 n7 l7 c7 (.slice A7 ks7.length cc7)) 27)) q0 (.int .i64 k7) (.string (bs m7)) (.int .i64 n7) (.int .i64 l7) (.int .i64 c7) (.slice A7 ks7.length cc7)) (p := q1) 0 (.int .i64 0)).setCell (p := ⟨q1, 1, none⟩) (fun _ => rfl) (.int .i64 0)
      have b8 := (f7.block q0 (heap_lt b6) n1).trans b6
      have fu := Fr.trans (Fr.trans (Fr.trans (Fr.trans W3.out F4.out (fun i hi e => by have := PP.out; omega)) V.out (fun _ _ e => e.elim)) f6 (fun i hi e => by have := Q.out; omega)) f7 (fun i hi e => by have := Q.out; omega)
      have fk := Fr.trans (Fr.trans (Fr.mono V.out (T := fun b => b = q0 ∨ b = q1) (fun _ _ e => e.elim)) f6 (fun _ _ e => .inl e)) f7 (fun _ _ e => .inr e)
      have nk := ND.out.kept fk (G' := fun b => w.heap.size ≤ b) (fun b hb e => by have := SZ.out; rcases e with e | e <;> omega) (fun b hb => by have := W3.out.size; omega)
      have hd : ParseDone w T (.returned (.tuple #[.agg (n6 k7 m7 n7 l7 c7 (.slice A7 ks7.length cc7)), .agg #[.int .i64 0, .int .i64 0], .int .i64 0])) _ := ⟨fu, .ok toks, LX.out, n, by simp only [H1.out]; exact ⟨_, rfl, nk⟩⟩
      refine bodyPost_ret (res_parse (a := 2) (b := 3) (c := 4) (q := q0) (r := q1) (by kernel_rfl) rfl rfl rfl b8 rfl b7 rfl) rfl ?_
      exact hd
    · have H1 := Lib.hid h1
      refine ((all (n + 12)).file w3 p A cap toks 0 _ _ t AT.out (by omega) True.intro h2).mono ?_
      clear h1 h2
      rintro e9 w4 ⟨cs, rfl, nd, f4, a4⟩
      obtain ⟨k7, m7, n7, l7, c7, ks7⟩ := t
      obtain ⟨A7, cc7, rfl, -⟩ := nd.row
      have ND := Lib.hid nd
      have F4 := Lib.hid f4
      have V4 := (Fr.refl (fun _ => False) w4).alloc (.cells (n6 k7 m7 n7 l7 c7 (.slice A7 ks7.length cc7)) 27)
      have V := Lib.hid V4
      have A5 := Lib.hid (a4.up V4)
      have G0 := Lib.hid ((V4.block q0 (heap_lt ((f4.block q0 (heap_lt D0.out) (fun e => NE.out.2.1 e)).trans D0.out)) (fun e => e)).trans ((f4.block q0 (heap_lt D0.out) (fun e => NE.out.2.1 e)).trans D0.out))
      have G1 := Lib.hid ((V4.block q1 (heap_lt ((f4.block q1 (heap_lt D1.out) (fun e => NE.out.2.2.1 e)).trans D1.out)) (fun e => e)).trans ((f4.block q1 (heap_lt D1.out) (fun e => NE.out.2.2.1 e)).trans D1.out))
      have B9 := Lib.hid (heap_alloc_new w4 (.cells (n6 k7 m7 n7 l7 c7 (.slice A7 ks7.length cc7)) 27))
      have SZ := Lib.hid (show q0 < w3.heap.size ∧ q1 < w3.heap.size ∧ w3.heap.size ≤ w4.heap.size from ⟨heap_lt D0.out, heap_lt D1.out, f4.size⟩)
      have n1 : q0 ≠ q1 := NE.out.1
      have n1' : q1 ≠ q0 := fun e => n1 e.symm
      have n2 : w4.heap.size ≠ q0 := by have := SZ.out; omega
      have n3 : w4.heap.size ≠ q1 := by have := SZ.out; omega
      clear nd f4 a4 V4 FE
      have H0 := Lib.hid h0
      have c3 := A5.out.c3
      have e1 : ((e : Int) == 0) = false := by simp; omega
      have e2 : ((e : Int) != 0) = true := by rw [bne, e1]; rfl
      obtain ⟨jp, hps, -⟩ := A5.out.ps
      have c4 := hps.c4
      have c5 := hps.c5
      simp only at c3 c4 c5
      have K3 := Lib.hid (And.intro c3 (And.intro c4 c5))
      clear c4 c5 hps h0
      go_upto_region 7 with fail
      obtain ⟨c3, c4, c5⟩ := K3.out
      obtain ⟨x0, x1, x2, x3, x4, x5⟩ := cells6 G0.out
      obtain ⟨y0, y1, y2, y3, y4, y5⟩ := frozen6 G0.out
      obtain ⟨p0, p1, p2, p3⟩ := cells2 G1.out
      have n4 : q0 ≠ p := NE.out.2.1
      have n5 : q1 ≠ p := NE.out.2.2.1
      have n6 : p ≠ q0 := fun e => n4 e.symm
      have n7' : p ≠ q1 := fun e => n5 e.symm
      clear K3
      generalize w4.alloc _ = w5 at *
      go_region
      all_goals go_wp2_with fail
      have f6 := set6_fr w5 q0 (.int .i64 0) (.string ⟨#[]⟩) (.int .i64 0) (.int .i64 0) (.int .i64 0) (.slice none 0 0)
      have b6 := set6_blk G0.out (.int .i64 0) (.string ⟨#[]⟩) (.int .i64 0) (.int .i64 0) (.int .i64 0) (.slice none 0 0)
      have d6 := (f6.block q1 (heap_lt G1.out) (fun e => n1 e.symm)).trans G1.out
      have b7 := blk_set (blk_set d6 0 (.int .i64 line)) 1 (.int .i64 col)
      have f7 := (Tk.fr_set (w := set6 w5 q0 (.int .i64 0) (.string ⟨#[]⟩) (.int .i64 0) (.int .i64 0) (.int .i64 0) (.slice none 0 0)) (p := q1) 0 (.int .i64 line)).setCell (p := ⟨q1, 1, none⟩) (fun _ => rfl) (.int .i64 col)
      have b8 := (f7.block q0 (heap_lt b6) n1).trans b6
      have fu := Fr.trans (Fr.trans (Fr.trans (Fr.trans W3.out F4.out (fun i hi e => by have := PP.out; omega)) V.out (fun _ _ e => e.elim)) f6 (fun i hi e => by have := Q.out; omega)) f7 (fun i hi e => by have := Q.out; omega)
      have hd : ParseDone w T (.returned (.tuple #[.agg (Pa.n6 0 [] 0 0 0 (.slice none 0 0)), .agg #[.int .i64 line, .int .i64 col], .int .i64 e])) _ := ⟨fu.drew, .ok toks, LX.out, n, by rw [H1.out]; exact ⟨H0.out, rfl⟩⟩
      refine bodyPost_ret (res_parse (a := 2) (b := 3) (c := 4) (q := q0) (r := q1) (by kernel_rfl) rfl rfl rfl (drew_blk b8) rfl (drew_blk b7) rfl) rfl ?_
      exact hd
end Go.Proofs.YtemmdbjcllcelaaDoor.Pa
