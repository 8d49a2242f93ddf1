/-
  Package parse: where the machine stands in memory; what a call has of its own while it goes on.
  Package parse: rules, one by one: field, param.
  Package parse: what each rule's code is to do, all of it; inside and orNone where the machine stands.
-/
import Derived.Test.YtemmdbjcllcelaaDoorPaMI
import Derived.Test.YtemmdbjcllcelaaDoorPaMS
namespace Go.Proofs.YtemmdbjcllcelaaDoor.Pa
open Go.RowKit
open Go.Proofs.YtemmdbjcllcelaaDoor.Tk (Tok TokC bs tokA zeroTok set5 set5_blk set5_fr blk_set eqL)
set_option maxRecDepth 100000

/-- The parser stands where the machine does. -/
structure At (w : World) (p : Nat) (A : Option Addr) (cap : Nat) (toks : List Tok) (nest : Nat) (s : St) : Prop where
  ps : ∃ j, Ps w p A cap toks j nest s.f s.line s.col ∧ s.l = toks.drop j
  stop : s.f ≠ 0 → (hd s.l).kind = 0
section
variable {w w' w0 : World} {p cap nest : Nat} {A : Option Addr} {toks : List Tok} {s s' : St}
theorem At.tok (h : At w p A cap toks nest s) : ∃ j t, Ps w p A cap toks j nest s.f s.line s.col ∧ toks[j]? = some t ∧ s.l = t :: toks.drop (j + 1) := by
  obtain ⟨j, h1, h2⟩ := h.ps
  have ht : toks[j]? = some (toks[j]'h1.ix) := List.getElem?_eq_getElem h1.ix
  exact ⟨j, _, h1, ht, h2.trans (drop_cons ht)⟩
theorem At.up (h : At w p A cap toks nest s) (hf : Up w w') : At w' p A cap toks nest s := by
  obtain ⟨j, h1, h2⟩ := h.ps
  exact ⟨⟨j, h1.up hf, h2⟩, h.stop⟩
theorem At.lt (h : At w p A cap toks nest s) : p < w.heap.size := by
  obtain ⟨j, h1, _⟩ := h.ps
  exact h1.lt
theorem At.put (h : At w p A cap toks nest s) {i f l c nest0 : Nat} (h0 : Ps w0 p A cap toks i nest0 f l c) (hf : Fr (fun b => b = p) w0 w') (ho : w'.heap[p]? = w.heap[p]?) : At w' p A cap toks nest s := by
  obtain ⟨j, h1, h2⟩ := h.ps
  exact ⟨⟨j, h0.put hf (ho.trans h1.obj) h1.ix, h2⟩, h.stop⟩
theorem markT_zero {t : Tok} (h : t.kind = 0) : markT t = [] := by unfold markT; rw [if_neg (by omega)]
theorem kind_of_mark {l : List Tok} {m : List UInt8} (h : mark l = m) (hm : m ≠ []) : (hd l).kind ≠ 0 := by
  intro h0
  apply hm
  rw [← h]
  unfold mark
  rw [if_neg (by omega)]
theorem mark_of_stop {l : List Tok} (h : (hd l).kind = 0) : mark l = [] := by unfold mark; rw [if_neg (by omega)]

theorem mark_at (h : At w p A cap toks nest s) :
    Calls Tryd.prog 29 #[.pointer (some ⟨p, 0, none⟩)] w fun e w' => e = .returned (.string (bs (mark s.l))) ∧ Up w w' := by
  obtain ⟨j, t, h1, ht, hl⟩ := h.tok
  rw [hl, mark_cons]; exact mark_any h1 ht
theorem atEnd_at (h : At w p A cap toks nest s) :
    Calls Tryd.prog 19 #[.pointer (some ⟨p, 0, none⟩)] w fun e w' => e = .returned (.bool (over true s.l)) ∧ Up w w' := by
  obtain ⟨j, t, h1, ht, hl⟩ := h.tok
  rw [hl]; exact atEnd_any h1 ht
theorem atBrace_at (h : At w p A cap toks nest s) :
    Calls Tryd.prog 70 #[.pointer (some ⟨p, 0, none⟩)] w fun e w' => e = .returned (.bool (over false s.l)) ∧ Up w w' := by
  obtain ⟨j, t, h1, ht, hl⟩ := h.tok
  rw [hl]; exact atBrace_any h1 ht
theorem begin_at (h : At w p A cap toks nest s) (kind : Nat) :
    Calls Tryd.prog 16 #[.pointer (some ⟨p, 0, none⟩), .int .i64 kind] w fun e w' => e = .returned (ndA kind [] 0 (hd s.l).line (hd s.l).col (.slice none 0 0)) ∧ Up w w' := by
  obtain ⟨j, t, h1, ht, hl⟩ := h.tok
  rw [hl]; exact begin_any h1 ht kind
theorem At.pass {j : Nat} {t : Tok} (h : At w p A cap toks nest s) (hl : s.l = t :: toks.drop (j + 1)) (hk : t.kind ≠ 0) (h2 : Ps w' p A cap toks (j + 1) nest s.f s.line s.col) : At w' p A cap toks nest { s with l := s.l.tail } :=
  ⟨⟨j + 1, h2, by rw [hl]; rfl⟩, fun hf => absurd (h.stop hf) (by rw [hl]; exact hk)⟩
theorem pass_at (h : At w p A cap toks nest s) (hk : (hd s.l).kind ≠ 0) (kind : Nat) :
    Calls Tryd.prog 49 #[.pointer (some ⟨p, 0, none⟩), .int .i64 kind] w fun e w' => e = .returned (ndA kind [] 0 (hd s.l).line (hd s.l).col (.slice none 0 0)) ∧ At w' p A cap toks nest { s with l := s.l.tail } ∧ Fr (fun b => b = p) w w' := by
  obtain ⟨j, t, h1, ht, hl⟩ := h.tok
  have hk' : t.kind ≠ 0 := by rw [hl] at hk; exact hk
  refine (pass_yes h1 ht hk' kind).mono ?_
  rintro e w' ⟨rfl, h2, f2⟩
  exact ⟨by rw [hl]; rfl, h.pass hl hk' h2, f2⟩
theorem takes_yes_at (h : At w p A cap toks nest s) {m : List UInt8} (hm : mark s.l = m) (hne : m ≠ []) :
    Calls Tryd.prog 48 #[.pointer (some ⟨p, 0, none⟩), .string (bs m)] w fun e w' => e = .returned (.bool true) ∧ At w' p A cap toks nest { s with l := s.l.tail } ∧ Fr (fun b => b = p) w w' := by
  have hk := kind_of_mark hm hne
  obtain ⟨j, t, h1, ht, hl⟩ := h.tok
  have hk' : t.kind ≠ 0 := by rw [hl] at hk; exact hk
  refine (takes_yes h1 ht hk' m (by rw [← hm, hl]; rfl)).mono ?_
  rintro e w' ⟨rfl, h2, f2⟩
  exact ⟨rfl, h.pass hl hk' h2, f2⟩
theorem takes_no_at (h : At w p A cap toks nest s) {m : List UInt8} (hm : mark s.l ≠ m) :
    Calls Tryd.prog 48 #[.pointer (some ⟨p, 0, none⟩), .string (bs m)] w fun e w' => e = .returned (.bool false) ∧ Up w w' := by
  obtain ⟨j, t, h1, ht, hl⟩ := h.tok
  exact takes_no h1 ht m (by rw [hl] at hm; exact hm)
theorem fail_at (h : At w p A cap toks nest s) {e : Nat} (hs : M.fail e s = some ((), s')) :
    Calls Tryd.prog 32 #[.pointer (some ⟨p, 0, none⟩), .int .i64 e] w fun x w' => x = .returned (.tuple #[]) ∧ At w' p A cap toks nest s' ∧ Fr (fun b => b = p) w w' := by
  obtain ⟨j, t, h1, ht, hl⟩ := h.tok
  by_cases hf : s.f = 0
  · simp only [M.fail, hf, if_true, Option.some.injEq, Prod.mk.injEq, true_and] at hs
    subst hs
    rw [hf] at h1
    refine (fail_ok h1 ht e).mono ?_
    rintro x w' ⟨rfl, h2, f2⟩
    have hlen : s.l.length = toks.length - j := by rw [hl, ← drop_cons ht]; simp
    have hix := h1.ix
    have hd1 : s.l.drop (s.l.length - 1) = toks.drop (toks.length - 1) := by
      rw [hlen, hl, ← drop_cons ht, List.drop_drop]
      congr 1
      omega
    refine ⟨rfl, ⟨⟨toks.length - 1, ?_, hd1⟩, fun _ => ?_⟩, f2⟩
    · rw [hl]; exact h2
    · simp only [hd1]
      have hq : toks[toks.length - 1]? = some (toks[toks.length - 1]'(by omega)) := List.getElem?_eq_getElem (by omega)
      rw [drop_cons hq]
      exact (h1.last _ _ hq).2 (by omega)
  · simp only [M.fail, hf, if_false, Option.some.injEq, Prod.mk.injEq, true_and] at hs
    subst hs
    refine (fail_bad h1 hf e).mono ?_
    rintro x w' ⟨rfl, u⟩
    exact ⟨rfl, h.up u, Fr.mono u (fun _ _ e => e.elim)⟩

set_option maxHeartbeats 4000000 in
theorem want_at (h : At w p A cap toks nest s) {m : List UInt8} (hne : m ≠ []) (hs : M.want m s = some ((), s')) :
    Calls Tryd.prog 28 #[.pointer (some ⟨p, 0, none⟩), .string (bs m)] w fun e w' => e = .returned (.tuple #[]) ∧ At w' p A cap toks nest s' ∧ Fr (fun b => b = p) w w' := by
  by_cases hm : mark s.l = m
  · have hk := kind_of_mark hm hne
    simp only [M.want, M.andThen, M.takes, hm, if_true, M.ret, Option.some.injEq, Prod.mk.injEq, true_and] at hs
    subst hs
    obtain ⟨j, t, h1, ht, hl⟩ := h.tok
    have hk' : t.kind ≠ 0 := by rw [hl] at hk; exact hk
    refine (want_yes h1 ht hk' m (by rw [← hm, hl]; rfl)).mono ?_
    rintro e w' ⟨rfl, h2, f2⟩
    exact ⟨rfl, h.pass hl hk' h2, f2⟩
  · simp only [M.want, M.andThen, M.takes, hm, if_false] at hs
    have H := Lib.hid h
    have HS := Lib.hid hs
    have HM := Lib.hid hm
    clear h hs hm hne
    go_enter Tryd.func28, Tryd.ntmps28
    go_wp2_with fail
    refine (takes_no_at H.out HM.out).mono ?_
    rintro e w1 ⟨rfl, u1⟩
    have H1 := Lib.hid (H.out.up u1)
    have U := Lib.hid u1
    clear u1
    go_wp2_with fail
    refine (fail_at H1.out (e := 13) HS.out).mono ?_
    rintro e w2 ⟨rfl, h2, f2⟩
    have H2 := Lib.hid h2
    have F2 := Lib.hid (Fr.trans (Fr.mono U.out (T := fun b => b = p) (fun _ _ e => e.elim)) f2 (fun _ _ e => e))
    clear h2 f2
    go_wp2_with fail
    exact bodyPost_end (v := .tuple #[]) (by kernel_rfl) rfl ⟨rfl, H2.out, F2.out⟩

set_option maxHeartbeats 4000000 in
theorem name_at (h : At w p A cap toks nest s) {nm : List UInt8} (hs : M.name s = some (nm, s')) :
    Calls Tryd.prog 50 #[.pointer (some ⟨p, 0, none⟩)] w fun e w' => e = .returned (.string (bs nm)) ∧ At w' p A cap toks nest s' ∧ Fr (fun b => b = p) w w' := by
  obtain ⟨j, t, h1, ht, hl⟩ := h.tok
  by_cases hk : t.kind = 2
  · have hk' : (hd s.l).kind = 2 := by rw [hl]; exact hk
    simp only [M.name, M.andThen, M.peek, hk', if_true, M.pass, M.ret, Option.some.injEq, Prod.mk.injEq] at hs
    obtain ⟨rfl, rfl⟩ := hs
    refine (name_yes h1 ht hk).mono ?_
    rintro e w' ⟨rfl, h2, f2⟩
    exact ⟨by rw [hl]; rfl, h.pass hl (by omega) h2, f2⟩
  · have hk' : ¬ (hd s.l).kind = 2 := by rw [hl]; exact hk
    simp only [M.name, M.andThen, M.peek, hk', if_false, M.ret] at hs
    obtain ⟨s2, hs2, rfl, rfl⟩ : ∃ s2, M.fail 13 s = some ((), s2) ∧ nm = [] ∧ s' = s2 := by
      simp only [M.fail] at hs ⊢
      simp only [Option.some.injEq, Prod.mk.injEq] at hs
      exact ⟨_, rfl, hs.1.symm, hs.2.symm⟩
    obtain ⟨kd, tx, tn, tl, tc⟩ := t
    simp only at hk
    have k1 : ((kd : Int) == 2) = false := by simp; omega
    have k2 : ((kd : Int) != 2) = true := by rw [bne, k1]; rfl
    have H := Lib.hid h
    have H1 := Lib.hid h1
    have T := Lib.hid ht
    have HS := Lib.hid hs2
    clear h h1 ht hs hs2 hk hk' hl
    go_enter Tryd.func50, Tryd.ntmps50
    go_wp2_with fail
    refine (next_any H1.out T.out).mono ?_
    rintro e w1 ⟨rfl, u1⟩
    simp only [tokT, tokA]
    have U := Lib.hid (u1.alloc (.cells #[.int .i64 kd, .string (bs tx), .int .i64 tn, .int .i64 tl, .int .i64 tc] 43))
    have H2 := Lib.hid (H.out.up U.out)
    clear u1
    go_wp2_with fail
    refine (fail_at H2.out (e := 13) HS.out).mono ?_
    rintro e w2 ⟨rfl, h2, f2⟩
    have H3 := Lib.hid h2
    have F2 := Lib.hid (Fr.trans (Fr.mono U.out (T := fun b => b = p) (fun _ _ e => e.elim)) f2 (fun _ _ e => e))
    clear h2 f2
    go_wp2_with fail
    go_ret
    exact ⟨rfl, H3.out, F2.out⟩
theorem semis_at (h : At w p A cap toks nest s) :
    Calls Tryd.prog 27 #[.pointer (some ⟨p, 0, none⟩)] w fun e w' => e = .returned (.tuple #[]) ∧ At w' p A cap toks nest { s with l := semis s.l } ∧ Fr (fun b => b = p) w w' := by
  obtain ⟨j, h1, hl⟩ := h.ps
  refine (skipSemis_any h1).mono ?_
  rintro e w' ⟨rfl, k, hjk, hk, h2, f2⟩
  refine ⟨rfl, ⟨⟨k, h2, by rw [hl]; exact hk⟩, fun hf => ?_⟩, f2⟩
  have h0 := h.stop hf
  have : semis s.l = s.l := by
    obtain ⟨j', t, _, _, hl'⟩ := h.tok
    rw [hl'] at h0 ⊢
    rw [semis, if_neg]
    rw [mark_of_stop h0]; simp
  simp only [this]; exact h0
end

/-- A rule is done: the tree lies in new blocks, the parser stands where the machine does. -/
def Did (w : World) (p : Nat) (A : Option Addr) (cap : Nat) (toks : List Tok) (nest : Nat) (t : Nd) (s : St) (e : Ending) (w' : World) : Prop :=
  ∃ cs, e = .returned (.agg cs.toArray) ∧ NdC w' (fun b => w.heap.size ≤ b) t cs ∧ Fr (fun b => b = p) w w' ∧ At w' p A cap toks nest s

/-- A call in its midst: its nodes in blocks of their own (vs), the trees that it has (ts). -/
structure Cx (w0 w : World) (p : Nat) (A : Option Addr) (cap : Nat) (toks : List Tok) (nest : Nat) (s : St) (vs : List (Nat × Array Value)) (ts : List (Nd × List Value)) : Prop where
  ps0 : ∃ i f l c, Ps w0 p A cap toks i nest f l c
  at_ : At w p A cap toks nest s
  fr : Fr (fun b => b = p) w0 w
  var : ∀ x ∈ vs, w0.heap.size ≤ x.1 ∧ w.heap[x.1]? = some (.cells x.2 27 (0, 0))
  inj : ∀ (k j : Nat) (x y : Nat × Array Value), vs[k]? = some x → vs[j]? = some y → x.1 = y.1 → k = j
  nd : ∀ t ∈ ts, NdC w (fun b => w0.heap.size ≤ b ∧ b ∉ vs.map (·.1)) t.1 t.2
section
variable {w w' w0 : World} {p cap nest : Nat} {A : Option Addr} {toks : List Tok} {s s' : St} {vs : List (Nat × Array Value)} {ts : List (Nd × List Value)}
theorem Cx.start (h : At w p A cap toks nest s) : Cx w w p A cap toks nest s [] [] := by
  obtain ⟨j, h1, _⟩ := h.ps
  exact ⟨⟨_, _, _, _, h1⟩, h, Fr.refl _ _, fun _ h => (List.not_mem_nil h).elim, fun k j x y hk _ _ => by simp at hk, fun _ h => (List.not_mem_nil h).elim⟩
theorem Cx.lt (h : Cx w0 w p A cap toks nest s vs ts) {x : Nat × Array Value} (hx : x ∈ vs) : x.1 < w.heap.size := heap_lt (h.var x hx).2
theorem Cx.pos (h : Cx w0 w p A cap toks nest s vs ts) : p < w0.heap.size := by obtain ⟨_, _, _, _, h0⟩ := h.ps0; exact h0.lt
theorem Cx.ne (h : Cx w0 w p A cap toks nest s vs ts) {x : Nat × Array Value} (hx : x ∈ vs) : p ≠ x.1 := by have := h.pos; have := (h.var x hx).1; omega
/-- Another call, that moves the parser. -/
theorem Cx.call (h : Cx w0 w p A cap toks nest s vs ts) (hf : Fr (fun b => b = p) w w') (ha : At w' p A cap toks nest s') : Cx w0 w' p A cap toks nest s' vs ts :=
  ⟨h.ps0, ha, Fr.trans h.fr hf (fun _ _ e => e), fun x hx => ⟨(h.var x hx).1, (hf.block x.1 (h.lt hx) (fun e => h.ne hx e.symm)).trans (h.var x hx).2⟩, h.inj,
    fun t ht => (h.nd t ht).kept hf (fun b hb e => by have := h.pos; omega) (fun _ hb => hb)⟩
theorem Cx.up (h : Cx w0 w p A cap toks nest s vs ts) (hf : Up w w') : Cx w0 w' p A cap toks nest s vs ts := h.call (Fr.mono hf (fun _ _ e => e.elim)) (h.at_.up hf)
/-- Another one, that comes back with a tree. -/
theorem Cx.tree (h : Cx w0 w p A cap toks nest s vs ts) (hf : Fr (fun b => b = p) w w') (ha : At w' p A cap toks nest s') {t : Nd} {cs : List Value} (ht : NdC w' (fun b => w.heap.size ≤ b) t cs) : Cx w0 w' p A cap toks nest s' vs ((t, cs) :: ts) :=
  have h1 := h.call hf ha
  ⟨h1.ps0, h1.at_, h1.fr, h1.var, h1.inj, fun x hx => by
    rcases List.mem_cons.1 hx with rfl | hx
    · exact ht.kept (Fr.refl (fun _ => False) w') (fun _ _ e => e) (fun b hb => ⟨Nat.le_trans h.fr.size hb, fun hm => by
        obtain ⟨y, hy, e⟩ := List.mem_map.1 hm
        have := h.lt hy; omega⟩)
    · exact h1.nd x hx⟩
/-- A block of the call's own that is none of its nodes. -/
theorem Cx.more (h : Cx w0 w p A cap toks nest s vs ts) (o : Obj) : Cx w0 (w.alloc o) p A cap toks nest s vs ts := h.up ((Fr.refl _ w).alloc o)
/-- A node more. -/
theorem Cx.alloc (h : Cx w0 w p A cap toks nest s vs ts) (cs : Array Value) : Cx w0 (w.alloc (.cells cs 27)) p A cap toks nest s ((w.heap.size, cs) :: vs) ts :=
  have h1 := h.more (.cells cs 27)
  ⟨h1.ps0, h1.at_, h1.fr, fun x hx => by
    rcases List.mem_cons.1 hx with rfl | hx
    · exact ⟨h.fr.size, heap_alloc_new w _⟩
    · exact h1.var x hx, by
    intro k j x y hk hj e
    match k, j, hk, hj with
    | 0, 0, _, _ => rfl
    | 0, j + 1, hk, hj =>
      cases hk
      have := h.lt (List.mem_of_getElem? hj)
      simp only at e; omega
    | k + 1, 0, hk, hj =>
      cases hj
      have := h.lt (List.mem_of_getElem? hk)
      simp only at e; omega
    | k + 1, j + 1, hk, hj => rw [h.inj k j x y hk hj e], fun t ht => (h.nd t ht).kept2 ((Fr.refl (fun _ => False) w).alloc _) (fun _ _ _ e => e) (fun b hlt hb => ⟨hb.1, by
        simp only [List.map_cons, List.mem_cons, not_or]
        exact ⟨by omega, hb.2⟩⟩)⟩
/-- A cell of a node set. -/
theorem Cx.set (h : Cx w0 w p A cap toks nest s vs ts) (k : Nat) {q : Nat} {cs : Array Value} (hk : vs[k]? = some (q, cs)) (i : Nat) (v : Value) : Cx w0 (w.setCell ⟨q, i, none⟩ v) p A cap toks nest s (vs.set k (q, cs.setIfInBounds i v)) ts := by
  have hm : (q, cs) ∈ vs := List.mem_of_getElem? hk
  have hf : Fr (fun b => b = q) w (w.setCell ⟨q, i, none⟩ v) := Tk.fr_set i v
  have hq := h.var _ hm
  have hpq := h.ne hm
  have hfr : Fr (fun b => b = p) w0 (w.setCell ⟨q, i, none⟩ v) := Fr.trans h.fr hf (fun j hj e => by have := hq.1; simp only at this; omega)
  have hset : ∀ (j : Nat) (x : Nat × Array Value), (vs.set k (q, cs.setIfInBounds i v))[j]? = some x → ∃ y, vs[j]? = some y ∧ y.1 = x.1 := fun j x hj => by
    rw [List.getElem?_set] at hj
    by_cases hjk : k = j
    · subst hjk
      obtain ⟨hlt, _⟩ := List.getElem?_eq_some_iff.1 hk
      rw [if_pos rfl, if_pos hlt] at hj
      cases hj
      exact ⟨_, hk, rfl⟩
    · rw [if_neg hjk] at hj
      exact ⟨x, hj, rfl⟩
  have hmap : (vs.set k (q, cs.setIfInBounds i v)).map (·.1) = vs.map (·.1) := by
    apply List.ext_getElem?
    intro j
    rw [List.getElem?_map, List.getElem?_map]
    cases hj : (vs.set k (q, cs.setIfInBounds i v))[j]? with
    | none => rw [List.getElem?_eq_none (by have := List.getElem?_eq_none_iff.1 hj; simpa using this)]
    | some x =>
      obtain ⟨y, hy, e⟩ := hset j x hj
      rw [hy]; simp [e]
  obtain ⟨_, _, _, _, h0⟩ := h.ps0
  refine ⟨h.ps0, h.at_.put h0 hfr (hf.block p h.at_.lt hpq), hfr, fun x hx => ?_, fun k' j' x y hx hy e => by
    obtain ⟨x', hx', ex⟩ := hset _ _ hx
    obtain ⟨y', hy', ey⟩ := hset _ _ hy
    exact h.inj _ _ _ _ hx' hy' (by rw [ex, ey, e]), fun t ht => by
    rw [hmap]
    exact (h.nd t ht).kept hf (fun b hb e => hb.2 (e ▸ List.mem_map.2 ⟨_, hm, rfl⟩)) (fun _ hb => hb)⟩
  obtain ⟨j, hj⟩ := List.getElem?_of_mem hx
  rw [List.getElem?_set] at hj
  by_cases hjk : k = j
  · subst hjk
    obtain ⟨hlt, _⟩ := List.getElem?_eq_some_iff.1 hk
    rw [if_pos rfl, if_pos hlt] at hj
    cases hj
    exact ⟨hq.1, blk_set hq.2 i v⟩
  · rw [if_neg hjk] at hj
    have hxm := List.mem_of_getElem? hj
    refine ⟨(h.var x hxm).1, (hf.block x.1 (h.lt hxm) (fun e => hjk ?_)).trans (h.var x hxm).2⟩
    exact h.inj k j (q, cs) x hk hj e.symm
/-- A tree more that is known. -/
theorem Cx.know (h : Cx w0 w p A cap toks nest s vs ts) {t : Nd} {cs : List Value} (ht : NdC w (fun b => w0.heap.size ≤ b ∧ b ∉ vs.map (·.1)) t cs) : Cx w0 w p A cap toks nest s vs ((t, cs) :: ts) :=
  ⟨h.ps0, h.at_, h.fr, h.var, h.inj, fun x hx => by
    rcases List.mem_cons.1 hx with rfl | hx
    · exact ht
    · exact h.nd x hx⟩
/-- The nodes are other blocks. -/
theorem Cx.cells (h : Cx w0 w p A cap toks nest s vs ts) (k : Nat) {q : Nat} {c0 c1 c2 c3 c4 c5 : Value} (hk : vs[k]? = some (q, #[c0, c1, c2, c3, c4, c5])) :
    w.heap[q]? = some (.cells #[c0, c1, c2, c3, c4, c5] 27 (0, 0)) := (h.var _ (List.mem_of_getElem? hk)).2
theorem Cx.differ (h : Cx w0 w p A cap toks nest s vs ts) (k j : Nat) (hkj : k ≠ j) {x y : Nat × Array Value} (hk : vs[k]? = some x) (hj : vs[j]? = some y) : x.1 ≠ y.1 := by
  intro e
  exact hkj (h.inj k j x y hk hj e)
/-- A row of trees that it has. -/
theorem Cx.row (h : Cx w0 w p A cap toks nest s vs ts) (sub : List (Nd × List Value)) (hs : ∀ x ∈ sub, x ∈ ts) (hl : sub.length < 100) {cs : Array Value} (hc : cs.toList = (sub.map (·.2)).flatten) :
    KidsP (w.alloc (.cells cs 27)) (fun b => w0.heap.size ≤ b ∧ b ∉ vs.map (·.1)) (some ⟨w.heap.size, 0, none⟩) sub.length (sub.map (·.1)) := by
  have h1 := h.more (.cells cs 27)
  refine ⟨by simp, by omega, fun _ => ⟨w.heap.size, 0, rfl, ⟨h.fr.size, fun hm => by
    obtain ⟨y, hy, e⟩ := List.mem_map.1 hm
    have := h.lt hy; omega⟩, heap_lt (heap_alloc_new w _), fun j x hj => ?_⟩⟩
  rw [List.getElem?_map] at hj
  obtain ⟨y, hy, rfl⟩ := Option.map_eq_some_iff.1 hj
  have hn := h1.nd y (hs y (List.mem_of_getElem? hy))
  refine ⟨y.2, hn, hn.six, fun i u hi => ?_⟩
  rw [cell_of_row _ _ _ _ _ _ (heap_alloc_new w _), ← Array.getElem?_toList, hc, Nat.zero_add]
  have key : ∀ (l : List (Nd × List Value)) (j : Nat), (∀ x ∈ l, x.2.length = 6) → l[j]? = some y → ((l.map (·.2)).flatten)[j * 6 + i]? = some u := by
    intro l
    induction l with
    | nil => intro j _ e; cases e
    | cons z l ih =>
      intro j h6 e
      have hz := h6 z (List.mem_cons_self ..)
      simp only [List.map_cons, List.flatten_cons]
      cases j with
      | zero =>
        cases e
        rw [List.getElem?_append_left (by have := (List.getElem?_eq_some_iff.1 hi).1; omega)]
        simpa using hi
      | succ j =>
        rw [List.getElem?_append_right (by omega), hz, show (j + 1) * 6 + i - 6 = j * 6 + i by omega]
        exact ih j (fun x hx => h6 x (List.mem_cons_of_mem _ hx)) e
  exact key sub j (fun x hx => (h1.nd x (hs x hx)).six) hy
/-- Done: the tree is handed back. -/
theorem Cx.done (h : Cx w0 w p A cap toks nest s vs ts) {t : Nd} {cs : List Value} {G : Nat → Prop} (ht : NdC w G t cs) (hG : ∀ b, G b → w0.heap.size ≤ b) {r : Array Value} (hr : r = cs.toArray) : Did w0 p A cap toks nest t s (.returned (.agg r)) w :=
  ⟨cs, by rw [hr], ht.kept (Fr.refl (fun _ => False) w) (fun _ _ e => e) hG, h.fr, h.at_⟩
end
end Go.Proofs.YtemmdbjcllcelaaDoor.Pa
namespace Go.Proofs.YtemmdbjcllcelaaDoor.Pa
open Go.RowKit
open Go.Proofs.YtemmdbjcllcelaaDoor.Tk (Tok TokC bs tokA zeroTok set5 set5_blk set5_fr blk_set eqL)
set_option maxRecDepth 100000

/-- The code of a rule does what the machine does. -/
def Runs (rd : Rule → Nat → M Nd) (r : Rule) (g : Nat) : Prop :=
  ∀ (w : World) (p : Nat) (A : Option Addr) (cap : Nat) (toks : List Tok) (d : Nat) (s s' : St) (t : Nd), At w p A cap toks d s → d ≤ 40 → Pre r s.l → rd r d s = some (t, s') →
    Calls Tryd.prog g #[.pointer (some ⟨p, 0, none⟩)] w fun e w' => Did w p A cap toks d t s' e w'
theorem then_some {α β : Type} {x : M α} {k : α → M β} {s : St} {r : β × St} (h : M.andThen x k s = some r) : ∃ a s1, x s = some (a, s1) ∧ k a s1 = some r := by
  unfold M.andThen at h
  cases hx : x s with
  | none => rw [hx] at h; cases h
  | some p => rw [hx] at h; exact ⟨p.1, p.2, rfl, h⟩
theorem peek_some {α : Type} {k : List Tok → M α} {s : St} {r : α × St} (h : M.andThen M.peek k s = some r) : k s.l s = some r := h
theorem ret_some {α : Type} {a b : α} {s s' : St} (h : M.ret a s = some (b, s')) : b = a ∧ s' = s := by
  simp only [M.ret, Option.some.injEq, Prod.mk.injEq] at h
  exact ⟨h.1.symm, h.2.symm⟩
abbrev z6 : Array Value := #[.int .i64 0, .string ⟨#[]⟩, .int .i64 0, .int .i64 0, .int .i64 0, .slice none 0 0]
abbrev n6 (kind : Nat) (name : List UInt8) (n : Int) (line col : Nat) (kids : Value) : Array Value := #[.int .i64 kind, .string (bs name), .int .i64 n, .int .i64 line, .int .i64 col, kids]
theorem frozen6 {w : World} {q : Nat} {cs : Array Value} {t : TypeId} (h : w.heap[q]? = some (.cells cs t (0, 0))) :
    w.frozen? ⟨q, 0, none⟩ = false ∧ w.frozen? ⟨q, 1, none⟩ = false ∧ w.frozen? ⟨q, 2, none⟩ = false ∧ w.frozen? ⟨q, 3, none⟩ = false ∧ w.frozen? ⟨q, 4, none⟩ = false ∧ w.frozen? ⟨q, 5, none⟩ = false :=
  ⟨frozen_of_row _ q _ _ _ h, frozen_of_row _ q _ _ _ h, frozen_of_row _ q _ _ _ h, frozen_of_row _ q _ _ _ h, frozen_of_row _ q _ _ _ h, frozen_of_row _ q _ _ _ h⟩

theorem Cx.fin {w w0 : World} {p cap nest : Nat} {A : Option Addr} {toks : List Tok} {s : St} {vs : List (Nat × Array Value)} {ts : List (Nd × List Value)} (h : Cx w0 w p A cap toks nest s vs ts) (k : Nat) {q0 : Nat} {z0 z1 z2 z3 z4 z5 : Value} (hk : vs[k]? = some (q0, #[z0, z1, z2, z3, z4, z5])) {t : Nd} {v0 v1 v2 v3 v4 v5 : Value} (ht : (t, [v0, v1, v2, v3, v4, v5]) ∈ ts) :
    (set6 w q0 v0 v1 v2 v3 v4 v5).heap[q0]? = some (.cells #[v0, v1, v2, v3, v4, v5] 27 (0, 0)) ∧ Did w0 p A cap toks nest t s (.returned (.agg #[v0, v1, v2, v3, v4, v5])) (set6 w q0 v0 v1 v2 v3 v4 v5) := by
  have hlt : k < vs.length := (List.getElem?_eq_some_iff.1 hk).1
  have g : ∀ {vs : List (Nat × Array Value)} {x : Nat × Array Value}, k < vs.length → (vs.set k x)[k]? = some x := fun hl => by rw [List.getElem?_set, if_pos rfl, if_pos hl]
  have h0 := h.set k hk 0 v0
  have h1 := h0.set k (g hlt) 1 v1
  have h2 := h1.set k (g (by simpa using hlt)) 2 v2
  have h3 := h2.set k (g (by simpa using hlt)) 3 v3
  have h4 := h3.set k (g (by simpa using hlt)) 4 v4
  have h5 := h4.set k (g (by simpa using hlt)) 5 v5
  exact ⟨set6_blk (h.cells k hk) v0 v1 v2 v3 v4 v5, h5.done (h5.nd _ ht) (fun _ hb => hb.1) rfl⟩

set_option maxHeartbeats 4000000 in
theorem typedName_run {rd : Rule → Nat → M Nd} (IH : Runs rd .anyType 58) {w : World} {p : Nat} {A : Option Addr} {cap : Nat} {toks : List Tok} {d kind : Nat} {s s' : St} {t : Nd} (h : At w p A cap toks d s) (hd40 : d ≤ 40) (hm : M.typedName rd kind d s = some (t, s')) :
    Calls Tryd.prog 71 #[.pointer (some ⟨p, 0, none⟩), .int .i64 kind] w fun e w' => Did w p A cap toks d t s' e w' := by
  obtain ⟨nm, s1, hm1, hm⟩ := then_some (peek_some hm)
  obtain ⟨t1, s2, hm2, hm⟩ := then_some hm
  obtain ⟨rfl, rfl⟩ := ret_some hm
  have M1 := Lib.hid hm1
  have M2 := Lib.hid hm2
  have D := Lib.hid hd40
  have I := Lib.hid IH
  have C1 := Lib.hid ((Cx.start h).alloc z6)
  clear hm hm1 hm2 hd40 h IH
  go_enter Tryd.func71, Tryd.ntmps71
  go_wp2_with fail
  change Calls _ _ _ (w.alloc zeroNd) _
  obtain ⟨q0, e0⟩ : ∃ q, q = w.heap.size := ⟨_, rfl⟩
  rw [← e0] at C1 ⊢
  clear e0
  generalize w.alloc zeroNd = w1 at *
  refine (begin_at C1.out.at_ kind).mono ?_
  rintro e w2 ⟨rfl, u2⟩
  have C2 := Lib.hid ((C1.out.up u2).alloc (n6 kind [] 0 (hd s.l).line (hd s.l).col (.slice none 0 0)))
  clear u2 C1
  simp only [ndA]
  go_wp2_with fail
  obtain ⟨q1, e1⟩ : ∃ q, q = w2.heap.size := ⟨_, rfl⟩
  rw [← e1] at C2 ⊢
  clear e1
  generalize w2.alloc _ = w3 at *
  refine (name_at C2.out.at_ M1.out).mono ?_
  rintro e w4 ⟨rfl, a4, f4⟩
  have C4 := Lib.hid (C2.out.call f4 a4)
  clear a4 f4 C2
  obtain ⟨x0, x1, x2, x3, x4, x5⟩ := cells6 (C4.out.cells 0 rfl)
  obtain ⟨y0, y1, y2, y3, y4, y5⟩ := frozen6 (C4.out.cells 0 rfl)
  go_wp2_with fail
  have C5 := Lib.hid (C4.out.set 0 rfl 1 (.string (bs nm)))
  clear C4 x0 x1 x2 x3 x4 x5 y0 y1 y2 y3 y4 y5
  generalize w4.setCell _ _ = w5 at *
  refine (I.out w5 p A cap toks d _ _ _ C5.out.at_ D.out True.intro M2.out).mono ?_
  rintro e w6 ⟨cs, rfl, nd, f6, a6⟩
  have C6 := Lib.hid (C5.out.tree f6 a6 nd)
  obtain ⟨k1, nm1, n1, l1, c1, kids1⟩ := t1
  obtain ⟨A1, cc1, rfl, -⟩ := nd.row
  clear nd f6 a6 C5
  have R := C6.out.row [_] (fun x hx => by rw [List.mem_singleton.1 hx]; exact List.mem_cons_self) (by simp) (cs := n6 k1 nm1 n1 l1 c1 (.slice A1 kids1.length cc1)) rfl
  have C7 := Lib.hid ((C6.out.more (.cells (n6 k1 nm1 n1 l1 c1 (.slice A1 kids1.length cc1)) 27)).know (NdC.of R kind nm 0 (hd s.l).line (hd s.l).col))
  clear C6 R
  obtain ⟨x0, x1, x2, x3, x4, x5⟩ := cells6 (C7.out.cells 0 rfl)
  obtain ⟨y0, y1, y2, y3, y4, y5⟩ := frozen6 (C7.out.cells 0 rfl)
  obtain ⟨u0, u1, u2, u3, u4, u5⟩ := cells6 (C7.out.cells 1 rfl)
  obtain ⟨v0, v1, v2, v3, v4, v5⟩ := frozen6 (C7.out.cells 1 rfl)
  have hne : q1 ≠ q0 := C7.out.differ 0 1 (by decide) rfl rfl
  have hne2 : q0 ≠ q1 := fun e => hne e.symm
  go_wp2_with fail
  have C8 := C7.out.set 0 rfl 5 (.slice (some ⟨w6.heap.size, 0, none⟩) 1 1)
  obtain ⟨b7, d7⟩ := C8.fin 1 rfl List.mem_cons_self
  exact bodyPost_ret (res_nodec (x := 4) (q := q0) (by kernel_rfl) rfl b7 rfl) rfl d7
end Go.Proofs.YtemmdbjcllcelaaDoor.Pa
namespace Go.Proofs.YtemmdbjcllcelaaDoor.Pa
open Go.RowKit
open Go.Proofs.YtemmdbjcllcelaaDoor.Tk (Tok TokC bs tokA zeroTok set5 set5_blk set5_fr blk_set eqL)
set_option maxRecDepth 100000

theorem ite_yes {α β : Type} {c : Prop} [Decidable c] {x y : α → β} {s : α} {r : β} (hc : c) (h : (if c then x else y) s = r) : x s = r := by rwa [if_pos hc] at h
theorem ite_no {α β : Type} {c : Prop} [Decidable c] {x y : α → β} {s : α} {r : β} (hc : ¬ c) (h : (if c then x else y) s = r) : y s = r := by rwa [if_neg hc] at h
theorem takes_some {m : List UInt8} {s s1 : St} {b : Bool} (h : M.takes m s = some (b, s1)) : (mark s.l = m ∧ b = true ∧ s1 = { s with l := s.l.tail }) ∨ (mark s.l ≠ m ∧ b = false ∧ s1 = s) := by
  unfold M.takes at h
  by_cases hm : mark s.l = m
  · rw [if_pos hm] at h
    simp only [Option.some.injEq, Prod.mk.injEq] at h
    exact .inl ⟨hm, h.1.symm, h.2.symm⟩
  · rw [if_neg hm] at h
    simp only [Option.some.injEq, Prod.mk.injEq] at h
    exact .inr ⟨hm, h.1.symm, h.2.symm⟩
theorem pass_some {α : Type} {k : Unit → M α} {s : St} {r : α × St} (h : M.andThen M.pass k s = some r) : k () { s with l := s.l.tail } = some r := h
theorem fail_some (e : Nat) (s : St) : ∃ s1, M.fail e s = some ((), s1) := ⟨_, rfl⟩

/-- A closure of a method. -/
abbrev mv (g p : Nat) : Value := .func (.func g) #[.pointer (some ⟨p, 0, none⟩)] #[]
/-- A rule that hands back a row. -/
def DidL (w : World) (p : Nat) (A : Option Addr) (cap : Nat) (toks : List Tok) (nest : Nat) (t : Nd) (s : St) (e : Ending) (w' : World) : Prop :=
  ∃ B c, e = .returned (.slice B t.kids.length c) ∧ KidsP w' (fun b => w.heap.size ≤ b) B c t.kids ∧ Fr (fun b => b = p) w w' ∧ At w' p A cap toks nest s
def RunsA (rd : Rule → Nat → M Nd) (r : Rule) (g : Nat) (more : Nat → Array Value) : Prop :=
  ∀ (w : World) (p : Nat) (A : Option Addr) (cap : Nat) (toks : List Tok) (d : Nat) (s s' : St) (t : Nd), At w p A cap toks d s → d ≤ 40 → Pre r s.l → rd r d s = some (t, s') →
    Calls Tryd.prog g (more p) w fun e w' => Did w p A cap toks d t s' e w'
def RunsL (rd : Rule → Nat → M Nd) (r : Rule) (g : Nat) (more : Nat → Array Value) : Prop :=
  ∀ (w : World) (p : Nat) (A : Option Addr) (cap : Nat) (toks : List Tok) (d : Nat) (s s' : St) (t : Nd), At w p A cap toks d s → d ≤ 40 → Pre r s.l → rd r d s = some (t, s') →
    Calls Tryd.prog g (more p) w fun e w' => DidL w p A cap toks d t s' e w'
/-- A part that may be left out; its marks lie in a row. -/
def RunsN (rd : Rule → Nat → M Nd) (r : Rule) (ms : List (List UInt8)) (g : Nat) : Prop :=
  ∀ (w : World) (p : Nat) (A : Option Addr) (cap : Nat) (toks : List Tok) (d : Nat) (s s' : St) (t : Nd) (b n : Nat), At w p A cap toks d s → d ≤ 40 → ms.length = n → b < w.heap.size → (∀ (k : Nat) (m : List UInt8), ms[k]? = some m → w.cell? ⟨b, k, none⟩ = some (.string (bs m))) → rd (.orNone r ms) d s = some (t, s') →
    Calls Tryd.prog 57 #[.pointer (some ⟨p, 0, none⟩), mv g p, .slice (some ⟨b, 0, none⟩) n n] w fun e w' => Did w p A cap toks d t s' e w'
/-- One that goes on behind a tree. -/
def RunsX (rd : Rule → Nat → M Nd) (r : Nd → Rule) (g : Nat) : Prop :=
  ∀ (w : World) (p : Nat) (A : Option Addr) (cap : Nat) (toks : List Tok) (d : Nat) (s s' : St) (t x : Nd) (cs : List Value) (G : Nat → Prop) (w0 : World), At w p A cap toks d s → d ≤ 40 → Pre (r x) s.l → rd (r x) d s = some (t, s') → Up w0 w ∨ True → NdC w G x cs → (∀ b, G b → b ≠ p) →
    Calls Tryd.prog g #[.pointer (some ⟨p, 0, none⟩), .agg cs.toArray] w fun e w' => ∃ cs', e = .returned (.agg cs'.toArray) ∧ NdC w' (fun b => w.heap.size ≤ b ∨ G b) t cs' ∧ Fr (fun b => b = p) w w' ∧ At w' p A cap toks d s'
/-- The rule of the statement that begins with a mark. -/
def chosen (m : List UInt8) : Nat :=
  if m = [123] then 59 else if m = [118, 97, 114] then 79 else if m = [105, 102] then 80
  else if m = [102, 111, 114] then 81 else if m = [98, 114, 101, 97, 107] then 82 else if m = [99, 111, 110, 116, 105, 110, 117, 101] then 83
  else if m = [114, 101, 116, 117, 114, 110] then 84 else if m = [112, 114, 105, 110, 116] then 85 else 86

set_option maxHeartbeats 4000000 in
theorem inside_at {w : World} {p : Nat} {A : Option Addr} {cap : Nat} {toks : List Tok} {d : Nat} {s s' : St} {t : Nd} (h : At w p A cap toks d s) (g : Nat) (hE : ∀ (args : Array Value) (w : World), (callFunc g args).run Tryd.prog w = .ok (.enter g args) w) (hd40 : d < 40)
    (hr : ∀ w1, At w1 p A cap toks (d + 1) s → Calls Tryd.prog g #[.pointer (some ⟨p, 0, none⟩)] w1 fun e w' => Did w1 p A cap toks (d + 1) t s' e w') :
    Calls Tryd.prog 72 #[.pointer (some ⟨p, 0, none⟩), mv g p] w fun e w' => Did w p A cap toks d t s' e w' := by
  obtain ⟨j, h1, hl⟩ := h.ps
  refine (inside_run h1 g hE hd40 (fun t' j' f l c => t' = t ∧ s' = ⟨toks.drop j', f, l, c⟩ ∧ (f ≠ 0 → (hd (toks.drop j')).kind = 0)) (fun w1 p1 => ?_)).mono ?_
  · refine (hr w1 ⟨⟨j, p1, hl⟩, h.stop⟩).mono ?_
    rintro e w' ⟨cs, rfl, nd, fr, a⟩
    obtain ⟨j', p2, hl2⟩ := a.ps
    have hs := a.stop
    obtain ⟨l2, f2, li2, c2⟩ := s'
    simp only at hl2
    subst hl2
    exact ⟨t, j', f2, li2, c2, ⟨rfl, rfl, hs⟩, cs, rfl, nd, fr, p2⟩
  · rintro e w' ⟨t', j', f, l, c, ⟨rfl, rfl, hs⟩, cs, rfl, nd, fr, p2⟩
    exact ⟨cs, rfl, nd, fr, ⟨⟨j', p2, rfl⟩, hs⟩⟩
set_option maxHeartbeats 4000000 in
theorem deep_at {w : World} {p : Nat} {A : Option Addr} {cap : Nat} {toks : List Tok} {s s' : St} (h : At w p A cap toks 40 s) (v : Value) (hs : M.fail 14 s = some ((), s')) :
    Calls Tryd.prog 72 #[.pointer (some ⟨p, 0, none⟩), v] w fun e w' => Did w p A cap toks 40 M.zero s' e w' := by
  have HS := Lib.hid hs
  have n1 : (((40 : Nat) : Int) == 40) = true := by rfl
  have C1 := Lib.hid ((Cx.start h).alloc z6)
  have d2 : (w.alloc zeroNd).cell? ⟨p, 2, none⟩ = some (.int .i64 (40 : Nat)) := by
    obtain ⟨j, h1, _⟩ := C1.out.at_.ps
    exact h1.c2
  clear h hs
  go_enter Tryd.func72, Tryd.ntmps72
  go_wp2_with fail
  clear d2 n1
  change Calls _ _ _ (w.alloc zeroNd) _
  obtain ⟨q0, e0⟩ : ∃ q, q = w.heap.size := ⟨_, rfl⟩
  rw [← e0] at C1 ⊢
  clear e0
  generalize w.alloc zeroNd = w1 at *
  refine (fail_at C1.out.at_ (e := 14) HS.out).mono ?_
  rintro e w2 ⟨rfl, a2, f2⟩
  have C2 := Lib.hid ((C1.out.call f2 a2).know (NdC.leaf w2 _ 0 [] 0 0 0))
  clear a2 f2 C1
  obtain ⟨u0, u1, u2, u3, u4, u5⟩ := cells6 (C2.out.cells 0 rfl)
  obtain ⟨v0, v1, v2, v3, v4, v5⟩ := frozen6 (C2.out.cells 0 rfl)
  go_wp2_with fail
  obtain ⟨b7, d7⟩ := C2.out.fin 0 rfl List.mem_cons_self
  exact bodyPost_ret (res_nodec (x := 4) (q := q0) (by kernel_rfl) rfl b7 rfl) rfl d7
/-- orNone, the part left out. -/
theorem none_at {w : World} {p : Nat} {A : Option Addr} {cap : Nat} {toks : List Tok} {d : Nat} {s : St} (h : At w p A cap toks d s) (v : Value) (ms : List (List UInt8)) (b n : Nat) (hn : ms.length = n) (hn1 : n ≤ 100) (hb : b < w.heap.size) (hm : ∀ (k : Nat) (m : List UInt8), ms[k]? = some m → w.cell? ⟨b, k, none⟩ = some (.string (bs m))) (hin : mark s.l ∈ ms) :
    Calls Tryd.prog 57 #[.pointer (some ⟨p, 0, none⟩), v, .slice (some ⟨b, 0, none⟩) n n] w fun e w' => Did w p A cap toks d none_ s e w' := by
  obtain ⟨j, t, h1, ht, hl⟩ := h.tok
  have hmk : mark s.l = markT t := by rw [hl]; rfl
  rw [hmk] at hin
  -- the first place at which it stands
  have hex : ∃ k, ms[k]? = some (markT t) := List.getElem?_of_mem hin
  have hfirst : ∃ k, ms[k]? = some (markT t) ∧ ∀ (i : Nat) (m : List UInt8), i < k → ms[i]? = some m → m ≠ markT t := by
    obtain ⟨k, hk⟩ := hex
    induction k using Nat.strongRecOn with
    | _ k ih =>
      by_cases hlt : ∃ i, i < k ∧ ms[i]? = some (markT t)
      · obtain ⟨i, hi, e⟩ := hlt
        exact ih i hi e
      · exact ⟨k, hk, fun i m hi e em => hlt ⟨i, hi, by rw [e, em]⟩⟩
  obtain ⟨k0, hk0, hno⟩ := hfirst
  refine (orNone_none h1 ht v ms b n hn hn1 hb hm k0 hk0 hno).mono ?_
  rintro e w' ⟨cs, rfl, nd, fr, p2⟩
  exact ⟨cs, rfl, nd, fr, ⟨⟨j, p2, by rw [hl, drop_cons ht]⟩, h.stop⟩⟩
/-- orNone of a rule. -/
theorem orNone_at {rd : Rule → Nat → M Nd} {r : Rule} {ms : List (List UInt8)} {g : Nat} (hr : Runs rd r g) (hE : ∀ (args : Array Value) (w : World), (callFunc g args).run Tryd.prog w = .ok (.enter g args) w) (hp : ∀ l, Pre r l) (hn1 : ms.length ≤ 100) :
    RunsN (mstep rd) r ms g := by
  intro w p A cap toks d s s' t b n h hd40 hn hb hm hs
  replace hs := peek_some hs
  by_cases hin : mark s.l ∈ ms
  · obtain ⟨rfl, rfl⟩ := ret_some (ite_yes hin hs)
    exact none_at h _ ms b n hn (by omega) hb hm hin
  · replace hs := ite_no hin hs
    obtain ⟨j, t0, h1, ht, hl⟩ := h.tok
    have hmk : mark s.l = markT t0 := by rw [hl]; rfl
    refine (orNone_run h1 ht g hE ms b n hn (by omega) hb hm (fun k m hk e => hin (by rw [hmk, ← e]; exact List.mem_of_getElem? hk)) (fun t' j' f l c => t' = t ∧ s' = ⟨toks.drop j', f, l, c⟩ ∧ (f ≠ 0 → (hd (toks.drop j')).kind = 0)) (fun w1 p1 => ?_)).mono ?_
    · refine (hr w1 p A cap toks d s s' t ⟨⟨j, p1, by rw [hl, drop_cons ht]⟩, h.stop⟩ hd40 (hp _) hs).mono ?_
      rintro e w' ⟨cs, rfl, nd, fr, a⟩
      obtain ⟨j', p2, hl2⟩ := a.ps
      have hst := a.stop
      obtain ⟨l2, f2, li2, c2⟩ := s'
      simp only at hl2
      subst hl2
      exact ⟨t, j', f2, li2, c2, ⟨rfl, rfl, hst⟩, cs, rfl, nd, fr, p2⟩
    · rintro e w' ⟨t', j', f, l, c, ⟨rfl, rfl, hst⟩, cs, rfl, nd, fr, p2⟩
      exact ⟨cs, rfl, nd, fr, ⟨⟨j', p2, rfl⟩, hst⟩⟩
end Go.Proofs.YtemmdbjcllcelaaDoor.Pa
