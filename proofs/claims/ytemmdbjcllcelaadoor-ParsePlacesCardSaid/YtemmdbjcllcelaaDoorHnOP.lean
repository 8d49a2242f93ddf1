/-
  The hand's maker: statements of every depth; variables of which each row is its own (Vo).
  The hand's maker: fn.
-/
import Derived.Test.YtemmdbjcllcelaaDoorHnN
namespace Go.Proofs.YtemmdbjcllcelaaDoor.Tk
set_option maxRecDepth 100000
open Go.RowKit


theorem stmt_ok : ∀ d : Nat, StmtOk d
  | 0 => stmt_any (fun e h => absurd h (by omega)) loop_0
  | d + 1 => stmt_any (fun e h => by
      have : e = d := by omega
      subst this
      exact stmts_any (stmt_ok e)) (loop_s (stmts_any (stmt_ok d)))
theorem stmts_ok (d : Nat) : StmtsOk d := stmts_any (stmt_ok d)
theorem sB_le : ∀ d : Nat, d ≤ 3 → sB d ≤ 24000000
  | 0, _ => by decide
  | 1, _ => by decide
  | 2, _ => by decide
  | 3, _ => by decide
  | _ + 4, h => by omega

/-- The variables' row in block g: each row is of the call's own, no two in one block. -/
structure Vo (w : World) (B g : Nat) (vs : List Value) (rows : List (List ByteArray)) (k : Nat) : Prop where
  blk : w.heap[g]? = some (.cells vs.toArray 66 (0, 0))
  len : vs.length = 7
  rlen : rows.length = 7
  own : ∀ (t : Nat) (v : Value) (x : List ByteArray), vs[t]? = some v → rows[t]? = some x → OwnSl w B 9 1 NmC v x
  sep : ∀ (t t' : Nat) (v v' : Value) (b : Nat), t ≠ t' → vs[t]? = some v → vs[t']? = some v' → v.ownBlock = some b → v'.ownBlock ≠ some b
  short : ∀ x ∈ rows, x.length ≤ k
  lo : B ≤ g
section
variable {w w' : World} {B g k : Nat} {vs : List Value} {rows : List (List ByteArray)}

theorem own_type {w : World} {base : Nat} {e : TypeId} {C2 : ByteArray → List Value → Prop} {v : Value} {x : List ByteArray} (h : OwnSl w base e 1 C2 v x) {b : Nat} (hb : v.ownBlock = some b) {cs : Array Value} {ty : TypeId} {fz : Nat × Nat} (hg : w.heap[b]? = some (.cells cs ty fz)) : ty = e := by
  obtain ⟨_, _, ho⟩ := h
  rcases ho.2 with ⟨rfl, _⟩ | ⟨g', cap, cur, rfl, _, hh, _⟩
  · simp [Value.ownBlock] at hb
  · have : g' = b := by simpa [Value.ownBlock] using hb
    subst this
    rw [hg] at hh
    injection hh with hh
    injection hh

theorem Vo.row (h : Vo w B g vs rows k) {t : Nat} (ht : t < 7) : ∃ v x, vs[t]? = some v ∧ rows[t]? = some x ∧ w.cell? ⟨g, t, none⟩ = some v ∧ OwnSl w B 9 1 NmC v x ∧ x.length ≤ k := by
  have h1 : t < vs.length := by rw [h.len]; exact ht
  have h2 : t < rows.length := by rw [h.rlen]; exact ht
  have e1 := List.getElem?_eq_getElem h1
  have e2 := List.getElem?_eq_getElem h2
  refine ⟨vs[t], rows[t], e1, e2, ?_, h.own t _ _ e1 e2, h.short _ (List.getElem_mem _)⟩
  rw [cell_of_row _ _ _ _ _ _ h.blk]
  simp [e1]

theorem Vo.ne_g (h : Vo w B g vs rows k) {t : Nat} {v : Value} {x : List ByteArray} (hv : vs[t]? = some v) (hx : rows[t]? = some x) : v.ownBlock ≠ some g := fun e => by
  have := own_type (h.own t v x hv hx) e h.blk
  exact absurd this (by decide)
theorem Vo.ne_p (h : Vo w B g vs rows k) {p : Nat} {cs : Array Value} (hp : w.heap[p]? = some (.cells cs 63 (0, 0))) {t : Nat} {v : Value} {x : List ByteArray} (hv : vs[t]? = some v) (hx : rows[t]? = some x) : v.ownBlock ≠ some p := fun e => by
  have := own_type (h.own t v x hv hx) e hp
  exact absurd this (by decide)

theorem Vo.kept {S : Nat → Prop} (h : Vo w B g vs rows k) (hf : Fr S w w') (hg : ¬ S g) (hS : ∀ (t : Nat) (v : Value) (x : List ByteArray), vs[t]? = some v → rows[t]? = some x → ∀ b, v.ownBlock = some b → ¬ S b) : Vo w' B g vs rows k :=
  ⟨(hf.block g (heap_lt h.blk) hg).trans h.blk, h.len, h.rlen, fun t v x hv hx => (h.own t v x hv hx).kept hf (hS t v x hv hx) (fun _ _ _ h => h), h.sep, h.short, h.lo⟩
theorem Vo.up (h : Vo w B g vs rows k) (hu : Up w w') : Vo w' B g vs rows k := h.kept hu (fun h => h) (fun _ _ _ _ _ _ _ h => h)

/-- The maker's variables. -/
theorem Vo.vars (h : Vo w B g vs rows k) {base p : Nat} (hb : base ≤ B) {cs : Array Value} (hp : w.heap[p]? = some (.cells cs 63 (0, 0))) : OwnSl w base 66 1 (RowS w (Gn base p (.slice (some ⟨g, 0, none⟩) 7 7))) (.slice (some ⟨g, 0, none⟩) 7 7) rows := by
  have hfl : ∀ l : List Value, (l.map fun v => [v]).flatten = l := fun l => by induction l with
    | nil => rfl
    | cons a r ih => rw [List.map_cons, List.flatten_cons, ih]; rfl
  refine ⟨vs.map fun v => [v], ⟨by simp [h.len, h.rlen], fun c hc => ?_, fun j x c hx hc => ?_⟩, ?_⟩
  · obtain ⟨v, _, rfl⟩ := List.mem_map.1 hc
    rfl
  · rw [List.getElem?_map] at hc
    cases hv : vs[j]? with
    | none => rw [hv] at hc; cases hc
    | some v =>
      rw [hv] at hc
      cases hc
      have ho := h.own j v x hv hx
      refine ⟨v, rfl, ho.reads.wide (fun b hq => ⟨Nat.le_trans hb hq.1, fun e => ?_, fun e => ?_⟩) (fun _ _ _ h => h)⟩
      · subst e; exact h.ne_p hp hv hx hq.2
      · simp [Value.ownBlock] at e
        subst e
        exact h.ne_g hv hx hq.2
  · rw [hfl]
    refine ⟨by rw [h.len, h.rlen], .inr ⟨g, 7, vs.toArray, by rw [h.rlen], Nat.le_trans hb h.lo, h.blk, by rw [h.rlen]; exact Nat.le_refl _, by decide, by simp [h.len], ?_⟩⟩
    rw [h.rlen]
    simp [h.len, List.take_of_length_le]

/-- The maker over a change of its variables. -/
theorem Vo.maker {base p : Nat} {A : Option Addr} {rc : Nat} {raw : List Int} {m : MS} {rows0 : List (List ByteArray)} {wd : World} (h0 : Mk wd base p A rc raw m rows0) (hvv : m.vv = .slice (some ⟨g, 0, none⟩) 7 7) (h : Vo w B g vs rows k) (hb : base ≤ B) {S : Nat → Prop} (hf : Fr S wd w) (hp : ¬ S p) (hr : ∀ b, b < base → ¬ S b) (hk : k ≤ m.names + 3) : Mk w base p A rc raw m rows := by
  have hblk := (hf.block p h0.plt hp).trans h0.blk
  refine ⟨hblk, ints_kept h0.nums hf (fun hne a ha => hr _ (h0.rawb hne a ha)), h0.rawb, ?_, h.rlen, h0.atle, h0.pb, fun x hx => Nat.le_trans (h.short x hx) hk⟩
  have := h.vars (p := p) hb hblk
  rw [hvv]
  exact this

/-- One name more in a row: the literal's block, the append, the store. -/
theorem Vo.push (h : Vo w B g vs rows k) (hB : B ≤ w.heap.size) {t : Nat} (ht : t < 7) {v : Value} {x : List ByteArray} (hv : vs[t]? = some v) (hx : rows[t]? = some x) (hk : k ≤ 100) (s : ByteArray) (hs : s.size ≤ 6) :
    ∃ A' N' c' W, (Builtin.append_ #[66, 66] 66 #[v, .slice (some ⟨w.heap.size, 0, none⟩) 1 1]).run Tryd.prog (w.alloc (.cells #[.string s] 9)) = .ok (.slice A' N' c') W ∧ Fr (fun b => v.ownBlock = some b) w W ∧ W.cell? ⟨g, t, none⟩ = some v ∧ W.frozen? ⟨g, t, none⟩ = false ∧
      Vo (W.setCell ⟨g, t, none⟩ (.slice A' N' c')) B g (vs.set t (.slice A' N' c')) (rows.set t (x ++ [s])) (k + 1) ∧ Fr (fun b => b = g ∨ v.ownBlock = some b) w (W.setCell ⟨g, t, none⟩ (.slice A' N' c')) := by
  have ho := h.own t v x hv hx
  have hxl := h.short x (List.mem_of_getElem? hx)
  have ha : Up w (w.alloc (.cells #[.string s] 9)) := (Fr.refl _ _).alloc _
  have hsz : (w.alloc (.cells #[.string s] 9)).heap.size = w.heap.size + 1 := by simp
  have hy : SlP (w.alloc (.cells #[.string s] 9)) (fun _ => True) 1 NmC (some ⟨w.heap.size, 0, none⟩) 1 [s] := ⟨Nat.le_refl _, by decide, fun _ => ⟨w.heap.size, 0, rfl, trivial, by simp, fun j y hj => by
    match j, hj with
    | 0, hj =>
      simp at hj; subst hj
      refine ⟨[.string s], ⟨rfl, hs⟩, rfl, fun i u hi => ?_⟩
      match i, hi with
      | 0, hi => simp at hi; subst hi; rw [cell_of_row _ _ _ _ _ _ (heap_alloc_new w _)]; rfl⟩⟩
  obtain ⟨v', W, hr, hown, hg, hbk⟩ := push_str (w.alloc (.cells #[.string s] 9)) B (ho.kept ha (fun _ _ h => h) (fun _ _ _ h => h)) hy (by simp; omega) (by omega)
  obtain ⟨A', N', c', rfl⟩ := own_shape hown
  have hf : Fr (fun b => v.ownBlock = some b) w W := Fr.trans (Fr.mono ha (fun _ _ h => h.elim)) (fr_grown hg) (fun _ _ h => h)
  have hng := h.ne_g hv hx
  have hblk : W.heap[g]? = some (.cells vs.toArray 66 (0, 0)) := (hf.block g (heap_lt h.blk) hng).trans h.blk
  have hset : Fr (fun b => b = g) W (W.setCell ⟨g, t, none⟩ (.slice A' N' c')) := (Fr.refl (fun b => b = g) W).setCell (p := ⟨g, t, none⟩) (fun _ => rfl) _
  have hall : Fr (fun b => b = g ∨ v.ownBlock = some b) w (W.setCell ⟨g, t, none⟩ (.slice A' N' c')) := Fr.trans (Fr.mono hf (fun _ _ h => .inr h)) hset (fun _ _ h => .inl h)
  have htl : t < vs.length := by rw [h.len]; exact ht
  have htr : t < rows.length := by rw [h.rlen]; exact ht
  have hgs := heap_lt h.blk
  have hown' : (Value.slice A' N' c').ownBlock ≠ some g := fun e => by
    rcases hbk g e with h1 | h1
    · exact hng h1
    · omega
  refine ⟨A', N', c', W, hr, hf, ?_, frozen_of_row _ g t _ _ hblk, ⟨?_, by simp [h.len], by simp [h.rlen], ?_, ?_, ?_, h.lo⟩, hall⟩
  · rw [cell_of_row _ _ _ _ _ _ hblk]; simp [hv]
  · simp [World.setCell, Array.getElem?_modify, hblk]
  · intro t2 v2 x2 h2 hx2
    by_cases ht2 : t2 = t
    · subst ht2
      rw [List.getElem?_set_self htl] at h2
      rw [List.getElem?_set_self htr] at hx2
      cases h2; cases hx2
      exact hown.kept hset (fun b hb e => hown' (by rw [hb, e])) (fun _ _ _ h => h)
    · rw [List.getElem?_set_ne (fun e => ht2 e.symm)] at h2 hx2
      refine (h.own t2 v2 x2 h2 hx2).kept hall (fun b hb e => ?_) (fun _ _ _ h => h)
      rcases e with e | e
      · subst e; exact h.ne_g h2 hx2 hb
      · exact h.sep t2 t v2 v b ht2 h2 hv hb e
  · intro t1 t2 v1 v2 b hne h1 h2 hb
    have fresh : ∀ (t3 : Nat) (v3 : Value), t3 ≠ t → vs[t3]? = some v3 → ∀ b, (Value.slice A' N' c').ownBlock = some b → v3.ownBlock ≠ some b := fun t3 v3 hn3 h3 b hb3 e3 => by
      rcases hbk b hb3 with h4 | h4
      · exact h.sep t3 t v3 v b hn3 h3 hv e3 h4
      · have h5 : t3 < rows.length := by rw [h.rlen, ← h.len]; exact (List.getElem?_eq_some_iff.1 h3).1
        have := ((h.own t3 v3 _ h3 (List.getElem?_eq_getElem h5)).lt b e3).2
        omega
    by_cases e1 : t1 = t
    · subst e1
      rw [List.getElem?_set_self htl] at h1
      cases h1
      rw [List.getElem?_set_ne hne] at h2
      exact fresh t2 v2 (fun e => hne e.symm) h2 b hb
    · rw [List.getElem?_set_ne (fun e => e1 e.symm)] at h1
      by_cases e2 : t2 = t
      · subst e2
        rw [List.getElem?_set_self htl] at h2
        cases h2
        intro e
        exact fresh t1 v1 e1 h1 b e hb
      · rw [List.getElem?_set_ne (fun e => e2 e.symm)] at h2
        exact h.sep t1 t2 v1 v2 b hne h1 h2 hb
  · intro y hy2
    rcases List.mem_or_eq_of_mem_set hy2 with h1 | h1
    · have := h.short y h1; omega
    · subst h1; rw [List.length_append]; simp; omega
end

/-- Seven rows of none. -/
theorem Vo.made {w : World} {B : Nat} (hB : B ≤ w.heap.size) {W : World} (hu : Up (w.alloc (.cells #[.slice none 0 0, .slice none 0 0, .slice none 0 0, .slice none 0 0, .slice none 0 0, .slice none 0 0, .slice none 0 0] 66)) W) : Vo W B w.heap.size (List.replicate 7 (.slice none 0 0)) (List.replicate 7 []) 0 := by
  have hg := heap_alloc_new w (.cells #[.slice none 0 0, .slice none 0 0, .slice none 0 0, .slice none 0 0, .slice none 0 0, .slice none 0 0, .slice none 0 0] 66)
  refine ⟨(hu.block _ (heap_lt hg) (fun h => h)).trans hg, rfl, rfl, fun t v x hv hx => ?_, fun t t' v v' b _ hv _ hb => ?_, fun x hx => ?_, hB⟩
  · obtain rfl := List.eq_of_mem_replicate (List.mem_of_getElem? hv)
    obtain rfl := List.eq_of_mem_replicate (List.mem_of_getElem? hx)
    exact OwnSl.none_
  · obtain rfl := List.eq_of_mem_replicate (List.mem_of_getElem? hv)
    simp [Value.ownBlock] at hb
  · obtain rfl := List.eq_of_mem_replicate hx
    exact Nat.le_refl _


/-- Seven rows of none, as they are made. -/
abbrev seven7 : Obj := .cells #[.slice none 0 0, .slice none 0 0, .slice none 0 0, .slice none 0 0, .slice none 0 0, .slice none 0 0, .slice none 0 0] 66
theorem made7 (w : World) : (Instr.makeSlice 61 (.int .i64 7) (.int .i64 7)).run Tryd.prog w = .ok (.slice (some ⟨w.heap.size, 0, none⟩) 7 7) (w.alloc seven7) := by kernel_rfl
/-- While fn sets the maker's fields. -/
structure Fs (w0 w : World) (p g : Nat) (row : Array Value) : Prop where
  blk : w.heap[p]? = some (.cells row 63 (0, 0))
  fr : FM p w0 w
  vo : Vo w w0.heap.size g (List.replicate 7 (.slice none 0 0)) (List.replicate 7 []) 0
theorem put_row {w : World} {p i : Nat} {row : Array Value} {t : TypeId} {z : Nat × Nat} (h : w.heap[p]? = some (.cells row t z)) (u : Value) : (w.setCell ⟨p, i, none⟩ u).heap[p]? = some (.cells (row.setIfInBounds i u) t z) := by
  simp [World.setCell, Array.getElem?_modify, h]
theorem Fs.set {w0 w : World} {p g : Nat} {row row' : Array Value} (h : Fs w0 w p g row) (hp : p < w0.heap.size) (i : Nat) (u : Value) (he : row.setIfInBounds i u = row') : Fs w0 (w.setCell ⟨p, i, none⟩ u) p g row' := by
  have hf : FM p w (w.setCell ⟨p, i, none⟩ u) := (Fr.refl (fun b => b = p) w).setCell (p := ⟨p, i, none⟩) (fun _ => rfl) u
  refine ⟨by rw [put_row h.blk, he], FM.trans h.fr hf, h.vo.kept hf (fun e => by have := h.vo.lo; omega) (fun t v x hv _ b hb => ?_)⟩
  obtain rfl := List.eq_of_mem_replicate (List.mem_of_getElem? hv)
  simp [Value.ownBlock] at hb
theorem Fs.start {w : World} {p : Nat} {row : Array Value} (hb : w.heap[p]? = some (.cells row 63 (0, 0))) : Fs w (w.alloc seven7) p w.heap.size row :=
  ⟨((((Fr.refl (fun _ => False) w).alloc seven7).block p (heap_lt hb) (fun h => h)).trans hb), (Fr.refl _ _).alloc _, Vo.made (Nat.le_refl _) (Fr.refl _ _)⟩

/-- Within fn's loop. -/
structure Fl (w0 wr : World) (base p g : Nat) (A : Option Addr) (rc : Nat) (raw : List Int) (m5 : MS) (vs : List Value) (rows : List (List ByteArray)) (k : Nat) : Prop where
  vo : Vo wr w0.heap.size g vs rows k
  six : vs[6]? = some (.slice none 0 0)
  sixr : rows[6]? = some []
  mem : Mk wr base p A rc raw m5 rows
  fr : FM p w0 wr

theorem Fl.up {w0 wr w' : World} {base p g : Nat} {A : Option Addr} {rc : Nat} {raw : List Int} {m5 : MS} {vs : List Value} {rows : List (List ByteArray)} {k : Nat} (h : Fl w0 wr base p g A rc raw m5 vs rows k) (hu : Up wr w') : Fl w0 w' base p g A rc raw m5 vs rows k :=
  ⟨h.vo.up hu, h.six, h.sixr, h.mem.up hu, Fr.trans h.fr hu (fun _ _ h => h.elim)⟩
theorem _root_.Go.Proofs.YtemmdbjcllcelaaDoor.SlP.blt {α : Type} {w : World} {G : Nat → Prop} {C : α → List Value → Prop} {A : Option Addr} {c : Nat} {xs : List α} (h : SlP w G 1 C A c xs) {k b o : Nat} (hA : A = some ⟨b, o, none⟩) (hk : k < xs.length) : b < w.heap.size := by
  obtain ⟨b', o', cs, e, _, hl, _⟩ := h.elem hk
  rw [hA] at e
  simp only [Option.some.injEq, Addr.mk.injEq, and_true] at e
  rw [e.1]; exact hl
/-- What the loads of a region want. -/
def Sx (p : Nat) (v2 : Value) (q1 q2 : Addr) (u1 u2 : Value) (W : World) : Prop := W.cell? ⟨p, 2, none⟩ = some v2 ∧ W.cell? q1 = some u1 ∧ W.cell? q2 = some u2
theorem Sx.kept {p : Nat} {v2 : Value} {q1 q2 : Addr} {u1 u2 : Value} {W W' : World} {S : Nat → Prop} (h : Sx p v2 q1 q2 u1 u2 W) (hf : Fr S W W') (h1 : ¬ S p) (h2 : ¬ S q1.block) (h3 : ¬ S q2.block) : Sx p v2 q1 q2 u1 u2 W' :=
  ⟨(hf.cell (p := ⟨p, 2, none⟩) (World.block_lt_of_cell? W _ h.1) h1).trans h.1, (hf.cell (p := q1) (World.block_lt_of_cell? W _ h.2.1) h2).trans h.2.1, (hf.cell (p := q2) (World.block_lt_of_cell? W _ h.2.2) h3).trans h.2.2⟩

set_option maxRecDepth 20000 in
set_option maxHeartbeats 8000000 in
theorem fn_any {w : World} {base p : Nat} {A : Option Addr} {rc : Nat} {raw : List Int} {m : MS} {rows : List (List ByteArray)} (h : Mk w base p A rc raw m rows) (head : ByteArray) (hh : head.size ≤ 100) {Gp : Nat → Prop} {Ap At : Option Addr} {cp ct : Nat} {ps : List ByteArray} {ts : List Int}
    (hps : SlP w Gp 1 NmC Ap cp ps) (hts : SlP w Gp 1 IntC At ct ts) (hG : ∀ b, Gp b → b ≠ p) (hlen : ts.length = ps.length) (h2 : ps.length ≤ 2) (ht6 : ∀ x ∈ ts, 0 ≤ x ∧ x < 6) (r : Int) (hr0 : -1 ≤ r) (hr7 : r < 7) (d : Nat) (hd : d ≤ 3) (cl : Bool) (ho : m.out.size ≤ 50000000000) :
    Calls Tryd.prog 21 #[.pointer (some ⟨p, 0, none⟩), .string head, .slice Ap ps.length cp, .slice At ps.length ct, .int .i64 r, .int .i64 d, .bool cl] w fun e w' => e = .returned (.tuple #[]) ∧ ∃ (m' : MS) (rows' : List (List ByteArray)), m'.out.size ≤ m.out.size + 100000000 ∧ Mk w' base p A rc raw m' rows' ∧ FM p w w' := by
  have F0 := Lib.hid (Fs.start h.blk)
  have PLT := Lib.hid h.plt
  have hrl := h.nums.le
  have hrb := h.nums.big
  have NUM := Lib.hid (And.intro h.nums (And.intro h.rawb (And.intro h.atle h.pb)))
  have HPS := Lib.hid hps
  have HTS := Lib.hid hts
  have HG := Lib.hid hG
  have HT6 := Lib.hid ht6
  have HLEN := Lib.hid hlen
  have HD := Lib.hid hd
  have HR := Lib.hid (And.intro hr0 hr7)
  have HO := Lib.hid ho
  have HH := Lib.hid hh
  obtain ⟨n, hn⟩ : ∃ n, n = ps.length := ⟨_, rfl⟩
  rw [← hn] at h2 ⊢
  have HN := Lib.hid hn
  have c2 := cell_of_row _ _ 2 _ _ _ F0.out.blk
  have f2 := frozen_of_row _ _ 2 _ _ F0.out.blk
  simp only [List.getElem?_toArray, List.getElem?_cons_zero, List.getElem?_cons_succ] at c2
  have mk7 := made7 w
  clear h hps hts hG hlen ht6 hr0 hr7 hd hh ho hn
  go_enter Tryd.func21, Tryd.ntmps21
  go_upto_region 1 with fail
  have F1 := Lib.hid (show Fs w _ p w.heap.size #[.slice A raw.length rc, .int .i64 m.at_, .slice (some ⟨w.heap.size, 0, none⟩) 7 7, .int .i64 m.names, .int .i64 m.loops, .int .i64 m.size, .string m.out, .int .i64 m.res, .bool m.calls] from F0.out.set PLT.out 2 (.slice (some ⟨w.heap.size, 0, none⟩) 7 7) rfl)
  obtain ⟨g, hg⟩ : ∃ g, g = w.heap.size := ⟨_, rfl⟩
  rw [← hg] at F1 ⊢
  have GW := Lib.hid hg
  clear c2 f2 F0 hg mk7
  generalize (w.alloc seven7).setCell ⟨p, 2, none⟩ (.slice (some ⟨g, 0, none⟩) 7 7) = w1 at F1 ⊢
  have c3 := cell_of_row _ _ 3 _ _ _ F1.out.blk
  have f3 := frozen_of_row _ _ 3 _ _ F1.out.blk
  simp only [List.getElem?_toArray, List.getElem?_cons_zero, List.getElem?_cons_succ] at c3
  go_upto_region 2 with fail
  have F2 := Lib.hid (show Fs w _ p g #[.slice A raw.length rc, .int .i64 m.at_, .slice (some ⟨g, 0, none⟩) 7 7, .int .i64 0, .int .i64 m.loops, .int .i64 m.size, .string m.out, .int .i64 m.res, .bool m.calls] from F1.out.set PLT.out 3 (.int .i64 0) rfl)
  clear c3 f3 F1
  generalize w1.setCell ⟨p, 3, none⟩ (.int .i64 0) = w2 at F2 ⊢
  have c5 := cell_of_row _ _ 5 _ _ _ F2.out.blk
  have f5 := frozen_of_row _ _ 5 _ _ F2.out.blk
  simp only [List.getElem?_toArray, List.getElem?_cons_zero, List.getElem?_cons_succ] at c5
  go_upto_region 3 with fail
  have F3 := Lib.hid (show Fs w _ p g #[.slice A raw.length rc, .int .i64 m.at_, .slice (some ⟨g, 0, none⟩) 7 7, .int .i64 0, .int .i64 m.loops, .int .i64 0, .string m.out, .int .i64 m.res, .bool m.calls] from F2.out.set PLT.out 5 (.int .i64 0) rfl)
  clear c5 f5 F2
  generalize w2.setCell ⟨p, 5, none⟩ (.int .i64 0) = w3 at F3 ⊢
  have c7 := cell_of_row _ _ 7 _ _ _ F3.out.blk
  have f7 := frozen_of_row _ _ 7 _ _ F3.out.blk
  simp only [List.getElem?_toArray, List.getElem?_cons_zero, List.getElem?_cons_succ] at c7
  go_upto_region 4 with fail
  have F4 := Lib.hid (show Fs w _ p g #[.slice A raw.length rc, .int .i64 m.at_, .slice (some ⟨g, 0, none⟩) 7 7, .int .i64 0, .int .i64 m.loops, .int .i64 0, .string m.out, .int .i64 r, .bool m.calls] from F3.out.set PLT.out 7 (.int .i64 r) rfl)
  clear c7 f7 F3
  generalize w3.setCell ⟨p, 7, none⟩ (.int .i64 r) = w4 at F4 ⊢
  have c8 := cell_of_row _ _ 8 _ _ _ F4.out.blk
  have f8 := frozen_of_row _ _ 8 _ _ F4.out.blk
  simp only [List.getElem?_toArray, List.getElem?_cons_zero, List.getElem?_cons_succ] at c8
  go_upto_region 5 with fail
  have F5 := Lib.hid (show Fs w _ p g #[.slice A raw.length rc, .int .i64 m.at_, .slice (some ⟨g, 0, none⟩) 7 7, .int .i64 0, .int .i64 m.loops, .int .i64 0, .string m.out, .int .i64 r, .bool cl] from F4.out.set PLT.out 8 (.bool cl) rfl)
  clear c8 f8 F4
  generalize w4.setCell ⟨p, 8, none⟩ (.bool cl) = w5 at F5 ⊢
  obtain ⟨m5, hm5⟩ : ∃ m5 : MS, m5 = ⟨m.at_, .slice (some ⟨g, 0, none⟩) 7 7, 0, m.loops, 0, m.out, r, cl⟩ := ⟨_, rfl⟩
  have M5 := Lib.hid (show m5.vv = .slice (some ⟨g, 0, none⟩) 7 7 ∧ m5.names = 0 ∧ m5.out = m.out ∧ m5.res = r by rw [hm5]; exact ⟨rfl, rfl, rfl, rfl⟩)
  have hbw : base ≤ w.heap.size := by have := NUM.out.2.2.2; have := PLT.out; omega
  have L0 := Lib.hid (show Fl w w5 base p g A rc raw m5 (List.replicate 7 (.slice none 0 0)) (List.replicate 7 []) 0 from ⟨F5.out.vo, rfl, rfl, by
    rw [hm5]
    exact ⟨F5.out.blk, ints_kept NUM.out.1 F5.out.fr (fun hne a ha e => by have := NUM.out.2.1 hne a ha; have := NUM.out.2.2.2; omega), NUM.out.2.1, F5.out.vo.vars hbw F5.out.blk, rfl, NUM.out.2.2.1, NUM.out.2.2.2, fun x hx => by rw [List.eq_of_mem_replicate hx]; exact Nat.zero_le _⟩, F5.out.fr⟩)
  have HBW := Lib.hid hbw
  clear hm5 hbw F5
  go_wp2_with fail
  go_loopw [14] (fun i wr => ∃ (k : Nat) (vs : List Value) (rows' : List (List ByteArray)), k ≤ n ∧ i = .int .i64 k ∧ Hid (Fl w wr base p g A rc raw m5 vs rows' k)) (fun i _ => n - (intOf i).toNat)
  case atStart => exact ⟨0, _, _, Nat.zero_le _, rfl, L0⟩
  case round =>
    clear L0
    obtain ⟨k, vs, rowsk, hk, rfl, L⟩ := hrel
    by_cases hkn : k < n
    · as_aux_lemma =>
      obtain ⟨bt, ot, rfl, hbt, ctk⟩ := SlP.int (HTS.out.kept L.out.fr (fun b hb => HG.out b hb) (fun _ h => h) (fun _ _ _ h => h)) (k := k) (by rw [HLEN.out, ← HN.out]; exact hkn)
      obtain ⟨bp, op_, cs, rfl, hbp, hbpl, ⟨rfl, hsz⟩, hcsl, hcs⟩ := (HPS.out.kept L.out.fr (fun b hb => HG.out b hb) (fun _ h => h) (fun _ _ _ h => h)).elem (k := k) (by rw [← HN.out]; exact hkn)
      have cpk := hcs 0 _ rfl
      simp only [Nat.mul_one, Nat.add_zero] at cpk
      have ht6 := HT6.out (ts[k]'(by rw [HLEN.out, ← HN.out]; exact hkn)) (List.getElem_mem _)
      obtain ⟨t, htv⟩ := Int.eq_ofNat_of_zero_le ht6.1
      rw [htv] at ctk ht6
      have htt : t < 6 := by omega
      clear hcs hcsl
      generalize ps[k]'(by rw [← HN.out]; exact hkn) = s at cpk hsz
      have hu := Fr.drew (Fr.refl (fun _ => False) wr)
      have LD := Lib.hid (L.out.up hu)
      have cpk2 := (hu.cell (p := ⟨bp, op_ + k, none⟩) (World.block_lt_of_cell? wr _ cpk) (fun h => h)).trans cpk
      have ctk2 := (hu.cell (p := ⟨bt, ot + k, none⟩) (World.block_lt_of_cell? wr _ ctk) (fun h => h)).trans ctk
      have hbtw := HTS.out.blt (k := k) (b := bt) (o := ot) rfl (by rw [HLEN.out, ← HN.out]; exact hkn)
      have hbpw := HPS.out.blt (k := k) (b := bp) (o := op_) rfl (by rw [← HN.out]; exact hkn)
      obtain ⟨v, x, hv, hx, hct, hown, hxk⟩ := LD.out.vo.row (t := t) (by omega)
      have hszw : w.heap.size ≤ wr.drew.heap.size := LD.out.fr.size
      obtain ⟨A', N', c', W, hrun, hfW, hctW, hfrW, hvo, hfall⟩ := LD.out.vo.push hszw (show t < 7 by omega) hv hx (by omega) s hsz
      have c2d := LD.out.mem.cell 2
      simp only [List.getElem?_toArray, List.getElem?_cons_zero, List.getElem?_cons_succ] at c2d
      rw [M5.out.1] at c2d
      have hal : Up wr.drew (wr.drew.alloc (.cells #[.string s] 9)) := (Fr.refl _ _).alloc _
      have hgl := heap_lt LD.out.vo.blk
      have hvp : ¬ (v.ownBlock = some p) := LD.out.vo.ne_p LD.out.mem.blk hv hx
      have hvl : ∀ b, v.ownBlock = some b → w.heap.size ≤ b := fun b hb => (hown.lt b hb).1
      have hgp : p ≠ g := by have := PLT.out; have := GW.out; omega
      have sx0 : Sx p (.slice (some ⟨g, 0, none⟩) 7 7) ⟨bt, ot + k, none⟩ ⟨bp, op_ + k, none⟩ (.int .i64 (t : Int)) (.string s) wr.drew := ⟨c2d, ctk2, cpk2⟩
      have SX0 := Lib.hid sx0
      have SX1 := Lib.hid (sx0.kept hal (fun h => h) (fun h => h) (fun h => h))
      have SXW := Lib.hid (sx0.kept hfW hvp (fun e => by have := hvl _ e; simp only at this; omega) (fun e => by have := hvl _ e; simp only at this; omega))
      have SXF := Lib.hid (sx0.kept hfall (fun e => e.elim hgp hvp) (fun e => by rcases e with e | e; (have := GW.out; simp only at e; omega); (have := hvl _ e; simp only at this; omega)) (fun e => by rcases e with e | e; (have := GW.out; simp only at e; omega); (have := hvl _ e; simp only at this; omega)))
      have CT0 := Lib.hid hct
      have CT1 := Lib.hid ((hal.cell (p := ⟨g, t, none⟩) hgl (fun h => h)).trans hct)
      have CTW := Lib.hid (And.intro hctW hfrW)
      have HA := Lib.hid hrun
      have LF := Lib.hid (show Fl w (W.setCell ⟨g, t, none⟩ (.slice A' N' c')) base p g A rc raw m5 (vs.set t (.slice A' N' c')) (rowsk.set t (x ++ [s])) (k + 1) from
        ⟨hvo, by rw [List.getElem?_set_ne (by omega)]; exact LD.out.six, by rw [List.getElem?_set_ne (by omega)]; exact LD.out.sixr,
          hvo.maker LD.out.mem M5.out.1 HBW.out hfall (fun e => e.elim hgp hvp) (fun b hb e => by
            have h9 := HBW.out
            rcases e with e | e
            · have := GW.out; omega
            · have := hvl _ e; omega) (by have := M5.out.2.1; omega),
          Fr.trans LD.out.fr hfall (fun i hi e => by
            rcases e with e | e
            · have := GW.out; omega
            · have := hvl _ e; omega)⟩)
      have t7 : (t : Int) < 7 := by omega
      have kn : (k : Int) < (n : Int) := by omega
      have kw : IntKind.i64.wrap ((k : Int) + 1) = (k : Int) + 1 := IntWalk.i64_in _ (by omega)
      have HK := Lib.hid hkn
      clear hbt ctk hbp hbpl hsz cpk ht6 htv htt hu cpk2 ctk2 hbtw hbpw hv hx hct hown hxk hszw hrun hfW hctW hfrW hvo hfall c2d hal hgl hvp hvl hgp sx0 hkn hk h2
      go_upto_region 8 with fail
      refine wp_region_held_drew (S := Sx p (.slice (some ⟨g, 0, none⟩) 7 7) ⟨bt, ot + k, none⟩ ⟨bp, op_ + k, none⟩ (.int .i64 (t : Int)) (.string s)) (by kernel_rfl) (by exact SX0.out) (fun hHeld => ?_)
      generalize wr.drew = wd at *
      refine held_take (i := 0) (d := some 39) (v := ?_) rfl rfl (by kernel_rfl) (by kernel_rfl) (by kernel_rfl) (fun _ _ _ h => h) (by rfl) ?_ (by assumption) ?_
      rotate_left 1
      focus (intro w hSw; (try dsimp only at hSw); go_simp; first | done | with_reducible rfl)
      simp only [Act.put, List.setIfInBounds_toArray, List.set_cons_zero, List.set_cons_succ]
      refine held_take (i := 1) (d := some 40) (v := ?_) rfl rfl (by kernel_rfl) (by kernel_rfl) (by kernel_rfl) (fun _ _ _ h => h) (by rfl) ?_ (by assumption) ?_
      rotate_left 1
      focus (intro w hSw; (try dsimp only at hSw); go_simp; first | done | with_reducible rfl)
      simp only [Act.put, List.setIfInBounds_toArray, List.set_cons_zero, List.set_cons_succ]
      refine held_take (i := 2) (d := some 41) (v := ?_) rfl rfl (by kernel_rfl) (by kernel_rfl) (by kernel_rfl) (fun _ _ _ h => h) (by rfl) ?_ (by assumption) ?_
      rotate_left 1
      focus (intro w hSw; (try dsimp only at hSw); go_simp; first | done | with_reducible rfl)
      simp only [Act.put, List.setIfInBounds_toArray, List.set_cons_zero, List.set_cons_succ]
      refine held_take (i := 3) (d := some 42) (v := ?_) rfl rfl (by kernel_rfl) (by kernel_rfl) (by kernel_rfl) (fun _ _ _ h => h) (by rfl) ?_ (by assumption) ?_
      rotate_left 1
      focus (intro w hSw; obtain ⟨z2, z3, z4⟩ := hSw; (try dsimp only at hSw); go_simp; first | done | with_reducible rfl)
      simp only [Act.put, List.setIfInBounds_toArray, List.set_cons_zero, List.set_cons_succ]
      refine held_take (i := 4) (d := some 43) (v := ?_) rfl rfl (by kernel_rfl) (by kernel_rfl) (by kernel_rfl) (fun _ _ _ h => h) (by rfl) ?_ (by assumption) ?_
      rotate_left 1
      focus (intro w hSw; (try dsimp only at hSw); go_simp; first | done | with_reducible rfl)
      simp only [Act.put, List.setIfInBounds_toArray, List.set_cons_zero, List.set_cons_succ]
      refine held_take (i := 5) (d := some 44) (v := ?_) rfl rfl (by kernel_rfl) (by kernel_rfl) (by kernel_rfl) (fun _ _ _ h => h) (by rfl) ?_ (by assumption) ?_
      rotate_left 1
      focus (intro w hSw; (try dsimp only at hSw); go_simp; first | done | with_reducible rfl)
      simp only [Act.put, List.setIfInBounds_toArray, List.set_cons_zero, List.set_cons_succ]
      refine held_take (i := 6) (d := some 45) (v := ?_) rfl rfl (by kernel_rfl) (by kernel_rfl) (by kernel_rfl) (fun _ _ _ h => h) (by rfl) ?_ (by assumption) ?_
      rotate_left 1
      focus (intro w hSw; (try dsimp only at hSw); go_simp; first | done | with_reducible rfl)
      simp only [Act.put, List.setIfInBounds_toArray, List.set_cons_zero, List.set_cons_succ]
      refine held_take (i := 7) (d := some 46) (v := ?_) rfl rfl (by kernel_rfl) (by kernel_rfl) (by kernel_rfl) (fun _ _ _ h => h) (by rfl) ?_ (by assumption) ?_
      rotate_left 1
      focus (intro w hSw; obtain ⟨z2, z3, z4⟩ := hSw; (try dsimp only at hSw); go_simp; first | done | with_reducible rfl)
      simp only [Act.put, List.setIfInBounds_toArray, List.set_cons_zero, List.set_cons_succ]
      refine held_take (i := 8) (d := some 47) (v := ?_) rfl rfl (by kernel_rfl) (by kernel_rfl) (by kernel_rfl) (fun _ _ _ h => h) (by rfl) ?_ (by assumption) ?_
      rotate_left 1
      focus (intro w hSw; (try dsimp only at hSw); go_simp; first | done | with_reducible rfl)
      simp only [Act.put, List.setIfInBounds_toArray, List.set_cons_zero, List.set_cons_succ]
      refine held_take (i := 9) (d := some 48) (v := ?_) rfl rfl (by kernel_rfl) (by kernel_rfl) (by kernel_rfl) (fun _ _ _ h => h) (by rfl) ?_ (by assumption) ?_
      rotate_left 1
      focus (intro w hSw; (try dsimp only at hSw); go_simp; first | done | with_reducible rfl)
      simp only [Act.put, List.setIfInBounds_toArray, List.set_cons_zero, List.set_cons_succ]
      refine held_take (i := 10) (d := some 49) (v := ?_) rfl rfl (by kernel_rfl) (by kernel_rfl) (by kernel_rfl) (fun _ _ _ h => h) (by rfl) ?_ (by assumption) ?_
      rotate_left 1
      focus (intro w hSw; (try dsimp only at hSw); go_simp; first | done | with_reducible rfl)
      simp only [Act.put, List.setIfInBounds_toArray, List.set_cons_zero, List.set_cons_succ]
      refine held_take (i := 11) (d := some 50) (v := ?_) rfl rfl (by kernel_rfl) (by kernel_rfl) (by kernel_rfl) (fun _ _ _ h => h) (by rfl) ?_ (by assumption) ?_
      rotate_left 1
      focus (intro w hSw; obtain ⟨z2, z3, z4⟩ := hSw; (try dsimp only at hSw); go_simp; first | done | with_reducible rfl)
      simp only [Act.put, List.setIfInBounds_toArray, List.set_cons_zero, List.set_cons_succ]
      refine held_take (i := 12) (d := some 51) (v := ?_) rfl rfl (by kernel_rfl) (by kernel_rfl) (by kernel_rfl) (fun _ _ _ h => h) (by rfl) ?_ (by assumption) ?_
      rotate_left 1
      focus (intro w hSw; (try dsimp only at hSw); go_simp; first | done | with_reducible rfl)
      simp only [Act.put, List.setIfInBounds_toArray, List.set_cons_zero, List.set_cons_succ]
      refine held_take (i := 13) (d := some 52) (v := ?_) rfl rfl (by kernel_rfl) (by kernel_rfl) (by kernel_rfl) (fun _ _ _ h => h) (by rfl) ?_ (by assumption) ?_
      rotate_left 1
      focus (intro w hSw; (try dsimp only at hSw); go_simp; first | done | with_reducible rfl)
      simp only [Act.put, List.setIfInBounds_toArray, List.set_cons_zero, List.set_cons_succ]
      refine held_take (i := 14) (d := some 53) (v := ?_) rfl rfl (by kernel_rfl) (by kernel_rfl) (by kernel_rfl) (fun _ _ _ h => h) (by rfl) ?_ (by assumption) ?_
      rotate_left 1
      focus (intro w hSw; (try dsimp only at hSw); go_simp; first | done | with_reducible rfl)
      simp only [Act.put, List.setIfInBounds_toArray, List.set_cons_zero, List.set_cons_succ]
      refine held_take (i := 15) (d := some 54) (v := ?_) rfl rfl (by kernel_rfl) (by kernel_rfl) (by kernel_rfl) (fun _ _ _ h => h) (by rfl) ?_ (by assumption) ?_
      rotate_left 1
      focus (intro w hSw; obtain ⟨z2, z3, z4⟩ := hSw; (try dsimp only at hSw); go_simp; first | done | with_reducible rfl)
      simp only [Act.put, List.setIfInBounds_toArray, List.set_cons_zero, List.set_cons_succ]
      refine held_take (i := 16) (d := some 55) (v := ?_) rfl rfl (by kernel_rfl) (by kernel_rfl) (by kernel_rfl) (fun _ _ _ h => h) (by rfl) ?_ (by assumption) ?_
      rotate_left 1
      focus (intro w hSw; (try dsimp only at hSw); go_simp; first | done | with_reducible rfl)
      simp only [Act.put, List.setIfInBounds_toArray, List.set_cons_zero, List.set_cons_succ]
      refine held_take (i := 18) (d := some 57) (v := ?_) rfl rfl (by kernel_rfl) (by kernel_rfl) (by kernel_rfl) (fun _ _ _ h => h) (by rfl) ?_ (by assumption) ?_
      rotate_left 1
      focus (intro w hSw; (try dsimp only at hSw); go_simp; first | done | with_reducible rfl)
      simp only [Act.put, List.setIfInBounds_toArray, List.set_cons_zero, List.set_cons_succ]
      refine held_take (i := 19) (d := some 58) (v := ?_) rfl rfl (by kernel_rfl) (by kernel_rfl) (by kernel_rfl) (fun _ _ _ h => h) (by rfl) ?_ (by assumption) ?_
      rotate_left 1
      focus (intro w hSw; (try dsimp only at hSw); go_simp; first | done | with_reducible rfl)
      simp only [Act.put, List.setIfInBounds_toArray, List.set_cons_zero, List.set_cons_succ]
      refine held_take (i := 20) (d := some 59) (v := ?_) rfl rfl (by kernel_rfl) (by kernel_rfl) (by kernel_rfl) (fun _ _ _ h => h) (by rfl) ?_ (by assumption) ?_
      rotate_left 1
      focus (intro w hSw; (try dsimp only at hSw); go_simp; first | done | with_reducible rfl)
      simp only [Act.put, List.setIfInBounds_toArray, List.set_cons_zero, List.set_cons_succ]
      refine held_take (i := 21) (d := some 60) (v := ?_) rfl rfl (by kernel_rfl) (by kernel_rfl) (by kernel_rfl) (fun _ _ _ h => h) (by rfl) ?_ (by assumption) ?_
      rotate_left 1
      focus (intro w hSw; obtain ⟨z2, z3, z4⟩ := hSw; (try dsimp only at hSw); go_simp; first | done | with_reducible rfl)
      simp only [Act.put, List.setIfInBounds_toArray, List.set_cons_zero, List.set_cons_succ]
      refine wpAnyH_ready (rs := [17, 22]) (by kernel_rfl) (by simp) ?_
      refine (AllReadyH.cons (o := _) rfl (fun K hK => ?_) (AllReadyH.cons (o := _) rfl (fun K hK => ?_) AllReadyH.nil))
      · have ct := CT0.out
        have ct1 := CT1.out
        go_simp
        clear ct ct1
        refine hK.out _ _ (by exact hHeld) (fun hHeld => ?_)
        clear hK K
        refine wpAnyH_ready (rs := [22]) (by kernel_rfl) (by simp) ?_
        refine (AllReadyH.cons (o := _) rfl (fun K hK => ?_) AllReadyH.nil)
        go_simp
        refine hK.out _ _ (by exact SX1.out) (fun hHeld => ?_)
        clear hK K
        refine wpAnyH_ready (rs := [23]) (by kernel_rfl) (by simp) ?_
        refine (AllReadyH.cons (o := _) rfl (fun K hK => ?_) AllReadyH.nil)
        refine step_append_run rfl (.tmp 56) (.tmp 61) 66 rfl rfl rfl HA.out ?_
        go_simp
        refine hK.out _ _ (by exact SXW.out) (fun hHeld => ?_)
        clear hK K
        refine held_take (i := 24) (d := some 63) (v := ?_) rfl rfl (by kernel_rfl) (by kernel_rfl) (by kernel_rfl) (fun _ _ _ h => h) (by rfl) ?_ (by assumption) ?_
        rotate_left 1
        focus (intro w hSw; (try dsimp only at hSw); go_simp; first | done | with_reducible rfl)
        simp only [Act.put, List.setIfInBounds_toArray, List.set_cons_zero, List.set_cons_succ]
        refine wpAnyH_ready (rs := [25]) (by kernel_rfl) (by simp) ?_
        refine (AllReadyH.cons (o := _) rfl (fun K hK => ?_) AllReadyH.nil)
        have ct := CTW.out.1
        have ft := CTW.out.2
        go_simp
        clear ct ft
        refine hK.out _ _ (by exact SXF.out) (fun hHeld => ?_)
        clear hK K
        refine wpAnyH_done (by kernel_rfl) ?_ _
        generalize W.setCell ⟨g, t, none⟩ (.slice A' N' c') = W9 at LF ⊢
        clear hHeld CT0 CT1 CTW HA SX0 SX1 SXW SXF LD
        go_wp2_with fail
        exact ⟨⟨k + 1, _, _, by have := HK.out; omega, by simp, LF⟩, by have := HK.out; simp [intOf]; omega⟩
      · go_simp
        refine hK.out _ _ (by exact SX1.out) (fun hHeld => ?_)
        clear hK K
        refine wpAnyH_ready (rs := [17]) (by kernel_rfl) (by simp) ?_
        refine (AllReadyH.cons (o := _) rfl (fun K hK => ?_) AllReadyH.nil)
        have ct := CT0.out
        have ct1 := CT1.out
        go_simp
        clear ct ct1
        refine hK.out _ _ (by exact hHeld) (fun hHeld => ?_)
        clear hK K
        refine wpAnyH_ready (rs := [23]) (by kernel_rfl) (by simp) ?_
        refine (AllReadyH.cons (o := _) rfl (fun K hK => ?_) AllReadyH.nil)
        refine step_append_run rfl (.tmp 56) (.tmp 61) 66 rfl rfl rfl HA.out ?_
        go_simp
        refine hK.out _ _ (by exact SXW.out) (fun hHeld => ?_)
        clear hK K
        refine held_take (i := 24) (d := some 63) (v := ?_) rfl rfl (by kernel_rfl) (by kernel_rfl) (by kernel_rfl) (fun _ _ _ h => h) (by rfl) ?_ (by assumption) ?_
        rotate_left 1
        focus (intro w hSw; (try dsimp only at hSw); go_simp; first | done | with_reducible rfl)
        simp only [Act.put, List.setIfInBounds_toArray, List.set_cons_zero, List.set_cons_succ]
        refine wpAnyH_ready (rs := [25]) (by kernel_rfl) (by simp) ?_
        refine (AllReadyH.cons (o := _) rfl (fun K hK => ?_) AllReadyH.nil)
        have ct := CTW.out.1
        have ft := CTW.out.2
        go_simp
        clear ct ft
        refine hK.out _ _ (by exact SXF.out) (fun hHeld => ?_)
        clear hK K
        refine wpAnyH_done (by kernel_rfl) ?_ _
        generalize W.setCell ⟨g, t, none⟩ (.slice A' N' c') = W9 at LF ⊢
        clear hHeld CT0 CT1 CTW HA SX0 SX1 SXW SXF LD
        go_wp2_with fail
        exact ⟨⟨k + 1, _, _, by have := HK.out; omega, by simp, LF⟩, by have := HK.out; simp [intOf]; omega⟩
    · as_aux_lemma =>
      have kn : ¬ (k : Int) < (n : Int) := by omega
      have HK2 := Lib.hid (show k ≤ 2 by omega)
      have hh := HH.out
      have q1 : head.size + 2 ≤ 9223372036854775807 := by omega
      obtain ⟨l1, el1⟩ : ∃ c, head ++ ({ data := #[32, 123] } : ByteArray) = c := ⟨_, rfl⟩
      have hl1 : l1.size ≤ 100 + 2 := cat_le el1 hh (Nat.le_refl _)
      have ho5 : m5.out.size ≤ 50000000000 := by rw [M5.out.2.2.1]; exact HO.out
      have L1 := Lib.hid (show Calls Tryd.prog 20 #[.pointer (some ⟨p, 0, none⟩), .int .i64 0, .string l1] wr _ from line_any L.out.mem 0 (by decide) l1 (by omega) (by omega))
      have O5 := Lib.hid ho5
      have HL1 := Lib.hid hl1
      clear hh hl1 ho5 hkn hk h2
      go_wp2_with fail
      refine L1.out.mono ?_
      rintro e w6 ⟨o6, rfl, ho6, hm6, hf6⟩
      have H6 := Lib.hid hm6
      have F6 := Lib.hid hf6
      have O6 := Lib.hid (show o6.size ≤ m5.out.size + 200 by have := HL1.out; omega)
      have L2 := Lib.hid (show Calls Tryd.prog 20 #[.pointer (some ⟨p, 0, none⟩), .int .i64 1, .string { data := #[118, 97, 114, 32, 122, 32, 73] }] w6 _ from line_any H6.out 1 (by decide) { data := #[118, 97, 114, 32, 122, 32, 73] } (by decide) (by have h1 := O6.out; have h2 := O5.out; show o6.size ≤ _; omega))
      clear hm6 hf6 ho6 q1 el1 L1
      go_wp2_with fail
      refine L2.out.mono ?_
      rintro e w7 ⟨o7, rfl, ho7, hm7, hf7⟩
      obtain ⟨m7, hm7e⟩ : ∃ m7 : MS, m7 = { m5 with out := o7 } := ⟨_, rfl⟩
      have M7 := Lib.hid (show m7.vv = .slice (some ⟨g, 0, none⟩) 7 7 ∧ m7.names = 0 ∧ m7.res = r ∧ m7.out.size ≤ m.out.size + 400 by
        rw [hm7e]
        refine ⟨M5.out.1, M5.out.2.1, M5.out.2.2.2, ?_⟩
        have h1 := O6.out
        have h2 : ({ data := #[118, 97, 114, 32, 122, 32, 73] } : ByteArray).size = 7 := rfl
        rw [h2] at ho7
        rw [M5.out.2.2.1] at h1
        have h3 : o7.size = o6.size + 1 + 7 + 1 := ho7
        show o7.size ≤ _
        omega)
      have hm7' : Mk w7 base p A rc raw m7 rowsk := by rw [hm7e]; exact hm7
      clear hm7e hm7
      have hf57 : FM p wr w7 := FM.trans F6.out hf7
      have hgp : g ≠ p := by have := PLT.out; have := GW.out; omega
      have vo7 : Vo w7 w.heap.size g vs rowsk k := L.out.vo.kept hf57 (fun e => hgp e) (fun t v x hv hx b hb e => L.out.vo.ne_p L.out.mem.blk hv hx (by rw [hb, e]))
      have L7 := Lib.hid (show Fl w w7 base p g A rc raw m7 vs rowsk k from ⟨vo7, L.out.six, L.out.sixr, hm7', FM.trans L.out.fr hf57⟩)
      clear ho7 hm7' hf57 hgp vo7 hf7 L2 H6 F6 O6 L
      have hu := Fr.drew (Fr.refl (fun _ => False) w7)
      have LD := Lib.hid (L7.out.up hu)
      have hszw : w.heap.size ≤ w7.drew.heap.size := LD.out.fr.size
      obtain ⟨A', N', c', W, hrun, hfW, hctW, hfrW, hvo, hfall⟩ := LD.out.vo.push hszw (show 6 < 7 by decide) LD.out.six LD.out.sixr (by have := HK2.out; omega) { data := #[122] } (by decide)
      have c2d := LD.out.mem.cell 2
      simp only [List.getElem?_toArray, List.getElem?_cons_zero, List.getElem?_cons_succ] at c2d
      rw [M7.out.1] at c2d
      have hal : Up w7.drew (w7.drew.alloc (.cells #[.string { data := #[122] }] 9)) := (Fr.refl _ _).alloc _
      have hgl := heap_lt LD.out.vo.blk
      have hplt := LD.out.mem.plt
      have hgp : p ≠ g := by have := PLT.out; have := GW.out; omega
      have hvp : ¬ ((Value.slice none 0 0).ownBlock = some p) := fun e => by simp [Value.ownBlock] at e
      have C2 := Lib.hid c2d
      have C21 := Lib.hid ((hal.cell (p := ⟨p, 2, none⟩) hplt (fun h => h)).trans c2d)
      have C2W := Lib.hid ((hfW.cell (p := ⟨p, 2, none⟩) hplt hvp).trans c2d)
      have C2F := Lib.hid ((hfall.cell (p := ⟨p, 2, none⟩) hplt (fun e => e.elim hgp hvp)).trans c2d)
      have hct : w7.drew.cell? ⟨g, 6, none⟩ = some (.slice none 0 0) := by rw [cell_of_row _ _ _ _ _ _ LD.out.vo.blk]; simp [LD.out.six]
      have CT0 := Lib.hid hct
      have CT1 := Lib.hid ((hal.cell (p := ⟨g, 6, none⟩) hgl (fun h => h)).trans hct)
      have CTW := Lib.hid (And.intro hctW hfrW)
      have HA := Lib.hid hrun
      have FF := Lib.hid (show FM p w (W.setCell ⟨g, 6, none⟩ (.slice A' N' c')) from Fr.trans LD.out.fr hfall (fun i hi e => by
        rcases e with e | e
        · have := GW.out; omega
        · simp [Value.ownBlock] at e))
      have KF := Lib.hid (show Wt (W.setCell ⟨g, 6, none⟩ (.slice A' N' c')) (W.setCell ⟨g, 6, none⟩ (.slice A' N' c')) base p A rc raw m7 m7 (rowsk.set 6 ([] ++ [{ data := #[122] }])) 0 from Wt.refl (hvo.maker LD.out.mem M7.out.1 HBW.out hfall (fun e => e.elim hgp hvp) (fun b hb e => by
            have h9 := HBW.out
            rcases e with e | e
            · have := GW.out; omega
            · simp [Value.ownBlock] at e) (by have := M7.out.2.1; have := HK2.out; omega)) (by rw [M7.out.2.1]; decide))
      have NG := Lib.hid (show ∀ W0, FM p w W0 → ∀ W1, Fr (fun b => b = p ∨ m7.vv.ownBlock = some b) W0 W1 → FM p w W1 from fun W0 h0 W1 h1 => Fr.trans h0 h1 (fun i hi e => by
        rcases e with e | e
        · exact e
        · rw [M7.out.1] at e
          simp [Value.ownBlock] at e
          have := GW.out
          omega))
      clear hu hszw hrun hfW hctW hfrW hvo hfall c2d hal hgl hplt hgp hvp hct L7
      go_upto_region 11 with fail
      refine wp_region_held_drew (S := fun W => W.cell? ⟨p, 2, none⟩ = some (.slice (some ⟨g, 0, none⟩) 7 7)) (by kernel_rfl) (by exact C2.out) (fun hHeld => ?_)
      generalize w7.drew = wd at *
      refine held_take (i := 0) (d := some 70) (v := ?_) rfl rfl (by kernel_rfl) (by kernel_rfl) (by kernel_rfl) (fun _ _ _ h => h) (by rfl) ?_ (by assumption) ?_
      rotate_left 1
      focus (intro w hSw; (try dsimp only at hSw); go_simp; first | done | with_reducible rfl)
      simp only [Act.put, List.setIfInBounds_toArray, List.set_cons_zero, List.set_cons_succ]
      refine held_take (i := 1) (d := some 71) (v := ?_) rfl rfl (by kernel_rfl) (by kernel_rfl) (by kernel_rfl) (fun _ _ _ h => h) (by rfl) ?_ (by assumption) ?_
      rotate_left 1
      focus (intro w hSw; (try dsimp only at hSw); go_simp; first | done | with_reducible rfl)
      simp only [Act.put, List.setIfInBounds_toArray, List.set_cons_zero, List.set_cons_succ]
      refine held_take (i := 2) (d := some 72) (v := ?_) rfl rfl (by kernel_rfl) (by kernel_rfl) (by kernel_rfl) (fun _ _ _ h => h) (by rfl) ?_ (by assumption) ?_
      rotate_left 1
      focus (intro w hSw; (try dsimp only at hSw); go_simp; first | done | with_reducible rfl)
      simp only [Act.put, List.setIfInBounds_toArray, List.set_cons_zero, List.set_cons_succ]
      refine held_take (i := 3) (d := some 73) (v := ?_) rfl rfl (by kernel_rfl) (by kernel_rfl) (by kernel_rfl) (fun _ _ _ h => h) (by rfl) ?_ (by assumption) ?_
      rotate_left 1
      focus (intro w hSw; (try dsimp only at hSw); go_simp; first | done | with_reducible rfl)
      simp only [Act.put, List.setIfInBounds_toArray, List.set_cons_zero, List.set_cons_succ]
      refine held_take (i := 4) (d := some 74) (v := ?_) rfl rfl (by kernel_rfl) (by kernel_rfl) (by kernel_rfl) (fun _ _ _ h => h) (by rfl) ?_ (by assumption) ?_
      rotate_left 1
      focus (intro w hSw; (try dsimp only at hSw); go_simp; first | done | with_reducible rfl)
      simp only [Act.put, List.setIfInBounds_toArray, List.set_cons_zero, List.set_cons_succ]
      refine held_take (i := 5) (d := some 75) (v := ?_) rfl rfl (by kernel_rfl) (by kernel_rfl) (by kernel_rfl) (fun _ _ _ h => h) (by rfl) ?_ (by assumption) ?_
      rotate_left 1
      focus (intro w hSw; (try dsimp only at hSw); go_simp; first | done | with_reducible rfl)
      simp only [Act.put, List.setIfInBounds_toArray, List.set_cons_zero, List.set_cons_succ]
      refine held_take (i := 6) (d := some 76) (v := ?_) rfl rfl (by kernel_rfl) (by kernel_rfl) (by kernel_rfl) (fun _ _ _ h => h) (by rfl) ?_ (by assumption) ?_
      rotate_left 1
      focus (intro w hSw; (try dsimp only at hSw); go_simp; first | done | with_reducible rfl)
      simp only [Act.put, List.setIfInBounds_toArray, List.set_cons_zero, List.set_cons_succ]
      refine held_take (i := 7) (d := some 77) (v := ?_) rfl rfl (by kernel_rfl) (by kernel_rfl) (by kernel_rfl) (fun _ _ _ h => h) (by rfl) ?_ (by assumption) ?_
      rotate_left 1
      focus (intro w hSw; (try dsimp only at hSw); go_simp; first | done | with_reducible rfl)
      simp only [Act.put, List.setIfInBounds_toArray, List.set_cons_zero, List.set_cons_succ]
      refine held_take (i := 8) (d := some 78) (v := ?_) rfl rfl (by kernel_rfl) (by kernel_rfl) (by kernel_rfl) (fun _ _ _ h => h) (by rfl) ?_ (by assumption) ?_
      rotate_left 1
      focus (intro w hSw; (try dsimp only at hSw); go_simp; first | done | with_reducible rfl)
      simp only [Act.put, List.setIfInBounds_toArray, List.set_cons_zero, List.set_cons_succ]
      refine wpAnyH_ready (rs := [9, 10]) (by kernel_rfl) (by simp) ?_
      refine (AllReadyH.cons (o := _) rfl (fun K hK => ?_) (AllReadyH.cons (o := _) rfl (fun K hK => ?_) AllReadyH.nil))
      · have ct := CT0.out
        have ct1 := CT1.out
        go_simp
        clear ct ct1
        refine hK.out _ _ (by exact hHeld) (fun hHeld => ?_)
        clear hK K
        refine wpAnyH_ready (rs := [10]) (by kernel_rfl) (by simp) ?_
        refine (AllReadyH.cons (o := _) rfl (fun K hK => ?_) AllReadyH.nil)
        go_simp
        refine hK.out _ _ (by exact C21.out) (fun hHeld => ?_)
        clear hK K
        refine wpAnyH_ready (rs := [11]) (by kernel_rfl) (by simp) ?_
        refine (AllReadyH.cons (o := _) rfl (fun K hK => ?_) AllReadyH.nil)
        refine step_append_run rfl (.tmp 79) (.tmp 80) 66 rfl rfl rfl HA.out ?_
        go_simp
        refine hK.out _ _ (by exact C2W.out) (fun hHeld => ?_)
        clear hK K
        refine held_take (i := 12) (d := some 82) (v := ?_) rfl rfl (by kernel_rfl) (by kernel_rfl) (by kernel_rfl) (fun _ _ _ h => h) (by rfl) ?_ (by assumption) ?_
        rotate_left 1
        focus (intro w hSw; (try dsimp only at hSw); go_simp; first | done | with_reducible rfl)
        simp only [Act.put, List.setIfInBounds_toArray, List.set_cons_zero, List.set_cons_succ]
        refine wpAnyH_ready (rs := [13]) (by kernel_rfl) (by simp) ?_
        refine (AllReadyH.cons (o := _) rfl (fun K hK => ?_) AllReadyH.nil)
        have ct := CTW.out.1
        have ft := CTW.out.2
        go_simp
        clear ct ft
        refine hK.out _ _ (by exact C2F.out) (fun hHeld => ?_)
        clear hK K
        refine wpAnyH_done (by kernel_rfl) ?_ _
        clear hHeld CT0 CT1 CTW HA C2 C21 C2W C2F LD
        generalize W.setCell ⟨g, 6, none⟩ (.slice A' N' c') = W9 at FF KF ⊢
        generalize rowsk.set 6 _ = rows9 at KF
        have S9 := Lib.hid (show Calls Tryd.prog 34 #[.pointer (some ⟨p, 0, none⟩), .int .i64 1, .int .i64 d] W9 _ from stmts_w (stmts_ok d) KF.out 1 (by have := HD.out; omega) (by rw [M7.out.2.2.1]; exact HR.out.1) (by rw [M7.out.2.2.1]; exact HR.out.2) (by have h1 := sB_le d HD.out; have h2 := M7.out.2.2.2; have h3 := HO.out; omega))
        have SB := Lib.hid (sB_le d HD.out)
        go_wp2_with fail
        refine S9.out.mono ?_
        rintro e wa ⟨rfl, ma, rowsa, hka⟩
        have KA := Lib.hid hka
        clear hka S9 KF
        have OB := Lib.hid (show m7.out.size + (0 + 4 * sB d) ≤ m.out.size + 96000400 ∧ m.out.size ≤ 50000000000 from ⟨by have h1 := SB.out; have h2 := M7.out.2.2.2; omega, HO.out⟩)
        obtain ⟨NN, hNN⟩ : ∃ NN, NN = 0 + 4 * sB d := ⟨_, rfl⟩
        rw [← hNN] at KA OB
        clear hNN
        by_cases hr : 0 ≤ r
        · obtain ⟨r', hr2⟩ := Int.eq_ofNat_of_zero_le hr
          have hr7' : r' < 7 := by have := HR.out.2; omega
          subst hr2
          have hr3 : (r' : Int) ≥ 0 := by omega
          have EX := Lib.hid (show Calls Tryd.prog 35 #[.pointer (some ⟨p, 0, none⟩), .int .i64 (r' : Nat), .int .i64 2] wa _ from expr_w KA.out r' 2 hr7' (by decide))
          clear hr
          go_wp2_with fail
          refine EX.out.mono ?_
          rintro e wb ⟨sb, rfl, hsb, mb, _, hkb⟩
          have KB := Lib.hid hkb
          have q1 : 7 + sb.size ≤ 9223372036854775807 := by omega
          obtain ⟨l1, el1⟩ : ∃ c, ({ data := #[114, 101, 116, 117, 114, 110, 32] } : ByteArray) ++ sb = c := ⟨_, rfl⟩
          have hl1 : l1.size ≤ 7 + 300 := cat_le el1 (Nat.le_refl _) hsb
          have L3 := Lib.hid (show Calls Tryd.prog 20 #[.pointer (some ⟨p, 0, none⟩), .int .i64 1, .string l1] wb _ from line_w KB.out 1 (by decide) l1 (by omega) (by have := OB.out; omega))
          clear hkb EX hsb hl1
          go_wp2_with fail
          refine L3.out.mono ?_
          rintro e wc ⟨rfl, mc, hkc⟩
          have KC := Lib.hid hkc
          have L4 := Lib.hid (show Calls Tryd.prog 20 #[.pointer (some ⟨p, 0, none⟩), .int .i64 0, .string { data := #[125] }] wc _ from line_w KC.out 0 (by decide) { data := #[125] } (by decide) (by have := OB.out; omega))
          clear hkc L3 q1
          go_wp2_with fail
          refine L4.out.mono ?_
          rintro e we ⟨rfl, me, hke⟩
          have KE := Lib.hid hke
          clear hke L4
          go_wp2_with fail
          refine bodyPost_end (v := .tuple #[]) (by kernel_rfl) rfl ?_
          exact ⟨rfl, me, rowsa, by have h1 := KE.out.out; have h2 := OB.out.1; omega, KE.out.mem, NG.out _ FF.out _ KE.out.fr⟩
        · have hr3 : ¬ (r ≥ 0) := hr
          have L4 := Lib.hid (show Calls Tryd.prog 20 #[.pointer (some ⟨p, 0, none⟩), .int .i64 0, .string { data := #[125] }] wa _ from line_w KA.out 0 (by decide) { data := #[125] } (by decide) (by have := OB.out; omega))
          clear hr
          go_wp2_with fail
          refine L4.out.mono ?_
          rintro e we ⟨rfl, me, hke⟩
          have KE := Lib.hid hke
          clear hke L4
          go_wp2_with fail
          refine bodyPost_end (v := .tuple #[]) (by kernel_rfl) rfl ?_
          exact ⟨rfl, me, rowsa, by have h1 := KE.out.out; have h2 := OB.out.1; omega, KE.out.mem, NG.out _ FF.out _ KE.out.fr⟩
      · go_simp
        refine hK.out _ _ (by exact C21.out) (fun hHeld => ?_)
        clear hK K
        refine wpAnyH_ready (rs := [9]) (by kernel_rfl) (by simp) ?_
        refine (AllReadyH.cons (o := _) rfl (fun K hK => ?_) AllReadyH.nil)
        have ct := CT0.out
        have ct1 := CT1.out
        go_simp
        clear ct ct1
        refine hK.out _ _ (by exact hHeld) (fun hHeld => ?_)
        clear hK K
        refine wpAnyH_ready (rs := [11]) (by kernel_rfl) (by simp) ?_
        refine (AllReadyH.cons (o := _) rfl (fun K hK => ?_) AllReadyH.nil)
        refine step_append_run rfl (.tmp 79) (.tmp 80) 66 rfl rfl rfl HA.out ?_
        go_simp
        refine hK.out _ _ (by exact C2W.out) (fun hHeld => ?_)
        clear hK K
        refine held_take (i := 12) (d := some 82) (v := ?_) rfl rfl (by kernel_rfl) (by kernel_rfl) (by kernel_rfl) (fun _ _ _ h => h) (by rfl) ?_ (by assumption) ?_
        rotate_left 1
        focus (intro w hSw; (try dsimp only at hSw); go_simp; first | done | with_reducible rfl)
        simp only [Act.put, List.setIfInBounds_toArray, List.set_cons_zero, List.set_cons_succ]
        refine wpAnyH_ready (rs := [13]) (by kernel_rfl) (by simp) ?_
        refine (AllReadyH.cons (o := _) rfl (fun K hK => ?_) AllReadyH.nil)
        have ct := CTW.out.1
        have ft := CTW.out.2
        go_simp
        clear ct ft
        refine hK.out _ _ (by exact C2F.out) (fun hHeld => ?_)
        clear hK K
        refine wpAnyH_done (by kernel_rfl) ?_ _
        clear hHeld CT0 CT1 CTW HA C2 C21 C2W C2F LD
        generalize W.setCell ⟨g, 6, none⟩ (.slice A' N' c') = W9 at FF KF ⊢
        generalize rowsk.set 6 _ = rows9 at KF
        have S9 := Lib.hid (show Calls Tryd.prog 34 #[.pointer (some ⟨p, 0, none⟩), .int .i64 1, .int .i64 d] W9 _ from stmts_w (stmts_ok d) KF.out 1 (by have := HD.out; omega) (by rw [M7.out.2.2.1]; exact HR.out.1) (by rw [M7.out.2.2.1]; exact HR.out.2) (by have h1 := sB_le d HD.out; have h2 := M7.out.2.2.2; have h3 := HO.out; omega))
        have SB := Lib.hid (sB_le d HD.out)
        go_wp2_with fail
        refine S9.out.mono ?_
        rintro e wa ⟨rfl, ma, rowsa, hka⟩
        have KA := Lib.hid hka
        clear hka S9 KF
        have OB := Lib.hid (show m7.out.size + (0 + 4 * sB d) ≤ m.out.size + 96000400 ∧ m.out.size ≤ 50000000000 from ⟨by have h1 := SB.out; have h2 := M7.out.2.2.2; omega, HO.out⟩)
        obtain ⟨NN, hNN⟩ : ∃ NN, NN = 0 + 4 * sB d := ⟨_, rfl⟩
        rw [← hNN] at KA OB
        clear hNN
        by_cases hr : 0 ≤ r
        · obtain ⟨r', hr2⟩ := Int.eq_ofNat_of_zero_le hr
          have hr7' : r' < 7 := by have := HR.out.2; omega
          subst hr2
          have hr3 : (r' : Int) ≥ 0 := by omega
          have EX := Lib.hid (show Calls Tryd.prog 35 #[.pointer (some ⟨p, 0, none⟩), .int .i64 (r' : Nat), .int .i64 2] wa _ from expr_w KA.out r' 2 hr7' (by decide))
          clear hr
          go_wp2_with fail
          refine EX.out.mono ?_
          rintro e wb ⟨sb, rfl, hsb, mb, _, hkb⟩
          have KB := Lib.hid hkb
          have q1 : 7 + sb.size ≤ 9223372036854775807 := by omega
          obtain ⟨l1, el1⟩ : ∃ c, ({ data := #[114, 101, 116, 117, 114, 110, 32] } : ByteArray) ++ sb = c := ⟨_, rfl⟩
          have hl1 : l1.size ≤ 7 + 300 := cat_le el1 (Nat.le_refl _) hsb
          have L3 := Lib.hid (show Calls Tryd.prog 20 #[.pointer (some ⟨p, 0, none⟩), .int .i64 1, .string l1] wb _ from line_w KB.out 1 (by decide) l1 (by omega) (by have := OB.out; omega))
          clear hkb EX hsb hl1
          go_wp2_with fail
          refine L3.out.mono ?_
          rintro e wc ⟨rfl, mc, hkc⟩
          have KC := Lib.hid hkc
          have L4 := Lib.hid (show Calls Tryd.prog 20 #[.pointer (some ⟨p, 0, none⟩), .int .i64 0, .string { data := #[125] }] wc _ from line_w KC.out 0 (by decide) { data := #[125] } (by decide) (by have := OB.out; omega))
          clear hkc L3 q1
          go_wp2_with fail
          refine L4.out.mono ?_
          rintro e we ⟨rfl, me, hke⟩
          have KE := Lib.hid hke
          clear hke L4
          go_wp2_with fail
          refine bodyPost_end (v := .tuple #[]) (by kernel_rfl) rfl ?_
          exact ⟨rfl, me, rowsa, by have h1 := KE.out.out; have h2 := OB.out.1; omega, KE.out.mem, NG.out _ FF.out _ KE.out.fr⟩
        · have hr3 : ¬ (r ≥ 0) := hr
          have L4 := Lib.hid (show Calls Tryd.prog 20 #[.pointer (some ⟨p, 0, none⟩), .int .i64 0, .string { data := #[125] }] wa _ from line_w KA.out 0 (by decide) { data := #[125] } (by decide) (by have := OB.out; omega))
          clear hr
          go_wp2_with fail
          refine L4.out.mono ?_
          rintro e we ⟨rfl, me, hke⟩
          have KE := Lib.hid hke
          clear hke L4
          go_wp2_with fail
          refine bodyPost_end (v := .tuple #[]) (by kernel_rfl) rfl ?_
          exact ⟨rfl, me, rowsa, by have h1 := KE.out.out; have h2 := OB.out.1; omega, KE.out.mem, NG.out _ FF.out _ KE.out.fr⟩
end Go.Proofs.YtemmdbjcllcelaaDoor.Tk
