/-
  The hand's maker: what a statement leaves (Wt); the variables kept for the end of a block (Was); stmts.
-/
import Derived.Test.YtemmdbjcllcelaaDoorHnIJ
namespace Go.Proofs.YtemmdbjcllcelaaDoor.Tk
set_option maxRecDepth 100000
open Go.RowKit

/-- How much a statement of a depth may write. -/
def sB : Nat → Nat
  | 0 => 40000
  | d + 1 => 8 * sB d + 40000

/-- From w0 to w, from m0 to m: what statements leave. -/
structure Wt (w0 w : World) (base p : Nat) (A : Option Addr) (rc : Nat) (raw : List Int) (m0 m : MS) (rows : List (List ByteArray)) (N : Nat) : Prop where
  mem : Mk w base p A rc raw m rows
  own : ∀ b, m.vv.ownBlock = some b → m0.vv.ownBlock = some b ∨ w0.heap.size ≤ b
  fr : Fr (fun b => b = p ∨ m0.vv.ownBlock = some b) w0 w
  lo : m0.names ≤ m.names
  hi : m.names ≤ 25
  out : m.out.size ≤ m0.out.size + N
  res : m.res = m0.res
section
variable {w0 w1 w2 : World} {base p : Nat} {A : Option Addr} {rc : Nat} {raw : List Int} {m0 m1 m2 : MS} {rows1 rows2 : List (List ByteArray)} {N1 N2 N : Nat}
theorem Wt.trans (h : Wt w0 w1 base p A rc raw m0 m1 rows1 N1) (k : Wt w1 w2 base p A rc raw m1 m2 rows2 N2) (hN : N1 + N2 ≤ N) : Wt w0 w2 base p A rc raw m0 m2 rows2 N := by
  have hsz := h.fr.size
  refine ⟨k.mem, fun b hb => ?_, Fr.trans h.fr k.fr (fun i hi e => ?_), Nat.le_trans h.lo k.lo, k.hi, by have := h.out; have := k.out; omega, k.res.trans h.res⟩
  · rcases k.own b hb with h1 | h1
    · exact h.own b h1
    · right; omega
  · rcases e with e | e
    · exact .inl e
    · rcases h.own i e with h1 | h1
      · exact .inr h1
      · omega
theorem Wt.refl (h : Mk w0 base p A rc raw m0 rows1) (hn : m0.names ≤ 25) : Wt w0 w0 base p A rc raw m0 m0 rows1 N := ⟨h, fun _ h => .inl h, Fr.refl _ _, Nat.le_refl _, hn, Nat.le_add_right _ _, rfl⟩
theorem Wt.more (h : Wt w0 w1 base p A rc raw m0 m1 rows1 N1) (hN : N1 ≤ N) : Wt w0 w1 base p A rc raw m0 m1 rows1 N := ⟨h.mem, h.own, h.fr, h.lo, h.hi, by have := h.out; omega, h.res⟩
/-- A call that keeps the variables. -/
theorem Wt.same (hm : Mk w1 base p A rc raw m1 rows1) (hf : FM p w0 w1) (hv : m1.vv = m0.vv) (hn : m1.names = m0.names) (h25 : m0.names ≤ 25) (ho : m1.out.size ≤ m0.out.size + N) (hr : m1.res = m0.res) : Wt w0 w1 base p A rc raw m0 m1 rows1 N :=
  ⟨hm, fun b hb => .inl (by rw [← hv]; exact hb), hf.mono (fun _ _ h => .inl h), by omega, by omega, ho, hr⟩
end

def StmtOk (d : Nat) : Prop := ∀ (w : World) (base p : Nat) (A : Option Addr) (rc : Nat) (raw : List Int) (m : MS) (rows : List (List ByteArray)) (n : Nat), Mk w base p A rc raw m rows → m.names ≤ 25 → -1 ≤ m.res → m.res < 7 → m.out.size + sB d ≤ 100000000000 → n + d ≤ 50 →
  Calls Tryd.prog 60 #[.pointer (some ⟨p, 0, none⟩), .int .i64 n, .int .i64 d] w fun e w' => e = .returned (.tuple #[]) ∧ ∃ (m' : MS) (rows' : List (List ByteArray)), Wt w w' base p A rc raw m m' rows' (sB d)
def StmtsOk (d : Nat) : Prop := ∀ (w : World) (base p : Nat) (A : Option Addr) (rc : Nat) (raw : List Int) (m : MS) (rows : List (List ByteArray)) (n : Nat), Mk w base p A rc raw m rows → m.names ≤ 25 → -1 ≤ m.res → m.res < 7 → m.out.size + 4 * sB d ≤ 100000000000 → n + d ≤ 50 →
  Calls Tryd.prog 34 #[.pointer (some ⟨p, 0, none⟩), .int .i64 n, .int .i64 d] w fun e w' => e = .returned (.tuple #[]) ∧ ∃ (m' : MS) (rows' : List (List ByteArray)), Wt w w' base p A rc raw m m' rows' (4 * sB d)

/-- The variables, copied. -/
structure Was (w1 : World) (base p : Nat) (v0 was : Value) (rows : List (List ByteArray)) (lo : Nat) : Prop where
  own : OwnSl w1 base 66 1 (RowS w1 (fun b => base ≤ b ∧ b ≠ p ∧ v0.ownBlock ≠ some b ∧ was.ownBlock ≠ some b)) was rows
  ne : ∀ b, was.ownBlock = some b → v0.ownBlock ≠ some b ∧ b ≠ p ∧ lo ≤ b
  lt : ∀ x ∈ rows, ∀ cs, RowS w1 (fun b => base ≤ b ∧ b ≠ p ∧ v0.ownBlock ≠ some b ∧ was.ownBlock ≠ some b) x cs → RowS w1 (fun b => base ≤ b ∧ b ≠ p ∧ v0.ownBlock ≠ some b ∧ was.ownBlock ≠ some b ∧ b < w1.heap.size) x cs

theorem row_lt {w : World} {G : Nat → Prop} {x : List ByteArray} {cs : List Value} (h : RowS w G x cs) : RowS w (fun b => G b ∧ b < w.heap.size) x cs := by
  obtain ⟨v, e, A, c, hv, h1, h2, h3⟩ := h
  refine ⟨v, e, A, c, hv, h1, h2, fun hne => ?_⟩
  obtain ⟨b, o, e, hG, hlt, hx⟩ := h3 hne
  exact ⟨b, o, e, ⟨hG, hlt⟩, hlt, hx⟩
theorem own_base {α : Type} {w : World} {base base' : Nat} {e : TypeId} {C : α → List Value → Prop} {v : Value} {xs : List α} (h : OwnSl w base e 1 C v xs) (hb : base' ≤ base) : OwnSl w base' e 1 C v xs := by
  obtain ⟨css, hr, ho, h2⟩ := h
  refine ⟨css, hr, ho, ?_⟩
  rcases h2 with h2 | ⟨g, cap, cur, e, h3, h4⟩
  · exact .inl h2
  · exact .inr ⟨g, cap, cur, e, Nat.le_trans hb h3, h4⟩
theorem info_rows : ∃ i, Tryd.prog.info? 66 = some i ∧ i.zero = some (.slice none 0 0) ∧ i.size = 1 ∧ i.bytes = 24 := by
  have h : (Tryd.prog.info? 66).map (fun i => (i.zero, i.size, i.bytes)) = some (some (.slice none 0 0), 1, 24) := by kernel_rfl
  cases hi : Tryd.prog.info? 66 with
  | none => rw [hi] at h; cases h
  | some i =>
    rw [hi] at h
    simp only [Option.map_some, Option.some.injEq, Prod.mk.injEq] at h
    exact ⟨i, rfl, h.1, h.2.1, h.2.2⟩

theorem was_any {w : World} {base p : Nat} {A : Option Addr} {rc : Nat} {raw : List Int} {m : MS} {rows : List (List ByteArray)} (h : Mk w base p A rc raw m rows) :
    ∃ A' N' c' w', (Builtin.append_ #[61, 61] 61 #[.slice (some ⟨w.heap.size, 0, none⟩) 0 0, m.vv]).run Tryd.prog (w.alloc (.cells #[] 66)) = .ok (.slice A' N' c') w' ∧ Up w w' ∧ Was w' base p m.vv (.slice A' N' c') rows w.heap.size := by
  obtain ⟨i, hi, hz, hz1, hz2⟩ := info_rows
  have hbs : base ≤ w.heap.size := by have := h.pb; have := h.plt; omega
  have ha : Up w (w.alloc (.cells #[] 66)) := (Fr.refl _ _).alloc _
  have hsz : (w.alloc (.cells #[] 66)).heap.size = w.heap.size + 1 := by simp
  have h1 := h.up ha
  have hys := h.vars.kept (C' := fun x cs => RowS (w.alloc (.cells #[] 66)) (fun b => Gn base p m.vv b ∧ b < w.heap.size) x cs) ha (fun _ _ h => h) (fun _ _ _ hc => (row_lt hc).kept ha (fun _ _ h => h) (fun _ h => h))
  obtain ⟨Av, cv, hvv, hyp⟩ := hys.reads.parts
  have hl := h.seven
  have ho := own_lit (w := w) (base := w.heap.size) (e := 66) (sz := 1) (C := fun x cs => RowS (w.alloc (.cells #[] 66)) (fun b => Gn base p m.vv b ∧ b < w.heap.size) x cs) ([] : List (List ByteArray)) [] ⟨rfl, by simp, by simp⟩ #[] rfl 0 rfl (Nat.le_refl _) (by decide)
  obtain ⟨v', w', hr, hown, hg, hb⟩ := push_sl (P := Tryd.prog) (w.alloc (.cells #[] 66)) w.heap.size 61 61 66 i _ 24 Tryd.underlying61 hi hz hz1 hz2 rfl ho hyp
    (fun y cs hc u hu => by obtain ⟨v, rfl, A, c, rfl, _⟩ := hc; simp at hu; subst hu; rfl) (by unfold maxLen; simp; omega) (by simp; omega) (by omega)
    (fun w' x cs => RowS w' (fun b => Gn base p m.vv b ∧ b < w.heap.size) x cs)
    (fun w' hgr x _ cs hc => hc.kept (fr_grown hgr) (fun b hb e => by simp [Value.ownBlock] at e; omega) (fun _ h => h))
  obtain ⟨A', N', c', rfl⟩ := own_shape hown
  rw [← hvv] at hr
  have hf : Up w w' := Fr.trans ha (fr_grown hg) (fun k hk e => by simp [Value.ownBlock] at e; omega)
  have hlo : ∀ b, (Value.slice A' N' c').ownBlock = some b → w.heap.size ≤ b := fun b hq => (hown.lt b hq).1
  have hw : ∀ x cs, RowS w' (fun b => Gn base p m.vv b ∧ b < w.heap.size) x cs → RowS w' (fun b => base ≤ b ∧ b ≠ p ∧ m.vv.ownBlock ≠ some b ∧ (Value.slice A' N' c').ownBlock ≠ some b) x cs := fun x cs hc =>
    hc.kept (Fr.refl (fun _ => False) w') (fun _ _ h => h) (fun b hb => ⟨hb.1.1, hb.1.2.1, hb.1.2.2, fun e => by have := hlo b e; omega⟩)
  refine ⟨A', N', c', w', hr, hf, ⟨?_, fun b hq => ?_, fun x _ cs hc => ?_⟩⟩
  · have := own_base hown hbs
    rw [List.nil_append] at this
    exact this.kept (Fr.refl (fun _ => False) w') (fun _ _ h => h) (fun x _ cs hc => hw x cs hc)
  · have h2 := hlo b hq
    refine ⟨fun e => ?_, ?_, h2⟩
    · have := (h.vars.lt b e).2; omega
    · have := h.plt; omega
  · exact (row_lt hc).kept (Fr.refl (fun _ => False) w') (fun _ _ h => h) (fun b hb => ⟨hb.1.1, hb.1.2.1, hb.1.2.2.1, hb.1.2.2.2, hb.2⟩)

/-- The copy, put back. -/
theorem Mk.back {w1 wr : World} {base p : Nat} {A : Option Addr} {rc : Nat} {raw : List Int} {m : MS} {rows rows0 : List (List ByteArray)} (h : Mk wr base p A rc raw m rows) {v0 was : Value} {lo : Nat} (hw : Was w1 base p v0 was rows0 lo) (hf : Fr (fun b => b = p ∨ v0.ownBlock = some b) w1 wr)
    (h7 : rows0.length = 7) (hsh : ∀ x ∈ rows0, x.length ≤ m.names + 3) :
    Mk (wr.setCell ⟨p, 2, none⟩ was) base p A rc raw { m with vv := was } rows0 ∧ FM p wr (wr.setCell ⟨p, 2, none⟩ was) := by
  have hs : FM p wr (wr.setCell ⟨p, 2, none⟩ was) := (Fr.refl (fun b => b = p) wr).setCell (p := ⟨p, 2, none⟩) (fun _ => rfl) was
  have ho : OwnSl wr base 66 1 (RowS (wr.setCell ⟨p, 2, none⟩ was) (Gn base p was)) was rows0 := hw.own.kept hf (fun b hb e => by
      rcases e with e | e
      · exact (hw.ne b hb).2.1 e
      · exact (hw.ne b hb).1 e) (fun x hx cs hc => by
      have h1 := (hw.lt x hx cs hc).kept hf (G' := fun b => base ≤ b ∧ b ≠ p ∧ v0.ownBlock ≠ some b ∧ was.ownBlock ≠ some b ∧ b < w1.heap.size) (fun b hb e => by
        rcases e with e | e
        · exact hb.2.1 e
        · exact hb.2.2.1 e) (fun _ h => h)
      exact h1.kept hs (fun b hb e => hb.2.1 e) (fun b hb => ⟨hb.1, hb.2.1, hb.2.2.2.1⟩))
  refine ⟨⟨?_, ints_kept h.nums hs (fun hne a ha e => ?_), h.rawb, ho.kept hs (fun b hb e => (hw.ne b hb).2.1 e) (fun _ _ _ h => h), h7, h.atle, h.pb, hsh⟩, hs⟩
  · simp [World.setCell, Array.getElem?_modify, h.blk]
  · have := h.rawb hne a ha
    have := h.pb
    omega

theorem four_less {k s : Nat} (h1 : 1 ≤ k) (h4 : k ≤ 4) : (4 - k) * s + s = (4 - (k - 1)) * s := by
  have : 4 - (k - 1) = (4 - k) + 1 := by omega
  rw [this, Nat.succ_mul]

set_option maxRecDepth 20000 in
set_option maxHeartbeats 4000000 in
theorem stmts_any {d : Nat} (IH : StmtOk d) : StmtsOk d := by
  intro w base p A rc raw m rows n h h25 hr0 hr7 hout hnd
  obtain ⟨A', N', c', wa, hrun, hup, hwas⟩ := was_any h
  have HA := Lib.hid hrun
  have c2 := (h.up ((Fr.refl (fun _ => False) w).alloc (.cells #[] 66))).cell 2
  simp only [List.getElem?_toArray, List.getElem?_cons_zero, List.getElem?_cons_succ] at c2
  have Ha := Lib.hid (h.up hup)
  have HW := Lib.hid hwas
  have HU := Lib.hid hup
  have HSH := Lib.hid h.short
  have H7 := Lib.hid h.seven
  have H25 := Lib.hid h25
  have HR := Lib.hid (And.intro hr0 hr7)
  have HO := Lib.hid hout
  have HND := Lib.hid hnd
  have hrl := h.nums.le
  have hrb := h.nums.big
  have NX := Lib.hid (show Calls Tryd.prog 22 #[.pointer (some ⟨p, 0, none⟩), .int .i64 4] wa _ from next_any Ha.out 4 (by decide) (by decide))
  have IHH := Lib.hid IH
  clear h hrun hup hwas h25 hr0 hr7 hout hnd IH
  go_enter Tryd.func34, Tryd.ntmps34
  go_wp2_with (at_builtin; refine Lib.wpList_append_run _ rfl (.tmp 8) (.tmp 12) 61 61 rfl _ _ rfl rfl _ _ HA.out ?_)
  refine NX.out.mono ?_
  rintro e w1 ⟨j, a1, hj, rfl, hm1, hf1⟩
  have K0 := Lib.hid (show Wt wa w1 base p A rc raw m { m with at_ := a1 } rows ((4 - (1 + j)) * sB d) from Wt.same hm1 hf1 rfl rfl H25.out (Nat.le_add_right _ _) rfl)
  have j1 : IntKind.i64.wrap (1 + (j : Int)) = 1 + (j : Int) := IntWalk.i64_in _ (by omega)
  have HJ := Lib.hid hj
  clear hm1 hf1 hj c2 HA NX
  go_wp2_with fail
  go_loopw [7] (fun i wr => ∃ (k : Nat) (m' : MS) (rows' : List (List ByteArray)), k ≤ 4 ∧ i = .int .i64 k ∧ Hid (Wt wa wr base p A rc raw m m' rows' ((4 - k) * sB d))) (fun i _ => (intOf i).toNat)
  case atStart => exact ⟨1 + j, _, _, by have := HJ.out; omega, by simp, K0⟩
  case round =>
    obtain ⟨k, m', rows', hk, rfl, K⟩ := hrel
    by_cases hk0 : 0 < k
    · have k1 : (k : Int) > 0 := by omega
      have kw : IntKind.i64.wrap ((k : Int) - 1) = (k : Int) - 1 := IntWalk.i64_in _ (by omega)
      have f4 := four_less (s := sB d) (show 1 ≤ k from hk0) hk
      have hle : (4 - (k - 1)) * sB d ≤ 4 * sB d := Nat.mul_le_mul_right _ (by omega)
      have ST := Lib.hid (IHH.out _ base p A rc raw m' rows' n K.out.mem K.out.hi (by rw [K.out.res]; exact HR.out.1) (by rw [K.out.res]; exact HR.out.2) (by have := K.out.out; have := HO.out; omega) HND.out)
      have F4 := Lib.hid f4
      have HK := Lib.hid (And.intro hk0 hk)
      clear f4 hle hk0 hk
      go_wp2_with fail
      refine ST.out.mono ?_
      rintro e w4 ⟨rfl, m2, rows2, hw2⟩
      have K2 := Lib.hid (K.out.trans hw2 (Nat.le_of_eq F4.out))
      clear hw2 ST
      go_wp2_with fail
      exact ⟨⟨k - 1, m2, rows2, by have := HK.out; omega, by have := HK.out; simp; omega, K2⟩, by have := HK.out; simp [intOf]; omega⟩
    · have k1 : ¬ (k : Int) > 0 := by omega
      have f2 := K.out.mem.free 2
      have c2 := K.out.mem.cell 2
      simp only [List.getElem?_toArray, List.getElem?_cons_zero, List.getElem?_cons_succ] at c2
      have BK := Lib.hid (K.out.mem.back HW.out K.out.fr H7.out (fun x hx => by have := HSH.out x hx; have := K.out.lo; omega))
      clear hk0 hk
      go_wp2_with fail
      refine bodyPost_end (v := .tuple #[]) (by kernel_rfl) rfl ?_
      refine ⟨rfl, _, _, ⟨BK.out.1, fun b hb => .inr ((HW.out.ne b hb).2.2), ?_, K.out.lo, K.out.hi, ?_, K.out.res⟩⟩
      · exact Fr.trans (Fr.trans (Fr.mono HU.out (fun _ _ h => h.elim)) K.out.fr (fun _ _ h => h)) BK.out.2 (fun _ _ h => .inl h)
      · have h1 := K.out.out
        have h2 : (4 - k) * sB d ≤ 4 * sB d := Nat.mul_le_mul_right _ (by omega)
        show m'.out.size ≤ _
        omega
end Go.Proofs.YtemmdbjcllcelaaDoor.Tk
