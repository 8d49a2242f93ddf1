/-
  The hand's maker: a row of names in the making; declare.
  The hand's maker: declare.
-/
import Derived.Test.YtemmdbjcllcelaaDoorHnGH
import Derived.Test.YtemmdbjcllcelaaDoorPush
import Derived.Deep.DeepCutAuto
import Derived.Deep.Heap
namespace Go.Proofs.YtemmdbjcllcelaaDoor.Tk
set_option maxRecDepth 100000
open Go.RowKit


theorem info_str : ∃ i, Tryd.prog.info? 9 = some i ∧ i.zero = some (.string ⟨#[]⟩) ∧ i.size = 1 ∧ i.bytes = 16 := by
  have h : (Tryd.prog.info? 9).map (fun i => (i.zero, i.size, i.bytes)) = some (some (.string ⟨#[]⟩), 1, 16) := by kernel_rfl
  cases hi : Tryd.prog.info? 9 with
  | none => rw [hi] at h; cases h
  | some i =>
    rw [hi] at h
    simp only [Option.map_some, Option.some.injEq, Prod.mk.injEq] at h
    exact ⟨i, rfl, h.1, h.2.1, h.2.2⟩
theorem fr_grown {w w' : World} {row : Option Nat} (h : w.grownBy w' row) : Fr (fun b => row = some b) w w' := (Fr.refl _ w).grown h (fun _ hb _ => hb)
theorem push_str (w : World) (base : Nat) {G : Nat → Prop} {v : Value} {xs ys : List ByteArray} (hown : OwnSl w base 9 1 NmC v xs) {A : Option Addr} {cr : Nat} (hys : SlP w G 1 NmC A cr ys) (hl : xs.length + ys.length ≤ 1000) (hbase : base ≤ w.heap.size) :
    ∃ v' w', (Builtin.append_ #[66, 66] 66 #[v, .slice A ys.length cr]).run Tryd.prog w = .ok v' w' ∧ OwnSl w' base 9 1 NmC v' (xs ++ ys) ∧ w.grownBy w' v.ownBlock ∧ (∀ b, v'.ownBlock = some b → v.ownBlock = some b ∨ w.heap.size ≤ b) := by
  obtain ⟨i, hi, hz, hz1, hz2⟩ := info_str
  exact push_sl (P := Tryd.prog) w base 66 66 9 i _ 16 Tryd.underlying66 hi hz hz1 hz2 rfl hown hys (fun y cs h u hu => by obtain ⟨rfl, _⟩ := h; simp at hu; subst hu; rfl) (by unfold maxLen; omega) (by omega) hbase (fun _ => NmC) (fun _ _ _ _ _ h => h)

theorem own_shape {α : Type} {w : World} {base : Nat} {e : TypeId} {C : α → List Value → Prop} {v : Value} {xs : List α} (h : OwnSl w base e 1 C v xs) : ∃ A N c, v = .slice A N c := by
  obtain ⟨_, _, ho⟩ := h
  rcases ho.2 with ⟨e, _⟩ | ⟨g, cap, cur, e, _⟩
  · exact ⟨_, _, _, e⟩
  · exact ⟨_, _, _, e⟩

/-- A row of names in the making, behind wd: what there is of it, and the new name's own block. -/
structure Rw (wd W : World) (ov : Option (Value × List ByteArray)) (oq : Option Nat) (s : ByteArray) : Prop where
  up : Up wd W
  own : ∀ v xs, ov = some (v, xs) → OwnSl W wd.heap.size 9 1 NmC v xs
  lit : ∀ q, oq = some q → wd.heap.size ≤ q ∧ q < W.heap.size ∧ W.cell? ⟨q, 0, none⟩ = some (.string s) ∧ ∀ v xs, ov = some (v, xs) → v.ownBlock ≠ some q
theorem Rw.start (wd : World) (s : ByteArray) : Rw wd wd none none s := ⟨Fr.refl _ _, (fun _ _ h => nomatch h), (fun _ h => nomatch h)⟩

section
variable {wd W : World} {v : Value} {x : List ByteArray} {ov : Option (Value × List ByteArray)} {oq : Option Nat} {s : ByteArray}
theorem Rw.e (h : Rw wd W none oq s) : Rw wd (W.alloc (.cells #[] 9)) (some (.slice (some ⟨W.heap.size, 0, none⟩) 0 0, [])) oq s := by
  have hs := h.up.size
  have hf : Up W (W.alloc (.cells #[] 9)) := (Fr.refl _ _).alloc _
  refine ⟨h.up.alloc _, ?_, ?_⟩
  · intro v xs e
    cases e
    exact own_lit (w := W) (base := wd.heap.size) (e := 9) (sz := 1) (C := NmC) ([] : List ByteArray) [] ⟨rfl, by simp, by simp⟩ #[] rfl 0 rfl hs (by decide)
  · intro q hq
    obtain ⟨a, b, c, _⟩ := h.lit q hq
    refine ⟨a, by simp; omega, (hf.cell (p := ⟨q, 0, none⟩) b (fun h => h)).trans c, ?_⟩
    intro v xs e hb
    cases e
    simp [Value.ownBlock] at hb
    omega
theorem Rw.n (h : Rw wd W ov none s) : Rw wd (W.alloc (.cells #[.string s] 9)) ov (some W.heap.size) s := by
  have hs := h.up.size
  have hf : Up W (W.alloc (.cells #[.string s] 9)) := (Fr.refl _ _).alloc _
  refine ⟨h.up.alloc _, ?_, ?_⟩
  · intro v xs e
    exact (h.own v xs e).kept hf (fun _ _ h => h) (fun _ _ _ h => h)
  · intro q hq
    cases hq
    refine ⟨hs, by simp, ?_, ?_⟩
    · rw [cell_of_row _ _ 0 _ _ _ (heap_alloc_new W _)]; rfl
    · intro v xs e hb
      have := ((h.own v xs e).lt _ hb).2
      omega
theorem Rw.a (h : Rw wd W (some (v, [])) oq s) {G : Nat → Prop} {A : Option Addr} {cr : Nat} (hx : SlP wd G 1 NmC A cr x) (hl : x.length ≤ 500) :
    ∃ A' N' c' W', (Builtin.append_ #[66, 66] 66 #[v, .slice A x.length cr]).run Tryd.prog W = .ok (.slice A' N' c') W' ∧ Rw wd W' (some (.slice A' N' c', x)) oq s := by
  have ho := h.own v [] rfl
  obtain ⟨v', W', hr, hown, hg, hb⟩ := push_str W wd.heap.size ho (hx.kept h.up (fun _ _ h => h) (fun _ h => h) (fun _ _ _ h => h)) (by simp; omega) h.up.size
  have hf := fr_grown hg
  obtain ⟨A', N', c', rfl⟩ := own_shape hown
  refine ⟨A', N', c', W', hr, Fr.trans h.up hf (fun i hi e => ?_), ?_, ?_⟩
  · have := (ho.lt i e).1
    omega
  · intro v2 xs e
    cases e
    exact hown
  · intro q hq
    obtain ⟨a, b, c, d⟩ := h.lit q hq
    have hne := d v [] rfl
    refine ⟨a, Nat.lt_of_lt_of_le b hf.size, (hf.cell (p := ⟨q, 0, none⟩) b hne).trans c, ?_⟩
    intro v2 xs e hq2
    cases e
    rcases hb q hq2 with h1 | h1
    · exact hne h1
    · omega
theorem Rw.b {q : Nat} (h : Rw wd W (some (v, x)) (some q) s) (hs : s.size ≤ 6) (hl : x.length ≤ 500) :
    ∃ A' N' c' W', (Builtin.append_ #[66, 66] 66 #[v, .slice (some ⟨q, 0, none⟩) 1 1]).run Tryd.prog W = .ok (.slice A' N' c') W' ∧ Rw wd W' (some (.slice A' N' c', x ++ [s])) none s := by
  have ho := h.own v x rfl
  obtain ⟨a, b, c, d⟩ := h.lit q rfl
  have hy : SlP W (fun _ => True) 1 NmC (some ⟨q, 0, none⟩) 1 [s] := ⟨Nat.le_refl _, by decide, fun _ => ⟨q, 0, rfl, trivial, b, fun j y hj => by
    match j, hj with
    | 0, hj =>
      simp at hj; subst hj
      refine ⟨[.string s], ⟨rfl, hs⟩, rfl, fun i u hi => ?_⟩
      match i, hi with
      | 0, hi => simp at hi; subst hi; exact c⟩⟩
  obtain ⟨v', W', hr, hown, hg, _⟩ := push_str W wd.heap.size ho hy (by simp; omega) h.up.size
  have hf := fr_grown hg
  obtain ⟨A', N', c', rfl⟩ := own_shape hown
  refine ⟨A', N', c', W', hr, Fr.trans h.up hf (fun i hi e => ?_), ?_, fun _ h => by cases h⟩
  · have := (ho.lt i e).1
    omega
  · intro v2 xs e
    cases e
    exact hown
end

/-- The row set among the maker's rows. -/
theorem Mk.setrow {wd W : World} {base p : Nat} {A : Option Addr} {rc : Nat} {raw : List Int} {m : MS} {rows : List (List ByteArray)} (h : Mk wd base p A rc raw m rows) {g c t : Nat} (hvv : m.vv = .slice (some ⟨g, 0, none⟩) 7 c) (ht : t < 7) {v : Value} {y : List ByteArray} {s : ByteArray} (hS : Rw wd W (some (v, y)) none s)
    (hy : y.length ≤ m.names + 3) :
    Mk (W.setCell ⟨g, t, none⟩ v) base p A rc raw m (rows.set t y) ∧ Fr (fun b => m.vv.ownBlock = some b) wd (W.setCell ⟨g, t, none⟩ v) := by
  have hob : m.vv.ownBlock = some g := by rw [hvv]; rfl
  have hup : Fr (fun b => m.vv.ownBlock = some b) wd W := hS.up.mono (fun _ _ h => h.elim)
  have hset : Fr (fun b => m.vv.ownBlock = some b) W (W.setCell ⟨g, t, none⟩ v) := (Fr.refl _ _).setCell (p := ⟨g, t, none⟩) (fun _ => hob) v
  have hf : Fr (fun b => m.vv.ownBlock = some b) wd (W.setCell ⟨g, t, none⟩ v) := Fr.trans hup hset (fun _ _ h => h)
  have ho := hS.own v y rfl
  have hsz := hS.up.size
  have hbs : base ≤ wd.heap.size := by have := h.pb; have := h.plt; omega
  have hgb := h.vars.lt g hob
  refine ⟨⟨(hf.block p h.plt h.vne).trans h.blk, ints_kept h.nums hf (fun hne a ha e => ?_), h.rawb, ?_, by simp [h.seven], h.atle, h.pb, fun z hz => ?_⟩, hf⟩
  · have := h.rawb hne a ha
    rw [hob] at e
    injection e with e
    omega
  · have hv : OwnSl W base 66 1 (RowS (W.setCell ⟨g, t, none⟩ v) (Gn base p m.vv)) m.vv rows := h.vars.kept hS.up (fun _ _ h => h) (fun _ _ _ hc => hc.kept hf (fun b hb => hb.2.2) (fun _ h => h))
    have hr : RowS (W.setCell ⟨g, t, none⟩ v) (Gn base p m.vv) y [v] := by
      refine ⟨v, rfl, ho.reads.kept hset (fun b hb e => ?_) (fun b hb => ?_) (fun _ _ _ h => h)⟩
      · have := hb.1
        rw [hob] at e
        injection e with e
        omega
      · have := h.plt
        refine ⟨by omega, by omega, ?_⟩
        intro e
        rw [hob] at e
        injection e with e
        omega
    rw [hvv] at hv hr ⊢
    exact own_set hv t (by rw [h.seven]; exact ht) y v hr
  · rcases List.mem_or_eq_of_mem_set hz with h1 | h1
    · exact h.short z h1
    · subst h1; exact hy

theorem listed_eq {P : Program} {ops : Array Oper} {Q : Exit → Act → World → Prop} {md : Region.Mode} {S : World → Prop} {fuel : Nat} {l l' : Array Bool} {a : Act} {w : World} (h : l = l') (hw : wpAnyH P md ops Q S fuel l' a w) : wpAnyH P md ops Q S fuel l a w := h ▸ hw
theorem share6 {Goal : Prop} {H G : Nat → Nat → Option Addr → Nat → Nat → World → Prop} (h1 : (∀ a b c d e f, H a b c d e f → G a b c d e f) → Goal) (h2 : ∀ a b c d e f, H a b c d e f → G a b c d e f) : Goal := h1 h2
theorem frozen_of_own {wd : World} {base : Nat} {e : TypeId} {C : List ByteArray → List Value → Prop} {v : Value} {rows : List (List ByteArray)} (h : OwnSl wd base e 1 C v rows) {g n c : Nat} (hv : v = .slice (some ⟨g, 0, none⟩) n c) (t : Nat) (W : World) (hu : Up wd W) : W.frozen? ⟨g, t, none⟩ = false := by
  subst hv
  obtain ⟨_, _, ho⟩ := h
  rcases ho.2 with ⟨e, _⟩ | ⟨g', cap, cur, e, _, hg, _⟩
  · simp at e
  · simp only [Value.slice.injEq, Option.some.injEq, Addr.mk.injEq, and_true] at e
    obtain ⟨rfl, _, _⟩ := e
    have := heap_lt hg
    exact frozen_of_row _ g t _ _ ((hu.block g this (fun h => h)).trans hg)


set_option maxRecDepth 20000 in
set_option maxHeartbeats 4000000 in
theorem declare_any {w : World} {base p : Nat} {A : Option Addr} {rc : Nat} {raw : List Int} {m : MS} {rows : List (List ByteArray)} (h : Mk w base p A rc raw m rows) (t : Nat) (ht : t < 7) (n : Nat) (hn : n ≤ 100) (s : ByteArray) (hs : s.size ≤ 10000) (hm : m.names ≤ 90) (ho : m.out.size ≤ 900000000000) :
    Calls Tryd.prog 75 #[.pointer (some ⟨p, 0, none⟩), .int .i64 t, .int .i64 n, .string s] w fun e w' => ∃ (o : ByteArray) (rows' : List (List ByteArray)), e = .returned (.tuple #[]) ∧ o.size ≤ m.out.size + 20000 ∧ Mk w' base p A rc raw { m with names := m.names + 1, out := o } rows' ∧ Fr (fun b => b = p ∨ m.vv.ownBlock = some b) w w' := by
  have c3 := h.cell 3
  simp only [List.getElem?_toArray, List.getElem?_cons_zero, List.getElem?_cons_succ] at c3
  have DG := Lib.hid (digits_any w m.names (by omega))
  have H := Lib.hid h
  obtain ⟨N0, hN0⟩ : ∃ N0, N0 = m.names := ⟨_, rfl⟩
  rw [← hN0] at c3 DG
  have HN := Lib.hid hN0
  have HM := Lib.hid hm
  have k1 : IntKind.i64.wrap ((N0 : Int) + 1) = (N0 : Int) + 1 := IntWalk.i64_in _ (by omega)
  have hrl := h.nums.le
  have hrb := h.nums.big
  clear h hN0 hm
  go_enter Tryd.func75, Tryd.ntmps75
  go_wp2_with fail
  refine DG.out.mono ?_
  rintro e w1 ⟨d, rfl, hd, hu⟩
  have H1 := Lib.hid (H.out.up hu)
  have F1 := Lib.hid (Fr.mono (T := fun b => b = p ∨ m.vv.ownBlock = some b) hu (fun _ _ h => h.elim))
  have q1 : 1 + d.size ≤ 9223372036854775807 := by omega
  obtain ⟨nm, enm⟩ : ∃ nm, ({ data := #[118] } : ByteArray) ++ d = nm := ⟨_, rfl⟩
  have hnm : nm.size ≤ 6 := Nat.le_trans (cat_le enm (Nat.le_refl _) hd) (by decide)
  have hv6 := H1.out.put 3 (.int .i64 ((m.names : Int) + 1)) { m with names := m.names + 1 } rfl H1.out.atle (fun x hx => by have := H1.out.short x hx; show x.length ≤ m.names + 1 + 3; omega) (by rfl)
  rw [← HN.out] at hv6
  obtain ⟨hm2, hf2⟩ := hv6
  have H2 := Lib.hid hm2
  have F2 := Lib.hid (Fr.trans F1.out hf2 (fun _ _ h => Or.inl h))
  have d3 := H1.out.cell 3
  have f3 := H1.out.free 3
  simp only [List.getElem?_toArray, List.getElem?_cons_zero, List.getElem?_cons_succ] at d3
  rw [← HN.out] at d3
  clear hu hd hm2 hf2 DG c3 H F1
  go_upto_region 2 with fail
  clear d3 f3 k1
  generalize w1.setCell ⟨p, 3, none⟩ (.int .i64 ((N0 : Int) + 1)) = w2 at H2 F2 ⊢
  have SHT := Lib.hid (fun x hx => H1.out.short x hx)
  have HNM := Lib.hid hnm
  clear H1
  obtain ⟨L, hL⟩ : ∃ L : ByteArray, L.size ≤ 10100 ∧ ((t = 6 ∧ ({ data := #[118, 97, 114, 32] } : ByteArray) ++ nm ++ { data := #[32, 73, 32, 61, 32] } ++ s = L) ∨ (t ≠ 6 ∧ nm ++ ({ data := #[32, 58, 61, 32] } : ByteArray) ++ s = L)) := by
    by_cases h6 : t = 6
    · exact ⟨_, by simp only [ByteArray.size_append]; have : ({ data := #[118, 97, 114, 32] } : ByteArray).size = 4 := rfl; have : ({ data := #[32, 73, 32, 61, 32] } : ByteArray).size = 5 := rfl; omega, .inl ⟨h6, rfl⟩⟩
    · exact ⟨_, by simp only [ByteArray.size_append]; have : ({ data := #[32, 58, 61, 32] } : ByteArray).size = 4 := rfl; omega, .inr ⟨h6, rfl⟩⟩
  have LN := Lib.hid (line_any H2.out n hn L (by omega) (by show m.out.size ≤ 1000000000000; omega))
  go_upto_if 23 with fail
  go_cut [] (fun wx => ∃ o : ByteArray, Hid (o.size ≤ m.out.size + 20000) ∧ Hid (Mk wx base p A rc raw { m with names := m.names + 1, out := o } rows) ∧ Hid (Fr (fun b => b = p ∨ m.vv.ownBlock = some b) w wx))
  case first => as_aux_lemma =>
    have hnm := HNM.out
    by_cases h6 : t = 6
    · subst h6
      rcases hL.2 with ⟨_, hl⟩ | ⟨hl, _⟩
      · have q1 : 4 + nm.size ≤ 9223372036854775807 := by omega
        obtain ⟨l1, el1⟩ : ∃ c, ({ data := #[118, 97, 114, 32] } : ByteArray) ++ nm = c := ⟨_, rfl⟩
        rw [el1] at hl
        have hl1 : l1.size ≤ 4 + 6 := cat_le el1 (Nat.le_refl _) hnm
        have q2 : l1.size + 5 ≤ 9223372036854775807 := by omega
        obtain ⟨l2, el2⟩ : ∃ c, l1 ++ ({ data := #[32, 73, 32, 61, 32] } : ByteArray) = c := ⟨_, rfl⟩
        rw [el2] at hl
        have hl2 : l2.size ≤ 4 + 6 + 5 := cat_le el2 hl1 (Nat.le_refl _)
        have q3 : l2.size + s.size ≤ 9223372036854775807 := by omega
        have HL := Lib.hid hL.1
        clear hl1 hl2 hL
        go_wp2_with fail
        refine LN.out.mono ?_
        rintro e w3 ⟨o, rfl, hos, hm3, hf3⟩
        have I := Lib.hid (And.intro hos (And.intro hm3 hf3))
        clear hos hm3 hf3
        go_wp2_with fail
        go_meet
        exact ⟨o, Lib.hid (by have h1 : o.size = m.out.size + n + L.size + 1 := I.out.1; have h2 := HL.out; omega), Lib.hid (by have h3 := I.out.2.1; rw [HN.out] at h3; exact h3), Lib.hid (Fr.trans F2.out I.out.2.2 (fun _ _ h => Or.inl h))⟩
      · exact absurd rfl hl
    · have g6 : ((t : Int) == 6) = false := beq_eq_false_iff_ne.2 (by omega)
      rcases hL.2 with ⟨hl, _⟩ | ⟨_, hl⟩
      · exact absurd hl h6
      · have q2 : nm.size + 4 ≤ 9223372036854775807 := by omega
        obtain ⟨l2, el2⟩ : ∃ c, nm ++ ({ data := #[32, 58, 61, 32] } : ByteArray) = c := ⟨_, rfl⟩
        rw [el2] at hl
        have hl2 : l2.size ≤ 6 + 4 := cat_le el2 hnm (Nat.le_refl _)
        have q3 : l2.size + s.size ≤ 9223372036854775807 := by omega
        have HL := Lib.hid hL.1
        clear hl2 hL h6
        go_wp2_with fail
        refine LN.out.mono ?_
        rintro e w3 ⟨o, rfl, hos, hm3, hf3⟩
        have I := Lib.hid (And.intro hos (And.intro hm3 hf3))
        clear hos hm3 hf3
        go_wp2_with fail
        go_meet
        exact ⟨o, Lib.hid (by have h1 : o.size = m.out.size + n + L.size + 1 := I.out.1; have h2 := HL.out; omega), Lib.hid (by have h3 := I.out.2.1; rw [HN.out] at h3; exact h3), Lib.hid (Fr.trans F2.out I.out.2.2 (fun _ _ h => Or.inl h))⟩
  case rest => as_aux_lemma =>
    obtain ⟨o, HO, H3, F3⟩ := hcut
    rename World => w3
    clear hL LN
    have hu := Fr.drew (Fr.refl (fun _ => False) w3)
    have H4 := Lib.hid (H3.out.up hu)
    have F4 := Lib.hid (Fr.trans F3.out hu (fun _ _ h => h.elim))
    obtain ⟨g, c, cr, Ar, x, hvv, hc7, cx, hx, hxl, hxr⟩ := H4.out.row ht
    have HVV := Lib.hid hvv
    have C2 := H4.out.cell 2
    simp only [List.getElem?_toArray, List.getElem?_cons_zero, List.getElem?_cons_succ] at C2
    have C2 := Lib.hid (show w3.drew.cell? ⟨p, 2, none⟩ = some (.slice (some ⟨g, 0, none⟩) 7 c) by rw [C2]; exact congrArg some hvv)
    have CT := Lib.hid cx
    have HX := Lib.hid hx
    have hx1 := SHT.out x (List.mem_of_getElem? hxr)
    have HXL := Lib.hid (show x.length ≤ 500 by have := HM.out; omega)
    have HY := Lib.hid (show (x ++ [nm]).length ≤ m.names + 1 + 3 by rw [List.length_append]; simp; omega)
    have HT := Lib.hid ht
    have t7 : (t : Int) < 7 := by omega
    have PLT := Lib.hid H4.out.plt
    have hgl := H4.out.vars.lt g (by show m.vv.ownBlock = some g; rw [HVV.out]; rfl)
    have GLT := Lib.hid hgl.2
    have PNE := Lib.hid (show ¬ (m.vv.ownBlock = some p) from H4.out.vne)
    have Z := Lib.hid (Rw.start w3.drew nm)
    clear hvv cx hx hxl hxr hx1 hgl hu ht SHT H2 H3 F2 F3 hs hc7
    go_upto_region 5 with fail
    refine wp_region_held_drew (S := fun W => W.cell? ⟨p, 2, none⟩ = some (.slice (some ⟨g, 0, none⟩) 7 c)) (by kernel_rfl) (by exact C2.out) (fun hHeld => ?_)
    generalize w3.drew = wd at *
    refine held_take (i := 0) (d := some 39) (v := ?_) rfl rfl (by kernel_rfl) (by kernel_rfl) (by kernel_rfl) (fun _ _ _ h => h) (by rfl) ?_ (by assumption) ?_
    rotate_left 1
    focus (intro w hSw; (try dsimp only at hSw); go_simp; first | done | with_reducible rfl)
    simp only [Act.put, List.setIfInBounds_toArray, List.set_cons_zero, List.set_cons_succ]
    refine held_take (i := 1) (d := some 40) (v := ?_) rfl rfl (by kernel_rfl) (by kernel_rfl) (by kernel_rfl) (fun _ _ _ h => h) (by rfl) ?_ (by assumption) ?_
    rotate_left 1
    focus (intro w hSw; (try dsimp only at hSw); go_simp; first | done | with_reducible rfl)
    simp only [Act.put, List.setIfInBounds_toArray, List.set_cons_zero, List.set_cons_succ]
    refine held_take (i := 2) (d := some 41) (v := ?_) rfl rfl (by kernel_rfl) (by kernel_rfl) (by kernel_rfl) (fun _ _ _ h => h) (by rfl) ?_ (by assumption) ?_
    rotate_left 1
    focus (intro w hSw; (try dsimp only at hSw); go_simp; first | done | with_reducible rfl)
    simp only [Act.put, List.setIfInBounds_toArray, List.set_cons_zero, List.set_cons_succ]
    refine held_take (i := 3) (d := some 42) (v := ?_) rfl rfl (by kernel_rfl) (by kernel_rfl) (by kernel_rfl) (fun _ _ _ h => h) (by rfl) ?_ (by assumption) ?_
    rotate_left 1
    focus (intro w hSw; (try dsimp only at hSw); go_simp; first | done | with_reducible rfl)
    simp only [Act.put, List.setIfInBounds_toArray, List.set_cons_zero, List.set_cons_succ]
    refine held_take (i := 4) (d := some 43) (v := ?_) rfl rfl (by kernel_rfl) (by kernel_rfl) (by kernel_rfl) (fun _ _ _ h => h) (by rfl) ?_ (by assumption) ?_
    rotate_left 1
    focus (intro w hSw; (try dsimp only at hSw); go_simp; first | done | with_reducible rfl)
    simp only [Act.put, List.setIfInBounds_toArray, List.set_cons_zero, List.set_cons_succ]
    refine held_take (i := 6) (d := some 45) (v := ?_) rfl rfl (by kernel_rfl) (by kernel_rfl) (by kernel_rfl) (fun _ _ _ h => h) (by rfl) ?_ (by assumption) ?_
    rotate_left 1
    focus (intro w hSw; (try dsimp only at hSw); go_simp; first | done | with_reducible rfl)
    simp only [Act.put, List.setIfInBounds_toArray, List.set_cons_zero, List.set_cons_succ]
    refine held_take (i := 7) (d := some 46) (v := ?_) rfl rfl (by kernel_rfl) (by kernel_rfl) (by kernel_rfl) (fun _ _ _ h => h) (by rfl) ?_ (by assumption) ?_
    rotate_left 1
    focus (intro w hSw; (try dsimp only at hSw); go_simp; first | done | with_reducible rfl)
    simp only [Act.put, List.setIfInBounds_toArray, List.set_cons_zero, List.set_cons_succ]
    refine held_take (i := 8) (d := some 47) (v := ?_) rfl rfl (by kernel_rfl) (by kernel_rfl) (by kernel_rfl) (fun _ _ _ h => h) (by rfl) ?_ (by assumption) ?_
    rotate_left 1
    focus (intro w hSw; (try dsimp only at hSw); go_simp; first | done | with_reducible rfl)
    simp only [Act.put, List.setIfInBounds_toArray, List.set_cons_zero, List.set_cons_succ]
    refine held_take (i := 9) (d := some 48) (v := ?_) rfl rfl (by kernel_rfl) (by kernel_rfl) (by kernel_rfl) (fun _ _ _ h => h) (by rfl) ?_ (by assumption) ?_
    rotate_left 1
    focus (intro w hSw; (try dsimp only at hSw); go_simp; first | done | with_reducible rfl)
    simp only [Act.put, List.setIfInBounds_toArray, List.set_cons_zero, List.set_cons_succ]
    refine held_take (i := 10) (d := some 49) (v := ?_) rfl rfl (by kernel_rfl) (by kernel_rfl) (by kernel_rfl) (fun _ _ _ h => h) (by rfl) ?_ (by assumption) ?_
    rotate_left 1
    focus (intro w hSw; (try dsimp only at hSw); go_simp; first | done | with_reducible rfl)
    simp only [Act.put, List.setIfInBounds_toArray, List.set_cons_zero, List.set_cons_succ]
    refine held_take (i := 11) (d := some 50) (v := ?_) rfl rfl (by kernel_rfl) (by kernel_rfl) (by kernel_rfl) (fun _ _ _ h => h) (by rfl) ?_ (by assumption) ?_
    rotate_left 1
    focus (intro w hSw; (try dsimp only at hSw); go_simp; first | done | with_reducible rfl)
    simp only [Act.put, List.setIfInBounds_toArray, List.set_cons_zero, List.set_cons_succ]
    refine held_take (i := 14) (d := some 53) (v := ?_) rfl rfl (by kernel_rfl) (by kernel_rfl) (by kernel_rfl) (fun _ _ _ h => h) (by rfl) ?_ (by assumption) ?_
    rotate_left 1
    focus (intro w hSw; (try dsimp only at hSw); go_simp; first | done | with_reducible rfl)
    simp only [Act.put, List.setIfInBounds_toArray, List.set_cons_zero, List.set_cons_succ]
    refine share6 (H := fun q5 q A13 N13 c13 W => Rw wd W (some (.slice A13 N13 c13, x)) (some q) nm) (G := ?G) (fun cont => ?m1) ?m2
    case m1 =>
      refine wpAnyH_ready (rs := [5, 12, 15]) (by kernel_rfl) (by simp) ?_
      refine (AllReadyH.cons (o := _) rfl (fun K hK => ?_) (AllReadyH.cons (o := _) rfl (fun K hK => ?_) (AllReadyH.cons (o := _) rfl (fun K hK => ?_) AllReadyH.nil)))
      · go_simp
        have Z := Lib.hid (Z.out.e)
        refine hK.out _ _ (by exact (Z.out.up.cell PLT.out (fun h => h)).trans C2.out) (fun hHeld => ?_)
        clear hK K
        refine wpAnyH_ready (rs := [12, 15]) (by kernel_rfl) (by simp) ?_
        refine (AllReadyH.cons (o := _) rfl (fun K hK => ?_) (AllReadyH.cons (o := _) rfl (fun K hK => ?_) AllReadyH.nil))
        · have ct := (Z.out.up.cell GLT.out (fun h => h)).trans CT.out
          go_simp
          clear ct
          refine hK.out _ _ (by exact hHeld) (fun hHeld => ?_)
          clear hK K
          refine wpAnyH_ready (rs := [13, 15]) (by kernel_rfl) (by simp) ?_
          refine (AllReadyH.cons (o := _) rfl (fun K hK => ?_) (AllReadyH.cons (o := _) rfl (fun K hK => ?_) AllReadyH.nil))
          · obtain ⟨A13, N13, c13, w13, hr13, hz13⟩ := Z.out.a HX.out HXL.out
            (try simp only [Go.Deep.nblk_alloc] at hr13)
            have HA := Lib.hid hr13
            have Z := Lib.hid hz13
            clear hr13 hz13
            refine step_append_run rfl (.tmp 44) (.tmp 51) 66 rfl rfl rfl HA.out ?_
            go_simp
            clear HA
            refine hK.out _ _ (by exact (Z.out.up.cell PLT.out (fun h => h)).trans C2.out) (fun hHeld => ?_)
            clear hK K
            refine wpAnyH_ready (rs := [15]) (by kernel_rfl) (by simp) ?_
            refine (AllReadyH.cons (o := _) rfl (fun K hK => ?_) AllReadyH.nil)
            go_simp
            have Z := Lib.hid (Z.out.n)
            refine hK.out _ _ (by exact (Z.out.up.cell PLT.out (fun h => h)).trans C2.out) (fun hHeld => ?_)
            clear hK K
            refine listed_eq (l' := #[true, true, true, true, true, true, true, true, true, true, true, true, true, true, true, true, false, false, false]) (by kernel_rfl) ?_
            have Z := Z.out
            generalize w13.heap.size = q at Z ⊢
            generalize wd.heap.size = q5 at ⊢
            generalize w13.alloc _ = W at Z ⊢
            exact cont q5 q A13 N13 c13 W Z
          · go_simp
            have Z := Lib.hid (Z.out.n)
            refine hK.out _ _ (by exact (Z.out.up.cell PLT.out (fun h => h)).trans C2.out) (fun hHeld => ?_)
            clear hK K
            refine wpAnyH_ready (rs := [13]) (by kernel_rfl) (by simp) ?_
            refine (AllReadyH.cons (o := _) rfl (fun K hK => ?_) AllReadyH.nil)
            obtain ⟨A13, N13, c13, w13, hr13, hz13⟩ := Z.out.a HX.out HXL.out
            (try simp only [Go.Deep.nblk_alloc] at hr13)
            have HA := Lib.hid hr13
            have Z := Lib.hid hz13
            clear hr13 hz13
            refine step_append_run rfl (.tmp 44) (.tmp 51) 66 rfl rfl rfl HA.out ?_
            go_simp
            clear HA
            refine hK.out _ _ (by exact (Z.out.up.cell PLT.out (fun h => h)).trans C2.out) (fun hHeld => ?_)
            clear hK K
            refine listed_eq (l' := #[true, true, true, true, true, true, true, true, true, true, true, true, true, true, true, true, false, false, false]) (by kernel_rfl) ?_
            have Z := Z.out
            (try simp only [Go.Deep.nblk_alloc] at Z)
            exact cont _ _ _ _ _ _ Z
        · go_simp
          have Z := Lib.hid (Z.out.n)
          refine hK.out _ _ (by exact (Z.out.up.cell PLT.out (fun h => h)).trans C2.out) (fun hHeld => ?_)
          clear hK K
          refine wpAnyH_ready (rs := [12]) (by kernel_rfl) (by simp) ?_
          refine (AllReadyH.cons (o := _) rfl (fun K hK => ?_) AllReadyH.nil)
          have ct := (Z.out.up.cell GLT.out (fun h => h)).trans CT.out
          go_simp
          clear ct
          refine hK.out _ _ (by exact hHeld) (fun hHeld => ?_)
          clear hK K
          refine wpAnyH_ready (rs := [13]) (by kernel_rfl) (by simp) ?_
          refine (AllReadyH.cons (o := _) rfl (fun K hK => ?_) AllReadyH.nil)
          obtain ⟨A13, N13, c13, w13, hr13, hz13⟩ := Z.out.a HX.out HXL.out
          (try simp only [Go.Deep.nblk_alloc] at hr13)
          have HA := Lib.hid hr13
          have Z := Lib.hid hz13
          clear hr13 hz13
          refine step_append_run rfl (.tmp 44) (.tmp 51) 66 rfl rfl rfl HA.out ?_
          go_simp
          clear HA
          refine hK.out _ _ (by exact (Z.out.up.cell PLT.out (fun h => h)).trans C2.out) (fun hHeld => ?_)
          clear hK K
          refine listed_eq (l' := #[true, true, true, true, true, true, true, true, true, true, true, true, true, true, true, true, false, false, false]) (by kernel_rfl) ?_
          have Z := Z.out
          (try simp only [Go.Deep.nblk_alloc] at Z)
          exact cont _ _ _ _ _ _ Z
      · have ct := (Z.out.up.cell GLT.out (fun h => h)).trans CT.out
        go_simp
        clear ct
        refine hK.out _ _ (by exact hHeld) (fun hHeld => ?_)
        clear hK K
        refine wpAnyH_ready (rs := [5, 15]) (by kernel_rfl) (by simp) ?_
        refine (AllReadyH.cons (o := _) rfl (fun K hK => ?_) (AllReadyH.cons (o := _) rfl (fun K hK => ?_) AllReadyH.nil))
        · go_simp
          have Z := Lib.hid (Z.out.e)
          refine hK.out _ _ (by exact (Z.out.up.cell PLT.out (fun h => h)).trans C2.out) (fun hHeld => ?_)
          clear hK K
          refine wpAnyH_ready (rs := [13, 15]) (by kernel_rfl) (by simp) ?_
          refine (AllReadyH.cons (o := _) rfl (fun K hK => ?_) (AllReadyH.cons (o := _) rfl (fun K hK => ?_) AllReadyH.nil))
          · obtain ⟨A13, N13, c13, w13, hr13, hz13⟩ := Z.out.a HX.out HXL.out
            (try simp only [Go.Deep.nblk_alloc] at hr13)
            have HA := Lib.hid hr13
            have Z := Lib.hid hz13
            clear hr13 hz13
            refine step_append_run rfl (.tmp 44) (.tmp 51) 66 rfl rfl rfl HA.out ?_
            go_simp
            clear HA
            refine hK.out _ _ (by exact (Z.out.up.cell PLT.out (fun h => h)).trans C2.out) (fun hHeld => ?_)
            clear hK K
            refine wpAnyH_ready (rs := [15]) (by kernel_rfl) (by simp) ?_
            refine (AllReadyH.cons (o := _) rfl (fun K hK => ?_) AllReadyH.nil)
            go_simp
            have Z := Lib.hid (Z.out.n)
            refine hK.out _ _ (by exact (Z.out.up.cell PLT.out (fun h => h)).trans C2.out) (fun hHeld => ?_)
            clear hK K
            refine listed_eq (l' := #[true, true, true, true, true, true, true, true, true, true, true, true, true, true, true, true, false, false, false]) (by kernel_rfl) ?_
            have Z := Z.out
            (try simp only [Go.Deep.nblk_alloc] at Z)
            exact cont _ _ _ _ _ _ Z
          · go_simp
            have Z := Lib.hid (Z.out.n)
            refine hK.out _ _ (by exact (Z.out.up.cell PLT.out (fun h => h)).trans C2.out) (fun hHeld => ?_)
            clear hK K
            refine wpAnyH_ready (rs := [13]) (by kernel_rfl) (by simp) ?_
            refine (AllReadyH.cons (o := _) rfl (fun K hK => ?_) AllReadyH.nil)
            obtain ⟨A13, N13, c13, w13, hr13, hz13⟩ := Z.out.a HX.out HXL.out
            (try simp only [Go.Deep.nblk_alloc] at hr13)
            have HA := Lib.hid hr13
            have Z := Lib.hid hz13
            clear hr13 hz13
            refine step_append_run rfl (.tmp 44) (.tmp 51) 66 rfl rfl rfl HA.out ?_
            go_simp
            clear HA
            refine hK.out _ _ (by exact (Z.out.up.cell PLT.out (fun h => h)).trans C2.out) (fun hHeld => ?_)
            clear hK K
            refine listed_eq (l' := #[true, true, true, true, true, true, true, true, true, true, true, true, true, true, true, true, false, false, false]) (by kernel_rfl) ?_
            have Z := Z.out
            (try simp only [Go.Deep.nblk_alloc] at Z)
            exact cont _ _ _ _ _ _ Z
        · go_simp
          have Z := Lib.hid (Z.out.n)
          refine hK.out _ _ (by exact (Z.out.up.cell PLT.out (fun h => h)).trans C2.out) (fun hHeld => ?_)
          clear hK K
          refine wpAnyH_ready (rs := [5]) (by kernel_rfl) (by simp) ?_
          refine (AllReadyH.cons (o := _) rfl (fun K hK => ?_) AllReadyH.nil)
          go_simp
          have Z := Lib.hid (Z.out.e)
          refine hK.out _ _ (by exact (Z.out.up.cell PLT.out (fun h => h)).trans C2.out) (fun hHeld => ?_)
          clear hK K
          refine wpAnyH_ready (rs := [13]) (by kernel_rfl) (by simp) ?_
          refine (AllReadyH.cons (o := _) rfl (fun K hK => ?_) AllReadyH.nil)
          obtain ⟨A13, N13, c13, w13, hr13, hz13⟩ := Z.out.a HX.out HXL.out
          (try simp only [Go.Deep.nblk_alloc] at hr13)
          have HA := Lib.hid hr13
          have Z := Lib.hid hz13
          clear hr13 hz13
          refine step_append_run rfl (.tmp 44) (.tmp 51) 66 rfl rfl rfl HA.out ?_
          go_simp
          clear HA
          refine hK.out _ _ (by exact (Z.out.up.cell PLT.out (fun h => h)).trans C2.out) (fun hHeld => ?_)
          clear hK K
          refine listed_eq (l' := #[true, true, true, true, true, true, true, true, true, true, true, true, true, true, true, true, false, false, false]) (by kernel_rfl) ?_
          have Z := Z.out
          (try simp only [Go.Deep.nblk_alloc] at Z)
          exact cont _ _ _ _ _ _ Z
      · go_simp
        have Z := Lib.hid (Z.out.n)
        refine hK.out _ _ (by exact (Z.out.up.cell PLT.out (fun h => h)).trans C2.out) (fun hHeld => ?_)
        clear hK K
        refine wpAnyH_ready (rs := [5, 12]) (by kernel_rfl) (by simp) ?_
        refine (AllReadyH.cons (o := _) rfl (fun K hK => ?_) (AllReadyH.cons (o := _) rfl (fun K hK => ?_) AllReadyH.nil))
        · go_simp
          have Z := Lib.hid (Z.out.e)
          refine hK.out _ _ (by exact (Z.out.up.cell PLT.out (fun h => h)).trans C2.out) (fun hHeld => ?_)
          clear hK K
          refine wpAnyH_ready (rs := [12]) (by kernel_rfl) (by simp) ?_
          refine (AllReadyH.cons (o := _) rfl (fun K hK => ?_) AllReadyH.nil)
          have ct := (Z.out.up.cell GLT.out (fun h => h)).trans CT.out
          go_simp
          clear ct
          refine hK.out _ _ (by exact hHeld) (fun hHeld => ?_)
          clear hK K
          refine wpAnyH_ready (rs := [13]) (by kernel_rfl) (by simp) ?_
          refine (AllReadyH.cons (o := _) rfl (fun K hK => ?_) AllReadyH.nil)
          obtain ⟨A13, N13, c13, w13, hr13, hz13⟩ := Z.out.a HX.out HXL.out
          (try simp only [Go.Deep.nblk_alloc] at hr13)
          have HA := Lib.hid hr13
          have Z := Lib.hid hz13
          clear hr13 hz13
          refine step_append_run rfl (.tmp 44) (.tmp 51) 66 rfl rfl rfl HA.out ?_
          go_simp
          clear HA
          refine hK.out _ _ (by exact (Z.out.up.cell PLT.out (fun h => h)).trans C2.out) (fun hHeld => ?_)
          clear hK K
          refine listed_eq (l' := #[true, true, true, true, true, true, true, true, true, true, true, true, true, true, true, true, false, false, false]) (by kernel_rfl) ?_
          have Z := Z.out
          (try simp only [Go.Deep.nblk_alloc] at Z)
          exact cont _ _ _ _ _ _ Z
        · have ct := (Z.out.up.cell GLT.out (fun h => h)).trans CT.out
          go_simp
          clear ct
          refine hK.out _ _ (by exact hHeld) (fun hHeld => ?_)
          clear hK K
          refine wpAnyH_ready (rs := [5]) (by kernel_rfl) (by simp) ?_
          refine (AllReadyH.cons (o := _) rfl (fun K hK => ?_) AllReadyH.nil)
          go_simp
          have Z := Lib.hid (Z.out.e)
          refine hK.out _ _ (by exact (Z.out.up.cell PLT.out (fun h => h)).trans C2.out) (fun hHeld => ?_)
          clear hK K
          refine wpAnyH_ready (rs := [13]) (by kernel_rfl) (by simp) ?_
          refine (AllReadyH.cons (o := _) rfl (fun K hK => ?_) AllReadyH.nil)
          obtain ⟨A13, N13, c13, w13, hr13, hz13⟩ := Z.out.a HX.out HXL.out
          (try simp only [Go.Deep.nblk_alloc] at hr13)
          have HA := Lib.hid hr13
          have Z := Lib.hid hz13
          clear hr13 hz13
          refine step_append_run rfl (.tmp 44) (.tmp 51) 66 rfl rfl rfl HA.out ?_
          go_simp
          clear HA
          refine hK.out _ _ (by exact (Z.out.up.cell PLT.out (fun h => h)).trans C2.out) (fun hHeld => ?_)
          clear hK K
          refine listed_eq (l' := #[true, true, true, true, true, true, true, true, true, true, true, true, true, true, true, true, false, false, false]) (by kernel_rfl) ?_
          have Z := Z.out
          (try simp only [Go.Deep.nblk_alloc] at Z)
          exact cont _ _ _ _ _ _ Z
    case m2 =>
      intro q5 q A13 N13 c13 W Z0
      have Z := Lib.hid Z0
      clear Z0
      have hHeld : W.cell? ⟨p, 2, none⟩ = some (.slice (some ⟨g, 0, none⟩) 7 c) := (Z.out.up.cell PLT.out (fun h => h)).trans C2.out
      refine wpAnyH_ready (rs := [16]) (by kernel_rfl) (by simp) ?_
      refine (AllReadyH.cons (o := _) rfl (fun K hK => ?_) AllReadyH.nil)
      obtain ⟨A16, N16, c16, w16, hr16, hz16⟩ := Z.out.b HNM.out HXL.out
      have HA := Lib.hid hr16
      have Z := Lib.hid hz16
      clear hr16 hz16
      refine step_append_run rfl (.tmp 52) (.tmp 54) 66 rfl rfl rfl HA.out ?_
      go_simp
      clear HA
      refine hK.out _ _ (by exact (Z.out.up.cell PLT.out (fun h => h)).trans C2.out) (fun hHeld => ?_)
      clear hK K
      refine held_take (i := 17) (d := some 56) (v := ?_) rfl rfl (by kernel_rfl) (by kernel_rfl) (by kernel_rfl) (fun _ _ _ h => h) (by rfl) ?_ (by assumption) ?_
      rotate_left 1
      focus (intro w hSw; (try dsimp only at hSw); go_simp; first | done | with_reducible rfl)
      simp only [Act.put, List.setIfInBounds_toArray, List.set_cons_zero, List.set_cons_succ]
      refine wpAnyH_ready (rs := [18]) (by kernel_rfl) (by simp) ?_
      refine (AllReadyH.cons (o := _) rfl (fun K hK => ?_) AllReadyH.nil)
      have ct := (Z.out.up.cell GLT.out (fun h => h)).trans CT.out
      have ft := frozen_of_own H4.out.vars HVV.out t w16 Z.out.up
      have Z18 := Lib.hid (H4.out.setrow HVV.out HT.out Z.out HY.out)
      go_simp
      clear ct ft
      refine hK.out _ _ (by exact ((Z18.out.2.cell PLT.out PNE.out).trans C2.out)) (fun hHeld => ?_)
      clear hK K
      refine wpAnyH_done (by kernel_rfl) ?_ _
      go_wp2_with fail
      refine bodyPost_end (v := .tuple #[]) (by kernel_rfl) rfl ?_
      exact ⟨rfl, o, HO.out, ⟨_, Z18.out.1⟩, Fr.trans F4.out Z18.out.2 (fun _ _ h => Or.inr h)⟩
end Go.Proofs.YtemmdbjcllcelaaDoor.Tk
