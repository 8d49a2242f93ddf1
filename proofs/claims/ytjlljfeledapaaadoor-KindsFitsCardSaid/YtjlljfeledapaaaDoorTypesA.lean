/-
  The law's own 'types': what comes in, what is made, and the steps of its loops.
-/
import Derived.Test.YtjlljfeledapaaaDoorKindT
import Derived.Deep.DeepCutAuto
import Derived.Deep.CutBlock
import Derived.Outline
namespace Go.Proofs.YtjlljfeledapaaaDoor
open Go.RowKit

def IntB (x : Int) (cs : List Value) : Prop := cs = [.int .i64 x] ∧ -9223372036854775808 ≤ x ∧ x ≤ 9223372036854775807
structure RawV where
  kind : Int
  elem : Int
  name : Int
  fields : List Int
  methods : List (List Int)
  bad : Int
def Wide (x : Int) : Prop := -9223372036854775808 ≤ x ∧ x ≤ 9223372036854775807
theorem wide_half {y : Int} (h : Wide y) : Wide (y.tdiv 2) := by
  unfold Wide at *
  rcases Int.lt_or_le y 0 with h0 | h0
  · have e : y.tdiv 2 = -((-y) / 2) := by
      have := Int.neg_tdiv (-y) 2
      rw [Int.neg_neg] at this
      rw [this, Int.tdiv_eq_ediv_of_nonneg (by omega)]
    rw [e]; omega
  · rw [Int.tdiv_eq_ediv_of_nonneg h0]; omega
def RowB (w : World) (G : Nat → Prop) (x : List Int) (cs : List Value) : Prop := ∃ v, cs = [v] ∧ SlAt w G 1 IntB v x
def RawC (w : World) (G : Nat → Prop) (x : RawV) (cs : List Value) : Prop :=
  ∃ vf vm, cs = [.int .i64 x.kind, .int .i64 x.elem, .int .i64 x.name, vf, vm, .int .i64 x.bad] ∧ Wide x.kind ∧ Wide x.elem ∧ Wide x.name ∧ Wide x.bad ∧ SlAt w G 1 IntB vf x.fields ∧ SlAt w G 1 (RowB w G) vm x.methods
abbrev RawsP (w : World) (G : Nat → Prop) := SlP w G 6 (RawC w G)

section
variable {w w' : World} {G G' S : Nat → Prop} {A : Option Addr} {c : Nat}
theorem RowB.kept {x : List Int} {cs : List Value} (h : RowB w G x cs) (hf : Fr S w w') (hG : ∀ b, G b → ¬ S b) (hG' : ∀ b, G b → G' b) : RowB w' G' x cs := by
  obtain ⟨v, e, h1⟩ := h
  exact ⟨v, e, h1.kept hf hG hG' (fun _ _ _ h => h)⟩
theorem RawC.kept {x : RawV} {cs : List Value} (h : RawC w G x cs) (hf : Fr S w w') (hG : ∀ b, G b → ¬ S b) (hG' : ∀ b, G b → G' b) : RawC w' G' x cs := by
  obtain ⟨vf, vm, e, b1, b2, b3, b4, h1, h2⟩ := h
  exact ⟨vf, vm, e, b1, b2, b3, b4, h1.kept hf hG hG' (fun _ _ _ h => h), h2.kept hf hG hG' (fun _ _ _ h => h.kept hf hG hG')⟩
theorem RawsP.kept {xs : List RawV} (h : RawsP w G A c xs) (hf : Fr S w w') (hG : ∀ b, G b → ¬ S b) (hG' : ∀ b, G b → G' b) : RawsP w' G' A c xs := SlP.kept h hf hG hG' (fun _ _ _ h => RawC.kept h hf hG hG')
/-- A list of numbers, laid for a walk. -/
theorem SlP.intB {xs : List Int} (h : SlP w G 1 IntB A c xs) {k : Nat} (hk : k < xs.length) : ∃ b o x, A = some ⟨b, o, none⟩ ∧ Wide x ∧ w.cell? ⟨b, o + k, none⟩ = some (.int .i64 x) := by
  obtain ⟨b, o, cs, e, _, _, ⟨rfl, h1⟩, _, hc⟩ := h.elem hk
  exact ⟨b, o, _, e, h1, by have := hc 0 _ rfl; simpa using this⟩
theorem SlP.rowB {xs : List (List Int)} (h : SlP w G 1 (RowB w G) A c xs) {k : Nat} (hk : k < xs.length) : ∃ b o A' c', A = some ⟨b, o, none⟩ ∧ SlP w G 1 IntB A' c' xs[k] ∧ w.cell? ⟨b, o + k, none⟩ = some (.slice A' xs[k].length c') := by
  obtain ⟨b, o, cs, e, _, _, ⟨v, rfl, h1⟩, _, hc⟩ := h.elem hk
  obtain ⟨A', c', rfl, h2⟩ := h1.parts
  exact ⟨b, o, A', c', e, h2, by have := hc 0 _ rfl; simpa using this⟩
end

def nm : Nat → ByteArray
  | 0 => ⟨#[80]⟩
  | 1 => ⟨#[81]⟩
  | 2 => ⟨#[82]⟩
  | 3 => ⟨#[83]⟩
  | 4 => ⟨#[120]⟩
  | 5 => ⟨#[121]⟩
  | 6 => ⟨#[109]⟩
  | _ => ⟨#[]⟩
theorem nm_size : ∀ j, (nm j).size ≤ 1
  | 0 => by decide
  | 1 => by decide
  | 2 => by decide
  | 3 => by decide
  | 4 => by decide
  | 5 => by decide
  | 6 => by decide
  | _ + 7 => Nat.zero_le _
/-- The law's own table of names, as it is laid. -/
def Names (w : World) : Prop := ∀ j, j < 8 → w.cell? ⟨0, j, none⟩ = some (.string (nm j))
def mname (j : Nat) : ByteArray := ⟨#[109]⟩ ++ nm j
/-- Of each type that is made: its methods' names are those of their places. -/
def Named (x : Typ) : Prop := x.methods.length ≤ 3 ∧ ∀ (j : Nat) (m : Mth), x.methods[j]? = some m → m.name = mname j

theorem blk_set {w : World} {g : Nat} {t : TypeId} {cs : Array Value} (h : w.heap[g]? = some (.cells cs t (0, 0))) (i : Nat) (u : Value) : (w.setCell ⟨g, i, none⟩ u).heap[g]? = some (.cells (cs.setIfInBounds i u) t (0, 0)) := by
  simp [World.setCell, Array.getElem?_modify, h]
theorem own_ne {α : Type} {w : World} {base : Nat} {e : TypeId} {sz : Nat} {C : α → List Value → Prop} {v : Value} {xs : List α} (h : OwnSl w base e sz C v xs) {g : Nat} {t : TypeId} {cs : Array Value}
    (hg : w.heap[g]? = some (.cells cs t (0, 0))) (hne : e ≠ t) : v.ownBlock ≠ some g := by
  obtain ⟨_, _, ho⟩ := h
  rcases ho.2 with ⟨rfl, _⟩ | ⟨g', cap, cur, rfl, _, hh, _⟩
  · simp [Value.ownBlock]
  · intro he
    have : g' = g := by simpa [Value.ownBlock] using he
    subst this
    rw [hg] at hh
    injection hh with hh
    injection hh with _ ht
    exact hne ht.symm
theorem own_own {α β : Type} {w : World} {base base' : Nat} {e e' : TypeId} {sz sz' : Nat} {C : α → List Value → Prop} {C' : β → List Value → Prop} {v v' : Value} {xs : List α} {ys : List β} (h : OwnSl w base e sz C v xs) (h' : OwnSl w base' e' sz' C' v' ys)
    (hne : e ≠ e') : ∀ b, v.ownBlock = some b → v'.ownBlock ≠ some b := by
  intro b hb
  obtain ⟨_, _, ho⟩ := h
  rcases ho.2 with ⟨rfl, _⟩ | ⟨g, cap, cur, rfl, _, hh, _⟩
  · simp [Value.ownBlock] at hb
  · have : g = b := by simpa [Value.ownBlock] using hb
    subst this
    exact own_ne h' hh hne.symm

/-- Blocks that an iteration made and that it will not write again. -/
def In (wr wc : World) (tb : Nat) (vf vm : Value) (b : Nat) : Prop := wr.heap.size ≤ b ∧ b < wc.heap.size ∧ b ≠ tb ∧ vf.ownBlock ≠ some b ∧ vm.ownBlock ≠ some b

/-- Within one round of 'types': x's box, t's box, and the rows of t. -/
structure Tin (wr wc : World) (xb tb : Nat) (xcs : Array Value) (kind : Int) (name : ByteArray) (elem : Int) (vf vm : Value) (fs : List Fld) (ms : List Mth) : Prop where
  up : Up wr wc
  xbox : wc.heap[xb]? = some (.cells xcs 46 (0, 0))
  tbox : wc.heap[tb]? = some (.cells #[.int .i64 kind, .string name, .int .i64 elem, vf, vm] 25 (0, 0))
  xlo : wr.heap.size ≤ xb
  tlo : wr.heap.size ≤ tb
  nlen : name.size ≤ 9223372036854775807
  fl : OwnSl wc wr.heap.size 49 2 FldC vf fs
  ml : OwnSl wc wr.heap.size 38 4 (MthC wc (In wr wc tb vf vm)) vm ms
  mn : ms.length ≤ 3 ∧ ∀ (j : Nat) (m : Mth), ms[j]? = some m → m.name = mname j

section
variable {wr wc wd : World} {xb tb : Nat} {xcs : Array Value} {kind elem : Int} {name : ByteArray} {vf vm : Value} {fs : List Fld} {ms : List Mth}

theorem Tin.xlt (h : Tin wr wc xb tb xcs kind name elem vf vm fs ms) : xb < wc.heap.size := heap_lt h.xbox
theorem Tin.tlt (h : Tin wr wc xb tb xcs kind name elem vf vm fs ms) : tb < wc.heap.size := heap_lt h.tbox
theorem Tin.xne (h : Tin wr wc xb tb xcs kind name elem vf vm fs ms) : xb ≠ tb := by
  rintro rfl
  have := h.xbox.symm.trans h.tbox
  injection this with this
  injection this with _ ht
  exact absurd ht (by decide)
theorem Tin.xcell (h : Tin wr wc xb tb xcs kind name elem vf vm fs ms) (i : Nat) : wc.cell? ⟨xb, i, none⟩ = xcs[i]? := cell_of_row _ _ _ _ _ _ h.xbox
theorem Tin.tcell (h : Tin wr wc xb tb xcs kind name elem vf vm fs ms) (i : Nat) : wc.cell? ⟨tb, i, none⟩ = (#[.int .i64 kind, .string name, .int .i64 elem, vf, vm] : Array Value)[i]? := cell_of_row _ _ _ _ _ _ h.tbox
theorem Tin.tfree (h : Tin wr wc xb tb xcs kind name elem vf vm fs ms) (i : Nat) : wc.frozen? ⟨tb, i, none⟩ = false := frozen_of_row _ _ i _ _ h.tbox
theorem Tin.fne (h : Tin wr wc xb tb xcs kind name elem vf vm fs ms) : vf.ownBlock ≠ some tb := own_ne h.fl h.tbox (by decide)
theorem Tin.mne (h : Tin wr wc xb tb xcs kind name elem vf vm fs ms) : vm.ownBlock ≠ some tb := own_ne h.ml h.tbox (by decide)
theorem Tin.fnx (h : Tin wr wc xb tb xcs kind name elem vf vm fs ms) : vf.ownBlock ≠ some xb := own_ne h.fl h.xbox (by decide)
theorem Tin.mnx (h : Tin wr wc xb tb xcs kind name elem vf vm fs ms) : vm.ownBlock ≠ some xb := own_ne h.ml h.xbox (by decide)

/-- Over a frame that leaves all of it alone. -/
theorem Tin.over (h : Tin wr wc xb tb xcs kind name elem vf vm fs ms) (hu : Up wc wd) : Tin wr wd xb tb xcs kind name elem vf vm fs ms :=
  ⟨Up.trans h.up hu, (hu.block xb h.xlt (fun h => h)).trans h.xbox, (hu.block tb h.tlt (fun h => h)).trans h.tbox, h.xlo, h.tlo, h.nlen,
    h.fl.kept hu (fun _ _ h => h) (fun _ _ _ h => h),
    h.ml.kept hu (fun _ _ h => h) (fun _ _ _ hc => hc.kept hu (fun _ _ h => h) (fun _ hb => ⟨hb.1, Nat.lt_of_lt_of_le hb.2.1 hu.size, hb.2.2⟩)), h.mn⟩

/-- A store into t's own first cells. -/
theorem Tin.put (h : Tin wr wc xb tb xcs kind name elem vf vm fs ms) (i : Nat) (u : Value) (kind' elem' : Int) (name' : ByteArray)
    (he : (#[.int .i64 kind, .string name, .int .i64 elem, vf, vm] : Array Value).setIfInBounds i u = #[.int .i64 kind', .string name', .int .i64 elem', vf, vm]) (hn : name'.size ≤ 9223372036854775807) :
    Tin wr (wc.setCell ⟨tb, i, none⟩ u) xb tb xcs kind' name' elem' vf vm fs ms := by
  have hf : Fr (fun b => b = tb) wc (wc.setCell ⟨tb, i, none⟩ u) := (Fr.refl (fun b => b = tb) wc).setCell (p := ⟨tb, i, none⟩) (fun _ => rfl) u
  have hz : (wc.setCell ⟨tb, i, none⟩ u).heap.size = wc.heap.size := by simp [World.setCell]
  refine ⟨Fr.setCell h.up (p := ⟨tb, i, none⟩) (fun hh => absurd hh (Nat.not_lt.2 h.tlo)) u, (hf.block xb h.xlt h.xne).trans h.xbox, ?_, h.xlo, h.tlo, hn, ?_, ?_, h.mn⟩
  · rw [← he]; exact blk_set h.tbox i u
  · exact h.fl.kept hf (fun _ hb e => h.fne (by rw [hb, e])) (fun _ _ _ h => h)
  · exact h.ml.kept hf (fun _ hb e => h.mne (by rw [hb, e])) (fun _ _ _ hc => hc.kept hf (fun _ hb e => hb.2.2.1 e) (fun _ hb => ⟨hb.1, by rw [hz]; exact hb.2.1, hb.2.2⟩))

/-- A field more: append on the row, and the store of the new row. -/
theorem Tin.addField {w4 : World} {g cap n : Nat} (h : Tin wr wc xb tb xcs kind name elem vf vm fs ms) (f : Fld)
    (ho : OwnSl w4 wr.heap.size 49 2 FldC (.slice (some ⟨g, 0, none⟩) n cap) (fs ++ [f])) (hgr : wc.grownBy w4 vf.ownBlock) (hg : vf.ownBlock = some g ∨ wc.heap.size ≤ g) :
    Tin wr (w4.setCell ⟨tb, 3, none⟩ (.slice (some ⟨g, 0, none⟩) n cap)) xb tb xcs kind name elem (.slice (some ⟨g, 0, none⟩) n cap) vm (fs ++ [f]) ms := by
  have h1 := fr_grown hgr
  have hlt := h.tlt
  have tbox := (h1.block tb hlt h.fne).trans h.tbox
  have hf : Fr (fun b => b = tb) w4 (w4.setCell ⟨tb, 3, none⟩ (.slice (some ⟨g, 0, none⟩) n cap)) := (Fr.refl (fun b => b = tb) w4).setCell (p := ⟨tb, 3, none⟩) (fun _ => rfl) _
  have hz : (w4.setCell ⟨tb, 3, none⟩ (.slice (some ⟨g, 0, none⟩) n cap)).heap.size = w4.heap.size := by simp [World.setCell]
  have gt : g ≠ tb := by rintro rfl; rcases hg with e | e; exact h.fne e; omega
  have u4 : Up wr w4 := Fr.trans h.up h1 (fun b hb he => by have := (h.fl.lt b he).1; omega)
  have hne : ∀ b, vf.ownBlock = some b → vm.ownBlock ≠ some b := own_own h.fl h.ml (by decide)
  have hs := h1.size
  refine ⟨Fr.setCell u4 (p := ⟨tb, 3, none⟩) (fun hh => absurd hh (Nat.not_lt.2 h.tlo)) _, ?_, ?_, h.xlo, h.tlo, h.nlen, ?_, ?_, h.mn⟩
  · exact (hf.block xb (Nat.lt_of_lt_of_le h.xlt hs) h.xne).trans ((h1.block xb h.xlt h.fnx).trans h.xbox)
  · exact blk_set tbox 3 _
  · exact ho.kept hf (fun _ hb e => gt (by simp [Value.ownBlock] at hb; rw [hb, e])) (fun _ _ _ h => h)
  · refine (h.ml.kept (C' := MthC w4 (In wr w4 tb (.slice (some ⟨g, 0, none⟩) n cap) vm)) h1 (fun b hb e => hne b e hb) (fun _ _ cs hc => hc.kept h1 (fun _ hb e => hb.2.2.2.1 e) (fun _ hb => ⟨hb.1, Nat.lt_of_lt_of_le hb.2.1 hs, hb.2.2.1, ?_, hb.2.2.2.2⟩))).kept hf (fun _ hb e => h.mne (by rw [hb, e]))
      (fun _ _ _ hc => hc.kept hf (fun _ hb e => hb.2.2.1 e) (fun _ hb => ⟨hb.1, by rw [hz]; exact hb.2.1, hb.2.2⟩))
    intro e
    simp [Value.ownBlock] at e
    subst e
    rcases hg with e | e
    · exact hb.2.2.2.1 e
    · exact absurd hb.2.1 (Nat.not_lt.2 e)

/-- A method more. -/
theorem Tin.addMethod {w4 : World} {g cap n : Nat} (h : Tin wr wc xb tb xcs kind name elem vf vm fs ms) (m : Mth)
    (ho : OwnSl w4 wr.heap.size 38 4 (MthC w4 (In wr w4 tb vf (.slice (some ⟨g, 0, none⟩) n cap))) (.slice (some ⟨g, 0, none⟩) n cap) (ms ++ [m])) (hgr : wc.grownBy w4 vm.ownBlock) (hg : vm.ownBlock = some g ∨ wc.heap.size ≤ g)
    (hm : ms.length < 3) (hmn : m.name = mname ms.length) :
    Tin wr (w4.setCell ⟨tb, 4, none⟩ (.slice (some ⟨g, 0, none⟩) n cap)) xb tb xcs kind name elem vf (.slice (some ⟨g, 0, none⟩) n cap) fs (ms ++ [m]) := by
  have h1 := fr_grown hgr
  have hlt := h.tlt
  have tbox := (h1.block tb hlt h.mne).trans h.tbox
  have hf : Fr (fun b => b = tb) w4 (w4.setCell ⟨tb, 4, none⟩ (.slice (some ⟨g, 0, none⟩) n cap)) := (Fr.refl (fun b => b = tb) w4).setCell (p := ⟨tb, 4, none⟩) (fun _ => rfl) _
  have hz : (w4.setCell ⟨tb, 4, none⟩ (.slice (some ⟨g, 0, none⟩) n cap)).heap.size = w4.heap.size := by simp [World.setCell]
  have gt : g ≠ tb := by rintro rfl; rcases hg with e | e; exact h.mne e; omega
  have u4 : Up wr w4 := Fr.trans h.up h1 (fun b hb he => by have := (h.ml.lt b he).1; omega)
  have hne : ∀ b, vf.ownBlock = some b → vm.ownBlock ≠ some b := own_own h.fl h.ml (by decide)
  have hs := h1.size
  refine ⟨Fr.setCell u4 (p := ⟨tb, 4, none⟩) (fun hh => absurd hh (Nat.not_lt.2 h.tlo)) _, ?_, ?_, h.xlo, h.tlo, h.nlen, ?_, ?_, ?_⟩
  · exact (hf.block xb (Nat.lt_of_lt_of_le h.xlt hs) h.xne).trans ((h1.block xb h.xlt h.mnx).trans h.xbox)
  · exact blk_set tbox 4 _
  · exact (h.fl.kept h1 (fun b hb e => hne b hb e) (fun _ _ _ h => h)).kept hf (fun _ hb e => h.fne (by rw [hb, e])) (fun _ _ _ h => h)
  · exact ho.kept hf (fun _ hb e => gt (by simp [Value.ownBlock] at hb; rw [hb, e])) (fun _ _ _ hc => hc.kept hf (fun _ hb e => hb.2.2.1 e) (fun _ hb => ⟨hb.1, by rw [hz]; exact hb.2.1, hb.2.2⟩))
  · refine ⟨by rw [List.length_append]; simp; omega, fun j x hj => ?_⟩
    by_cases hlt : j < ms.length
    · rw [List.getElem?_append_left hlt] at hj; exact h.mn.2 j x hj
    · rw [List.getElem?_append_right (by omega)] at hj
      have h0 : j - ms.length = 0 := by
        rcases Nat.eq_zero_or_pos (j - ms.length) with e | e
        · exact e
        · rw [List.getElem?_eq_none (by simp; omega)] at hj; cases hj
      rw [h0] at hj
      simp at hj
      subst hj
      rw [hmn, show j = ms.length by omega]

/-- t's box, just made. -/
theorem Tin.start {w3 : World} {xb : Nat} {xcs : Array Value} {kind : Int} {name : ByteArray} (hu : Up wr w3) (hx : w3.heap[xb]? = some (.cells xcs 46 (0, 0))) (hn : name.size ≤ 9223372036854775807) (hlo : wr.heap.size ≤ xb := by exact Nat.le_refl _) :
    Tin wr (w3.alloc (.cells #[.int .i64 kind, .string name, .int .i64 0, .slice none 0 0, .slice none 0 0] 25)) xb w3.heap.size xcs kind name 0 (.slice none 0 0) (.slice none 0 0) [] [] :=
  ⟨hu.alloc _, (Below.heap_alloc _ _ _ (heap_lt hx)).trans hx, heap_alloc_new _ _, hlo, hu.size, hn, OwnSl.none_, OwnSl.none_, by decide, by simp⟩
end

theorem info_fld : (Tryd.prog.info? 49).map (fun i => (i.zero, i.size, i.bytes)) = some (some (.agg #[.string ⟨#[]⟩, .int .i64 0]), 2, 24) := by kernel_rfl
theorem info_mth : (Tryd.prog.info? 38).map (fun i => (i.zero, i.size, i.bytes)) = some (some (.agg #[.string ⟨#[]⟩, .slice none 0 0, .int .i64 0, .int .i64 0]), 4, 56) := by kernel_rfl
theorem info_int : (Tryd.prog.info? 3).map (fun i => (i.zero, i.size, i.bytes)) = some (some (.int .i64 0), 1, 8) := by kernel_rfl

/-- append of one field. -/
theorem app_field {wr w : World} {vf : Value} {fs : List Fld} (h : OwnSl w wr.heap.size 49 2 FldC vf fs) (f : Fld) (hn : f.name.size ≤ 9223372036854775807) (n : Nat) (hl : fs.length = n) (h4 : n < 1000) (hb : wr.heap.size ≤ w.heap.size) :
    ∃ g cap w', (Builtin.append_ #[22, 22] 22 #[vf, .slice (some ⟨w.heap.size, 0, none⟩) 1 1]).run Tryd.prog (w.alloc (.cells #[.string f.name, .int .i64 f.type] 49)) = .ok (.slice (some ⟨g, 0, none⟩) (n + 1) cap) w' ∧
      OwnSl w' wr.heap.size 49 2 FldC (.slice (some ⟨g, 0, none⟩) (n + 1) cap) (fs ++ [f]) ∧ w.grownBy w' vf.ownBlock ∧ (vf.ownBlock = some g ∨ w.heap.size ≤ g) := by
  obtain ⟨i, hi, hz, hz1, hz2⟩ := info_parts info_fld
  exact own_append (P := Tryd.prog) w wr.heap.size 22 22 49 i _ 2 24 Tryd.underlying22 hi hz hz1 hz2 rfl (by decide) h [f] [[.string f.name, .int .i64 f.type]]
    ⟨rfl, by simp, by intro j x cs hj hc; match j, hj, hc with | 0, hj, hc => simp at hj hc; subst hj hc; exact ⟨rfl, hn⟩⟩ #[.string f.name, .int .i64 f.type] rfl n 1 (n + 1) hl rfl rfl (by decide)
    (by intro u hu; simp at hu; rcases hu with rfl | rfl <;> rfl) (by unfold maxLen; omega) (by omega) hb (fun _ => FldC) (fun _ _ _ _ _ h => h)

/-- Within one method: its box, and its parameters' row. -/
structure Min (wm wc : World) (mb : Nat) (name : ByteArray) (vp : Value) (res func : Int) (ps : List Int) : Prop where
  up : Up wm wc
  mlo : wm.heap.size ≤ mb
  mbox : wc.heap[mb]? = some (.cells #[.string name, vp, .int .i64 res, .int .i64 func] 38 (0, 0))
  pl : OwnSl wc wm.heap.size 3 1 IntC vp ps

section
variable {wm wc wd : World} {mb : Nat} {name : ByteArray} {vp : Value} {res func : Int} {ps : List Int}
theorem Min.mlt (h : Min wm wc mb name vp res func ps) : mb < wc.heap.size := heap_lt h.mbox
theorem Min.mcell (h : Min wm wc mb name vp res func ps) (i : Nat) : wc.cell? ⟨mb, i, none⟩ = (#[.string name, vp, .int .i64 res, .int .i64 func] : Array Value)[i]? := cell_of_row _ _ _ _ _ _ h.mbox
theorem Min.mfree (h : Min wm wc mb name vp res func ps) (i : Nat) : wc.frozen? ⟨mb, i, none⟩ = false := frozen_of_row _ _ i _ _ h.mbox
theorem Min.pne (h : Min wm wc mb name vp res func ps) : vp.ownBlock ≠ some mb := own_ne h.pl h.mbox (by decide)
theorem Min.over (h : Min wm wc mb name vp res func ps) (hu : Up wc wd) : Min wm wd mb name vp res func ps :=
  ⟨Up.trans h.up hu, h.mlo, (hu.block mb h.mlt (fun h => h)).trans h.mbox, h.pl.kept hu (fun _ _ h => h) (fun _ _ _ h => h)⟩
theorem Min.start (hu : Up wm wc) : Min wm (wc.alloc (.cells #[.string name, .slice none 0 0, .int .i64 res, .int .i64 func] 38)) wc.heap.size name (.slice none 0 0) res func [] :=
  ⟨hu.alloc _, hu.size, heap_alloc_new _ _, OwnSl.none_⟩
theorem Min.put (h : Min wm wc mb name vp res func ps) (i : Nat) (u : Value) (res' func' : Int)
    (he : (#[.string name, vp, .int .i64 res, .int .i64 func] : Array Value).setIfInBounds i u = #[.string name, vp, .int .i64 res', .int .i64 func']) :
    Min wm (wc.setCell ⟨mb, i, none⟩ u) mb name vp res' func' ps := by
  have hf : Fr (fun b => b = mb) wc (wc.setCell ⟨mb, i, none⟩ u) := (Fr.refl (fun b => b = mb) wc).setCell (p := ⟨mb, i, none⟩) (fun _ => rfl) u
  refine ⟨Fr.setCell h.up (p := ⟨mb, i, none⟩) (fun hh => absurd hh (Nat.not_lt.2 h.mlo)) u, h.mlo, ?_, h.pl.kept hf (fun _ hb e => h.pne (by rw [hb, e])) (fun _ _ _ h => h)⟩
  rw [← he]; exact blk_set h.mbox i u
theorem Min.addParam {w4 : World} {g cap n : Nat} (h : Min wm wc mb name vp res func ps) (p : Int)
    (ho : OwnSl w4 wm.heap.size 3 1 IntC (.slice (some ⟨g, 0, none⟩) n cap) (ps ++ [p])) (hgr : wc.grownBy w4 vp.ownBlock) (hg : vp.ownBlock = some g ∨ wc.heap.size ≤ g) :
    Min wm (w4.setCell ⟨mb, 1, none⟩ (.slice (some ⟨g, 0, none⟩) n cap)) mb name (.slice (some ⟨g, 0, none⟩) n cap) res func (ps ++ [p]) := by
  have h1 := fr_grown hgr
  have hlt := h.mlt
  have gt : g ≠ mb := by rintro rfl; rcases hg with e | e; exact h.pne e; omega
  have hf : Fr (fun b => b = mb) w4 (w4.setCell ⟨mb, 1, none⟩ (.slice (some ⟨g, 0, none⟩) n cap)) := (Fr.refl (fun b => b = mb) w4).setCell (p := ⟨mb, 1, none⟩) (fun _ => rfl) _
  have u4 : Up wm w4 := Fr.trans h.up h1 (fun b hb he => by have := (h.pl.lt b he).1; omega)
  refine ⟨Fr.setCell u4 (p := ⟨mb, 1, none⟩) (fun hh => absurd hh (Nat.not_lt.2 h.mlo)) _, h.mlo, blk_set ((h1.block mb hlt h.pne).trans h.mbox) 1 _, ?_⟩
  exact ho.kept hf (fun _ hb e => gt (by simp [Value.ownBlock] at hb; rw [hb, e])) (fun _ _ _ h => h)
end

theorem app_int {wm w : World} {vp : Value} {ps : List Int} (h : OwnSl w wm.heap.size 3 1 IntC vp ps) (p : Int) (n : Nat) (hl : ps.length = n) (h4 : n < 1000) (hb : wm.heap.size ≤ w.heap.size) :
    ∃ g cap w', (Builtin.append_ #[36, 36] 36 #[vp, .slice (some ⟨w.heap.size, 0, none⟩) 1 1]).run Tryd.prog (w.alloc (.cells #[.int .i64 p] 3)) = .ok (.slice (some ⟨g, 0, none⟩) (n + 1) cap) w' ∧
      OwnSl w' wm.heap.size 3 1 IntC (.slice (some ⟨g, 0, none⟩) (n + 1) cap) (ps ++ [p]) ∧ w.grownBy w' vp.ownBlock ∧ (vp.ownBlock = some g ∨ w.heap.size ≤ g) := by
  obtain ⟨i, hi, hz, hz1, hz2⟩ := info_parts info_int
  exact own_append (P := Tryd.prog) w wm.heap.size 36 36 3 i _ 1 8 Tryd.underlying36 hi hz hz1 hz2 rfl (by decide) h [p] [[.int .i64 p]]
    ⟨rfl, by simp, by intro j x cs hj hc; match j, hj, hc with | 0, hj, hc => simp at hj hc; subst hj hc; rfl⟩ #[.int .i64 p] rfl n 1 (n + 1) hl rfl rfl (by decide)
    (by intro u hu; simp at hu; subst hu; rfl) (by unfold maxLen; omega) (by omega) hb (fun _ => IntC) (fun _ _ _ _ _ h => h)

/-- append of one method: its parameters' row lies in blocks that stay. -/
theorem app_method {wr w : World} {xb tb : Nat} {xcs : Array Value} {kind elem : Int} {tn : ByteArray} {vf vm vp : Value} {fs : List Fld} {ms : List Mth} {wm : World} {mb : Nat} {name : ByteArray} {res func : Int} {ps : List Int}
    (h : Tin wr w xb tb xcs kind tn elem vf vm fs ms) (hm : Min wm w mb name vp res func ps) (hT : Tin wr wm xb tb xcs kind tn elem vf vm fs ms) (hn : name.size ≤ 9223372036854775807) (n : Nat) (hl : ms.length = n) (h4 : n < 1000) :
    ∃ g cap w', (Builtin.append_ #[23, 23] 23 #[vm, .slice (some ⟨w.heap.size, 0, none⟩) 1 1]).run Tryd.prog (w.alloc (.cells #[.string name, vp, .int .i64 res, .int .i64 func] 38)) = .ok (.slice (some ⟨g, 0, none⟩) (n + 1) cap) w' ∧
      OwnSl w' wr.heap.size 38 4 (MthC w' (In wr w' tb vf (.slice (some ⟨g, 0, none⟩) (n + 1) cap))) (.slice (some ⟨g, 0, none⟩) (n + 1) cap) (ms ++ [⟨name, ps, res, func⟩]) ∧ w.grownBy w' vm.ownBlock ∧ (vm.ownBlock = some g ∨ w.heap.size ≤ g) := by
  obtain ⟨i, hi, hz, hz1, hz2⟩ := info_parts info_mth
  have hs := hm.up.size
  have hp : IntsAt w (In wr w tb vf vm) vp ps := by
    refine hm.pl.reads.wide (fun b hb => ?_) (fun _ _ _ h => h)
    have hlt := (hm.pl.lt b hb.2).2
    have h0 := hb.1
    have a1 := hT.tlt
    have a2 := hT.up.size
    refine ⟨by omega, hlt, by omega, fun e => ?_, fun e => ?_⟩
    · have := (hT.fl.lt b e).2; omega
    · have := (hT.ml.lt b e).2; omega
  obtain ⟨g, cap, w', h1, h2, h3, h5⟩ := own_append (P := Tryd.prog) w wr.heap.size 23 23 38 i _ 4 56 Tryd.underlying23 hi hz hz1 hz2 rfl (by decide) h.ml [⟨name, ps, res, func⟩] [[.string name, vp, .int .i64 res, .int .i64 func]]
    ⟨rfl, by simp, by intro j x cs hj hc; match j, hj, hc with | 0, hj, hc => simp at hj hc; subst hj hc; exact ⟨vp, rfl, hp, hn⟩⟩ #[.string name, vp, .int .i64 res, .int .i64 func] rfl n 1 (n + 1) hl rfl rfl (by decide)
    (by
      intro u hu
      obtain ⟨A, c, rfl, _⟩ := hp
      simp at hu
      rcases hu with rfl | rfl | rfl | rfl <;> rfl) (by unfold maxLen; omega) (by omega) h.up.size
    (fun w' => MthC w' (fun b => wr.heap.size ≤ b ∧ b < w.heap.size ∧ b ≠ tb ∧ vf.ownBlock ≠ some b ∧ vm.ownBlock ≠ some b)) (fun w' hgr x _ cs hc => hc.kept (fr_grown hgr) (fun b hb e => hb.2.2.2.2 e) (fun _ h => h))
  refine ⟨g, cap, w', h1, ?_, h3, h5⟩
  have hsz := h3.size
  refine h2.kept (up_ (w := w')) (fun _ _ h => h) (fun x _ cs hc => hc.kept (up_ (w := w')) (fun _ _ h => h) (fun b hb => ⟨hb.1, by omega, hb.2.2.1, hb.2.2.2.1, fun e => ?_⟩))
  simp [Value.ownBlock] at e
  subst e
  rcases h5 with e | e
  · exact hb.2.2.2.2 e
  · omega

theorem two_idx : ∀ j : Nat, j < 2 → ∃ x : Int, ∀ w, (Instr.index 50 (.agg #[.int .i64 0, .int .i64 1]) (.int .i64 (j : Nat))).run Tryd.prog w = .ok (.int .i64 x) w := by
  intro j hj
  match j, hj with
  | 0, _ => exact ⟨0, fun _ => by kernel_rfl⟩
  | 1, _ => exact ⟨1, fun _ => by kernel_rfl⟩

/-- The first method's function, set anew. -/
theorem Tin.setFunc {wr wc : World} {xb tb : Nat} {xcs : Array Value} {kind elem : Int} {name : ByteArray} {vf : Value} {fs : List Fld} {ms : List Mth} {g cap : Nat}
    (h : Tin wr wc xb tb xcs kind name elem vf (.slice (some ⟨g, 0, none⟩) ms.length cap) fs ms) (h0 : 0 < ms.length) (f : Int) :
    ∃ ms' : List Mth, ms'.length = ms.length ∧ Tin wr (wc.setCell ⟨g, 3, none⟩ (.int .i64 f)) xb tb xcs kind name elem vf (.slice (some ⟨g, 0, none⟩) ms.length cap) fs ms' ∧
      (∃ v, wc.cell? ⟨g, 3, none⟩ = some v) ∧ wc.frozen? ⟨g, 3, none⟩ = false ∧ wr.heap.size ≤ g := by
  have gt : g ≠ tb := fun e => h.mne (by simp [Value.ownBlock, e])
  have gx : g ≠ xb := fun e => h.mnx (by simp [Value.ownBlock, e])
  have hlo := (h.ml.lt g rfl).1
  have hf : Fr (fun b => b = g) wc (wc.setCell ⟨g, 3, none⟩ (.int .i64 f)) := (Fr.refl (fun b => b = g) wc).setCell (p := ⟨g, 3, none⟩) (fun _ => rfl) _
  have hz : (wc.setCell ⟨g, 3, none⟩ (.int .i64 f)).heap.size = wc.heap.size := by simp [World.setCell]
  have hne : ∀ b, vf.ownBlock = some b → b ≠ g := fun b hb e => own_own h.fl h.ml (by decide) b hb (by rw [e]; rfl)
  obtain ⟨css, ⟨a1, a2, a3⟩, ho⟩ := h.ml
  match ms, css, h0, a1 with
  | m0 :: mr, c0 :: cr, _, a1 =>
    have hc0 : c0.length = 4 := a2 c0 List.mem_cons_self
    obtain ⟨vp, rfl, hp, hn⟩ := a3 0 m0 c0 rfl rfl
    have hkeep : ∀ x cs, MthC wc (In wr wc tb vf (.slice (some ⟨g, 0, none⟩) (m0 :: mr).length cap)) x cs → MthC (wc.setCell ⟨g, 3, none⟩ (.int .i64 f)) (In wr (wc.setCell ⟨g, 3, none⟩ (.int .i64 f)) tb vf (.slice (some ⟨g, 0, none⟩) (m0 :: mr).length cap)) x cs :=
      fun x cs hc => hc.kept hf (fun b hb e => hb.2.2.2.2 (by rw [e]; rfl)) (fun b hb => ⟨hb.1, by rw [hz]; exact hb.2.1, hb.2.2⟩)
    refine ⟨⟨m0.name, m0.params, m0.result, f⟩ :: mr, rfl, ?_, ?_, ho.frozenAt 3, hlo⟩
    · refine ⟨Fr.setCell h.up (p := ⟨g, 3, none⟩) (fun hh => absurd hh (Nat.not_lt.2 hlo)) _, (hf.block xb h.xlt gx.symm).trans h.xbox, (hf.block tb h.tlt gt.symm).trans h.tbox, h.xlo, h.tlo, h.nlen, h.fl.kept hf (fun b hb e => hne b hb e) (fun _ _ _ h => h), ?_, ?_⟩
      · refine ⟨[.string m0.name, vp, .int .i64 m0.result, .int .i64 f] :: cr, ⟨by simpa using a1, ?_, ?_⟩, ?_⟩
        · intro cs hcs
          rcases List.mem_cons.1 hcs with e | e
          · subst e; rfl
          · exact a2 cs (List.mem_cons_of_mem _ e)
        · intro j x cs hj hcs
          cases j with
          | zero =>
            simp only [List.getElem?_cons_zero, Option.some.injEq] at hj hcs
            subst hj hcs
            obtain ⟨vp', e, hp', hn'⟩ := hkeep m0 _ ⟨vp, rfl, hp, hn⟩
            simp only [List.cons.injEq, and_true, true_and] at e
            obtain ⟨rfl, _⟩ := e
            exact ⟨vp, rfl, hp', hn'⟩
          | succ j => exact hkeep x cs (a3 (j + 1) x cs hj hcs)
        · have := (ho.stored 3 (.int .i64 f)).1
          exact this
      · refine ⟨h.mn.1, fun j m hj => ?_⟩
        cases j with
        | zero =>
          simp only [List.getElem?_cons_zero, Option.some.injEq] at hj
          subst hj
          exact h.mn.2 0 m0 rfl
        | succ j => exact h.mn.2 (j + 1) m hj
    · exact ⟨_, ho.cellAt 3 (by simp; omega)⟩
end Go.Proofs.YtjlljfeledapaaaDoor
