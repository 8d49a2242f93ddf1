/-
  HeapKeeps: what lies in memory: the heap, the references, and what is wanted of each object.
-/
import Derived.Test.YtdffjojpnonanaaKeepsM
import Derived.Test.YtdffjojpnonanaaApp2
import Derived.Test.YtdffjojpnonanaaHeapCopiesW
namespace Go.Proofs.Ytdffjojpnonanaa
open Go.RowKit

def refsOf (o : List (List Int)) : List Value := (List.range o.length).map fun k => Value.int .u64 (rOf o k)
def lenAt (o : List (List Int)) (k : Nat) : Nat := (o.getD k []).length
def rowsOf (bs : Nat → Nat) (o : List (List Int)) : List Value := (List.range o.length).map fun k => Value.slice (some ⟨bs k, 0, none⟩) (lenAt o k) (lenAt o k)
def bsNew (bs : Nat → Nat) (n b : Nat) : Nat → Nat := fun k => if k = n then b else bs k

theorem refsOf_snoc (o : List (List Int)) (l : List Int) : refsOf (o ++ [l]) = refsOf o ++ [Value.int .u64 (wsOf o).length] := by
  unfold refsOf
  rw [List.length_append, List.length_singleton, List.range_succ, List.map_append, List.map_singleton, rOf_new]
  congr 1
  apply List.map_congr_left
  intro k hk
  rw [rOf_old _ _ _ (Nat.le_of_lt (List.mem_range.1 hk))]

theorem rowsOf_snoc (bs : Nat → Nat) (b : Nat) (o : List (List Int)) (l : List Int) : rowsOf (bsNew bs o.length b) (o ++ [l]) = rowsOf bs o ++ [Value.slice (some ⟨b, 0, none⟩) l.length l.length] := by
  unfold rowsOf
  rw [List.length_append, List.length_singleton, List.range_succ, List.map_append, List.map_singleton]
  congr 1
  · apply List.map_congr_left
    intro k hk
    have hlt := List.mem_range.1 hk
    have e : lenAt (o ++ [l]) k = lenAt o k := by
      unfold lenAt
      rw [List.getD_eq_getElem?_getD, List.getElem?_append_left hlt, ← List.getD_eq_getElem?_getD]
    rw [e]
    unfold bsNew
    rw [if_neg (by omega)]
  · have e : lenAt (o ++ [l]) o.length = l.length := by simp [lenAt]
    rw [e]
    simp [bsNew]

theorem lenAt_of {o : List (List Int)} {k : Nat} {l : List Int} (h : o[k]? = some l) : lenAt o k = l.length := by simp [lenAt, List.getD_eq_getElem?_getD, h]

theorem lenAt_set {o : List (List Int)} {i : Nat} {l l' : List Int} (h : o[i]? = some l) (hl : l'.length = l.length) (k : Nat) : lenAt (o.set i l') k = lenAt o k := by
  unfold lenAt
  simp only [List.getD_eq_getElem?_getD, List.getElem?_set]
  by_cases e : i = k
  · subst e
    obtain ⟨h1, h2⟩ := List.getElem?_eq_some_iff.1 h
    simp [h1, hl, h2]
  · simp [e]

theorem refsOf_set {o : List (List Int)} {i : Nat} {l l' : List Int} (h : o[i]? = some l) (hl : l'.length = l.length) : refsOf (o.set i l') = refsOf o := by
  unfold refsOf
  rw [List.length_set]
  apply List.map_congr_left
  intro k _
  rw [rOf_set _ _ _ _ (fun x hx => by rw [h] at hx; cases hx; exact hl)]

theorem rowsOf_set {bs : Nat → Nat} {o : List (List Int)} {i : Nat} {l l' : List Int} (h : o[i]? = some l) (hl : l'.length = l.length) : rowsOf bs (o.set i l') = rowsOf bs o := by
  unfold rowsOf
  rw [List.length_set]
  apply List.map_congr_left
  intro k _
  rw [lenAt_set h hl]

/-- The state of HeapKeeps. -/
structure KRel (w wr : World) (p g c : Nat) (o : List (List Int)) (bs : Nat → Nat) (vr vw : Value) : Prop where
  h : HeapAt wr p g c 65536 (wsOf o)
  n30 : o.length ≤ 30
  small : ∀ l ∈ o, l.length ≤ 8
  few : (wsOf o).length ≤ 1 + o.length * 9
  refs : wr.ownsRow w.heap.size 27 1 vr o.length (refsOf o)
  want : wr.ownsRow w.heap.size 35 1 vw o.length (rowsOf bs o)
  inner : ∀ k l, o[k]? = some l → wr.ownsRow w.heap.size 27 1 (.slice (some ⟨bs k, 0, none⟩) l.length l.length) l.length (l.map (Value.int .u64))
  inj : ∀ i k, i < o.length → k < o.length → bs i = bs k → i = k
  ar : ∀ b, vr.ownBlock = some b → b ≠ p ∧ b ≠ g ∧ vw.ownBlock ≠ some b ∧ ∀ k, k < o.length → bs k ≠ b
  aw : ∀ b, vw.ownBlock = some b → b ≠ p ∧ b ≠ g ∧ ∀ k, k < o.length → bs k ≠ b
  ab : ∀ k, k < o.length → bs k ≠ p ∧ bs k ≠ g
  lo : w.heap.size ≤ p ∧ w.heap.size ≤ g
  bel : Below w.heap.size w wr

theorem KRel.bsLt {w wr : World} {p g c : Nat} {o : List (List Int)} {bs : Nat → Nat} {vr vw : Value} (h : KRel w wr p g c o bs vr vw) {k : Nat} (hk : k < o.length) : w.heap.size ≤ bs k ∧ bs k < wr.heap.size := by
  have := h.inner k o[k] (List.getElem?_eq_getElem hk)
  exact this.lt (bs k) rfl

theorem KRel.quiet {w wr w' : World} {p g c : Nat} {o : List (List Int)} {bs : Nat → Nat} {vr vw : Value} (h : KRel w wr p g c o bs vr vw) (hf : Fr (fun _ => False) wr w') : KRel w w' p g c o bs vr vw :=
  ⟨h.h.kept hf (fun h => h) (fun h => h), h.n30, h.small, h.few, hf.owns h.refs (fun _ _ h => h), hf.owns h.want (fun _ _ h => h), fun k l hl => hf.owns (h.inner k l hl) (fun _ _ h => h),
    h.inj, h.ar, h.aw, h.ab, h.lo, h.bel.trans (hf.below h.bel.size (fun _ _ h => h))⟩

theorem KRel.step {w wr w3 w4 w5 w6 : World} {p g c g' c' g2 c2 g3 c3 n : Nat} {o : List (List Int)} {bs : Nat → Nat} {vr vw : Value} (h : KRel w wr p g c o bs vr vw) (hn : n ≤ 8) (h30 : o.length < 30)
    (h3 : HeapAt w3 p g' c' 65536 (wsOf (o ++ [List.replicate n 0]))) (hg' : g' = g ∨ wr.heap.size ≤ g') (f3 : Fr (fun b => b = p ∨ b = g) wr w3)
    (o4 : w4.ownsRow w.heap.size 27 1 (.slice (some ⟨g2, 0, none⟩) (o.length + 1) c2) (o.length + 1) (refsOf o ++ [Value.int .u64 (wsOf o).length])) (r4 : w3.grownBy w4 vr.ownBlock) (b4 : vr.ownBlock = some g2 ∨ w3.heap.size ≤ g2)
    (o5 : w5.ownsRow w.heap.size 27 1 (.slice (some ⟨w4.heap.size, 0, none⟩) n n) n ((List.replicate n 0).map (Value.int .u64))) (r5 : w4.grownBy w5 none)
    (o6 : w6.ownsRow w.heap.size 35 1 (.slice (some ⟨g3, 0, none⟩) (o.length + 1) c3) (o.length + 1) (rowsOf bs o ++ [Value.slice (some ⟨w4.heap.size, 0, none⟩) n n])) (r6 : w5.grownBy w6 vw.ownBlock) (b6 : vw.ownBlock = some g3 ∨ w5.heap.size ≤ g3) :
    KRel w w6 p g' c' (o ++ [List.replicate n 0]) (bsNew bs o.length w4.heap.size) (.slice (some ⟨g2, 0, none⟩) (o.length + 1) c2) (.slice (some ⟨g3, 0, none⟩) (o.length + 1) c3) := by
  have z0 := h.bel.size
  have z3 := f3.size
  have z4 := r4.size
  have z5 := r5.size
  have hi5 := (o5.lt w4.heap.size rfl).2
  have hi4 : g2 < w4.heap.size := (o4.lt g2 rfl).2
  have z6 := r6.size
  have lo := h.lo
  have hp := h.h.ltp
  have hg := h.h.ltg
  have hg3 := h3.ltg
  have vrb : ∀ b, vr.ownBlock = some b → b < wr.heap.size := fun b hb => (h.refs.lt b hb).2
  have vwb : ∀ b, vw.ownBlock = some b → b < wr.heap.size := fun b hb => (h.want.lt b hb).2
  have bsb : ∀ k, k < o.length → bs k < wr.heap.size := fun k hk => (h.bsLt hk).2
  have hl2 : (o ++ [List.replicate n (0 : Int)]).length = o.length + 1 := by simp
  have f36 : Fr (fun b => vr.ownBlock = some b ∨ vw.ownBlock = some b) w3 w6 :=
    (((Fr.refl _ w3).grown r4 (fun b hb _ => .inl hb)).grown r5 (fun b hb => by cases hb)).grown r6 (fun b hb _ => .inr hb)
  have f46 : Fr (fun b => vw.ownBlock = some b) w4 w6 := ((Fr.refl _ w4).grown r5 (fun b hb => by cases hb)).grown r6 (fun b hb _ => hb)
  have f56 : Fr (fun b => vw.ownBlock = some b) w5 w6 := (Fr.refl _ w5).grown r6 (fun b hb _ => hb)
  have f06 : Fr (fun b => b = p ∨ b = g ∨ vr.ownBlock = some b ∨ vw.ownBlock = some b) wr w6 :=
    (f3.mono (T := fun b => b = p ∨ b = g ∨ vr.ownBlock = some b ∨ vw.ownBlock = some b) (fun i _ hh => by rcases hh with hh | hh; exact .inl hh; exact .inr (.inl hh))).trans f36 (fun i _ hh => .inr (.inr hh))
  refine ⟨h3.kept f36 ?_ ?_, by omega, ?_, ?_, ?_, ?_, ?_, ?_, ?_, ?_, ?_, ?_, ?_⟩
  · rintro (e | e)
    · exact (h.ar p e).1 rfl
    · exact (h.aw p e).1 rfl
  · rintro (e | e)
    · have := vrb _ e
      rcases hg' with rfl | hle
      · exact (h.ar _ e).2.1 rfl
      · omega
    · have := vwb _ e
      rcases hg' with rfl | hle
      · exact (h.aw _ e).2.1 rfl
      · omega
  · intro l hl
    rcases List.mem_append.1 hl with hl | hl
    · exact h.small l hl
    · rw [List.mem_singleton.1 hl]; simpa using hn
  · rw [wsOf_snoc, hl2]
    have := h.few
    simp only [List.length_append, List.length_cons, List.length_replicate]
    omega
  · rw [refsOf_snoc, hl2]
    refine f46.owns o4 (fun b hb e => ?_)
    simp [Value.ownBlock] at hb
    subst hb
    rcases b4 with e' | hle
    · exact (h.ar _ e').2.2.1 e
    · have := vwb _ e; omega
  · rw [rowsOf_snoc, hl2]
    simpa using o6
  · intro k l hl
    by_cases hk : k < o.length
    · rw [List.getElem?_append_left hk] at hl
      have e : bsNew bs o.length w4.heap.size k = bs k := by unfold bsNew; rw [if_neg (by omega)]
      rw [e]
      refine f06.owns (h.inner k l hl) (fun b hb hh => ?_)
      simp [Value.ownBlock] at hb
      subst hb
      rcases hh with hh | hh | hh | hh
      · exact (h.ab k hk).1 hh
      · exact (h.ab k hk).2 hh
      · exact (h.ar _ hh).2.2.2 k hk rfl
      · exact (h.aw _ hh).2.2 k hk rfl
    · have hk2 : k = o.length := by
        have := (List.getElem?_eq_some_iff.1 hl).1
        rw [hl2] at this
        omega
      subst hk2
      have hl' : l = List.replicate n 0 := by
        rw [List.getElem?_append_right (Nat.le_refl _), Nat.sub_self] at hl
        simpa using hl.symm
      subst hl'
      have e : bsNew bs o.length w4.heap.size o.length = w4.heap.size := by simp [bsNew]
      rw [e, List.length_replicate]
      refine f56.owns o5 (fun b hb hh => ?_)
      simp [Value.ownBlock] at hb
      subst hb
      have := vwb _ hh
      omega
  · intro i k hi hk
    rw [hl2] at hi hk
    unfold bsNew
    intro e
    by_cases hi' : i = o.length
    · by_cases hk' : k = o.length
      · omega
      · rw [if_pos hi', if_neg hk'] at e
        have := bsb k (by omega)
        omega
    · by_cases hk' : k = o.length
      · rw [if_neg hi', if_pos hk'] at e
        have := bsb i (by omega)
        omega
      · rw [if_neg hi', if_neg hk'] at e
        exact h.inj i k (by omega) (by omega) e
  · intro b hb
    simp [Value.ownBlock] at hb
    subst hb
    refine ⟨?_, ?_, ?_, ?_⟩
    · rcases b4 with e' | hle
      · exact (h.ar _ e').1
      · omega
    · rcases b4 with e' | hle
      · have := (h.ar _ e').2.1
        have := vrb _ e'
        omega
      · omega
    · intro e
      simp [Value.ownBlock] at e
      subst e
      rcases b4 with e' | hle
      · rcases b6 with e2 | hle2
        · exact (h.ar _ e').2.2.1 e2
        · have := vrb _ e'; omega
      · rcases b6 with e2 | hle2
        · have := vwb _ e2; omega
        · omega
    · intro k hk
      rw [hl2] at hk
      unfold bsNew
      split
      · omega
      · have h2 := bsb k (by omega)
        rcases b4 with e' | hle
        · exact (h.ar _ e').2.2.2 k (by omega)
        · omega
  · intro b hb
    simp [Value.ownBlock] at hb
    subst hb
    refine ⟨?_, ?_, ?_⟩
    · rcases b6 with e' | hle
      · exact (h.aw _ e').1
      · omega
    · rcases b6 with e' | hle
      · have := (h.aw _ e').2.1
        have := vwb _ e'
        omega
      · omega
    · intro k hk
      rw [hl2] at hk
      unfold bsNew
      split
      · rcases b6 with e' | hle
        · have := vwb _ e'; omega
        · omega
      · have h2 := bsb k (by omega)
        rcases b6 with e' | hle
        · exact (h.aw _ e').2.2 k (by omega)
        · omega
  · intro k hk
    rw [hl2] at hk
    unfold bsNew
    split
    · omega
    · have h2 := bsb k (by omega)
      have := h.ab k (by omega)
      omega
  · omega
  · refine h.bel.trans (f06.below z0 ?_)
    intro b hb hh
    rcases hh with hh | hh | hh | hh
    · omega
    · omega
    · have := (h.refs.lt b hh).1; omega
    · have := (h.want.lt b hh).1; omega

/-- A word was set in the heap, object k, word j. -/
theorem KRel.put {w wr w' : World} {p g c : Nat} {o : List (List Int)} {bs : Nat → Nat} {vr vw : Value} {k j : Nat} {l : List Int} {v : Int} (h : KRel w wr p g c o bs vr vw) (hk : o[k]? = some l) (hj : j < l.length)
    (h1 : HeapAt w' p g c 65536 (putOf (wsOf o) (placeOf (wsOf o) (rOf o k) j) v)) (f1 : Fr (fun b => b = g) wr w') :
    KRel w (w'.setCell ⟨bs k, j, none⟩ (.int .u64 v)) p g c (o.set k (l.set j v)) bs vr vw := by
  have hl8 := h.small l (List.mem_of_getElem? hk)
  rw [wsOf_put o k l hk hl8 j hj v] at h1
  have hkl : k < o.length := (List.getElem?_eq_some_iff.1 hk).1
  have hsl : (l.set j v).length = l.length := List.length_set
  have hbk := h.bsLt hkl
  have f2 : Fr (fun b => b = bs k) w' (w'.setCell ⟨bs k, j, none⟩ (.int .u64 v)) := (Fr.refl (fun b => b = bs k) w').setCell (p := ⟨bs k, j, none⟩) (fun _ => rfl) _
  have f02 : Fr (fun b => b = g ∨ b = bs k) wr (w'.setCell ⟨bs k, j, none⟩ (.int .u64 v)) := (f1.mono (T := fun b => b = g ∨ b = bs k) (fun i _ hh => .inl hh)).trans f2 (fun i _ hh => .inr hh)
  have hin : ∀ i l2, o[i]? = some l2 → w'.ownsRow w.heap.size 27 1 (.slice (some ⟨bs i, 0, none⟩) l2.length l2.length) l2.length (l2.map (Value.int .u64)) := fun i l2 hi =>
    f1.owns (h.inner i l2 hi) (fun b hb hh => by
      simp [Value.ownBlock] at hb
      subst hb
      exact (h.ab i (List.getElem?_eq_some_iff.1 hi).1).2 hh)
  refine ⟨h1.kept f2 (fun e => (h.ab k hkl).1 e.symm) (fun e => (h.ab k hkl).2 e.symm), by rw [List.length_set]; exact h.n30, ?_, ?_, ?_, ?_, ?_, by rw [List.length_set]; exact h.inj, by rw [List.length_set]; exact h.ar, by rw [List.length_set]; exact h.aw, by rw [List.length_set]; exact h.ab, h.lo, ?_⟩
  · intro l2 hl2
    rcases List.mem_or_eq_of_mem_set hl2 with hl2 | rfl
    · exact h.small l2 hl2
    · omega
  · have e : (wsOf (o.set k (l.set j v))).length = (wsOf o).length := by
      obtain ⟨X, Y, e1, _, e3⟩ := wsOf_at o k l hk
      rw [e3 _ hsl, e1]; simp
    rw [e, List.length_set]; exact h.few
  · rw [List.length_set, refsOf_set hk hsl]
    refine f02.owns h.refs (fun b hb hh => ?_)
    have := h.ar b hb
    rcases hh with hh | hh
    · exact this.2.1 hh
    · exact this.2.2.2 k hkl hh.symm
  · rw [List.length_set, rowsOf_set hk hsl]
    refine f02.owns h.want (fun b hb hh => ?_)
    have := h.aw b hb
    rcases hh with hh | hh
    · exact this.2.1 hh
    · exact this.2.2 k hkl hh.symm
  · intro i l2 hi
    rw [List.getElem?_set] at hi
    by_cases e : k = i
    · subst e
      rw [if_pos rfl, if_pos hkl] at hi
      have e2 : l2 = l.set j v := by simpa using hi.symm
      subst e2
      rw [hsl, List.map_set]
      exact ((hin k l hk).stored j (.int .u64 v)).1
    · rw [if_neg e] at hi
      refine f2.owns (hin i l2 hi) (fun b hb hh => ?_)
      simp [Value.ownBlock] at hb
      subst hb
      exact e (h.inj k i hkl (List.getElem?_eq_some_iff.1 hi).1 hh.symm)
  · have := h.lo
    refine h.bel.trans (f02.below h.bel.size ?_)
    intro b hb hh
    omega

/-- A place that is none: nothing has turned. -/
theorem KRel.putNo {w wr w' : World} {p g c : Nat} {o : List (List Int)} {bs : Nat → Nat} {vr vw : Value} {k j : Nat} {l : List Int} {v : Int} (h : KRel w wr p g c o bs vr vw) (hk : o[k]? = some l) (hj : ¬ j < l.length)
    (h1 : HeapAt w' p g c 65536 (putOf (wsOf o) (placeOf (wsOf o) (rOf o k) j) v)) (f1 : Fr (fun b => b = g) wr w') : KRel w w' p g c o bs vr vw := by
  have hl8 := h.small l (List.mem_of_getElem? hk)
  rw [wsOf_put_no o k l hk hl8 j hj v] at h1
  refine ⟨h1, h.n30, h.small, h.few, f1.owns h.refs (fun b hb hh => (h.ar b hb).2.1 hh), f1.owns h.want (fun b hb hh => (h.aw b hb).2.1 hh), fun i l2 hi => f1.owns (h.inner i l2 hi) (fun b hb hh => by
      simp [Value.ownBlock] at hb
      subst hb
      exact (h.ab i (List.getElem?_eq_some_iff.1 hi).1).2 hh), h.inj, h.ar, h.aw, h.ab, h.lo, ?_⟩
  have := h.lo
  refine h.bel.trans (f1.below h.bel.size ?_)
  intro b hb hh
  omega

/-- The two rows' values, and their cells. -/
theorem KRel.forms {w wr : World} {p g c : Nat} {o : List (List Int)} {bs : Nat → Nat} {vr vw : Value} (h : KRel w wr p g c o bs vr vw) :
    ∃ ar cr aw cw, vr = .slice ar o.length cr ∧ vw = .slice aw o.length cw ∧ (0 < o.length → ∃ gr gw, ar = some ⟨gr, 0, none⟩ ∧ aw = some ⟨gw, 0, none⟩) := by
  have e1 : ∃ ar cr, vr = .slice ar o.length cr ∧ (0 < o.length → ∃ gr, ar = some ⟨gr, 0, none⟩) := by
    rcases h.refs.2 with ⟨e, h0⟩ | ⟨g2, c2, cur, e, _⟩
    · exact ⟨none, 0, by rw [h0]; exact e, fun hp => by omega⟩
    · exact ⟨_, c2, e, fun _ => ⟨g2, rfl⟩⟩
  have e2 : ∃ aw cw, vw = .slice aw o.length cw ∧ (0 < o.length → ∃ gw, aw = some ⟨gw, 0, none⟩) := by
    rcases h.want.2 with ⟨e, h0⟩ | ⟨g2, c2, cur, e, _⟩
    · exact ⟨none, 0, by rw [h0]; exact e, fun hp => by omega⟩
    · exact ⟨_, c2, e, fun _ => ⟨g2, rfl⟩⟩
  obtain ⟨ar, cr, h1, h2⟩ := e1
  obtain ⟨aw, cw, h3, h4⟩ := e2
  exact ⟨ar, cr, aw, cw, h1, h3, fun hp => by
    obtain ⟨gr, e⟩ := h2 hp
    obtain ⟨gw, e'⟩ := h4 hp
    exact ⟨gr, gw, e, e'⟩⟩

theorem KRel.refCell {w wr : World} {p g c gr cr : Nat} {o : List (List Int)} {bs : Nat → Nat} {vw : Value} (h : KRel w wr p g c o bs (.slice (some ⟨gr, 0, none⟩) o.length cr) vw) {k : Nat} (hk : k < o.length) :
    wr.cell? ⟨gr, k, none⟩ = some (.int .u64 (rOf o k)) := by
  rw [h.refs.cellAt k (by omega)]
  simp [refsOf, hk]

theorem KRel.wantCell {w wr : World} {p g c gw cw : Nat} {o : List (List Int)} {bs : Nat → Nat} {vr : Value} (h : KRel w wr p g c o bs vr (.slice (some ⟨gw, 0, none⟩) o.length cw)) {k : Nat} {l : List Int} (hk : o[k]? = some l) :
    wr.cell? ⟨gw, k, none⟩ = some (.slice (some ⟨bs k, 0, none⟩) l.length l.length) := by
  rw [h.want.cellAt k (by have := (List.getElem?_eq_some_iff.1 hk).1; omega)]
  simp [rowsOf, (List.getElem?_eq_some_iff.1 hk).1, lenAt_of hk]

theorem KRel.innerCell {w wr : World} {p g c : Nat} {o : List (List Int)} {bs : Nat → Nat} {vr vw : Value} (h : KRel w wr p g c o bs vr vw) {k j : Nat} {l : List Int} (hk : o[k]? = some l) (hj : j < l.length) :
    wr.cell? ⟨bs k, j, none⟩ = some (.int .u64 (l.getD j 0)) ∧ wr.frozen? ⟨bs k, j, none⟩ = false := by
  refine ⟨?_, (h.inner k l hk).frozenAt j⟩
  rw [(h.inner k l hk).cellAt j (by omega)]
  simp [hj]

theorem KRel.typeCalls {w wr : World} {p g c : Nat} {o : List (List Int)} {bs : Nat → Nat} {vr vw : Value} (h : KRel w wr p g c o bs vr vw) {k : Nat} {l : List Int} (hk : o[k]? = some l) :
    Calls Try.prog 27 #[.pointer (some ⟨p, 0, none⟩), .int .u64 (rOf o k)] wr fun e w' => e = .returned (.int .i64 ((k : Int) + 5)) ∧ wr = w' := by
  have := type_any h.h (rOf o k) (by omega)
  rw [wsOf_type o k l hk (h.small l (List.mem_of_getElem? hk)), show (5 + (k : Int)) = (k : Int) + 5 from by omega] at this
  exact this

theorem KRel.lenCalls {w wr : World} {p g c : Nat} {o : List (List Int)} {bs : Nat → Nat} {vr vw : Value} (h : KRel w wr p g c o bs vr vw) {k : Nat} {l : List Int} (hk : o[k]? = some l) :
    Calls Try.prog 29 #[.pointer (some ⟨p, 0, none⟩), .int .u64 (rOf o k)] wr fun e w' => e = .returned (.int .i64 (l.length : Int)) ∧ wr = w' := by
  have := len_any h.h (rOf o k) (by omega)
  rw [wsOf_len o k l hk (h.small l (List.mem_of_getElem? hk))] at this
  exact this

theorem KRel.getCalls {w wr : World} {p g c : Nat} {o : List (List Int)} {bs : Nat → Nat} {vr vw : Value} (h : KRel w wr p g c o bs vr vw) {k j : Nat} {l : List Int} (hk : o[k]? = some l) (hj : j < l.length) :
    Calls Try.prog 13 #[.pointer (some ⟨p, 0, none⟩), .int .u64 (rOf o k), .int .i64 j] wr fun e w' => e = .returned (.int .u64 (l.getD j 0)) ∧ wr = w' := by
  have := get_any h.h (rOf o k) j (by omega)
  unfold getOf at this
  rw [wsOf_place o k l hk (h.small l (List.mem_of_getElem? hk)), if_pos hj, wsOf_word o k l hk j hj] at this
  exact this

theorem KRel.wordCalls {w wr : World} {p g c : Nat} {o : List (List Int)} {bs : Nat → Nat} {vr vw : Value} (h : KRel w wr p g c o bs vr vw) {k j : Nat} {l : List Int} (hk : o[k]? = some l) (hj : j < l.length) :
    Calls Try.prog 16 #[.pointer (some ⟨p, 0, none⟩), .int .u64 ((rOf o k : Int) + 1 + j)] wr fun e w' => e = .returned (.int .u64 (l.getD j 0)) ∧ wr = w' := by
  have := word_any h.h ((rOf o k + 1 + j : Nat) : Int) (by omega)
  rw [wsOf_word o k l hk j hj, show (((rOf o k + 1 + j : Nat) : Int)) = (rOf o k : Int) + 1 + j from by omega] at this
  exact this

theorem KRel.drewN {w wr : World} {p g c : Nat} {o : List (List Int)} {bs : Nat → Nat} {vr vw : Value} (h : KRel w wr p g c o bs vr vw) (n : Nat) : KRel w (wr.drewN n) p g c o bs vr vw :=
  h.quiet ((Fr.refl _ wr).drewN n)

theorem KRel.refSmall {w wr : World} {p g c : Nat} {o : List (List Int)} {bs : Nat → Nat} {vr vw : Value} (h : KRel w wr p g c o bs vr vw) {k : Nat} {l : List Int} (hk : o[k]? = some l) : rOf o k + l.length ≤ 65536 := by
  have := wsOf_lt o k l hk
  have := h.h.small
  omega
end Go.Proofs.Ytdffjojpnonanaa
