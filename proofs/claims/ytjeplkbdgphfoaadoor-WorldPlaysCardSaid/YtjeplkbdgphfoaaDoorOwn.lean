/-
  Rows that a call has made, element by element, and append on them: no function of a program is named here.
-/
import Derived.Test.YtjeplkbdgphfoaaDoorDat
import Derived.Test.YtjeplkbdgphfoaaDoorApp2
namespace Go.Proofs.YtjeplkbdgphfoaaDoor
open Go.RowKit

/-- The cells of the elements, one list an element. -/
def Rows_ {α : Type} (sz : Nat) (C : α → List Value → Prop) (xs : List α) (css : List (List Value)) : Prop :=
  css.length = xs.length ∧ (∀ cs ∈ css, cs.length = sz) ∧ ∀ (j : Nat) (x : α) (cs : List Value), xs[j]? = some x → css[j]? = some cs → C x cs

theorem flat_length {sz : Nat} : ∀ {css : List (List Value)}, (∀ cs ∈ css, cs.length = sz) → css.flatten.length = css.length * sz
  | [], _ => by simp
  | c :: r, h => by
    rw [List.flatten_cons, List.length_append, flat_length (fun x hx => h x (List.mem_cons_of_mem _ hx)), h c List.mem_cons_self, List.length_cons, Nat.succ_mul, Nat.add_comm]

theorem flat_at {sz : Nat} : ∀ {css : List (List Value)}, (∀ cs ∈ css, cs.length = sz) → ∀ {j i : Nat} {cs : List Value} {u : Value}, css[j]? = some cs → cs[i]? = some u → css.flatten[j * sz + i]? = some u
  | [], _, j, i, cs, u, hj, _ => by simp at hj
  | c :: r, h, j, i, cs, u, hj, hi => by
    have hc := h c List.mem_cons_self
    rw [List.flatten_cons]
    cases j with
    | zero =>
      simp only [List.getElem?_cons_zero, Option.some.injEq] at hj
      subst hj
      rw [Nat.zero_mul, Nat.zero_add, List.getElem?_append_left ((List.getElem?_eq_some_iff.1 hi).1)]
      exact hi
    | succ j =>
      rw [List.getElem?_cons_succ] at hj
      rw [List.getElem?_append_right (by rw [hc, Nat.succ_mul]; omega), show (j + 1) * sz + i - c.length = j * sz + i by rw [hc, Nat.succ_mul]; omega]
      exact flat_at (fun x hx => h x (List.mem_cons_of_mem _ hx)) hj hi

structure OwnSl {α : Type} (w : World) (base : Nat) (e : TypeId) (sz : Nat) (C : α → List Value → Prop) (v : Value) (xs : List α) : Prop where
  ex : ∃ css, Rows_ sz C xs css ∧ w.ownsRow base e sz v xs.length css.flatten

section
variable {α : Type} {w w' : World} {base : Nat} {e : TypeId} {sz : Nat} {C C' : α → List Value → Prop} {v : Value} {xs : List α}

theorem OwnSl.none_ : OwnSl w base e sz C (.slice none 0 0) ([] : List α) := ⟨[], ⟨rfl, by simp, by simp⟩, by simpa using World.ownsRow_nil w base e sz⟩

/-- An owned row, read. -/
theorem OwnSl.reads (h : OwnSl w base e sz C v xs) : SlAt w (fun b => base ≤ b ∧ v.ownBlock = some b) sz C v xs := by
  obtain ⟨css, ⟨hl, hsz, hC⟩, ho⟩ := h
  rcases ho.2 with ⟨rfl, h0⟩ | ⟨g, cap, cur, rfl, hb, hg, hnc, hcm, _, _⟩
  · have : xs = [] := List.eq_nil_of_length_eq_zero h0
    subst this
    exact ⟨none, 0, rfl, Nat.le_refl _, by decide, fun h => absurd rfl h⟩
  · refine ⟨some ⟨g, 0, none⟩, cap, rfl, hnc, by unfold maxLen at hcm; omega, fun _ => ⟨g, 0, rfl, ⟨hb, rfl⟩, (Array.getElem?_eq_some_iff.1 hg).1, fun j x hj => ?_⟩⟩
    have hj' : j < css.length := by rw [hl]; exact (List.getElem?_eq_some_iff.1 hj).1
    have hcs := List.getElem?_eq_getElem hj'
    refine ⟨css[j], hC j x _ hj hcs, hsz _ (List.getElem_mem _), fun i u hi => ?_⟩
    have := ho.cells (g := g) rfl _ u (flat_at hsz hcs hi)
    rw [Go.WideShapes.add_plain] at this
    rw [Nat.zero_add] at this ⊢
    exact this

theorem OwnSl.kept {S : Nat → Prop} (h : OwnSl w base e sz C v xs) (hf : Fr S w w') (hv : ∀ b, v.ownBlock = some b → ¬ S b) (hC : ∀ x ∈ xs, ∀ cs, C x cs → C' x cs) : OwnSl w' base e sz C' v xs := by
  obtain ⟨css, ⟨hl, hsz, hc⟩, ho⟩ := h
  exact ⟨css, ⟨hl, hsz, fun j x cs hj hcs => hC x (List.mem_of_getElem? hj) cs (hc j x cs hj hcs)⟩, hf.owns ho hv⟩

theorem OwnSl.lt (h : OwnSl w base e sz C v xs) : ∀ b, v.ownBlock = some b → base ≤ b ∧ b < w.heap.size := by
  obtain ⟨css, _, ho⟩ := h
  exact ho.lt

end

theorem cells_blk {w : World} {cs : Array Value} {e : TypeId} (j : Nat) (u : Value) (hj : cs.toList[j]? = some u) : (w.alloc (.cells cs e)).cell? ((⟨w.heap.size, 0, none⟩ : Addr).add j) = some u := by
  rw [Go.WideShapes.add_plain, Nat.zero_add, cell_of_row _ _ _ _ _ _ (heap_alloc_new w (.cells cs e))]
  rw [Array.getElem?_toList] at hj
  exact hj

/-- append of m elements, laid in a block of their own, on a row of the call's own. -/
theorem own_append {α : Type} {P : Program} (w : World) (base : Nat) (t ty e : TypeId) (i : TypeInfo) (z : Value) (sz bytes : Nat) (ht : P.underlying t = some (.slice e)) (hi : P.info? e = some i) (hz : i.zero = some z)
    (hsize : i.size = sz) (hby : i.bytes = bytes) (hzs : z.cells.size = sz) (hsz : 0 < sz) {C : α → List Value → Prop} {v : Value} {xs : List α} (hown : OwnSl w base e sz C v xs)
    (ys : List α) (css : List (List Value)) (hr : Rows_ sz C ys css) (cs : Array Value) (hcs : cs.toList = css.flatten) (n m N : Nat) (hn : xs.length = n) (hm : ys.length = m) (hN : n + m = N) (h0 : 0 < m)
    (h1 : ∀ u ∈ cs.toList, u.oneCell' = true) (h63 : N ≤ maxLen) (hbytes : N * bytes ≤ 140737488355328) (hbase : base ≤ w.heap.size)
    (C' : World → α → List Value → Prop) (hC : ∀ w', w.grownBy w' v.ownBlock → ∀ x ∈ xs ++ ys, ∀ cs, C x cs → C' w' x cs) :
    ∃ g cap w', (Builtin.append_ #[t, t] ty #[v, .slice (some ⟨w.heap.size, 0, none⟩) m m]).run P (w.alloc (.cells cs e)) = .ok (.slice (some ⟨g, 0, none⟩) N cap) w' ∧
      OwnSl w' base e sz (C' w') (.slice (some ⟨g, 0, none⟩) N cap) (xs ++ ys) ∧ w.grownBy w' v.ownBlock ∧ (v.ownBlock = some g ∨ w.heap.size ≤ g) := by
  obtain ⟨css0, ⟨a1, a2, a3⟩, ho⟩ := hown
  obtain ⟨b1, b2, b3⟩ := hr
  subst hn hm hN
  obtain ⟨g, cap, w', hrun, ho', hgr, hg⟩ := run_append_own2 (P := P) (w.alloc (.cells cs e)) base t ty e i z sz bytes ht hi hz hsize hby hzs hsz v xs.length css0.flatten (ho.alloc _) ⟨w.heap.size, 0, none⟩ ys.length ys.length cs.toList
    (by rw [hcs, flat_length b2, b1]) h0 (fun j u hj => cells_blk j u hj) h1 h63 hbytes (by simp; omega)
  have hgr' : w.grownBy w' v.ownBlock := ⟨hgr.os, hgr.tape, hgr.output, Nat.le_trans (by simp) hgr.size, fun k hk hne => (hgr.block k (by simp; omega) hne).trans (Below.heap_alloc w _ k hk)⟩
  refine ⟨g, cap, w', hrun, ⟨css0 ++ css, ⟨by simp [a1, b1], ?_, ?_⟩, ?_⟩, hgr', ?_⟩
  · intro c hc
    rcases List.mem_append.1 hc with h | h
    · exact a2 c h
    · exact b2 c h
  · intro j x c hj hc
    refine hC w' hgr' x (List.mem_of_getElem? hj) c ?_
    by_cases hlt : j < xs.length
    · rw [List.getElem?_append_left hlt] at hj
      rw [List.getElem?_append_left (by omega)] at hc
      exact a3 j x c hj hc
    · rw [List.getElem?_append_right (by omega)] at hj
      rw [List.getElem?_append_right (by omega), a1] at hc
      exact b3 _ x c hj hc
  · rw [List.flatten_append, ← hcs, List.length_append]; exact ho'
  · rcases hg with h | h
    · exact .inl h
    · refine .inr (Nat.le_trans ?_ h); simp

/-- A row of known cells, just made. -/
theorem own_lit {α : Type} {w : World} {base : Nat} {e : TypeId} {sz : Nat} {C : α → List Value → Prop} (xs : List α) (css : List (List Value)) (hr : Rows_ sz C xs css) (cs : Array Value) (hcs : cs.toList = css.flatten) (n : Nat) (hn : xs.length = n)
    (hb : base ≤ w.heap.size) (hm : n ≤ maxLen) : OwnSl (w.alloc (.cells cs e)) base e sz C (.slice (some ⟨w.heap.size, 0, none⟩) n n) xs := by
  subst hn
  refine ⟨css, hr, ?_⟩
  rw [← hcs]
  refine World.ownsRow_lit w cs xs.length hb hm ?_
  rw [← Array.length_toList, hcs, flat_length hr.2.1, hr.1]

theorem SlAt.wide {α : Type} {w : World} {G G' : Nat → Prop} {sz : Nat} {C C' : α → List Value → Prop} {v : Value} {xs : List α} (h : SlAt w G sz C v xs) (hG : ∀ b, G b → G' b) (hC : ∀ x ∈ xs, ∀ cs, C x cs → C' x cs) : SlAt w G' sz C' v xs :=
  h.kept (Fr.refl (fun _ => False) w) (fun _ _ h => h) hG hC
end Go.Proofs.YtjeplkbdgphfoaaDoor
