/-
  append of a slice as it lies in memory on a row of the call's own, whatever its length: no function of a program is named here.
-/
import Derived.Test.YtemmdbjcllcelaaDoorOwn
import Derived.Deep.Upon
namespace Go.Proofs.YtemmdbjcllcelaaDoor
open Go.RowKit

theorem choose_list {α β : Type} : ∀ (ys : List α) (Q : Nat → α → β → Prop), (∀ (j : Nat) (x : α), ys[j]? = some x → ∃ cs, Q j x cs) → ∃ css : List β, css.length = ys.length ∧ ∀ (j : Nat) (x : α) (cs : β), ys[j]? = some x → css[j]? = some cs → Q j x cs
  | [], _, _ => ⟨[], rfl, fun j x cs h _ => by simp at h⟩
  | y :: r, Q, h => by
    obtain ⟨c, hc⟩ := h 0 y rfl
    obtain ⟨css, hl, hq⟩ := choose_list r (fun j => Q (j + 1)) (fun j x hj => h (j + 1) x (by simpa using hj))
    refine ⟨c :: css, by simp [hl], fun j x cs hj hcs => ?_⟩
    match j, hj, hcs with
    | 0, hj, hcs => simp at hj hcs; subst hj hcs; exact hc
    | j + 1, hj, hcs => exact hq j x cs (by simpa using hj) (by simpa using hcs)

theorem one_of_flat {css : List (List Value)} (h : ∀ cs ∈ css, cs.length = 1) (j : Nat) (u : Value) (hu : css.flatten[j]? = some u) : css[j]? = some [u] := by
  have hl := flat_length h
  have hj : j < css.length := by have := (List.getElem?_eq_some_iff.1 hu).1; rw [hl, Nat.mul_one] at this; exact this
  have hc := List.getElem?_eq_getElem hj
  have h1 := h css[j] (List.getElem_mem _)
  obtain ⟨v, hv⟩ : ∃ v, css[j] = [v] := by
    match hcs : css[j], h1 with
    | [v], _ => exact ⟨v, rfl⟩
  have := flat_at h (i := 0) (u := v) hc (by rw [hv]; rfl)
  rw [Nat.mul_one, Nat.add_zero, hu] at this
  injection this with this
  rw [hc, hv, this]

theorem push_sl {α : Type} {P : Program} (w : World) (base : Nat) (t ty e : TypeId) (i : TypeInfo) (z : Value) (bytes : Nat) (ht : P.underlying t = some (.slice e)) (hi : P.info? e = some i) (hz : i.zero = some z)
    (hsize : i.size = 1) (hby : i.bytes = bytes) (hzs : z.cells.size = 1) {G : Nat → Prop} {C : α → List Value → Prop} {v : Value} {xs ys : List α} (hown : OwnSl w base e 1 C v xs) {A : Option Addr} {cr : Nat} (hys : SlP w G 1 C A cr ys)
    (h1 : ∀ y cs, C y cs → ∀ u ∈ cs, u.oneCell' = true) (h63 : xs.length + ys.length ≤ maxLen) (hbytes : (xs.length + ys.length) * bytes ≤ 140737488355328) (hbase : base ≤ w.heap.size)
    (C' : World → α → List Value → Prop) (hC : ∀ w', w.grownBy w' v.ownBlock → ∀ x ∈ xs ++ ys, ∀ cs, C x cs → C' w' x cs) :
    ∃ v' w', (Builtin.append_ #[t, t] ty #[v, .slice A ys.length cr]).run P w = .ok v' w' ∧ OwnSl w' base e 1 (C' w') v' (xs ++ ys) ∧ w.grownBy w' v.ownBlock ∧ (∀ b, v'.ownBlock = some b → v.ownBlock = some b ∨ w.heap.size ≤ b) := by
  obtain ⟨css0, ⟨a1, a2, a3⟩, ho⟩ := hown
  by_cases hne : ys = []
  · subst hne
    have hg : w.grownBy w v.ownBlock := ⟨rfl, rfl, rfl, Nat.le_refl _, fun _ _ _ => rfl⟩
    have hs : Src P i.size t (.slice A 0 cr) 0 [] w := by
      cases A with
      | none => exact Src.ofNil w ht cr
      | some a => exact Src.ofSlice w ht a 0 cr [] (by simp) (fun j u hj => by simp at hj) (fun u hu => by simp at hu)
    refine ⟨v, w, ?_, ⟨css0, ⟨by simpa using a1, a2, fun j x cs hj hcs => ?_⟩, by simpa using ho⟩, hg, fun b hb => .inl hb⟩
    · rcases ho.2 with ⟨rfl, h0⟩ | ⟨g, cap, cur, rfl, _, _, hnc, _⟩
      · exact run_append_nothing w t t ty e i ht hi none 0 0 (Nat.le_refl _) _ hs
      · exact run_append_nothing w t t ty e i ht hi (some ⟨g, 0, none⟩) _ _ hnc _ hs
    · rw [List.append_nil] at hj
      exact hC w hg x (by rw [List.append_nil]; exact List.mem_of_getElem? hj) cs (a3 j x cs hj hcs)
  · obtain ⟨b, o, rfl, hb, hlt, hx⟩ := hys.at_ hne
    obtain ⟨css, hl, hq⟩ := choose_list ys _ hx
    have hsz : ∀ cs ∈ css, cs.length = 1 := fun cs hcs => by
      obtain ⟨j, hj⟩ := List.mem_iff_getElem?.1 hcs
      have hjl : j < ys.length := by rw [← hl]; exact (List.getElem?_eq_some_iff.1 hj).1
      exact (hq j _ cs (List.getElem?_eq_getElem hjl) hj).2.1
    have hm : 0 < ys.length := by cases ys with | nil => exact absurd rfl hne | cons _ _ => simp
    have fl := flat_length hsz
    obtain ⟨g, cap, w', hrun, ho', hgr, hg⟩ := run_append_own2 (P := P) w base t ty e i z 1 bytes ht hi hz hsize hby hzs (by decide) v xs.length css0.flatten ho ⟨b, o, none⟩ ys.length cr css.flatten
      (by rw [fl, hl]) hm (fun j u hj => by
        have hcj := one_of_flat hsz j u hj
        have hjl : j < ys.length := by rw [← hl]; exact (List.getElem?_eq_some_iff.1 hcj).1
        have := (hq j _ _ (List.getElem?_eq_getElem hjl) hcj).2.2 0 u rfl
        rw [Go.WideShapes.add_plain]
        simpa using this)
      (fun u hu => by
        obtain ⟨cs, hcs, huc⟩ := List.mem_flatten.1 hu
        obtain ⟨j, hj⟩ := List.mem_iff_getElem?.1 hcs
        have hjl : j < ys.length := by rw [← hl]; exact (List.getElem?_eq_some_iff.1 hj).1
        exact h1 _ _ (hq j _ cs (List.getElem?_eq_getElem hjl) hj).1 u huc)
      h63 hbytes hbase
    refine ⟨_, w', hrun, ⟨css0 ++ css, ⟨by simp [a1, hl], ?_, ?_⟩, ?_⟩, hgr, ?_⟩
    · intro c hc
      rcases List.mem_append.1 hc with h | h
      · exact a2 c h
      · exact hsz c h
    · intro j x c hj hc
      refine hC w' hgr x (List.mem_of_getElem? hj) c ?_
      by_cases hlt : j < xs.length
      · rw [List.getElem?_append_left hlt] at hj
        rw [List.getElem?_append_left (by omega)] at hc
        exact a3 j x c hj hc
      · rw [List.getElem?_append_right (by omega)] at hj
        rw [List.getElem?_append_right (by omega), a1] at hc
        exact (hq _ x c hj hc).1
    · rw [List.flatten_append, List.length_append]; exact ho'
    · intro b' hb'
      have : b' = g := by simpa [Value.ownBlock] using hb'.symm
      subst this
      exact hg

/-- A row of one element set to another one, in its own block. -/
theorem own_set {α : Type} {w : World} {base : Nat} {e : TypeId} {C : α → List Value → Prop} {g n c : Nat} {xs : List α} (h : OwnSl w base e 1 C (.slice (some ⟨g, 0, none⟩) n c) xs) (k : Nat) (hk : k < xs.length) (x : α) (u : Value) (hx : C x [u]) :
    OwnSl (w.setCell ⟨g, k, none⟩ u) base e 1 C (.slice (some ⟨g, 0, none⟩) n c) (xs.set k x) := by
  obtain ⟨css, ⟨hl, hsz, hC⟩, ho⟩ := h
  have fl := flat_length hsz
  refine ⟨css.set k [u], ⟨by simp [hl], fun cs hcs => ?_, fun j y cs hj hcs => ?_⟩, ?_⟩
  · rcases List.mem_or_eq_of_mem_set hcs with h | h
    · exact hsz cs h
    · subst h; rfl
  · by_cases hjk : j = k
    · subst hjk
      rw [List.getElem?_set_self hk] at hj
      rw [List.getElem?_set_self (by rw [hl]; exact hk)] at hcs
      cases hj; cases hcs
      exact hx
    · rw [List.getElem?_set_ne (fun e => hjk e.symm)] at hj hcs
      exact hC j y cs hj hcs
  · have e1 : (css.set k [u]).flatten = css.flatten.set k u := by
      apply List.ext_getElem?
      intro j
      have hs2 : ∀ cs ∈ css.set k [u], cs.length = 1 := fun cs hcs => by
        rcases List.mem_or_eq_of_mem_set hcs with h | h
        · exact hsz cs h
        · subst h; rfl
      have hk2 : k < css.length := by rw [hl]; exact hk
      by_cases hj : j < css.length
      · by_cases hjk : j = k
        · subst hjk
          rw [List.getElem?_set_self (by rw [fl, Nat.mul_one]; exact hk2)]
          have := flat_at hs2 (j := j) (i := 0) (u := u) (List.getElem?_set_self hk2) rfl
          rwa [Nat.mul_one, Nat.add_zero] at this
        · rw [List.getElem?_set_ne (fun e => hjk e.symm)]
          have hcj : (css.set k [u])[j]? = some css[j] := by rw [List.getElem?_set_ne (fun e => hjk e.symm)]; exact List.getElem?_eq_getElem hj
          obtain ⟨y, hy⟩ : ∃ y, css[j][0]? = some y := ⟨_, List.getElem?_eq_getElem (by rw [hsz _ (List.getElem_mem hj)]; exact Nat.zero_lt_one)⟩
          have a := flat_at hs2 hcj hy
          have b := flat_at hsz (List.getElem?_eq_getElem hj) hy
          rw [Nat.mul_one, Nat.add_zero] at a b
          rw [a, b]
      · rw [List.getElem?_eq_none (by rw [flat_length hs2, Nat.mul_one, List.length_set]; omega), List.getElem?_eq_none (by rw [List.length_set, fl, Nat.mul_one]; omega)]
    rw [e1, List.length_set]
    refine ⟨by rw [List.length_set]; exact ho.1, ?_⟩
    rcases ho.2 with ⟨e, _⟩ | ⟨g', cap, cur, e, hb, hg, hnc, hcm, hcs, ht⟩
    · simp at e
    · simp only [Value.slice.injEq, Option.some.injEq, Addr.mk.injEq, and_true] at e
      obtain ⟨rfl, rfl, rfl⟩ := e
      refine .inr ⟨g, c, cur.setIfInBounds k u, rfl, hb, ?_, hnc, hcm, by simp [hcs], ?_⟩
      · simp [World.setCell, Array.getElem?_modify, hg]
      · rw [Array.toList_setIfInBounds, List.take_set, ht]
end Go.Proofs.YtemmdbjcllcelaaDoor
