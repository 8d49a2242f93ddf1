/-
  Package parse: a row of trees behind another one; what goes on behind a tree that was there.
-/
import Derived.Test.YtemmdbjcllcelaaDoorPaSU
import Derived.Test.YtemmdbjcllcelaaDoorPush
namespace Go.Proofs.YtemmdbjcllcelaaDoor.Pa
open Go.RowKit
open Go.Proofs.YtemmdbjcllcelaaDoor.Tk (Tok TokC bs tokA zeroTok set5 set5_blk set5_fr blk_set eqL)
set_option maxRecDepth 100000

theorem flat_inv {n : Nat} (hn : 0 < n) : ∀ {css : List (List Value)}, (∀ cs ∈ css, cs.length = n) → ∀ {j : Nat} {u : Value}, css.flatten[j]? = some u → ∃ cs, css[j / n]? = some cs ∧ cs[j % n]? = some u
  | [], _, j, u, h => by simp at h
  | c :: css, hl, j, u, h => by
    have hc := hl c (List.mem_cons_self ..)
    rw [List.flatten_cons] at h
    by_cases hj : j < n
    · rw [List.getElem?_append_left (by omega)] at h
      exact ⟨c, by rw [Nat.div_eq_of_lt hj]; rfl, by rw [Nat.mod_eq_of_lt hj]; exact h⟩
    · rw [List.getElem?_append_right (by omega), hc] at h
      obtain ⟨cs, h1, h2⟩ := flat_inv hn (fun x hx => hl x (List.mem_cons_of_mem _ hx)) h
      refine ⟨cs, ?_, ?_⟩
      · rw [show j / n = (j - n) / n + 1 by rw [Nat.div_eq_sub_div hn (by omega)], List.getElem?_cons_succ]; exact h1
      · rw [show j % n = (j - n) % n by rw [Nat.mod_eq_sub_mod (by omega)]]; exact h2

section
variable {w w' w0 : World} {p cap nest : Nat} {A : Option Addr} {toks : List Tok} {s : St} {q : Nat} {cs : Array Value} {vs : List (Nat × Array Value)} {ts : List (Nd × List Value)}
/-- A block of the call's own is turned, and given up. -/
theorem Cx.drop (h : Cx w0 w p A cap toks nest s ((q, cs) :: vs) ts) (hf : Fr (fun b => b = q) w w') : Cx w0 w' p A cap toks nest s vs ts := by
  have hq := h.var (q, cs) List.mem_cons_self
  have hpq := h.ne (x := (q, cs)) List.mem_cons_self
  have hfr : Fr (fun b => b = p) w0 w' := Fr.trans h.fr hf (fun j hj e => by have := hq.1; simp only at this; omega)
  obtain ⟨_, _, _, _, h0⟩ := h.ps0
  refine ⟨h.ps0, h.at_.put h0 hfr (hf.block p h.at_.lt hpq), hfr, fun x hx => ⟨(h.var x (List.mem_cons_of_mem _ hx)).1, ?_⟩, fun k j x y hk hj e => by have := h.inj (k + 1) (j + 1) x y hk hj e; omega, fun t ht => ?_⟩
  · refine (hf.block x.1 (h.lt (List.mem_cons_of_mem _ hx)) (fun e => ?_)).trans (h.var x (List.mem_cons_of_mem _ hx)).2
    obtain ⟨j, hj⟩ := List.getElem?_of_mem hx
    have := h.inj 0 (j + 1) (q, cs) x rfl hj e.symm
    omega
  · exact (h.nd t ht).kept hf (fun b hb e => hb.2 (by rw [e]; exact List.mem_cons_self)) (fun b hb => ⟨hb.1, fun hm => hb.2 (List.mem_cons_of_mem _ hm)⟩)
/-- A row of trees behind one of the call's own. -/
theorem Cx.append0 (h : Cx w0 w p A cap toks nest s ((q, cs) :: vs) ts) (sub : List (Nd × List Value)) (hs : ∀ x ∈ sub, x ∈ ts) (hc : cs.toList = (sub.map (·.2)).flatten) (k : Nat) (hk : sub.length = k) (hk3 : k ≤ 3) {ks : List Nd} {u0 u1 u2 u3 u4 : Value} {B : Option Addr} {c : Nat}
    (hm : (Nd.mk 0 [] 0 0 0 ks, [u0, u1, u2, u3, u4, .slice B ks.length c]) ∈ ts) (hlen : ks.length ≤ 5000) :
    ∃ A' c' w', (Builtin.append_ #[25, 25] 25 #[.slice (some ⟨q, 0, none⟩) k k, .slice B ks.length c]).run Tryd.prog w = .ok (.slice A' (sub.map (·.1) ++ ks).length c') w' ∧
      Cx w0 w' p A cap toks nest s vs ts ∧ KidsP w' (fun b => w0.heap.size ≤ b ∧ b ∉ vs.map (·.1)) A' c' (sub.map (·.1) ++ ks) ∧ Fr (fun b => b = q) w w' := by
  subst hk
  have hN : sub.length + ks.length = (sub.map (·.1) ++ ks).length := by simp
  rw [← hN]
  obtain ⟨i, z, hi, hz, h1, h2, h3⟩ := info_node
  have hq := h.var (q, cs) List.mem_cons_self
  simp only at hq
  have hbase : w0.heap.size ≤ w.heap.size := h.fr.size
  obtain ⟨A0, c2, e, hks⟩ := (h.nd _ hm).row
  simp only [List.cons.injEq, Value.slice.injEq, and_true, true_and] at e
  obtain ⟨_, _, _, _, _, rfl, rfl⟩ := e
  have h6 : ∀ x ∈ sub, x.2.length = 6 := fun x hx => (h.nd x (hs x hx)).six
  have h6' : ∀ c ∈ sub.map (·.2), c.length = 6 := fun c hc => by
    obtain ⟨x, hx, rfl⟩ := List.mem_map.1 hc
    exact h6 x hx
  have hfl : cs.toList.length = sub.length * 6 := by rw [hc, flat_length h6', List.length_map]
  have hown : w.ownsRow w0.heap.size 27 6 (.slice (some ⟨q, 0, none⟩) sub.length sub.length) sub.length cs.toList :=
    ⟨hfl, .inr ⟨q, sub.length, cs, rfl, hq.1, hq.2, Nat.le_refl _, by unfold maxLen; omega, by rw [← Array.length_toList]; exact hfl, by rw [← hfl, List.take_length]⟩⟩
  by_cases hne : ks = []
  · subst hne
    have hsrc : Src Tryd.prog i.size 25 (.slice B 0 c) 0 [] w := by
      cases B with
      | none => exact Src.ofNil w Tryd.underlying25 c
      | some a => exact Src.ofSlice w Tryd.underlying25 a 0 c [] (by simp) (fun j u hj => by simp at hj) (fun u hu => by simp at hu)
    refine ⟨some ⟨q, 0, none⟩, sub.length, w, run_append_nothing w 25 25 25 27 i Tryd.underlying25 hi (some ⟨q, 0, none⟩) _ _ (Nat.le_refl _) _ hsrc, h.weak, ?_, Fr.refl _ _⟩
    rw [List.append_nil]
    refine ⟨by simp, by omega, fun _ => ⟨q, 0, rfl, ⟨hq.1, fun hm2 => ?_⟩, heap_lt hq.2, fun j x hj => ?_⟩⟩
    · obtain ⟨y, hy, e⟩ := List.mem_map.1 hm2
      obtain ⟨j, hj⟩ := List.getElem?_of_mem hy
      have := h.inj 0 (j + 1) (q, cs) y rfl hj e.symm
      omega
    · rw [List.getElem?_map] at hj
      obtain ⟨y, hy, rfl⟩ := Option.map_eq_some_iff.1 hj
      have hn := h.weak.nd y (hs y (List.mem_of_getElem? hy))
      refine ⟨y.2, hn, hn.six, fun i u hi => ?_⟩
      rw [cell_of_row _ _ _ _ _ _ hq.2, ← Array.getElem?_toList, hc, Nat.zero_add]
      exact flat_at h6' (by rw [List.getElem?_map, hy]; rfl) hi
  · obtain ⟨b, o, rfl, hb, hlt, hx⟩ := hks.at_ hne
    obtain ⟨css, hl, hq2⟩ := choose_list ks _ hx
    have hsz : ∀ cs ∈ css, cs.length = 6 := fun cs hcs => by
      obtain ⟨j, hj⟩ := List.mem_iff_getElem?.1 hcs
      have hjl : j < ks.length := by rw [← hl]; exact (List.getElem?_eq_some_iff.1 hj).1
      exact (hq2 j _ cs (List.getElem?_eq_getElem hjl) hj).2.1
    have hm0 : 0 < ks.length := by cases ks with | nil => exact absurd rfl hne | cons _ _ => simp
    have fl := flat_length hsz
    obtain ⟨g, cap', w', hrun, ho', hgr, hg⟩ := run_append_own2 (P := Tryd.prog) w w0.heap.size 25 25 27 i z 6 72 Tryd.underlying25 hi hz h1 h2 h3 (by decide) _ sub.length cs.toList hown ⟨b, o, none⟩ ks.length c css.flatten
      (by rw [fl, hl]) hm0 (fun j u hj => by
        obtain ⟨cc, e1, e2⟩ := flat_inv (by decide) hsz hj
        have hjl : j / 6 < ks.length := by rw [← hl]; exact (List.getElem?_eq_some_iff.1 e1).1
        have := (hq2 _ _ _ (List.getElem?_eq_getElem hjl) e1).2.2 _ u e2
        rw [Go.WideShapes.add_plain]
        rw [show o + j = o + j / 6 * 6 + j % 6 by omega]
        exact this)
      (fun u hu => by
        obtain ⟨cs, hcs, huc⟩ := List.mem_flatten.1 hu
        obtain ⟨j, hj⟩ := List.mem_iff_getElem?.1 hcs
        have hjl : j < ks.length := by rw [← hl]; exact (List.getElem?_eq_some_iff.1 hj).1
        exact (hq2 j _ cs (List.getElem?_eq_getElem hjl) hj).1.ones u huc)
      (by unfold maxLen; omega) (by omega) hbase
    have hf : Fr (fun b => b = q) w w' := Fr.mono (Tk.fr_grown hgr) (fun b _ e => by simpa [Value.ownBlock] using e.symm)
    have h' := h.drop hf
    refine ⟨some ⟨g, 0, none⟩, cap', w', hrun, h', ?_, hf⟩
    rcases ho'.2 with ⟨e, _⟩ | ⟨g', cap2, cur, e, hbg, hgb, hnc, hcm, hcsz, htake⟩
    · cases e
    · obtain ⟨rfl, rfl⟩ : g = g' ∧ cap' = cap2 := by
        simp only [Value.slice.injEq, Option.some.injEq, Addr.mk.injEq, and_true, true_and] at e
        exact e
      refine ⟨by simp; omega, by unfold maxLen at hcm; omega, fun _ => ⟨g, 0, rfl, ⟨hbg, fun hm2 => ?_⟩, heap_lt hgb, fun j x hj => ?_⟩⟩
      · obtain ⟨y, hy, e⟩ := List.mem_map.1 hm2
        have hylt := h.lt (List.mem_cons_of_mem _ hy)
        rcases hg with hg | hg
        · have hgq : q = g := by simpa [Value.ownBlock] using hg
          obtain ⟨j, hj⟩ := List.getElem?_of_mem hy
          have := h.inj 0 (j + 1) (q, cs) y rfl hj (by rw [e, hgq])
          omega
        · omega
      · have hcur : ∀ (j : Nat) (u : Value), (cs.toList ++ css.flatten)[j]? = some u → w'.cell? ⟨g, j, none⟩ = some u := fun j u hj => by
          rw [cell_of_row _ _ _ _ _ _ hgb, ← Array.getElem?_toList]
          rw [← htake, List.getElem?_take] at hj
          split at hj
          · exact hj
          · cases hj
        have hall : ∀ c ∈ sub.map (·.2) ++ css, c.length = 6 := fun c hc => by
          rcases List.mem_append.1 hc with e | e
          · exact h6' c e
          · exact hsz c e
        have hcat : cs.toList ++ css.flatten = (sub.map (·.2) ++ css).flatten := by rw [List.flatten_append, hc]
        by_cases hjs : j < sub.length
        · rw [List.getElem?_append_left (by simpa using hjs), List.getElem?_map] at hj
          obtain ⟨y, hy, rfl⟩ := Option.map_eq_some_iff.1 hj
          have hn := h'.nd y (hs y (List.mem_of_getElem? hy))
          refine ⟨y.2, hn, hn.six, fun i u hi => ?_⟩
          rw [Nat.zero_add]
          refine hcur _ u ?_
          rw [hcat]
          exact flat_at hall (by rw [List.getElem?_append_left (by simpa using hjs), List.getElem?_map, hy]; rfl) hi
        · rw [List.getElem?_append_right (by simpa using hjs), List.length_map] at hj
          have hjl : j - sub.length < css.length := by rw [hl]; exact (List.getElem?_eq_some_iff.1 hj).1
          have hcj := List.getElem?_eq_getElem hjl
          obtain ⟨hn, hsx, _⟩ := hq2 _ x _ hj hcj
          refine ⟨css[j - sub.length], hn.kept hf (fun b hb e => hb.2 (by rw [e]; exact List.mem_cons_self)) (fun b hb => ⟨hb.1, fun hm => hb.2 (List.mem_cons_of_mem _ hm)⟩), hsx, fun i u hi => ?_⟩
          rw [Nat.zero_add]
          refine hcur _ u ?_
          rw [hcat]
          exact flat_at hall (by rw [List.getElem?_append_right (by simpa using hjs), List.length_map]; exact hcj) hi
theorem Cx.append (h : Cx w0 w p A cap toks nest s ((q, cs) :: vs) ts) (sub : List (Nd × List Value)) (hs : ∀ x ∈ sub, x ∈ ts) (hc : cs.toList = (sub.map (·.2)).flatten) (k : Nat) (hk : sub.length = k) (hk3 : k ≤ 3) {ks : List Nd} {u0 u1 u2 u3 u4 : Value} {B : Option Addr} {c : Nat}
    (hm : (Nd.mk 0 [] 0 0 0 ks, [u0, u1, u2, u3, u4, .slice B ks.length c]) ∈ ts) (hlen : ks.length ≤ 5000) (kind : Nat) (nm : List UInt8) (n l cl : Nat) :
    ∃ A' c' N w', (Builtin.append_ #[25, 25] 25 #[.slice (some ⟨q, 0, none⟩) k k, .slice B ks.length c]).run Tryd.prog w = .ok (.slice A' N c') w' ∧
      Cx w0 w' p A cap toks nest s vs ((Nd.mk kind nm n l cl (sub.map (·.1) ++ ks), [.int .i64 kind, .string (bs nm), .int .i64 n, .int .i64 l, .int .i64 cl, .slice A' N c']) :: ts) := by
  obtain ⟨A', c', w', h1, h2, h3, _⟩ := h.append0 sub hs hc k hk hk3 hm hlen
  exact ⟨A', c', _, w', h1, h2.know (NdC.of h3 kind nm n l cl)⟩
theorem Cx.tail {us : List (Nat × Array Value)} (l : List (Nat × Array Value)) (h : Cx w0 w p A cap toks nest s us ts) (e : us = l ++ vs) : Cx w0 w p A cap toks nest s vs ts := by
  induction l generalizing us with
  | nil => rw [e] at h; exact h
  | cons v l ih => rw [e] at h; exact ih h.weak rfl
theorem Cx.finY {us : List (Nd × List Value)} {l : List (Nat × Array Value)} (h : Cx w0 w p A cap toks nest s (l ++ vs) us) (k : Nat) {q0 : Nat} {z0 z1 z2 z3 z4 z5 : Value} (hk : l[k]? = some (q0, #[z0, z1, z2, z3, z4, z5])) {t : Nd} {v0 v1 v2 v3 v4 v5 : Value} (ht : (t, [v0, v1, v2, v3, v4, v5]) ∈ us) (hs : ∀ x ∈ ts, x ∈ us) :
    (set6 w q0 v0 v1 v2 v3 v4 v5).heap[q0]? = some (.cells #[v0, v1, v2, v3, v4, v5] 27 (0, 0)) ∧ Cx w0 (set6 w q0 v0 v1 v2 v3 v4 v5) p A cap toks nest s vs ((t, [v0, v1, v2, v3, v4, v5]) :: ts) := by
  have hlt : k < l.length := (List.getElem?_eq_some_iff.1 hk).1
  have g : ∀ {l : List (Nat × Array Value)} {x : Nat × Array Value}, k < l.length → (l.set k x ++ vs)[k]? = some x := fun hl => by rw [List.getElem?_append_left (by simpa using hl), List.getElem?_set, if_pos rfl, if_pos hl]
  have a : ∀ {l : List (Nat × Array Value)} {x : Nat × Array Value}, k < l.length → (l ++ vs).set k x = l.set k x ++ vs := fun hl => by rw [List.set_append]; rw [if_pos hl]
  have hk' : (l ++ vs)[k]? = some (q0, #[z0, z1, z2, z3, z4, z5]) := by rw [List.getElem?_append_left hlt]; exact hk
  have h0 := h.set k hk' 0 v0
  rw [a hlt] at h0
  have h1 := h0.set k (g hlt) 1 v1
  rw [a (by simpa using hlt)] at h1
  have h2 := h1.set k (g (by simpa using hlt)) 2 v2
  rw [a (by simpa using hlt)] at h2
  have h3 := h2.set k (g (by simpa using hlt)) 3 v3
  rw [a (by simpa using hlt)] at h3
  have h4 := h3.set k (g (by simpa using hlt)) 4 v4
  rw [a (by simpa using hlt)] at h4
  have h5 := h4.set k (g (by simpa using hlt)) 5 v5
  rw [a (by simpa using hlt)] at h5
  refine ⟨set6_blk (h.cells k hk') v0 v1 v2 v3 v4 v5, (h5.tail _ rfl).less (fun x hx => ?_)⟩
  rcases List.mem_cons.1 hx with rfl | hx
  · exact ht
  · exact hs x hx
end
/-- One that goes on behind a tree that is there. -/
def RunsY (rd : Rule → Nat → M Nd) (r : Nd → Rule) (g : Nat) : Prop :=
  ∀ (w0 w : World) (p : Nat) (A : Option Addr) (cap : Nat) (toks : List Tok) (d : Nat) (s s' : St) (t x : Nd) (cs : List Value) (vs : List (Nat × Array Value)) (ts : List (Nd × List Value)), Cx w0 w p A cap toks d s vs ts → (x, cs) ∈ ts → d ≤ 40 → Pre (r x) s.l → rd (r x) d s = some (t, s') →
    Calls Tryd.prog g #[.pointer (some ⟨p, 0, none⟩), .agg cs.toArray] w fun e w' => ∃ cs', e = .returned (.agg cs'.toArray) ∧ Cx w0 w' p A cap toks d s' vs ((t, cs') :: ts)
end Go.Proofs.YtemmdbjcllcelaaDoor.Pa
