/-
  The law's program, and a World that is made of it.
  How many fields each type has; the program's texts, laid.
  A World that is made.
-/
import Derived.Test.YtjeplkbdgphfoaaDoorWdP
import Derived.Test.YtjeplkbdgphfoaaDoorOwn
namespace Go.Proofs.YtjeplkbdgphfoaaDoor
open Go.RowKit
set_option maxRecDepth 100000


/-- A type's five cells: how many fields it has. -/
def TyC (x : Nat) (cs : List Value) : Prop := ∃ k nm el a c a2 n2 c2, cs = [.int .i64 k, .string nm, .int .i64 el, .slice a x c, .slice a2 n2 c2] ∧ x ≤ 1000
def fieldsOf : List Nat := [0, 0, 0, 0, 0, 2, 0]

theorem info_typ : (Tryd.prog.info? 71).map (fun i => (i.zero, i.size, i.bytes)) = some (some (.agg #[.int .i64 0, .string ⟨#[]⟩, .int .i64 0, .slice none 0 0, .slice none 0 0]), 5, 80) := by kernel_rfl

theorem base_row (w : World) (B : Nat) (hB : B ≤ w.heap.size) (a0 a1 a2 a3 a4 : Int) (n0 n1 n2 n3 n4 : ByteArray) (e0 e1 e2 e3 e4 : Int) :
    OwnSl (w.alloc (.cells #[.int .i64 a0, .string n0, .int .i64 e0, .slice none 0 0, .slice none 0 0, .int .i64 a1, .string n1, .int .i64 e1, .slice none 0 0, .slice none 0 0, .int .i64 a2, .string n2, .int .i64 e2, .slice none 0 0, .slice none 0 0,
      .int .i64 a3, .string n3, .int .i64 e3, .slice none 0 0, .slice none 0 0, .int .i64 a4, .string n4, .int .i64 e4, .slice none 0 0, .slice none 0 0] 71)) B 71 5 TyC (.slice (some ⟨w.heap.size, 0, none⟩) 5 5) [0, 0, 0, 0, 0] := by
  refine own_lit (w := w) (C := TyC) ([0, 0, 0, 0, 0] : List Nat) [[.int .i64 a0, .string n0, .int .i64 e0, .slice none 0 0, .slice none 0 0], [.int .i64 a1, .string n1, .int .i64 e1, .slice none 0 0, .slice none 0 0], [.int .i64 a2, .string n2, .int .i64 e2, .slice none 0 0, .slice none 0 0],
      [.int .i64 a3, .string n3, .int .i64 e3, .slice none 0 0, .slice none 0 0], [.int .i64 a4, .string n4, .int .i64 e4, .slice none 0 0, .slice none 0 0]] ⟨rfl, by simp, ?_⟩ _ rfl 5 rfl hB (by decide)
  intro j x cs hj hc
  match j, hj, hc with
  | 0, hj, hc => simp at hj hc; subst hj hc; exact ⟨_, _, _, _, _, _, _, _, rfl, by decide⟩
  | 1, hj, hc => simp at hj hc; subst hj hc; exact ⟨_, _, _, _, _, _, _, _, rfl, by decide⟩
  | 2, hj, hc => simp at hj hc; subst hj hc; exact ⟨_, _, _, _, _, _, _, _, rfl, by decide⟩
  | 3, hj, hc => simp at hj hc; subst hj hc; exact ⟨_, _, _, _, _, _, _, _, rfl, by decide⟩
  | 4, hj, hc => simp at hj hc; subst hj hc; exact ⟨_, _, _, _, _, _, _, _, rfl, by decide⟩

set_option maxHeartbeats 1000000 in
theorem base_any (w : World) (B : Nat) (hB : B ≤ w.heap.size) : Calls Tryd.prog 34 #[] w fun e w' => ∃ g, e = .returned (.slice (some ⟨g, 0, none⟩) 5 5) ∧ OwnSl w' B 71 5 TyC (.slice (some ⟨g, 0, none⟩) 5 5) [0, 0, 0, 0, 0] ∧ Up w w' := by
  go_enter Tryd.func34, Tryd.ntmps34
  go_wp2_with fail
  go_ret
  exact ⟨_, rfl, base_row w B hB _ _ _ _ _ _ _ _ _ _ _ _ _ _ _, (Fr.refl _ w).alloc _⟩

theorem own_base {α : Type} {w : World} {B B' : Nat} {e : TypeId} {sz : Nat} {C : α → List Value → Prop} {v : Value} {xs : List α} (h : OwnSl w B' e sz C v xs) (hB : B ≤ B') : OwnSl w B e sz C v xs := by
  obtain ⟨css, hr, ho⟩ := h
  refine ⟨css, hr, ho.1, ?_⟩
  rcases ho.2 with h | ⟨g, cap, cur, e1, e2, e3⟩
  · exact .inl h
  · exact .inr ⟨g, cap, cur, e1, Nat.le_trans hB e2, e3⟩

theorem five (w : World) (b : Nat) (T : TypeId) (u0 u1 u2 u3 u4 v0 v1 v2 v3 v4 : Value) (h : w.heap[b]? = some (.cells #[u0, u1, u2, u3, u4] T (0, 0))) :
    (((((w.setCell ⟨b, 0, none⟩ v0).setCell ⟨b, 1, none⟩ v1).setCell ⟨b, 2, none⟩ v2).setCell ⟨b, 3, none⟩ v3).setCell ⟨b, 4, none⟩ v4).heap[b]? = some (.cells #[v0, v1, v2, v3, v4] T (0, 0)) ∧
    Fr (fun k => k = b) w (((((w.setCell ⟨b, 0, none⟩ v0).setCell ⟨b, 1, none⟩ v1).setCell ⟨b, 2, none⟩ v2).setCell ⟨b, 3, none⟩ v3).setCell ⟨b, 4, none⟩ v4) := by
  have h0 : (w.setCell ⟨b, 0, none⟩ v0).heap[b]? = some (.cells #[v0, u1, u2, u3, u4] T (0, 0)) := (heap_setCell_same w b 0 _ _ _ h).trans rfl
  have h1 : ((w.setCell ⟨b, 0, none⟩ v0).setCell ⟨b, 1, none⟩ v1).heap[b]? = some (.cells #[v0, v1, u2, u3, u4] T (0, 0)) := (heap_setCell_same (w.setCell ⟨b, 0, none⟩ v0) b 1 _ _ _ h0).trans rfl
  have h2 : (((w.setCell ⟨b, 0, none⟩ v0).setCell ⟨b, 1, none⟩ v1).setCell ⟨b, 2, none⟩ v2).heap[b]? = some (.cells #[v0, v1, v2, u3, u4] T (0, 0)) := (heap_setCell_same ((w.setCell ⟨b, 0, none⟩ v0).setCell ⟨b, 1, none⟩ v1) b 2 _ _ _ h1).trans rfl
  have h3 : ((((w.setCell ⟨b, 0, none⟩ v0).setCell ⟨b, 1, none⟩ v1).setCell ⟨b, 2, none⟩ v2).setCell ⟨b, 3, none⟩ v3).heap[b]? = some (.cells #[v0, v1, v2, v3, u4] T (0, 0)) := (heap_setCell_same (((w.setCell ⟨b, 0, none⟩ v0).setCell ⟨b, 1, none⟩ v1).setCell ⟨b, 2, none⟩ v2) b 3 _ _ _ h2).trans rfl
  have h4 : (((((w.setCell ⟨b, 0, none⟩ v0).setCell ⟨b, 1, none⟩ v1).setCell ⟨b, 2, none⟩ v2).setCell ⟨b, 3, none⟩ v3).setCell ⟨b, 4, none⟩ v4).heap[b]? = some (.cells #[v0, v1, v2, v3, v4] T (0, 0)) := (heap_setCell_same ((((w.setCell ⟨b, 0, none⟩ v0).setCell ⟨b, 1, none⟩ v1).setCell ⟨b, 2, none⟩ v2).setCell ⟨b, 3, none⟩ v3) b 4 _ _ _ h3).trans rfl
  refine ⟨h4, ?_⟩
  have f0 : Fr (fun k => k = b) w w := Fr.refl _ w
  exact ((((f0.setCell (p := ⟨b, 0, none⟩) (fun _ => rfl) v0).setCell (p := ⟨b, 1, none⟩) (fun _ => rfl) v1).setCell (p := ⟨b, 2, none⟩) (fun _ => rfl) v2).setCell (p := ⟨b, 3, none⟩) (fun _ => rfl) v3).setCell (p := ⟨b, 4, none⟩) (fun _ => rfl) v4

/-- The law's program: its types, its texts. -/
def ProgW (B : Nat) (v : Value) (w : World) (e : Ending) (w' : World) : Prop :=
  ∃ g c, e = .returned (.agg #[.slice (some ⟨g, 0, none⟩) 7 c, .slice none 0 0, .int .i64 0, v, .slice none 0 0]) ∧ OwnSl w' B 71 5 TyC (.slice (some ⟨g, 0, none⟩) 7 c) fieldsOf ∧ Up w w'

set_option maxHeartbeats 2000000 in
theorem prog_any (w : World) (B : Nat) (hB : B ≤ w.heap.size) (a : Option Addr) (n c : Nat) :
    Calls Tryd.prog 5 #[.slice a n c] w (ProgW B (.slice a n c) w) := by
  obtain ⟨i, hi, hz, hz1, hz2⟩ := info_parts info_typ
  have I := Lib.hid (And.intro hi (And.intro hz (And.intro hz1 hz2)))
  clear hi hz hz1 hz2
  go_enter Tryd.func5, Tryd.ntmps5
  go_wp2_with fail
  refine (base_any _ _ (Nat.le_refl _)).mono ?_
  rintro e w1 ⟨g, rfl, ho, u⟩
  have hg := ho.lt g rfl
  obtain ⟨wf, hwf⟩ : ∃ wf, wf = w1.alloc (.cells #[.string ⟨#[120]⟩, .int .i64 1, .string ⟨#[121]⟩, .int .i64 1] 67) := ⟨_, rfl⟩
  have uf : Up w1 wf := by rw [hwf]; exact (Fr.refl _ w1).alloc _
  have sf : wf.heap.size = w1.heap.size + 1 := by rw [hwf]; simp
  have hof : OwnSl wf _ 71 5 TyC (.slice (some ⟨g, 0, none⟩) 5 5) [0, 0, 0, 0, 0] := ho.kept uf (fun _ _ h => h) (fun _ _ _ h => h)
  obtain ⟨g2, c2, w2, hrun, ho2, hgr, hg2⟩ := own_append (P := Tryd.prog) wf _ 26 26 71 i _ 5 80 Tryd.underlying26 I.out.1 I.out.2.1 I.out.2.2.1 I.out.2.2.2 rfl (by decide) hof
    ([2, 0] : List Nat)
    [[.int .i64 5, .string ⟨#[80]⟩, .int .i64 0, .slice (some ⟨w1.heap.size, 0, none⟩) 2 2, .slice none 0 0], [.int .i64 6, .string ⟨#[]⟩, .int .i64 1, .slice none 0 0, .slice none 0 0]]
    ⟨rfl, by simp, by
      intro j x cs hj hc
      match j, hj, hc with
      | 0, hj, hc => simp at hj hc; subst hj hc; exact ⟨_, _, _, _, _, _, _, _, rfl, by decide⟩
      | 1, hj, hc => simp at hj hc; subst hj hc; exact ⟨_, _, _, _, _, _, _, _, rfl, by decide⟩⟩
    #[.int .i64 5, .string ⟨#[80]⟩, .int .i64 0, .slice (some ⟨w1.heap.size, 0, none⟩) 2 2, .slice none 0 0, .int .i64 6, .string ⟨#[]⟩, .int .i64 1, .slice none 0 0, .slice none 0 0] rfl
    5 2 7 rfl rfl rfl (by decide) (by intro u hu; simp at hu; rcases hu with rfl | rfl | rfl | rfl | rfl | rfl | rfl | rfl | rfl | rfl <;> rfl) (by decide) (by decide) (by have := u.size; omega)
    (fun _ => TyC) (fun _ _ _ _ _ h => h)
  have hobj : w2.heap[w.heap.size]? = some (.cells #[.slice none 0 0, .slice none 0 0, .int .i64 0, .slice none 0 0, .slice none 0 0] 29 (0, 0)) := by
    have h0 := heap_alloc_new w (.cells #[.slice none 0 0, .slice none 0 0, .int .i64 0, .slice none 0 0, .slice none 0 0] 29)
    have s0 := u.size
    have e0 : (w.alloc (.cells #[.slice none 0 0, .slice none 0 0, .int .i64 0, .slice none 0 0, .slice none 0 0] 29)).heap.size = w.heap.size + 1 := by simp
    rw [e0] at s0 hg
    exact (hgr.block w.heap.size (by omega) (by intro e; have e2 : w.heap.size = g := (by simpa [Value.ownBlock] using e); omega)).trans ((uf.block w.heap.size (by omega) (fun h => h)).trans ((u.block w.heap.size (by simp) (fun h => h)).trans h0))
  have cc : ∀ k, w2.cell? ⟨w.heap.size, k, none⟩ = #[Value.slice none 0 0, .slice none 0 0, .int .i64 0, .slice none 0 0, .slice none 0 0][k]? := fun k => by rw [cell_of_row w2 _ k _ _ _ hobj]
  have d0 : w2.cell? ⟨w.heap.size, 0, none⟩ = some (.slice none 0 0) := cc 0
  have d1 : w2.cell? ⟨w.heap.size, 1, none⟩ = some (.slice none 0 0) := cc 1
  have d2 : w2.cell? ⟨w.heap.size, 2, none⟩ = some (.int .i64 0) := cc 2
  have d3 : w2.cell? ⟨w.heap.size, 3, none⟩ = some (.slice none 0 0) := cc 3
  have d4 : w2.cell? ⟨w.heap.size, 4, none⟩ = some (.slice none 0 0) := cc 4
  have ff : ∀ k, w2.frozen? ⟨w.heap.size, k, none⟩ = false := fun k => frozen_of_row w2 _ k _ _ hobj
  have f0 := ff 0
  have f1 := ff 1
  have f2 := ff 2
  have f3 := ff 3
  have f4 := ff 4
  have HA := Lib.hid hrun
  rw [sf, hwf] at HA
  have D := Lib.hid (And.intro hgr (And.intro hg2 (And.intro ho2 (And.intro hg (And.intro u (And.intro uf hobj))))))
  clear hrun ho2 hgr hg2 hof hg ho u sf hwf uf hobj cc ff
  go_wp2_with (at_builtin; refine Lib.wpList_append_run _ rfl (.tmp 3) (.tmp 9) 26 26 rfl _ _ rfl rfl _ _ HA.out ?_)
  obtain ⟨hgr, hg2, ho2, hg, u, uf, hobj⟩ := D.out
  obtain ⟨hz, fz⟩ := five w2 w.heap.size _ _ _ _ _ _ (.slice (some ⟨g2, 0, none⟩) 7 c2) (.slice none 0 0) (.int .i64 0) (.slice a n c) (.slice none 0 0) hobj
  generalize (((((w2.setCell ⟨w.heap.size, 0, none⟩ (.slice (some ⟨g2, 0, none⟩) 7 c2)).setCell ⟨w.heap.size, 1, none⟩ (.slice none 0 0)).setCell ⟨w.heap.size, 2, none⟩ (.int .i64 0)).setCell ⟨w.heap.size, 3, none⟩ (.slice a n c)).setCell ⟨w.heap.size, 4, none⟩ (.slice none 0 0)) = wz at *
  have hl := run_loadVar_mid (P := Tryd.prog) wz w.heap.size 0 29 [.slice (some ⟨g2, 0, none⟩) 7 c2, .slice none 0 0, .int .i64 0, .slice a n c, .slice none 0 0] _ (fun j v hv => by
    rw [Nat.zero_add, cell_of_row wz _ j _ _ _ hz]; simpa using hv) Tryd.underlying29 rfl (by kernel_rfl)
  refine bodyPost_ret (v := .agg #[.slice (some ⟨g2, 0, none⟩) 7 c2, .slice none 0 0, .int .i64 0, .slice a n c, .slice none 0 0]) (by
    simp [results, asAddr, hl]) rfl ?_
  have e0 : (w.alloc (.cells #[.slice none 0 0, .slice none 0 0, .int .i64 0, .slice none 0 0, .slice none 0 0] 29)).heap.size = w.heap.size + 1 := by simp
  have s0 := u.size
  have s1 := uf.size
  rw [e0] at s0 hg
  have hg2' : w.heap.size + 1 ≤ g2 := by
    rcases hg2 with e | e
    · have e2 : g = g2 := by simpa [Value.ownBlock] using e
      omega
    · omega
  have f2 : Fr (fun b => b = g) w1 w2 := (uf.mono (fun _ _ h => h.elim)).trans ((Fr.refl _ wf).grown hgr (fun k hk _ => by simpa [Value.ownBlock] using hk.symm)) (fun _ _ h => h)
  have f3 : Up w w2 := (up_trans (b := w.alloc _) ((Fr.refl _ w).alloc _) u).trans f2 (fun k hk e => by omega)
  have f4 : Up w wz := f3.trans fz (fun k hk e => by omega)
  refine ⟨g2, c2, rfl, own_base ?_ (show B ≤ w.heap.size + 1 by omega), f4⟩
  rw [← e0]
  exact ho2.kept fz (fun b hb e => by
    have : g2 = b := by simpa [Value.ownBlock] using hb
    omega) (fun _ _ _ h => h)


theorem partly_full (l : List Int) (n : Nat) (h : l.length = n) : partly l n = l := by rw [← h]; exact partly_all l

set_option maxHeartbeats 2000000 in
theorem sizes_any {B n : Nat} {w : World} {v : Value} {xs : List Nat} (h : OwnSl w B 71 5 TyC v xs) (hn : xs.length = n) (hn1 : n ≤ 1000) :
    Calls Tryd.prog 38 #[v] w fun e w' => ∃ c, e = .returned (.slice (some ⟨w.heap.size, 0, none⟩) n c) ∧
      w'.ownsRow w.heap.size 3 1 (.slice (some ⟨w.heap.size, 0, none⟩) n c) n ((xs.map Int.ofNat).map (Value.int .i64)) ∧ Up w w' := by
  obtain ⟨A, cp, rfl, hp⟩ := h.reads.parts
  rw [hn]
  have HP := Lib.hid hp
  obtain ⟨i, hi, hz, hz1, hz2⟩ := info_parts info_i
  have hb2 : i.bytes * n ≤ 281474976710656 := by rw [hz2]; omega
  have hm : n ≤ maxLen := by unfold maxLen; omega
  have hl : (xs.map Int.ofNat).length = n := by simpa using hn
  obtain ⟨L, hL⟩ : ∃ L, L = xs.map Int.ofNat := ⟨_, rfl⟩
  rw [← hL] at hl ⊢
  have hle := hp.le
  have hbig := hp.big
  clear h hp hz2
  go_enter Tryd.func38, Tryd.ntmps38
  go_wp2_with (at_make; refine wpList_make_full _ rfl _ _ 78 rfl w.heap.size 3 i (.int .i64 0) 1 Tryd.underlying78 hi hz hz1 _ _ _ _ n rfl rfl rfl rfl hb2 hm (Nat.le_refl _) ?_)
  intro w1 hown hgrow
  have hown0 : w1.ownsRow w.heap.size 3 1 (.slice (some ⟨w.heap.size, 0, none⟩) n n) n ((partly L 0).map (Value.int .i64)) := by
    have e : (madeCells #[Value.int .i64 0] n).toList = (partly L 0).map (Value.int .i64) := by
      rw [partly_zero, hl, List.map_replicate]
      exact toList_madeCells_one _ _
    rw [← e]
    exact hown
  have H0 := Lib.hid (And.intro hown0 (((Fr.refl (fun _ => False) w)).grown hgrow (by simp)))
  have hL2 := Lib.hid hL
  clear hown hown0 hgrow hi hz hz1 hb2 hm hL
  go_wp2_with fail
  go_loopw [11] (fun j wr => ∃ k : Nat, k ≤ n ∧ j = .int .i64 k ∧ Hid (wr.ownsRow w.heap.size 3 1 (.slice (some ⟨w.heap.size, 0, none⟩) n n) n ((partly L k).map (Value.int .i64)) ∧ Up w wr)) (fun j _ => n - (intOf j).toNat)
  case atStart => exact ⟨0, Nat.zero_le _, rfl, H0⟩
  case round =>
    obtain ⟨k, hk, rfl, hR⟩ := hrel
    clear H0
    by_cases hlt : k < n
    · have hps := HP.out.kept (S := fun _ => False) (G' := fun b => B ≤ b) (C' := TyC) hR.out.2 (fun _ _ h => h) (fun b hb => hb.1) (fun _ _ _ h => h)
      have hk' : k < xs.length := by rw [hn]; exact hlt
      obtain ⟨b, o, cs, rfl, hb1, hb2, hcs, _, hcell⟩ := hps.elem (k := k) hk'
      obtain ⟨q1, q2, q3, a, c, a2, n2, c2, rfl, hx⟩ := hcs
      have d0 : wr.cell? ⟨b, o + k * 5, none⟩ = _ := hcell 0 _ rfl
      have d1 := hcell 1 _ rfl
      have d2 := hcell 2 _ rfl
      have d3 := hcell 3 _ rfl
      have d4 := hcell 4 _ rfl
      have hLk : (xs.map Int.ofNat)[k]? = some ((xs[k]'hk' : Nat) : Int) := by rw [List.getElem?_map, List.getElem?_eq_getElem hk']; rfl
      rw [← hL2.out] at hLk
      have hc : ∃ v, wr.cell? ⟨w.heap.size, k, none⟩ = some v := by
        rw [hR.out.1.cellAt k (by omega)]
        have hl := hR.out.1.1
        exact ⟨_, List.getElem?_eq_getElem (by omega)⟩
      obtain ⟨v, hc⟩ := hc
      have hfz := hR.out.1.frozenAt k
      have hwb := (hR.out.1.lt w.heap.size rfl).2
      generalize xs[k]'hk' = x at *
      have hS : ∀ cs T, Hid (((wr.setCell ⟨w.heap.size, k, none⟩ (.int .i64 x)).alloc (.cells cs T)).ownsRow w.heap.size 3 1 (.slice (some ⟨w.heap.size, 0, none⟩) n n) n ((partly L (k + 1)).map (Value.int .i64)) ∧
          Up w ((wr.setCell ⟨w.heap.size, k, none⟩ (.int .i64 x)).alloc (.cells cs T))) := fun cs T => Lib.hid (by
        have hst := hR.out.1.stored k (.int .i64 x)
        rw [← partly_step _ k _ hLk, List.map_set]
        exact ⟨hst.1.alloc _, (hR.out.2.setCell (p := ⟨w.heap.size, k, none⟩) (fun hh => absurd hh (Nat.lt_irrefl _)) _).alloc _⟩)
      clear hcell hps hLk
      go_wp2_with fail
      go_roundw
      case rel => exact ⟨k + 1, by omega, by go_num, hS _ _⟩
      case measure => simp [intOf]; omega
    · obtain rfl : k = n := by omega
      have F : Hid (wr.ownsRow w.heap.size 3 1 (.slice (some ⟨w.heap.size, 0, none⟩) k k) k (L.map (Value.int .i64)) ∧ Up w wr) := Lib.hid (by
        have := hR.out
        rw [partly_full L k hl] at this
        exact this)
      clear hR
      go_wp2_with fail
      go_ret
      exact ⟨_, rfl, F.out⟩

/-- A text in its cell. -/
def StrC (x : ByteArray) (cs : List Value) : Prop := cs = [.string x] ∧ x.size ≤ 9223372036854775807

/-- The words behind the texts, and the texts' references. -/
def addT (room : Int) : List Int → List ByteArray → Option (List Int × List Int)
  | ws, [] => some (ws, [])
  | ws, s :: r => if s.size = 0 then (addT room ws r).map (fun x => (x.1, 0 :: x.2)) else
    if allocB ws room 3 s.size then (addT room (textWs ws s) r).map (fun x => (x.1, (ws.length : Int) :: x.2)) else none
/-- One text. -/
def addOne (room : Int) (ws : List Int) (s : ByteArray) : Option (List Int × Int) :=
  if s.size = 0 then some (ws, 0) else if allocB ws room 3 s.size then some (textWs ws s, ws.length) else none
theorem addT_snoc (room : Int) (s : ByteArray) : ∀ (l : List ByteArray) (ws : List Int), addT room ws (l ++ [s]) = (addT room ws l).bind fun x => (addOne room x.1 s).map fun y => (y.1, x.2 ++ [y.2])
  | [], ws => by
    simp only [List.nil_append, addT, addOne, Option.bind_some]
    split
    · rfl
    · split <;> rfl
  | t :: l, ws => by
    simp only [List.cons_append, addT]
    split
    · rw [addT_snoc room s l ws]
      cases addT room ws l <;> simp [Option.map_map, Function.comp_def]
    · split
      · rw [addT_snoc room s l (textWs ws t)]
        cases addT room (textWs ws t) l <;> simp [Option.map_map, Function.comp_def]
      · rfl
theorem addT_none (room : Int) (m : List ByteArray) : ∀ (l : List ByteArray) (ws : List Int), addT room ws l = none → addT room ws (l ++ m) = none
  | [], ws, h => by simp [addT] at h
  | t :: l, ws, h => by
    simp only [List.cons_append, addT] at h ⊢
    split at h
    · rename_i h0
      rw [if_pos h0]
      rw [Option.map_eq_none_iff] at h ⊢
      exact addT_none room m l ws h
    · rename_i h0
      rw [if_neg h0]
      split at h
      · rename_i h1
        rw [if_pos h1]
        rw [Option.map_eq_none_iff] at h ⊢
        exact addT_none room m l _ h
      · rename_i h1
        rw [if_neg h1]

theorem set_next (R : List Int) (n k : Nat) (r : Int) (hR : R.length = k) (hk : k < n) : (R ++ List.replicate (n - k) 0).set k r = (R ++ [r]) ++ List.replicate (n - (k + 1)) 0 := by
  have e : n - k = (n - (k + 1)) + 1 := by omega
  rw [List.set_append_right _ _ (by omega), hR, Nat.sub_self, e, List.replicate_succ, List.set_cons_zero]
  simp

/-- The state of store's loop. -/
structure StoreAt (w wr : World) (p g : Nat) (room : Int) (ws : List Int) (ss : List ByteArray) (n k g' c' : Nat) (ws' R : List Int) : Prop where
  done : addT room ws (ss.take k) = some (ws', R)
  len : R.length = k
  heap : HeapAt wr p g' c' room ws'
  hg : g' = g ∨ w.heap.size < g'
  fr : Fr (fun b => b = p ∨ b = g) w wr
  row : wr.ownsRow w.heap.size 38 1 (.slice (some ⟨w.heap.size, 0, none⟩) n n) n ((R ++ List.replicate (n - k) 0).map (Value.int .u64))
  z : wordAt ws' 0 = 0
  wf : ∀ x ∈ R, u64b x

theorem StoreAt.step {w wr w3 : World} {p g : Nat} {room : Int} {ws : List Int} {ss : List ByteArray} {n k g' c' : Nat} {ws' R : List Int} (h : StoreAt w wr p g room ws ss n k g' c' ws' R) (hlt : p < w.heap.size ∧ g < w.heap.size) (hk : k < n) {s : ByteArray} (hs : ss[k]? = some s)
    {ws2 : List Int} {r : Int} {g2 c2 : Nat} (ho : addOne room ws' s = some (ws2, r)) (h3 : HeapAt w3 p g2 c2 room ws2) (hg3 : g2 = g' ∨ wr.heap.size ≤ g2) (f3 : Fr (fun b => b = p ∨ b = g') wr w3) (hz : wordAt ws2 0 = 0) (hr : u64b r) :
    StoreAt w (w3.setCell ⟨w.heap.size, k, none⟩ (.int .u64 r)) p g room ws ss n (k + 1) g2 c2 ws2 (R ++ [r]) := by
  have hsz := h.fr.size
  have hrow := (h.row.lt w.heap.size rfl).2
  have hp : p ≠ w.heap.size := by omega
  have hg' : g' ≠ w.heap.size := by have := h.hg; omega
  have hg2 : g2 ≠ w.heap.size := by omega
  have row3 := f3.owns h.row (fun b hb hh => by
    have : w.heap.size = b := by simpa [Value.ownBlock] using hb
    rcases hh with e | e
    · omega
    · omega)
  have hst := row3.stored k (.int .u64 r)
  refine ⟨?_, by simp [h.len], ?_, by have := h.hg; omega, ?_, ?_, hz, ?_⟩
  · have e : ss.take (k + 1) = ss.take k ++ [s] := by rw [List.take_add_one, hs]; rfl
    rw [e, addT_snoc, h.done]
    simp [ho]
  · exact h3.kept ((Fr.refl (fun b => b = w.heap.size) w3).setCell (p := ⟨w.heap.size, k, none⟩) (fun _ => rfl) _) (fun e => hp e) (fun e => hg2 e)
  · have f4 : Fr (fun b => b = p ∨ b = g) w w3 := h.fr.trans f3 (fun i hi hh => by have := h.hg; omega)
    exact f4.setCell (p := ⟨w.heap.size, k, none⟩) (fun hh => absurd hh (Nat.lt_irrefl _)) _
  · rw [← set_next R n k r h.len hk, List.map_set]
    exact hst.1
  · intro x hx
    rcases List.mem_append.1 hx with hx | hx
    · exact h.wf x hx
    · rw [List.mem_singleton.1 hx]; exact hr

/-- What store leaves. -/
def StoreW (w : World) (p g : Nat) (room : Int) (ws : List Int) (ss : List ByteArray) (n : Nat) (e : Ending) (w' : World) : Prop :=
  (∃ ws' R g' c', addT room ws ss = some (ws', R) ∧ e = .returned (.tuple #[.slice (some ⟨w.heap.size, 0, none⟩) n n, .bool true]) ∧ StoreAt w w' p g room ws ss n n g' c' ws' R) ∨
  (addT room ws ss = none ∧ e = .returned (.tuple #[.slice none 0 0, .bool false]) ∧ Fr (fun b => b = p ∨ b = g) w w')

set_option maxHeartbeats 4000000 in
theorem store_any {N n p g cap : Nat} {room : Int} {ws : List Int} {w : World} {A : Option Addr} {cp : Nat} {ss : List ByteArray} (h : HeapAt w p g cap room ws) (hz0 : wordAt ws 0 = 0) (ht : SlP w (fun b => b < N) 1 StrC A cp ss)
    (hN : N ≤ p ∧ N ≤ g) (hn : ss.length = n) (hn1 : n ≤ 1000) :
    Calls Tryd.prog 36 #[.slice A n cp, .func (.func 37) #[.pointer (some ⟨p, 0, none⟩)] #[]] w (StoreW w p g room ws ss n) := by
  obtain ⟨i, hi, hz, hz1, hz2⟩ := info_parts info_w
  have hb2 : i.bytes * n ≤ 281474976710656 := by rw [hz2]; omega
  have hm : n ≤ maxLen := by unfold maxLen; omega
  have H := Lib.hid h
  have HT := Lib.hid ht
  have HL := Lib.hid (And.intro h.ltp h.ltg)
  have Z := Lib.hid hz0
  have hle := ht.le
  have hbig := ht.big
  clear h ht hz2 hz0
  go_enter Tryd.func36, Tryd.ntmps36
  go_wp2_with (at_make; refine wpList_make_full _ rfl _ _ 39 rfl w.heap.size 38 i (.int .u64 0) 1 Tryd.underlying39 hi hz hz1 _ _ _ _ n rfl rfl rfl rfl hb2 hm (Nat.le_refl _) ?_)
  intro w1 hown hgrow
  have hown0 : w1.ownsRow w.heap.size 38 1 (.slice (some ⟨w.heap.size, 0, none⟩) n n) n ((([] : List Int) ++ List.replicate (n - 0) 0).map (Value.int .u64)) := by
    have e : (madeCells #[Value.int .u64 0] n).toList = (([] : List Int) ++ List.replicate (n - 0) 0).map (Value.int .u64) := by
      rw [List.nil_append, Nat.sub_zero, List.map_replicate]
      exact toList_madeCells_one _ _
    rw [← e]
    exact hown
  have f01 : Up w w1 := (Fr.refl (fun _ => False) w).grown hgrow (by simp)
  have H0 : Hid (StoreAt w w1 p g room ws ss n 0 g cap ws []) := Lib.hid
    ⟨rfl, rfl, H.out.kept f01 (fun h => h) (fun h => h), .inl rfl, f01.mono (fun _ _ h => h.elim), hown0, Z.out, fun x hx => by cases hx⟩
  clear hown hown0 hgrow hi hz hz1 hb2 hm f01
  go_wp2_with fail
  go_loopw [16] (fun j wr => ∃ (k g' c' : Nat) (ws' R : List Int), k ≤ n ∧ j = .int .i64 k ∧ Hid (StoreAt w wr p g room ws ss n k g' c' ws' R)) (fun j _ => n - (intOf j).toNat)
  case atStart => exact ⟨0, _, _, _, _, Nat.zero_le _, rfl, H0⟩
  case round =>
    obtain ⟨k, g', c', ws', R, hk, rfl, hR⟩ := hrel
    clear H0
    by_cases hlt : k < n
    · have hk' : k < ss.length := by rw [hn]; exact hlt
      have hnp : ∀ b, b < N → ¬ (b = p ∨ b = g) := fun b hb => by have := hN; omega
      have hps := HT.out.kept (G' := fun _ => True) (C' := StrC) hR.out.fr hnp (fun _ _ => trivial) (fun _ _ _ h => h)
      obtain ⟨b, o, cs, rfl, _, hbl, ⟨rfl, hsz⟩, _, hcell⟩ := hps.elem (k := k) hk'
      have d0 : wr.cell? ⟨b, o + k, none⟩ = some (.string (ss[k]'hk')) := by have := hcell 0 _ rfl; simpa using this
      have hsk := List.getElem?_eq_getElem hk'
      generalize ss[k]'hk' = s at *
      have HS := Lib.hid hsk
      have hc : ∃ v, wr.cell? ⟨w.heap.size, k, none⟩ = some v := by
        rw [hR.out.row.cellAt k (by omega)]
        have hl := hR.out.row.1
        exact ⟨_, List.getElem?_eq_getElem (by omega)⟩
      have hfz := hR.out.row.frozenAt k
      clear hcell hps hsk
      by_cases h0 : s.size = 0
      · obtain ⟨v, hc⟩ := hc
        have HN := Lib.hid (hR.out.step HL.out hlt HS.out (ws2 := ws') (r := 0) (by unfold addOne; rw [if_pos h0]) hR.out.heap (.inl rfl) (Fr.refl _ wr) hR.out.z ⟨by omega, by omega⟩)
        go_wp2_with fail
        refine (text_empty p s h0).mono ?_
        rintro e w3 ⟨rfl, rfl⟩
        go_wp2_with fail
        go_roundw
        case rel => exact ⟨k + 1, _, _, _, _, by omega, by go_num, HN⟩
        case measure => simp [intOf]; omega
      · have h1 : 0 < s.size := by omega
        have H0 := Lib.hid h0
        clear h0
        cases hb : allocB ws' room 3 s.size with
        | true =>
          have Hb := Lib.hid hb
          clear hb
          go_wp2_with fail
          refine (text_any hR.out.heap s h1 Hb.out).mono ?_
          rintro e w3 ⟨rfl, g2, c2, h3, hg3, f3⟩
          have HN := Lib.hid (hR.out.step HL.out hlt HS.out (ws2 := textWs ws' s) (r := ws'.length) (by unfold addOne; rw [if_neg H0.out, if_pos Hb.out]) h3 hg3 f3 (z_text hR.out.heap.pos hR.out.z) (by have := hR.out.heap.small; exact ⟨by omega, by omega⟩))
          have hnr : ¬ (w.heap.size = p ∨ w.heap.size = g') := by
            have := HL.out
            have := hR.out.hg
            omega
          have hwb := (hR.out.row.lt w.heap.size rfl).2
          have hc3 : ∃ v, w3.cell? ⟨w.heap.size, k, none⟩ = some v := by
            obtain ⟨v, hc⟩ := hc
            exact ⟨v, (f3.cell (p := ⟨w.heap.size, k, none⟩) hwb hnr).trans hc⟩
          obtain ⟨v, hc3⟩ := hc3
          have hfz3 := (f3.frozen (p := ⟨w.heap.size, k, none⟩) hwb hnr).trans hfz
          clear h3 hg3 f3 hc hfz
          go_wp2_with fail
          go_roundw
          case rel => exact ⟨k + 1, _, _, _, _, by omega, by go_num, HN⟩
          case measure => simp [intOf]; omega
        | false =>
          have Hb := Lib.hid hb
          clear hb
          go_wp2_with fail
          refine (text_no hR.out.heap s hsz h1 Hb.out).mono ?_
          rintro e w3 ⟨rfl, m, rfl⟩
          go_wp2_with fail
          go_ret2
          refine .inr ⟨?_, rfl, hR.out.fr.drewN m⟩
          have e1 : ss.take (k + 1) = ss.take k ++ [s] := by rw [List.take_add_one, HS.out]; rfl
          have e2 : addT room ws (ss.take (k + 1)) = none := by
            rw [e1, addT_snoc, hR.out.done]
            simp [addOne, H0.out, Hb.out]
          have := addT_none room (ss.drop (k + 1)) _ _ e2
          rwa [List.take_append_drop] at this
    · obtain rfl : k = n := by omega
      have HE : Hid (addT room ws ss = some (ws', R)) := Lib.hid (by
        have := hR.out.done
        rwa [List.take_of_length_le (by omega)] at this)
      go_wp2_with fail
      go_ret2
      exact .inl ⟨_, _, _, _, HE.out, rfl, hR.out⟩


theorem row_base {w : World} {B B' n sz : Nat} {e : TypeId} {v : Value} {xs : List Value} (h : w.ownsRow B' e sz v n xs) (hB : B ≤ B') : w.ownsRow B e sz v n xs := by
  refine ⟨h.1, ?_⟩
  rcases h.2 with h | ⟨g, cap, cur, e1, e2, e3⟩
  · exact .inl h
  · exact .inr ⟨g, cap, cur, e1, Nat.le_trans hB e2, e3⟩

def sizesI : List Int := fieldsOf.map Int.ofNat

/-- The state of a World that was just made. -/
def St0 (q p g c : Nat) (room : Int) (ws : List Int) (vl vs vi : Value) (R ins : List Int) : WSt :=
  ⟨q, p, g, c, room, ws, vl, vs, vi, .slice none 0 0, R, sizesI, ins, 0, []⟩

theorem made {N p g0 g' c' cs n : Nat} {room : Int} {ws' R ins : List Int} {ss : List ByteArray} {v' : Value} {w1 w2 w3 w4 : World}
    (h : StoreAt w1 w2 p g0 room [0] ss n n g' c' ws' R) (hs : w3.ownsRow w2.heap.size 3 1 (.slice (some ⟨w2.heap.size, 0, none⟩) 7 cs) 7 (sizesI.map (Value.int .i64))) (u3 : Up w2 w3)
    (hi : w4.ownsRow w3.heap.size 2 1 v' ins.length (ins.map (Value.int .i64))) (u4 : Up w3 w4) (lo : N ≤ p ∧ N ≤ g0 ∧ p < w1.heap.size ∧ g0 < w1.heap.size) (hb : ∀ x ∈ ins, i64b x) :
    Wd N (w4.alloc (.cells #[.pointer (some ⟨p, 0, none⟩), .slice (some ⟨w1.heap.size, 0, none⟩) n n, .slice (some ⟨w2.heap.size, 0, none⟩) 7 cs, v', .int .i64 0, .slice none 0 0] 81))
      (St0 w4.heap.size p g' c' room ws' (.slice (some ⟨w1.heap.size, 0, none⟩) n n) (.slice (some ⟨w2.heap.size, 0, none⟩) 7 cs) v' R ins) := by
  have z1 := h.fr.size
  have z3 := u3.size
  have z4 := u4.size
  have hr := (h.row.lt w1.heap.size rfl).2
  have hsb := (hs.lt w2.heap.size rfl).2
  have hg := h.heap.ltg
  have hgg := h.hg
  have hpl := h.heap.ltp
  have hrow := h.row
  rw [Nat.sub_self, List.replicate_zero, List.append_nil] at hrow
  have e7 : sizesI.length = 7 := rfl
  refine ⟨heap_alloc_new w4 _, ?_, ?_, ?_, ?_, ?_, ?_, ?_, ?_, ?_, h.z, by simp [St0], by simp [St0], h.wf, ?_, hb, by simp [St0]⟩
  · exact ((h.heap.kept u3 (fun h => h) (fun h => h)).kept u4 (fun h => h) (fun h => h)).kept ((Fr.refl (fun _ => False) w4).alloc _) (fun h => h) (fun h => h)
  · have := ((u4.owns (u3.owns hrow (fun _ _ h => h)) (fun _ _ h => h))).alloc (.cells #[.pointer (some ⟨p, 0, none⟩), .slice (some ⟨w1.heap.size, 0, none⟩) n n, .slice (some ⟨w2.heap.size, 0, none⟩) 7 cs, v', .int .i64 0, .slice none 0 0] 81)
    rw [show (St0 w4.heap.size p g' c' room ws' (.slice (some ⟨w1.heap.size, 0, none⟩) n n) (.slice (some ⟨w2.heap.size, 0, none⟩) 7 cs) v' R ins).lits.length = n from h.len]
    exact row_base this (by omega)
  · exact row_base ((u4.owns hs (fun _ _ h => h)).alloc _) (by omega)
  · exact row_base (hi.alloc _) (by omega)
  · exact World.ownsRow_nil _ _ _ _
  · simp only [St0]; omega
  · simp only [St0]; omega
  · intro b hb
    simp [St0, Value.ownBlock] at hb
  · intro b hb hm
    have hbi := hi.lt b
    simp only [WSt.Fix, WSt.Mut, St0] at hb hm hbi
    have k1 : (Value.slice (some ⟨w1.heap.size, 0, none⟩) n n).ownBlock = some w1.heap.size := rfl
    have k2 : (Value.slice (some ⟨w2.heap.size, 0, none⟩) 7 cs).ownBlock = some w2.heap.size := rfl
    have k3 : (Value.slice none 0 0).ownBlock = none := rfl
    rw [k1, k2] at hb
    rw [k3] at hm
    rcases hb with e | e | e
    · have := Option.some.inj e
      rcases hm with m | m | m | m
      · omega
      · omega
      · omega
      · cases m
    · have := Option.some.inj e
      rcases hm with m | m | m | m
      · omega
      · omega
      · omega
      · cases m
    · have := hbi e
      rcases hm with m | m | m | m
      · omega
      · omega
      · omega
      · cases m
  · intro x hx
    simp [St0, sizesI, fieldsOf] at hx
    exact ⟨by omega, by omega⟩

theorem SlP.inside {α : Type} {w : World} {G : Nat → Prop} {sz : Nat} {C : α → List Value → Prop} {A : Option Addr} {c : Nat} {xs : List α} (h : SlP w G sz C A c xs) : SlP w (fun b => b < w.heap.size) sz C A c xs :=
  ⟨h.le, h.big, fun hne => by
    obtain ⟨b, o, e, _, hlt, hx⟩ := h.at_ hne
    exact ⟨b, o, e, hlt, hlt, hx⟩⟩

/-- What New leaves. -/
def NewW (room : Int) (ss : List ByteArray) (ins : List Int) (w : World) (e : Ending) (w' : World) : Prop :=
  (∃ ws' R q p g c vl vs vi, addT room [0] ss = some (ws', R) ∧ e = .returned (.tuple #[.pointer (some ⟨q, 0, none⟩), .bool true]) ∧ Wd w.heap.size w' (St0 q p g c room ws' vl vs vi R ins) ∧ Up w w') ∨
  (addT room [0] ss = none ∧ e = .returned (.tuple #[.pointer none, .bool false]) ∧ Up w w')

set_option maxHeartbeats 4000000 in
theorem wnew_any {Bt Bi gt ct n cp : Nat} {room : Int} {w : World} {A : Option Addr} {ss : List ByteArray} {ins : List Int} {vi : Value} (hty : OwnSl w Bt 71 5 TyC (.slice (some ⟨gt, 0, none⟩) 7 ct) fieldsOf)
    (ht : SlP w (fun _ => True) 1 StrC A cp ss) (hn : ss.length = n) (hn1 : n ≤ 1000) (hi : w.ownsRow Bi 2 1 vi ins.length (ins.map (Value.int .i64))) (hil : ins.length ≤ 1000) (hib : ∀ x ∈ ins, i64b x) (h0 : 1 ≤ room) (h1 : room ≤ 65536) :
    Calls Tryd.prog 6 #[.agg #[.slice (some ⟨gt, 0, none⟩) 7 ct, .slice none 0 0, .int .i64 0, .slice A n cp, .slice none 0 0], .int .i64 room, vi] w (NewW room ss ins w) := by
  have HTY := Lib.hid hty
  have HT := Lib.hid ht
  have HI := Lib.hid (And.intro hi hib)
  obtain ⟨ai, ci, hvi, _⟩ := row_parts hi
  subst hvi
  clear hty ht hi hib
  go_enter Tryd.func6, Tryd.ntmps6
  go_wp2_with fail
  rw [show min (max room 1) 65536 = room by omega]
  have hbox := heap_alloc_new w (.cells #[.slice (some ⟨gt, 0, none⟩) 7 ct, .slice none 0 0, .int .i64 0, .slice A n cp, .slice none 0 0] 29)
  have z0 : (w.alloc (.cells #[.slice (some ⟨gt, 0, none⟩) 7 ct, .slice none 0 0, .int .i64 0, .slice A n cp, .slice none 0 0] 29)).heap.size = w.heap.size + 1 := by simp
  have u0 : Up w (w.alloc (.cells #[.slice (some ⟨gt, 0, none⟩) 7 ct, .slice none 0 0, .int .i64 0, .slice A n cp, .slice none 0 0] 29)) := (Fr.refl _ w).alloc _
  generalize w.alloc (.cells #[.slice (some ⟨gt, 0, none⟩) 7 ct, .slice none 0 0, .int .i64 0, .slice A n cp, .slice none 0 0] 29) = wb at *
  refine (new_any room wb h0 h1).mono ?_
  rintro e w1 ⟨rfl, hh, f1⟩
  have hbox1 := (f1.block w.heap.size (by omega) (fun h => h)).trans hbox
  have U1 := Lib.hid (up_trans u0 f1)
  have H1 := Lib.hid hh
  have B1 := Lib.hid hbox1
  have d3 : w1.cell? ⟨w.heap.size, 3, none⟩ = some (.slice A n cp) := by rw [cell_of_row w1 _ 3 _ _ _ hbox1]; rfl
  have p1 : w.heap.size < wb.heap.size + 1 ∧ w.heap.size < wb.heap.size := by omega
  have P1 := Lib.hid p1
  clear hbox hbox1 f1 hh u0
  generalize wb.heap.size + 1 = p at *
  generalize wb.heap.size = g0 at *
  go_wp2_with fail
  refine (store_any (N := w.heap.size) H1.out rfl (HT.out.inside.kept (G' := fun b => b < w.heap.size) (C' := StrC) U1.out (fun _ _ h => h) (fun _ h => h) (fun _ _ _ h => h)) (by have := P1.out; omega) hn hn1).mono ?_
  have hlt1 := Lib.hid (And.intro H1.out.ltp H1.out.ltg)
  rintro e w2 (⟨ws', R, g', c', ha, rfl, hst⟩ | ⟨ha, rfl, fr⟩)
  · have hbox2 := (hst.fr.block w.heap.size (by have := P1.out; have := hlt1.out; omega) (by have := P1.out; omega)).trans B1.out
    have hty2 : OwnSl w2 Bt 71 5 TyC (.slice (some ⟨gt, 0, none⟩) 7 ct) fieldsOf := by
      refine (HTY.out.kept U1.out (fun _ _ h => h) (C' := TyC) (fun _ _ _ h => h)).kept hst.fr ?_ (fun _ _ _ h => h)
      intro b hb
      have := (HTY.out.lt b hb).2
      have := P1.out
      omega
    have d0 : w2.cell? ⟨w.heap.size, 0, none⟩ = some (.slice (some ⟨gt, 0, none⟩) 7 ct) := by rw [cell_of_row w2 _ 0 _ _ _ hbox2]; rfl
    have hi2 : w2.ownsRow Bi 2 1 (.slice ai ins.length ci) ins.length (ins.map (Value.int .i64)) := by
      refine hst.fr.owns (U1.out.owns HI.out.1 (fun _ _ h => h)) ?_
      intro b hb
      have := (HI.out.1.lt b hb).2
      have := P1.out
      omega
    have HST := Lib.hid (And.intro ha hst)
    have HTY2 := Lib.hid hty2
    have HI2 := Lib.hid hi2
    clear hbox2 hty2 hi2 ha hst d3
    go_wp2_with fail
    refine (sizes_any (n := 7) HTY2.out rfl (by decide)).mono ?_
    rintro e w3 ⟨c3, rfl, hs3, u3⟩
    have HS3 := Lib.hid (And.intro hs3 u3)
    have HI3 := Lib.hid (u3.owns HI2.out (fun _ _ h => h))
    clear hs3 u3 d0
    go_wp2_with fail
    refine (clone_j HI3.out (by omega) (by intro u hu; obtain ⟨x, _, rfl⟩ := List.mem_map.1 hu; rfl)).mono ?_
    rintro e w4 ⟨v', rfl, hi4, u4⟩
    obtain ⟨av, cv, rfl, _⟩ := row_parts hi4
    have HW := Lib.hid (made HST.out.2 HS3.out.1 HS3.out.2 hi4 u4 (N := w.heap.size) (by have := P1.out; have := hlt1.out; omega) HI.out.2)
    have HU : Hid (Up w w4) := Lib.hid (up_trans (up_trans (U1.out.trans HST.out.2.fr (fun i hi hh => by have := P1.out; omega)) HS3.out.2) u4)
    clear hi4 u4
    go_wp2_with fail
    go_ret2
    exact .inl ⟨ws', R, _, _, _, _, _, _, _, HST.out.1, rfl, HW.out, HU.out.alloc _⟩
  · have HF := Lib.hid (And.intro ha fr)
    clear ha fr
    go_wp2_with fail
    go_ret2
    exact .inr ⟨HF.out.1, rfl, U1.out.trans HF.out.2 (fun i hi hh => by have := P1.out; omega)⟩
end Go.Proofs.YtjeplkbdgphfoaaDoor
