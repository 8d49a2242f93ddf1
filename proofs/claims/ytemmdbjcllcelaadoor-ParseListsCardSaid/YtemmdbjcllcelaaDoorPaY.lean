/-
  Package parse: rules, one by one (written by wip/genPa.py).
-/
import Derived.Test.YtemmdbjcllcelaaDoorPaX
import Derived.Test.YtemmdbjcllcelaaDoorHeld
import Derived.Deep.Heap
import Derived.Deep.Cut
namespace Go.Proofs.YtemmdbjcllcelaaDoor.Pa
open Go.RowKit
open Go.Proofs.YtemmdbjcllcelaaDoor.Tk (Tok TokC bs tokA zeroTok set5 set5_blk set5_fr blk_set eqL)
set_option maxRecDepth 100000
/-- A row of trees in the making, beside nodes. -/
structure Rw (w0 w : World) (p : Nat) (A : Option Addr) (cap : Nat) (toks : List Tok) (nest : Nat) (s : St) (v : Value) (vs : List (Nat × Array Value)) (ts : List (Nd × List Value)) : Prop where
  cx : Cx w0 w p A cap toks nest s vs ts
  own : w.ownsRow w0.heap.size 27 6 v ts.length (ts.map (·.2)).flatten
  ex : ∀ g, v.ownBlock = some g → (∀ x ∈ vs, x.1 ≠ g) ∧ ∀ t ∈ ts, NdC w (fun b => w0.heap.size ≤ b ∧ b ∉ vs.map (·.1) ∧ b ≠ g) t.1 t.2
section
variable {w w1 w' w0 : World} {p cap nest : Nat} {A : Option Addr} {toks : List Tok} {s s2 : St} {v : Value} {vs : List (Nat × Array Value)} {ts : List (Nd × List Value)}
theorem Rw.lt (h : Rw w0 w p A cap toks nest s v vs ts) {g : Nat} (hg : v.ownBlock = some g) : w0.heap.size ≤ g ∧ g < w.heap.size := h.own.lt g hg
theorem Rw.start (h : Cx w0 w p A cap toks nest s vs []) : Rw w0 w p A cap toks nest s (.slice none 0 0) vs [] :=
  ⟨h, by simpa using World.ownsRow_nil w w0.heap.size 27 6, fun g hg => by simp [Value.ownBlock] at hg⟩
theorem Rw.call (h : Rw w0 w p A cap toks nest s v vs ts) (hf : Fr (fun b => b = p) w w') (ha : At w' p A cap toks nest s2) : Rw w0 w' p A cap toks nest s2 v vs ts :=
  ⟨h.cx.call hf ha, hf.owns h.own (fun b hb e => by have := (h.lt hb).1; have := h.cx.pos; omega), fun g hg => ⟨(h.ex g hg).1, fun t ht => ((h.ex g hg).2 t ht).kept hf (fun b hb e => by have := h.cx.pos; omega) (fun _ hb => hb)⟩⟩
theorem Rw.up (h : Rw w0 w p A cap toks nest s v vs ts) (hf : Up w w') : Rw w0 w' p A cap toks nest s v vs ts := h.call (Fr.mono hf (fun _ _ e => e.elim)) (h.cx.at_.up hf)
theorem Rw.set (h : Rw w0 w p A cap toks nest s v vs ts) (k : Nat) {q : Nat} {cs : Array Value} (hk : vs[k]? = some (q, cs)) (i : Nat) (u : Value) : Rw w0 (w.setCell ⟨q, i, none⟩ u) p A cap toks nest s v (vs.set k (q, cs.setIfInBounds i u)) ts := by
  have hm : (q, cs) ∈ vs := List.mem_of_getElem? hk
  have hf : Fr (fun b => b = q) w (w.setCell ⟨q, i, none⟩ u) := Tk.fr_set i u
  have hmap : ∀ x ∈ vs.set k (q, cs.setIfInBounds i u), ∃ y ∈ vs, y.1 = x.1 := fun x hx => by
    rcases List.mem_or_eq_of_mem_set hx with e | e
    · exact ⟨x, e, rfl⟩
    · exact ⟨_, hm, by rw [e]⟩
  have hmap2 : ∀ b, b ∈ (vs.set k (q, cs.setIfInBounds i u)).map (·.1) → b ∈ vs.map (·.1) := fun b hb => by
    obtain ⟨x, hx, rfl⟩ := List.mem_map.1 hb
    obtain ⟨y, hy, e⟩ := hmap x hx
    exact List.mem_map.2 ⟨y, hy, e⟩
  refine ⟨h.cx.set k hk i u, hf.owns h.own (fun b hb e => (h.ex b hb).1 _ hm (by rw [e])), fun g hg => ⟨fun x hx => ?_, fun t ht => ?_⟩⟩
  · obtain ⟨y, hy, e⟩ := hmap x hx
    rw [← e]; exact (h.ex g hg).1 y hy
  · exact ((h.ex g hg).2 t ht).kept hf (fun b hb e => hb.2.1 (List.mem_map.2 ⟨_, hm, by rw [e]⟩)) (fun b hb => ⟨hb.1, fun hm2 => hb.2.1 (hmap2 b hm2), hb.2.2⟩)
theorem Rw.slice (h : Rw w0 w p A cap toks nest s v vs ts) : ∃ B m c, v = .slice B m c := by
  rcases h.own.2 with ⟨e, _⟩ | ⟨g, cap', cur, e, _⟩
  · exact ⟨_, _, _, e⟩
  · exact ⟨_, _, _, e⟩
/-- One tree more. -/
theorem Rw.push (h : Rw w0 w p A cap toks nest s v vs ts) {n : Nat} (hn : ts.length = n) (h100 : n ≤ 100) (hf : Fr (fun b => b = p) w w1) (ha : At w1 p A cap toks nest s2) {t : Nd} {cs : Array Value} (ht : NdC w1 (fun b => w.heap.size ≤ b) t cs.toList) :
    ∃ g c w', (Builtin.append_ #[25, 25] 25 #[v, .slice (some ⟨w1.heap.size, 0, none⟩) 1 1]).run Tryd.prog (w1.alloc (.cells cs 27)) = .ok (.slice (some ⟨g, 0, none⟩) (n + 1) c) w' ∧
      Rw w0 w' p A cap toks nest s2 (.slice (some ⟨g, 0, none⟩) (n + 1) c) vs (ts ++ [(t, cs.toList)]) := by
  subst hn
  obtain ⟨i, z, hi, hz, h1, h2, h3⟩ := info_node
  have r1 := h.call hf ha
  have r2 := r1.up ((Fr.refl (fun _ => False) w1).alloc (.cells cs 27))
  obtain ⟨g, c, w', hrun, ho', hgr, hg⟩ := run_append_own2 (P := Tryd.prog) (w1.alloc (.cells cs 27)) w0.heap.size 25 25 27 i z 6 72 Tryd.underlying25 hi hz h1 h2 h3 (by decide) v ts.length _ r2.own ⟨w1.heap.size, 0, none⟩ 1 1 cs.toList
    (by simpa using ht.six) (by decide) (fun j u hj => cells_blk j u hj) ht.ones (by unfold maxLen; omega) (by omega) r2.cx.fr.size
  refine ⟨g, c, w', hrun, ?_⟩
  have hfr := Tk.fr_grown hgr
  -- the blocks that may turn are none of the nodes'
  have hnv : ∀ b, v.ownBlock = some b → b ∉ vs.map (·.1) := fun b hb hm => by
    obtain ⟨x, hx, e⟩ := List.mem_map.1 hm
    exact (h.ex b hb).1 x hx e
  have hgn : ∀ x ∈ vs, x.1 ≠ g := fun x hx e => by
    rcases hg with e2 | e2
    · exact (h.ex g e2).1 x hx e
    · have := r2.cx.lt hx; omega
  obtain ⟨_, _, _, _, h0⟩ := h.cx.ps0
  have hFr : Fr (fun b => b = p) w0 w' := Fr.trans r2.cx.fr hfr (fun b hb e => by have := (r2.lt e).1; omega)
  have hw1 : w1.heap.size < (w1.alloc (.cells cs 27)).heap.size := heap_lt (heap_alloc_new w1 _)
  have hold : ∀ x ∈ ts, NdC w' (fun b => w0.heap.size ≤ b ∧ b ∉ vs.map (·.1) ∧ b ≠ g) x.1 x.2 := fun x hx => by
    by_cases hv : ∃ b, v.ownBlock = some b
    · obtain ⟨b0, hb0⟩ := hv
      refine ((r2.ex b0 hb0).2 x hx).kept2 hfr (fun b hb hG e => hG.2.2 (by rw [hb0] at e; exact (Option.some.inj e).symm)) (fun b hb hG => ⟨hG.1, hG.2.1, fun e => ?_⟩)
      rcases hg with e2 | e2
      · rw [hb0] at e2; exact hG.2.2 (by rw [e]; exact (Option.some.inj e2).symm)
      · omega
    · refine (r2.cx.nd x hx).kept2 hfr (fun b _ _ e => hv ⟨b, e⟩) (fun b hb hG => ⟨hG.1, hG.2, fun e => ?_⟩)
      rcases hg with e2 | e2
      · exact hv ⟨g, e2⟩
      · omega
  have hnew : NdC w' (fun b => w0.heap.size ≤ b ∧ b ∉ vs.map (·.1) ∧ b ≠ g) t cs.toList := by
    have hup := ht.kept2 ((Fr.refl (fun _ => False) w1).alloc (.cells cs 27)) (G' := fun b => w.heap.size ≤ b ∧ b < w1.heap.size) (fun _ _ _ e => e) (fun b hb hG => ⟨hG, hb⟩)
    refine hup.kept2 hfr (fun b hb hG e => by have := (h.lt e).2; omega) (fun b hb hG => ⟨Nat.le_trans h.cx.fr.size hG.1, fun hm => ?_, fun e => ?_⟩)
    · obtain ⟨x, hx, e⟩ := List.mem_map.1 hm
      have := h.cx.lt hx; omega
    · rcases hg with e2 | e2
      · have := (h.lt e2).2; omega
      · omega
  have hall : ∀ x ∈ ts ++ [(t, cs.toList)], NdC w' (fun b => w0.heap.size ≤ b ∧ b ∉ vs.map (·.1) ∧ b ≠ g) x.1 x.2 := fun x hx => by
    rcases List.mem_append.1 hx with hx | hx
    · exact hold x hx
    · rw [List.mem_singleton.1 hx]; exact hnew
  refine ⟨⟨h.cx.ps0, r2.cx.at_.put h0 hFr (hfr.block p r2.cx.at_.lt (fun e => by have := (r2.lt e).1; have := h0.lt; omega)), hFr, fun x hx => ⟨(r2.cx.var x hx).1, (hfr.block x.1 (r2.cx.lt hx) (fun e => hnv _ e (List.mem_map.2 ⟨x, hx, rfl⟩))).trans (r2.cx.var x hx).2⟩, h.cx.inj, fun x hx => (hall x hx).kept (Fr.refl (fun _ => False) w') (fun _ _ e => e) (fun b hb => ⟨hb.1, hb.2.1⟩)⟩, ?_, fun g2 hg2 => ?_⟩
  · rw [List.length_append, List.map_append, List.flatten_append]
    simpa using ho'
  · have : g2 = g := by simpa [Value.ownBlock] using hg2.symm
    subst this
    exact ⟨hgn, hall⟩
/-- The row, as a node's kids. -/
theorem Rw.node (h : Rw w0 w p A cap toks nest s v vs ts) (kind : Nat) (nm : List UInt8) (n l c : Nat) : Cx w0 w p A cap toks nest s vs ((Nd.mk kind nm n l c (ts.map (·.1)), [.int .i64 kind, .string (bs nm), .int .i64 n, .int .i64 l, .int .i64 c, v]) :: ts) := by
  have h6 : ∀ c ∈ ts.map (·.2), c.length = 6 := fun c hc => by
    obtain ⟨x, hx, rfl⟩ := List.mem_map.1 hc
    exact (h.cx.nd x hx).six
  rcases h.own.2 with ⟨rfl, e⟩ | ⟨g, cap', cur, rfl, hb, hgb, hnc, hcm, hsz, htake⟩
  · have : ts = [] := List.eq_nil_of_length_eq_zero e
    subst this
    exact h.cx.know (NdC.leaf _ _ kind nm n l c)
  · have hk : KidsP w (fun b => w0.heap.size ≤ b ∧ b ∉ vs.map (·.1)) (some ⟨g, 0, none⟩) cap' (ts.map (·.1)) := by
      refine ⟨by simpa using hnc, by unfold maxLen at hcm; omega, fun _ => ⟨g, 0, rfl, ⟨hb, fun hm => ?_⟩, heap_lt hgb, fun j x hj => ?_⟩⟩
      · obtain ⟨y, hy, e⟩ := List.mem_map.1 hm
        exact (h.ex g rfl).1 y hy e
      · rw [List.getElem?_map] at hj
        obtain ⟨y, hy, rfl⟩ := Option.map_eq_some_iff.1 hj
        have hn := h.cx.nd y (List.mem_of_getElem? hy)
        refine ⟨y.2, hn, hn.six, fun i u hi => ?_⟩
        rw [cell_of_row _ _ _ _ _ _ hgb, ← Array.getElem?_toList, Nat.zero_add]
        have hflat := flat_at h6 (by rw [List.getElem?_map, hy]; rfl) hi
        rw [← htake, List.getElem?_take] at hflat
        split at hflat
        · exact hflat
        · cases hflat
    have := NdC.of hk kind nm n l c
    rw [List.length_map] at this
    exact h.cx.know this
end
set_option maxHeartbeats 8000000 in
theorem built_run {N : Nat} {kind : Nat} {ps : List Rule} {gs : List Nat} (hps : ps.length = gs.length) (hg2 : gs.length ≤ 2) (HG : ∀ (k : Nat) (r : Rule) (g : Nat), ps[k]? = some r → gs[k]? = some g → Runs (mrun N) r g ∧ (∀ (args : Array Value) (w : World), (callFunc g args).run Tryd.prog w = .ok (.enter g args) w) ∧ ∀ l, Pre r l)
    {w : World} {p : Nat} {A : Option Addr} {cap : Nat} {toks : List Tok} {d : Nat} {s s' : St} {t : Nd} (h : At w p A cap toks d s) (hd40 : d ≤ 40) (hk : (hd s.l).kind ≠ 0) {B : Option Addr} {n : Nat} (hn : gs.length = n) (hB : ∀ (k g : Nat), gs[k]? = some g → ∃ b, B = some ⟨b, 0, none⟩ ∧ b < w.heap.size ∧ b ≠ p ∧ w.cell? ⟨b, k, none⟩ = some (mv g p))
    (hm : mrun (N + 1) (.built kind ps) d s = some (t, s')) : Calls Tryd.prog 100 #[.pointer (some ⟨p, 0, none⟩), .int .i64 kind, .slice B n n] w fun e w' => Did w p A cap toks d t s' e w' := by
  obtain ⟨⟨⟩, s1, h1, hx⟩ := then_some (pass_some (peek_some (show mstep (mrun N) (.built kind ps) d s = some (t, s') from hm)))
  obtain ⟨t2, s2, h2, h3⟩ := then_some hx
  obtain ⟨⟨⟩, s3, h4, h5⟩ := then_some h3
  obtain ⟨rfl, rfl⟩ := ret_some h5
  have M1 := Lib.hid h1
  have M2 := Lib.hid h2
  have M4 := Lib.hid h4
  have D := Lib.hid hd40
  have K := Lib.hid hk
  have HGS := Lib.hid HG
  have HBS := Lib.hid hB
  have HN := Lib.hid (And.intro hps (And.intro hg2 hn))
  have hn2 : n ≤ 2 := by omega
  have n0 : (0 : Int) ≤ n := Int.natCast_nonneg n
  have C1 := Lib.hid ((Cx.start h).alloc z6)
  have U1 := Lib.hid ((Fr.refl (fun _ => False) w).alloc zeroNd)
  clear hm hx h3 h5 h1 h2 h4 hd40 hk HG hB hps hg2 hn h
  go_enter Tryd.func100, Tryd.ntmps100
  go_wp2_with fail
  change Calls _ _ _ (w.alloc zeroNd) _
  obtain ⟨q0, e0⟩ : ∃ q, q = w.heap.size := ⟨_, rfl⟩
  rw [← e0] at C1 ⊢
  clear e0
  generalize w.alloc zeroNd = w1 at *
  refine (pass_at C1.out.at_ K.out kind).mono ?_
  rintro e w2 ⟨rfl, a2, f2⟩
  have C2 := Lib.hid ((C1.out.call f2 a2).alloc #[.int .i64 kind, .string (bs []), .int .i64 0, .int .i64 (hd s.l).line, .int .i64 (hd s.l).col, .slice none 0 0])
  clear a2 f2 C1 U1
  simp only [ndA]
  go_wp2_with fail
  obtain ⟨q1, e1⟩ : ∃ q, q = w2.heap.size := ⟨_, rfl⟩
  rw [← e1] at C2 ⊢
  clear e1
  generalize (World.alloc w2 _) = w3 at *
  refine (want_at C2.out.at_ (by decide) M1.out).mono ?_
  rintro e w4 ⟨rfl, a4, f4⟩
  have R4 := Lib.hid (Rw.start (C2.out.call f4 a4))
  clear a4 f4 C2
  go_wp2_with fail
  go_loopw [17] (fun iv wr => ∃ (i : Nat) (v : Value) (ts : List (Nd × List Value)) (s5 : St) (m : Nat), iv = .int .i64 i ∧ i ≤ n ∧ Hid (Rw w wr p A cap toks d s5 v [(q1, #[.int .i64 kind, .string (bs []), .int .i64 0, .int .i64 (hd s.l).line, .int .i64 (hd s.l).col, v]), (q0, z6)] ts ∧ ts.length = i ∧ m ≤ N ∧ mrun m (.parts (i == 0) (ps.drop i) (ts.map (·.1))) d s5 = some (t2, s2))) (fun iv _ => n - ixOf iv)
  case atStart => exact ⟨0, _, [], s1, N, rfl, Nat.zero_le _, Lib.hid ⟨R4.out, rfl, Nat.le_refl _, M2.out⟩⟩
  case round =>
    obtain ⟨i, v, ts, s5, m, rfl, hin, hq⟩ := hrel
    clear R4
    have i0 : (0 : Int) ≤ i := Int.natCast_nonneg i
    obtain ⟨k, hk⟩ : ∃ k, m = k + 1 := by
      cases m with
      | zero => exact absurd hq.out.2.2.2 (by simp [mrun])
      | succ k => exact ⟨k, rfl⟩
    subst hk
    have hx := show mstep (mrun k) (.parts (i == 0) (ps.drop i) (ts.map (·.1))) d s5 = some (t2, s2) from hq.out.2.2.2
    by_cases hlt : i < n
    · have d1 : decide ((i : Int) < (n : Int)) = true := decide_eq_true (by omega)
      have l1 : (i : Int) < (n : Int) := by omega
      have hgl : i < gs.length := by have := HN.out.2.2; omega
      have hpl : i < ps.length := by have := HN.out.1; omega
      obtain ⟨hr, hE, hpre⟩ := HGS.out i _ _ (List.getElem?_eq_getElem hpl) (List.getElem?_eq_getElem hgl)
      obtain ⟨b, rfl, hbl, hbp, hbc⟩ := HBS.out i _ (List.getElem?_eq_getElem hgl)
      have cb := (hq.out.1.cx.fr.cell (p := ⟨b, i, none⟩) hbl hbp).trans hbc
      rw [List.drop_eq_getElem_cons hpl] at hx
      generalize gs[i] = g at *
      generalize ps[i] = r at *
      obtain ⟨⟨⟩, s6, h6, h7⟩ := then_some (peek_some hx)
      obtain ⟨t7, s7, h8, h9⟩ := then_some h7
      have M6 := Lib.hid h6
      have M8 := Lib.hid (mrun_up (Nat.le_of_succ_le hq.out.2.2.1) h8)
      have M9 := Lib.hid h9
      have HR := Lib.hid hr
      have HP := Lib.hid hpre
      have WI := Lib.hid (show wrap64 ((i : Int) + 1) = ((i + 1 : Nat) : Int) by unfold wrap64; omega)
      have HI := Lib.hid (And.intro hlt hn2)
      clear hx h6 h7 h8 h9 hr hpre hbl hbp hbc hgl hpl
      by_cases hz : i = 0
      · have g0 : decide ((0 : Int) < (i : Int)) = false := decide_eq_false (by omega)
        have g1 : ¬ (0 : Int) < (i : Int) := by omega
        have e6 : s6 = s5 := (ret_some (show M.ret () s5 = some ((), s6) by have := M6.out; rwa [show (if (i == 0) = true then M.ret () else M.want [44]) = M.ret () by rw [if_pos (by simpa using hz)]] at this)).2
        subst e6
        have RQ := Lib.hid hq.out.1
        clear hz
        go_upto_region 8 with fail
        have RD := Lib.hid (RQ.out.up (Fr.drew (Fr.refl (fun _ => False) wr)))
        refine wp_region_held_drew (S := fun _ => True) (by kernel_rfl) (by trivial) (fun hHeld => ?_)
        generalize wr.drew = wd at *
        refine held_take (i := 0) (d := some 26) (v := ?_) rfl rfl (by kernel_rfl) (by kernel_rfl) (by kernel_rfl) (fun _ _ _ h => h) (by rfl) ?_ (by assumption) ?_
        rotate_left 1
        focus (intro w hSw; (try dsimp only at hSw); go_simp; first | done | with_reducible rfl)
        simp only [Act.put, List.setIfInBounds_toArray, List.set_cons_zero, List.set_cons_succ]
        refine held_take (i := 2) (d := some 28) (v := ?_) rfl rfl (by kernel_rfl) (by kernel_rfl) (by kernel_rfl) (fun _ _ _ h => h) (by rfl) ?_ (by assumption) ?_
        rotate_left 1
        focus (intro w hSw; (try dsimp only at hSw); go_simp; first | done | with_reducible rfl)
        simp only [Act.put, List.setIfInBounds_toArray, List.set_cons_zero, List.set_cons_succ]
        refine wpAnyH_ready (rs := [1, 3]) (by kernel_rfl) (by simp) ?_
        refine (AllReadyH.cons (o := _) rfl (fun K hK => ?_) (AllReadyH.cons (o := _) rfl (fun K hK => ?_) AllReadyH.nil))
        · skip
          obtain ⟨x0, x1, x2, x3, x4, x5⟩ := cells6 (RD.out.cx.cells 0 rfl)
          obtain ⟨y0, y1, y2, y3, y4, y5⟩ := frozen6 (RD.out.cx.cells 0 rfl)
          go_simp
          clear x0 x1 x2 x3 x4 x5 y0 y1 y2 y3 y4 y5
          refine hK.out _ _ (by trivial) (fun hHeld => ?_)
          clear hK K
          refine wpAnyH_ready (rs := [3]) (by kernel_rfl) (by simp) ?_
          refine (AllReadyH.cons (o := _) rfl (fun K hK => ?_) AllReadyH.nil)
          go_simp
          refine (HR.out _ p A cap toks d _ _ _ RD.out.cx.at_ D.out (HP.out _) M8.out).mono ?_
          rintro e w7 ⟨cs, rfl, nd, f7, a7⟩
          obtain ⟨k7, m7, n7, l7, c7, ks7⟩ := t7
          obtain ⟨A7, cc7, rfl, -⟩ := nd.row
          obtain ⟨g8, c8, w8, hrun, rw8⟩ := RD.out.push (cs := n6 k7 m7 n7 l7 c7 (.slice A7 ks7.length cc7)) hq.out.2.1 (by have := HI.out; omega) f7 a7 nd
          have HA := Lib.hid hrun
          have R8 := Lib.hid rw8
          have R7 := Lib.hid (RD.out.call f7 a7)
          have R7a := Lib.hid (R7.out.cx.more (.cells (n6 k7 m7 n7 l7 c7 (.slice A7 ks7.length cc7)) 27))
          clear hrun rw8 nd f7 a7
          go_simp
          refine hK.out _ _ (by trivial) (fun hHeld => ?_)
          clear hK K
          refine wpAnyH_ready (rs := [4]) (by kernel_rfl) (by simp) ?_
          refine (AllReadyH.cons (o := _) rfl (fun K hK => ?_) AllReadyH.nil)
          go_simp
          refine hK.out _ _ (by trivial) (fun hHeld => ?_)
          clear hK K
          refine wpAnyH_ready (rs := [5]) (by kernel_rfl) (by simp) ?_
          refine (AllReadyH.cons (o := _) rfl (fun K hK => ?_) AllReadyH.nil)
          refine step_append_run rfl (.tmp 27) (.tmp 30) 25 rfl rfl rfl HA.out ?_
          go_simp
          refine hK.out _ _ (by trivial) (fun hHeld => ?_)
          clear hK K
          refine held_take (i := 6) (d := some 32) (v := ?_) rfl rfl (by kernel_rfl) (by kernel_rfl) (by kernel_rfl) (fun _ _ _ h => h) (by rfl) ?_ (by assumption) ?_
          rotate_left 1
          focus (intro w hSw; (try dsimp only at hSw); go_simp; first | done | with_reducible rfl)
          simp only [Act.put, List.setIfInBounds_toArray, List.set_cons_zero, List.set_cons_succ]
          refine wpAnyH_ready (rs := [7]) (by kernel_rfl) (by simp) ?_
          refine (AllReadyH.cons (o := _) rfl (fun K hK => ?_) AllReadyH.nil)
          obtain ⟨x0, x1, x2, x3, x4, x5⟩ := cells6 (R8.out.cx.cells 0 rfl)
          obtain ⟨y0, y1, y2, y3, y4, y5⟩ := frozen6 (R8.out.cx.cells 0 rfl)
          go_simp
          clear x0 x1 x2 x3 x4 x5 y0 y1 y2 y3 y4 y5
          refine hK.out _ _ (by trivial) (fun hHeld => ?_)
          clear hK K
          refine wpAnyH_done (by kernel_rfl) ?_ _
          clear hHeld HA
          have R9 := Lib.hid (R8.out.set 0 rfl 5 (.slice (some ⟨g8, 0, none⟩) (i + 1) c8))
          clear R8 R7 R7a RD
          generalize (World.setCell w8 _ _) = w9 at *
          go_wp2_with fail
          exact ⟨⟨i + 1, _, _, s7, k, by push_cast; rfl, by have := HI.out; omega, Lib.hid ⟨R9.out, by simp [hq.out.2.1], Nat.le_of_succ_le hq.out.2.2.1, by have := M9.out; rw [List.map_append]; exact this⟩⟩, by have := HI.out.1; have e9 : ixOf (.int .i64 ((i : Int) + 1)) = i + 1 := (by show ((i : Int) + 1).toNat = i + 1; omega); have e8 : ixOf (.int .i64 (i : Int)) = i := (by show ((i : Int)).toNat = i; omega); rw [e9, e8]; omega⟩
        · skip
          go_simp
          refine (HR.out _ p A cap toks d _ _ _ RD.out.cx.at_ D.out (HP.out _) M8.out).mono ?_
          rintro e w7 ⟨cs, rfl, nd, f7, a7⟩
          obtain ⟨k7, m7, n7, l7, c7, ks7⟩ := t7
          obtain ⟨A7, cc7, rfl, -⟩ := nd.row
          obtain ⟨g8, c8, w8, hrun, rw8⟩ := RD.out.push (cs := n6 k7 m7 n7 l7 c7 (.slice A7 ks7.length cc7)) hq.out.2.1 (by have := HI.out; omega) f7 a7 nd
          have HA := Lib.hid hrun
          have R8 := Lib.hid rw8
          have R7 := Lib.hid (RD.out.call f7 a7)
          have R7a := Lib.hid (R7.out.cx.more (.cells (n6 k7 m7 n7 l7 c7 (.slice A7 ks7.length cc7)) 27))
          clear hrun rw8 nd f7 a7
          go_simp
          refine hK.out _ _ (by trivial) (fun hHeld => ?_)
          clear hK K
          refine wpAnyH_ready (rs := [1, 4]) (by kernel_rfl) (by simp) ?_
          refine (AllReadyH.cons (o := _) rfl (fun K hK => ?_) (AllReadyH.cons (o := _) rfl (fun K hK => ?_) AllReadyH.nil))
          · skip
            obtain ⟨x0, x1, x2, x3, x4, x5⟩ := cells6 (R7.out.cx.cells 0 rfl)
            obtain ⟨y0, y1, y2, y3, y4, y5⟩ := frozen6 (R7.out.cx.cells 0 rfl)
            go_simp
            clear x0 x1 x2 x3 x4 x5 y0 y1 y2 y3 y4 y5
            refine hK.out _ _ (by trivial) (fun hHeld => ?_)
            clear hK K
            refine wpAnyH_ready (rs := [4]) (by kernel_rfl) (by simp) ?_
            refine (AllReadyH.cons (o := _) rfl (fun K hK => ?_) AllReadyH.nil)
            go_simp
            refine hK.out _ _ (by trivial) (fun hHeld => ?_)
            clear hK K
            refine wpAnyH_ready (rs := [5]) (by kernel_rfl) (by simp) ?_
            refine (AllReadyH.cons (o := _) rfl (fun K hK => ?_) AllReadyH.nil)
            refine step_append_run rfl (.tmp 27) (.tmp 30) 25 rfl rfl rfl HA.out ?_
            go_simp
            refine hK.out _ _ (by trivial) (fun hHeld => ?_)
            clear hK K
            refine held_take (i := 6) (d := some 32) (v := ?_) rfl rfl (by kernel_rfl) (by kernel_rfl) (by kernel_rfl) (fun _ _ _ h => h) (by rfl) ?_ (by assumption) ?_
            rotate_left 1
            focus (intro w hSw; (try dsimp only at hSw); go_simp; first | done | with_reducible rfl)
            simp only [Act.put, List.setIfInBounds_toArray, List.set_cons_zero, List.set_cons_succ]
            refine wpAnyH_ready (rs := [7]) (by kernel_rfl) (by simp) ?_
            refine (AllReadyH.cons (o := _) rfl (fun K hK => ?_) AllReadyH.nil)
            obtain ⟨x0, x1, x2, x3, x4, x5⟩ := cells6 (R8.out.cx.cells 0 rfl)
            obtain ⟨y0, y1, y2, y3, y4, y5⟩ := frozen6 (R8.out.cx.cells 0 rfl)
            go_simp
            clear x0 x1 x2 x3 x4 x5 y0 y1 y2 y3 y4 y5
            refine hK.out _ _ (by trivial) (fun hHeld => ?_)
            clear hK K
            refine wpAnyH_done (by kernel_rfl) ?_ _
            clear hHeld HA
            have R9 := Lib.hid (R8.out.set 0 rfl 5 (.slice (some ⟨g8, 0, none⟩) (i + 1) c8))
            clear R8 R7 R7a RD
            generalize (World.setCell w8 _ _) = w9 at *
            go_wp2_with fail
            exact ⟨⟨i + 1, _, _, s7, k, by push_cast; rfl, by have := HI.out; omega, Lib.hid ⟨R9.out, by simp [hq.out.2.1], Nat.le_of_succ_le hq.out.2.2.1, by have := M9.out; rw [List.map_append]; exact this⟩⟩, by have := HI.out.1; have e9 : ixOf (.int .i64 ((i : Int) + 1)) = i + 1 := (by show ((i : Int) + 1).toNat = i + 1; omega); have e8 : ixOf (.int .i64 (i : Int)) = i := (by show ((i : Int)).toNat = i; omega); rw [e9, e8]; omega⟩
          · skip
            go_simp
            refine hK.out _ _ (by trivial) (fun hHeld => ?_)
            clear hK K
            refine wpAnyH_ready (rs := [1]) (by kernel_rfl) (by simp) ?_
            refine (AllReadyH.cons (o := _) rfl (fun K hK => ?_) AllReadyH.nil)
            obtain ⟨x0, x1, x2, x3, x4, x5⟩ := cells6 (R7a.out.cells 0 rfl)
            obtain ⟨y0, y1, y2, y3, y4, y5⟩ := frozen6 (R7a.out.cells 0 rfl)
            go_simp
            clear x0 x1 x2 x3 x4 x5 y0 y1 y2 y3 y4 y5
            refine hK.out _ _ (by trivial) (fun hHeld => ?_)
            clear hK K
            refine wpAnyH_ready (rs := [5]) (by kernel_rfl) (by simp) ?_
            refine (AllReadyH.cons (o := _) rfl (fun K hK => ?_) AllReadyH.nil)
            refine step_append_run rfl (.tmp 27) (.tmp 30) 25 rfl rfl rfl HA.out ?_
            go_simp
            refine hK.out _ _ (by trivial) (fun hHeld => ?_)
            clear hK K
            refine held_take (i := 6) (d := some 32) (v := ?_) rfl rfl (by kernel_rfl) (by kernel_rfl) (by kernel_rfl) (fun _ _ _ h => h) (by rfl) ?_ (by assumption) ?_
            rotate_left 1
            focus (intro w hSw; (try dsimp only at hSw); go_simp; first | done | with_reducible rfl)
            simp only [Act.put, List.setIfInBounds_toArray, List.set_cons_zero, List.set_cons_succ]
            refine wpAnyH_ready (rs := [7]) (by kernel_rfl) (by simp) ?_
            refine (AllReadyH.cons (o := _) rfl (fun K hK => ?_) AllReadyH.nil)
            obtain ⟨x0, x1, x2, x3, x4, x5⟩ := cells6 (R8.out.cx.cells 0 rfl)
            obtain ⟨y0, y1, y2, y3, y4, y5⟩ := frozen6 (R8.out.cx.cells 0 rfl)
            go_simp
            clear x0 x1 x2 x3 x4 x5 y0 y1 y2 y3 y4 y5
            refine hK.out _ _ (by trivial) (fun hHeld => ?_)
            clear hK K
            refine wpAnyH_done (by kernel_rfl) ?_ _
            clear hHeld HA
            have R9 := Lib.hid (R8.out.set 0 rfl 5 (.slice (some ⟨g8, 0, none⟩) (i + 1) c8))
            clear R8 R7 R7a RD
            generalize (World.setCell w8 _ _) = w9 at *
            go_wp2_with fail
            exact ⟨⟨i + 1, _, _, s7, k, by push_cast; rfl, by have := HI.out; omega, Lib.hid ⟨R9.out, by simp [hq.out.2.1], Nat.le_of_succ_le hq.out.2.2.1, by have := M9.out; rw [List.map_append]; exact this⟩⟩, by have := HI.out.1; have e9 : ixOf (.int .i64 ((i : Int) + 1)) = i + 1 := (by show ((i : Int) + 1).toNat = i + 1; omega); have e8 : ixOf (.int .i64 (i : Int)) = i := (by show ((i : Int)).toNat = i; omega); rw [e9, e8]; omega⟩
      · have g0 : decide ((0 : Int) < (i : Int)) = true := decide_eq_true (by omega)
        have g1 : (0 : Int) < (i : Int) := by omega
        have M6b := Lib.hid (show M.want [44] s5 = some ((), s6) by have := M6.out; rwa [show (if (i == 0) = true then M.ret () else M.want [44]) = M.want [44] by rw [if_neg (by simpa using hz)]] at this)
        clear hz
        go_wp2_with fail
        refine (want_at hq.out.1.cx.at_ (by decide) M6b.out).mono ?_
        rintro e w6 ⟨rfl, a6, f6⟩
        have RQ := Lib.hid (hq.out.1.call f6 a6)
        clear a6 f6
        go_upto_region 8 with fail
        have RD := Lib.hid (RQ.out.up (Fr.drew (Fr.refl (fun _ => False) w6)))
        refine wp_region_held_drew (S := fun _ => True) (by kernel_rfl) (by trivial) (fun hHeld => ?_)
        generalize w6.drew = wd at *
        refine held_take (i := 0) (d := some 26) (v := ?_) rfl rfl (by kernel_rfl) (by kernel_rfl) (by kernel_rfl) (fun _ _ _ h => h) (by rfl) ?_ (by assumption) ?_
        rotate_left 1
        focus (intro w hSw; (try dsimp only at hSw); go_simp; first | done | with_reducible rfl)
        simp only [Act.put, List.setIfInBounds_toArray, List.set_cons_zero, List.set_cons_succ]
        refine held_take (i := 2) (d := some 28) (v := ?_) rfl rfl (by kernel_rfl) (by kernel_rfl) (by kernel_rfl) (fun _ _ _ h => h) (by rfl) ?_ (by assumption) ?_
        rotate_left 1
        focus (intro w hSw; (try dsimp only at hSw); go_simp; first | done | with_reducible rfl)
        simp only [Act.put, List.setIfInBounds_toArray, List.set_cons_zero, List.set_cons_succ]
        refine wpAnyH_ready (rs := [1, 3]) (by kernel_rfl) (by simp) ?_
        refine (AllReadyH.cons (o := _) rfl (fun K hK => ?_) (AllReadyH.cons (o := _) rfl (fun K hK => ?_) AllReadyH.nil))
        · skip
          obtain ⟨x0, x1, x2, x3, x4, x5⟩ := cells6 (RD.out.cx.cells 0 rfl)
          obtain ⟨y0, y1, y2, y3, y4, y5⟩ := frozen6 (RD.out.cx.cells 0 rfl)
          go_simp
          clear x0 x1 x2 x3 x4 x5 y0 y1 y2 y3 y4 y5
          refine hK.out _ _ (by trivial) (fun hHeld => ?_)
          clear hK K
          refine wpAnyH_ready (rs := [3]) (by kernel_rfl) (by simp) ?_
          refine (AllReadyH.cons (o := _) rfl (fun K hK => ?_) AllReadyH.nil)
          go_simp
          refine (HR.out _ p A cap toks d _ _ _ RD.out.cx.at_ D.out (HP.out _) M8.out).mono ?_
          rintro e w7 ⟨cs, rfl, nd, f7, a7⟩
          obtain ⟨k7, m7, n7, l7, c7, ks7⟩ := t7
          obtain ⟨A7, cc7, rfl, -⟩ := nd.row
          obtain ⟨g8, c8, w8, hrun, rw8⟩ := RD.out.push (cs := n6 k7 m7 n7 l7 c7 (.slice A7 ks7.length cc7)) hq.out.2.1 (by have := HI.out; omega) f7 a7 nd
          have HA := Lib.hid hrun
          have R8 := Lib.hid rw8
          have R7 := Lib.hid (RD.out.call f7 a7)
          have R7a := Lib.hid (R7.out.cx.more (.cells (n6 k7 m7 n7 l7 c7 (.slice A7 ks7.length cc7)) 27))
          clear hrun rw8 nd f7 a7
          go_simp
          refine hK.out _ _ (by trivial) (fun hHeld => ?_)
          clear hK K
          refine wpAnyH_ready (rs := [4]) (by kernel_rfl) (by simp) ?_
          refine (AllReadyH.cons (o := _) rfl (fun K hK => ?_) AllReadyH.nil)
          go_simp
          refine hK.out _ _ (by trivial) (fun hHeld => ?_)
          clear hK K
          refine wpAnyH_ready (rs := [5]) (by kernel_rfl) (by simp) ?_
          refine (AllReadyH.cons (o := _) rfl (fun K hK => ?_) AllReadyH.nil)
          refine step_append_run rfl (.tmp 27) (.tmp 30) 25 rfl rfl rfl HA.out ?_
          go_simp
          refine hK.out _ _ (by trivial) (fun hHeld => ?_)
          clear hK K
          refine held_take (i := 6) (d := some 32) (v := ?_) rfl rfl (by kernel_rfl) (by kernel_rfl) (by kernel_rfl) (fun _ _ _ h => h) (by rfl) ?_ (by assumption) ?_
          rotate_left 1
          focus (intro w hSw; (try dsimp only at hSw); go_simp; first | done | with_reducible rfl)
          simp only [Act.put, List.setIfInBounds_toArray, List.set_cons_zero, List.set_cons_succ]
          refine wpAnyH_ready (rs := [7]) (by kernel_rfl) (by simp) ?_
          refine (AllReadyH.cons (o := _) rfl (fun K hK => ?_) AllReadyH.nil)
          obtain ⟨x0, x1, x2, x3, x4, x5⟩ := cells6 (R8.out.cx.cells 0 rfl)
          obtain ⟨y0, y1, y2, y3, y4, y5⟩ := frozen6 (R8.out.cx.cells 0 rfl)
          go_simp
          clear x0 x1 x2 x3 x4 x5 y0 y1 y2 y3 y4 y5
          refine hK.out _ _ (by trivial) (fun hHeld => ?_)
          clear hK K
          refine wpAnyH_done (by kernel_rfl) ?_ _
          clear hHeld HA
          have R9 := Lib.hid (R8.out.set 0 rfl 5 (.slice (some ⟨g8, 0, none⟩) (i + 1) c8))
          clear R8 R7 R7a RD
          generalize (World.setCell w8 _ _) = w9 at *
          go_wp2_with fail
          exact ⟨⟨i + 1, _, _, s7, k, by push_cast; rfl, by have := HI.out; omega, Lib.hid ⟨R9.out, by simp [hq.out.2.1], Nat.le_of_succ_le hq.out.2.2.1, by have := M9.out; rw [List.map_append]; exact this⟩⟩, by have := HI.out.1; have e9 : ixOf (.int .i64 ((i : Int) + 1)) = i + 1 := (by show ((i : Int) + 1).toNat = i + 1; omega); have e8 : ixOf (.int .i64 (i : Int)) = i := (by show ((i : Int)).toNat = i; omega); rw [e9, e8]; omega⟩
        · skip
          go_simp
          refine (HR.out _ p A cap toks d _ _ _ RD.out.cx.at_ D.out (HP.out _) M8.out).mono ?_
          rintro e w7 ⟨cs, rfl, nd, f7, a7⟩
          obtain ⟨k7, m7, n7, l7, c7, ks7⟩ := t7
          obtain ⟨A7, cc7, rfl, -⟩ := nd.row
          obtain ⟨g8, c8, w8, hrun, rw8⟩ := RD.out.push (cs := n6 k7 m7 n7 l7 c7 (.slice A7 ks7.length cc7)) hq.out.2.1 (by have := HI.out; omega) f7 a7 nd
          have HA := Lib.hid hrun
          have R8 := Lib.hid rw8
          have R7 := Lib.hid (RD.out.call f7 a7)
          have R7a := Lib.hid (R7.out.cx.more (.cells (n6 k7 m7 n7 l7 c7 (.slice A7 ks7.length cc7)) 27))
          clear hrun rw8 nd f7 a7
          go_simp
          refine hK.out _ _ (by trivial) (fun hHeld => ?_)
          clear hK K
          refine wpAnyH_ready (rs := [1, 4]) (by kernel_rfl) (by simp) ?_
          refine (AllReadyH.cons (o := _) rfl (fun K hK => ?_) (AllReadyH.cons (o := _) rfl (fun K hK => ?_) AllReadyH.nil))
          · skip
            obtain ⟨x0, x1, x2, x3, x4, x5⟩ := cells6 (R7.out.cx.cells 0 rfl)
            obtain ⟨y0, y1, y2, y3, y4, y5⟩ := frozen6 (R7.out.cx.cells 0 rfl)
            go_simp
            clear x0 x1 x2 x3 x4 x5 y0 y1 y2 y3 y4 y5
            refine hK.out _ _ (by trivial) (fun hHeld => ?_)
            clear hK K
            refine wpAnyH_ready (rs := [4]) (by kernel_rfl) (by simp) ?_
            refine (AllReadyH.cons (o := _) rfl (fun K hK => ?_) AllReadyH.nil)
            go_simp
            refine hK.out _ _ (by trivial) (fun hHeld => ?_)
            clear hK K
            refine wpAnyH_ready (rs := [5]) (by kernel_rfl) (by simp) ?_
            refine (AllReadyH.cons (o := _) rfl (fun K hK => ?_) AllReadyH.nil)
            refine step_append_run rfl (.tmp 27) (.tmp 30) 25 rfl rfl rfl HA.out ?_
            go_simp
            refine hK.out _ _ (by trivial) (fun hHeld => ?_)
            clear hK K
            refine held_take (i := 6) (d := some 32) (v := ?_) rfl rfl (by kernel_rfl) (by kernel_rfl) (by kernel_rfl) (fun _ _ _ h => h) (by rfl) ?_ (by assumption) ?_
            rotate_left 1
            focus (intro w hSw; (try dsimp only at hSw); go_simp; first | done | with_reducible rfl)
            simp only [Act.put, List.setIfInBounds_toArray, List.set_cons_zero, List.set_cons_succ]
            refine wpAnyH_ready (rs := [7]) (by kernel_rfl) (by simp) ?_
            refine (AllReadyH.cons (o := _) rfl (fun K hK => ?_) AllReadyH.nil)
            obtain ⟨x0, x1, x2, x3, x4, x5⟩ := cells6 (R8.out.cx.cells 0 rfl)
            obtain ⟨y0, y1, y2, y3, y4, y5⟩ := frozen6 (R8.out.cx.cells 0 rfl)
            go_simp
            clear x0 x1 x2 x3 x4 x5 y0 y1 y2 y3 y4 y5
            refine hK.out _ _ (by trivial) (fun hHeld => ?_)
            clear hK K
            refine wpAnyH_done (by kernel_rfl) ?_ _
            clear hHeld HA
            have R9 := Lib.hid (R8.out.set 0 rfl 5 (.slice (some ⟨g8, 0, none⟩) (i + 1) c8))
            clear R8 R7 R7a RD
            generalize (World.setCell w8 _ _) = w9 at *
            go_wp2_with fail
            exact ⟨⟨i + 1, _, _, s7, k, by push_cast; rfl, by have := HI.out; omega, Lib.hid ⟨R9.out, by simp [hq.out.2.1], Nat.le_of_succ_le hq.out.2.2.1, by have := M9.out; rw [List.map_append]; exact this⟩⟩, by have := HI.out.1; have e9 : ixOf (.int .i64 ((i : Int) + 1)) = i + 1 := (by show ((i : Int) + 1).toNat = i + 1; omega); have e8 : ixOf (.int .i64 (i : Int)) = i := (by show ((i : Int)).toNat = i; omega); rw [e9, e8]; omega⟩
          · skip
            go_simp
            refine hK.out _ _ (by trivial) (fun hHeld => ?_)
            clear hK K
            refine wpAnyH_ready (rs := [1]) (by kernel_rfl) (by simp) ?_
            refine (AllReadyH.cons (o := _) rfl (fun K hK => ?_) AllReadyH.nil)
            obtain ⟨x0, x1, x2, x3, x4, x5⟩ := cells6 (R7a.out.cells 0 rfl)
            obtain ⟨y0, y1, y2, y3, y4, y5⟩ := frozen6 (R7a.out.cells 0 rfl)
            go_simp
            clear x0 x1 x2 x3 x4 x5 y0 y1 y2 y3 y4 y5
            refine hK.out _ _ (by trivial) (fun hHeld => ?_)
            clear hK K
            refine wpAnyH_ready (rs := [5]) (by kernel_rfl) (by simp) ?_
            refine (AllReadyH.cons (o := _) rfl (fun K hK => ?_) AllReadyH.nil)
            refine step_append_run rfl (.tmp 27) (.tmp 30) 25 rfl rfl rfl HA.out ?_
            go_simp
            refine hK.out _ _ (by trivial) (fun hHeld => ?_)
            clear hK K
            refine held_take (i := 6) (d := some 32) (v := ?_) rfl rfl (by kernel_rfl) (by kernel_rfl) (by kernel_rfl) (fun _ _ _ h => h) (by rfl) ?_ (by assumption) ?_
            rotate_left 1
            focus (intro w hSw; (try dsimp only at hSw); go_simp; first | done | with_reducible rfl)
            simp only [Act.put, List.setIfInBounds_toArray, List.set_cons_zero, List.set_cons_succ]
            refine wpAnyH_ready (rs := [7]) (by kernel_rfl) (by simp) ?_
            refine (AllReadyH.cons (o := _) rfl (fun K hK => ?_) AllReadyH.nil)
            obtain ⟨x0, x1, x2, x3, x4, x5⟩ := cells6 (R8.out.cx.cells 0 rfl)
            obtain ⟨y0, y1, y2, y3, y4, y5⟩ := frozen6 (R8.out.cx.cells 0 rfl)
            go_simp
            clear x0 x1 x2 x3 x4 x5 y0 y1 y2 y3 y4 y5
            refine hK.out _ _ (by trivial) (fun hHeld => ?_)
            clear hK K
            refine wpAnyH_done (by kernel_rfl) ?_ _
            clear hHeld HA
            have R9 := Lib.hid (R8.out.set 0 rfl 5 (.slice (some ⟨g8, 0, none⟩) (i + 1) c8))
            clear R8 R7 R7a RD
            generalize (World.setCell w8 _ _) = w9 at *
            go_wp2_with fail
            exact ⟨⟨i + 1, _, _, s7, k, by push_cast; rfl, by have := HI.out; omega, Lib.hid ⟨R9.out, by simp [hq.out.2.1], Nat.le_of_succ_le hq.out.2.2.1, by have := M9.out; rw [List.map_append]; exact this⟩⟩, by have := HI.out.1; have e9 : ixOf (.int .i64 ((i : Int) + 1)) = i + 1 := (by show ((i : Int) + 1).toNat = i + 1; omega); have e8 : ixOf (.int .i64 (i : Int)) = i := (by show ((i : Int)).toNat = i; omega); rw [e9, e8]; omega⟩
    · have d1 : decide ((i : Int) < (n : Int)) = false := decide_eq_false (by omega)
      have l1 : ¬ (i : Int) < (n : Int) := by omega
      have hdr : ps.drop i = [] := List.drop_eq_nil_of_le (by have := HN.out; omega)
      rw [hdr] at hx
      obtain ⟨rfl, rfl⟩ := ret_some (show M.ret (lst (ts.map (·.1))) s5 = some (t2, s2) from hx)
      obtain ⟨vB, vm, vc, rfl⟩ := hq.out.1.slice
      have RQ := Lib.hid hq.out.1
      clear hx hdr hlt hq
      go_wp2_with fail
      refine (want_at RQ.out.cx.at_ (by decide) M4.out).mono ?_
      rintro e w6 ⟨rfl, a6, f6⟩
      have C7 := Lib.hid ((RQ.out.call f6 a6).node kind [] 0 (hd s.l).line (hd s.l).col)
      clear a6 f6 RQ
      obtain ⟨x0, x1, x2, x3, x4, x5⟩ := cells6 (C7.out.cells 0 rfl)
      obtain ⟨r0, r1, r2, r3, r4, r5⟩ := cells6 (C7.out.cells 1 rfl)
      obtain ⟨y0, y1, y2, y3, y4, y5⟩ := frozen6 (C7.out.cells 1 rfl)
      have y6 := frozen6 (C7.out.cells 0 rfl)
      have hne : q1 ≠ q0 := C7.out.differ 0 1 (by decide) rfl rfl
      have hne2 : q0 ≠ q1 := fun e => hne e.symm
      go_wp2_with fail
      obtain ⟨b7, d7⟩ := C7.out.fin 1 rfl List.mem_cons_self
      exact bodyPost_ret (res_nodec (x := 6) (q := q0) (by kernel_rfl) rfl b7 rfl) rfl d7
end Go.Proofs.YtemmdbjcllcelaaDoor.Pa
