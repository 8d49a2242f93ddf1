/-
  KindsSame: the walk.
-/
import Derived.Test.YtjlljfeledapaaaDoorKSameA
import Derived.Test.YtjlljfeledapaaaDoorTypesW
import Derived.Deep.RegionHeld3
import Derived.Test.YtjlljfeledapaaaDoorHeld
namespace Go.Proofs.YtjlljfeledapaaaDoor
open Go.RowKit

set_option maxRecDepth 20000 in
set_option maxHeartbeats 8000000 in
theorem kindssame_any {w : World} {x y : Typ} {Af Am Af' Am' : Option Addr} {cf cm cf' cm' : Nat} (hf : FldsP w (fun _ => True) Af cf x.fields) (hm : MthsP w (fun _ => True) Am cm x.methods) (hf' : FldsP w (fun _ => True) Af' cf' y.fields) (hm' : MthsP w (fun _ => True) Am' cm' y.methods)
    {A : Option Addr} {c : Nat} {rs : List RawV} (hr : RawsP w (fun _ => True) A c rs) (hn : Names w) (i k : Int) (near : Bool) :
    Calls Tryd.prog 3 #[.agg #[.int .i64 x.kind, .string x.name, .int .i64 x.elem, .slice Af x.fields.length cf, .slice Am x.methods.length cm], .agg #[.int .i64 y.kind, .string y.name, .int .i64 y.elem, .slice Af' y.fields.length cf', .slice Am' y.methods.length cm'], .slice A rs.length c, .int .i64 i, .int .i64 k, .bool near] w
      fun e w' => Up w w' ∧ e = .returned (.bool true) := by
  have H0 : Hid (Two w ((w.alloc (.cells #[.int .i64 x.kind, .string x.name, .int .i64 x.elem, .slice Af x.fields.length cf, .slice Am x.methods.length cm] 25)).alloc (.cells #[.int .i64 y.kind, .string y.name, .int .i64 y.elem, .slice Af' y.fields.length cf', .slice Am' y.methods.length cm'] 25)) w.heap.size (w.heap.size + 1) x y Af Am Af' Am' cf cm cf' cm') := Lib.hid (Two.start hf hm hf' hm')
  have R := Lib.hid hr
  have NN := Lib.hid hn
  have lc := hf.le
  have lb := hf.big
  have lc2 := hm.le
  have lb2 := hm.big
  have lc3 := hf'.le
  have lb3 := hf'.big
  have lc4 := hm'.le
  have lb4 := hm'.big
  have hrl := hr.le
  have hrb := hr.big
  clear hf hm hf' hm' hr hn
  go_enter Tryd.func3, Tryd.ntmps3
  go_upto_if 14 with fail
  go_cut [] (fun wx => ∃ (x y : Typ) (Af Am Af' Am' : Option Addr) (cf cm cf' cm' : Nat), Hid (Two w wx w.heap.size (w.heap.size + 1) x y Af Am Af' Am' cf cm cf' cm'))
  case first => as_aux_lemma =>
    cases near with
    | false =>
      go_wp2_with fail
      go_meet
      exact ⟨x, y, Af, Am, Af', Am', cf, cm, cf', cm', H0⟩
    | true =>
      have hz := heap_lt H0.out.Y.blk
      generalize (w.alloc (.cells #[.int .i64 x.kind, .string x.name, .int .i64 x.elem, .slice Af x.fields.length cf, .slice Am x.methods.length cm] 25)).alloc (.cells #[.int .i64 y.kind, .string y.name, .int .i64 y.elem, .slice Af' y.fields.length cf', .slice Am' y.methods.length cm'] 25) = w2 at H0 hz ⊢
      obtain ⟨q, hq⟩ : ∃ q, q = w.heap.size + 1 := ⟨_, rfl⟩
      rw [← hq] at H0 hz ⊢
      have hpq : w.heap.size < q := by omega
      have Hq := Lib.hid hq
      clear hq
      go_wp2_with fail
      refine (types_any (RawsP.kept R.out H0.out.up (fun _ _ h => h) (fun _ h => h)) (names_up NN.out H0.out.up)).mono ?_
      rintro e w3 ⟨v, ts, rfl, ht, u3, h5, h13, hz1, hz2⟩
      obtain ⟨A', c', rfl, tp⟩ := ht.parts
      clear hz1 hz2
      obtain ⟨j1, hj1, p1, hz1⟩ := pick_nat i ts.length (by omega) (by omega)
      obtain ⟨j2, hj2, p2, hz2⟩ := pick_nat k ts.length (by omega) (by omega)
      have P1 := Lib.hid p1
      have P2 := Lib.hid p2
      clear hz1 hz2
      obtain ⟨b, o, Bf, df, Bm, dm, rfl, gb, tf, tm, k0, k1, k2, k3, k4⟩ := tp.typ hj1
      obtain ⟨g1, g2, g3, g4, g5⟩ := Two.first H0.out u3 (Nat.le_refl _) hpq tp (z := ts[j1]) (Bf := Bf) (df := df) (Bm := Bm) (dm := dm)
      have hu := sto5_fr w3 w.heap.size ts[j1] Bf df Bm dm
      have tf2 := FldsP.kept tf hu (fun b hb e => by omega) (fun _ h => h)
      have tm2 := MthsP.kept tm hu (fun b hb e => by omega) (fun _ h => h)
      obtain ⟨a0, a1, a2, a3, a4⟩ := g3.cells
      have f0 := g3.free 0
      have f1 := g3.free 1
      have f2 := g3.free 2
      have f3 := g3.free 3
      have f4 := g3.free 4
      have N4 := Lib.hid (And.intro g1 (And.intro g2 (And.intro g4 (And.intro g5 (And.intro tf2 tm2)))))
      simp only [sto5] at N4
      clear g1 g2 g3 g4 g5 tf tm tf2 tm2 tp ht u3 hu p1 p2 gb
      have i1 : (j1 : Int) < (ts.length : Int) := by omega
      go_wp2_with fail
      refine (P1.out _).mono ?_
      rintro e w3 ⟨rfl, rfl⟩
      go_wp2_with fail
      generalize ((((w3.setCell ⟨w.heap.size, 0, none⟩ (.int .i64 ts[j1].kind)).setCell ⟨w.heap.size, 1, none⟩ (.string ts[j1].name)).setCell ⟨w.heap.size, 2, none⟩ (.int .i64 ts[j1].elem)).setCell ⟨w.heap.size, 3, none⟩ (.slice Bf ts[j1].fields.length df)).setCell ⟨w.heap.size, 4, none⟩ (.slice Bm ts[j1].methods.length dm) = w4 at N4 ⊢
      obtain ⟨g1, g2, g4, g5, tf2, tm2⟩ := N4.out
      clear a0 a1 a2 a3 a4 f0 f1 f2 f3 f4 k0 k1 k2 k3 k4
      obtain ⟨b', o', Bf', df', Bm', dm', eb, gb', tf', tm', m0, m1, m2, m3, m4⟩ := g2.typ hj2
      simp only [Option.some.injEq, Addr.mk.injEq, and_true] at eb
      obtain ⟨rfl, rfl⟩ := eb
      have S := Lib.hid (Two.second g1 (Nat.le_of_lt hpq) hpq hz g4 g5 tf2 tm2 tf' tm')
      have c0 := cell_of_row _ _ 0 _ _ _ g4
      have c1 := cell_of_row _ _ 1 _ _ _ g4
      have c2 := cell_of_row _ _ 2 _ _ _ g4
      have c3 := cell_of_row _ _ 3 _ _ _ g4
      have c4 := cell_of_row _ _ 4 _ _ _ g4
      have d0 := frozen_of_row _ _ 0 _ _ g4
      have d1 := frozen_of_row _ _ 1 _ _ g4
      have d2 := frozen_of_row _ _ 2 _ _ g4
      have d3 := frozen_of_row _ _ 3 _ _ g4
      have d4 := frozen_of_row _ _ 4 _ _ g4
      simp only [List.getElem?_toArray, List.getElem?_cons_zero, List.getElem?_cons_succ] at c0 c1 c2 c3 c4
      have i2 : (j2 : Int) < (ts.length : Int) := by omega
      clear g1 g2 g4 g5 tf' tm' tf2 tm2 hz gb' N4 R NN
      refine (P2.out _).mono ?_
      rintro e w4 ⟨rfl, rfl⟩
      go_wp2_with fail
      obtain rfl := Hq.out
      go_meet
      exact ⟨_, _, _, _, _, _, _, _, _, _, S⟩
  case rest => as_aux_lemma =>
    clear H0 lc lb lc2 lb2 lc3 lb3 lc4 lb4
    obtain ⟨x2, y2, Bf, Bm, Bf', Bm', df, dm, df', dm', H⟩ := hcut
    rename World => wx
    generalize w.heap.size + 1 = q at H ⊢
    generalize w.heap.size = p at H ⊢
    obtain ⟨r, hr⟩ : ∃ r, sameB x2 y2 = r := ⟨_, rfl⟩
    have hr' : sameB y2 x2 = r := by rw [sameB_comm]; exact hr
    have Xc := Lib.hid (show ∀ w', Up wx w' → w'.cell? ⟨p, 0, none⟩ = some (.int .i64 x2.kind) ∧ w'.cell? ⟨p, 1, none⟩ = some (.string x2.name) ∧ w'.cell? ⟨p, 2, none⟩ = some (.int .i64 x2.elem) ∧ w'.cell? ⟨p, 3, none⟩ = some (.slice Bf x2.fields.length df) ∧ w'.cell? ⟨p, 4, none⟩ = some (.slice Bm x2.methods.length dm) from fun w' h => (H.out.X.up h).cells)
    have Yc := Lib.hid (show ∀ w', Up wx w' → w'.cell? ⟨q, 0, none⟩ = some (.int .i64 y2.kind) ∧ w'.cell? ⟨q, 1, none⟩ = some (.string y2.name) ∧ w'.cell? ⟨q, 2, none⟩ = some (.int .i64 y2.elem) ∧ w'.cell? ⟨q, 3, none⟩ = some (.slice Bf' y2.fields.length df') ∧ w'.cell? ⟨q, 4, none⟩ = some (.slice Bm' y2.methods.length dm') from fun w' h => (H.out.Y.up h).cells)
    go_upto_region 5 with fail
    refine wp_region_held_drew (S := (fun W' => Up wx W')) (by kernel_rfl) (by exact Fr.drew up_) (fun hHeld => ?_)
    refine wpAnyH_ready (rs := [0]) (by kernel_rfl) (by simp) ?_
    refine AllReadyH.cons (o := _) rfl (fun K hK => ?_) AllReadyH.nil
    go_simp
    refine (lknown_any).mono ?_
    rintro e w' ⟨hv, rfl⟩
    have V := Up.trans hHeld hv
    go_simp
    refine hK.out _ _ (by exact V) (fun hHeld => ?_)
    clear hK K
    refine held_take (i := 1) (d := some 32) (v := ?_) rfl rfl (by kernel_rfl) (by kernel_rfl) (by kernel_rfl) (fun _ _ _ h => h) (by rfl) ?_ (by assumption) ?_
    rotate_left 1
    focus (intro w hSw; (try dsimp only at hSw); go_simp; first | done | with_reducible rfl)
    simp only [Act.put, List.setIfInBounds_toArray, List.set_cons_zero, List.set_cons_succ]
    refine held_take (i := 2) (d := some 33) (v := ?_) rfl rfl (by kernel_rfl) (by kernel_rfl) (by kernel_rfl) (fun _ _ _ h => h) (by rfl) ?_ (by assumption) ?_
    rotate_left 1
    focus (intro w hSw; obtain ⟨a0, a1, a2, a3, a4⟩ := Xc.out w hSw; (try dsimp only at hSw); go_simp; first | done | with_reducible rfl)
    simp only [Act.put, List.setIfInBounds_toArray, List.set_cons_zero, List.set_cons_succ]
    refine held_take (i := 3) (d := some 34) (v := ?_) rfl rfl (by kernel_rfl) (by kernel_rfl) (by kernel_rfl) (fun _ _ _ h => h) (by rfl) ?_ (by assumption) ?_
    rotate_left 1
    focus (intro w hSw; obtain ⟨b0, b1, b2, b3, b4⟩ := Yc.out w hSw; (try dsimp only at hSw); go_simp; first | done | with_reducible rfl)
    simp only [Act.put, List.setIfInBounds_toArray, List.set_cons_zero, List.set_cons_succ]
    refine held_take (i := 5) (d := some 36) (v := ?_) rfl rfl (by kernel_rfl) (by kernel_rfl) (by kernel_rfl) (fun _ _ _ h => h) (by rfl) ?_ (by assumption) ?_
    rotate_left 1
    focus (intro w hSw; obtain ⟨a0, a1, a2, a3, a4⟩ := Xc.out w hSw; (try dsimp only at hSw); go_simp; first | done | with_reducible rfl)
    simp only [Act.put, List.setIfInBounds_toArray, List.set_cons_zero, List.set_cons_succ]
    refine held_take (i := 6) (d := some 37) (v := ?_) rfl rfl (by kernel_rfl) (by kernel_rfl) (by kernel_rfl) (fun _ _ _ h => h) (by rfl) ?_ (by assumption) ?_
    rotate_left 1
    focus (intro w hSw; obtain ⟨b0, b1, b2, b3, b4⟩ := Yc.out w hSw; (try dsimp only at hSw); go_simp; first | done | with_reducible rfl)
    simp only [Act.put, List.setIfInBounds_toArray, List.set_cons_zero, List.set_cons_succ]
    refine wpAnyH_ready (rs := [4]) (by kernel_rfl) (by simp) ?_
    refine AllReadyH.cons (o := _) rfl (fun K hK => ?_) AllReadyH.nil
    go_simp
    refine (same_any (x := x2) (y := y2) (FldsP.kept H.out.X.fl hHeld (fun _ _ h => h) (fun _ h => h)) (MthsP.kept H.out.X.ml hHeld (fun _ _ h => h) (fun _ h => h)) (FldsP.kept H.out.Y.fl hHeld (fun _ _ h => h) (fun _ h => h)) (MthsP.kept H.out.Y.ml hHeld (fun _ _ h => h) (fun _ h => h))).mono ?_
    rintro e w' ⟨hv, rfl⟩
    have V := Up.trans hHeld hv
    rw [hr]
    go_simp
    refine hK.out _ _ (by exact V) (fun hHeld => ?_)
    clear hK K
    refine wpAnyH_ready (rs := [7]) (by kernel_rfl) (by simp) ?_
    refine AllReadyH.cons (o := _) rfl (fun K hK => ?_) AllReadyH.nil
    go_simp
    refine (rsame_any (x := x2) (y := y2) (FldsP.kept H.out.X.fl hHeld (fun _ _ h => h) (fun _ h => h)) (MthsP.kept H.out.X.ml hHeld (fun _ _ h => h) (fun _ h => h)) (FldsP.kept H.out.Y.fl hHeld (fun _ _ h => h) (fun _ h => h)) (MthsP.kept H.out.Y.ml hHeld (fun _ _ h => h) (fun _ h => h))).mono ?_
    rintro e w' ⟨hv, rfl⟩
    have V := Up.trans hHeld hv
    rw [hr]
    go_simp
    refine hK.out _ _ (by exact V) (fun hHeld => ?_)
    clear hK K
    refine held_take (i := 8) (d := some 39) (v := ?_) rfl rfl (by kernel_rfl) (by kernel_rfl) (by kernel_rfl) (fun _ _ _ h => h) (by rfl) ?_ (by assumption) ?_
    rotate_left 1
    focus (intro w hSw; (try dsimp only at hSw); go_simp; first | done | with_reducible rfl)
    simp only [Act.put, List.setIfInBounds_toArray, List.set_cons_zero, List.set_cons_succ]
    refine held_take (i := 9) (d := some 40) (v := ?_) rfl rfl (by kernel_rfl) (by kernel_rfl) (by kernel_rfl) (fun _ _ _ h => h) (by rfl) ?_ (by assumption) ?_
    rotate_left 1
    focus (intro w hSw; (try dsimp only at hSw); go_simp; first | done | with_reducible rfl)
    simp only [Act.put, List.setIfInBounds_toArray, List.set_cons_zero, List.set_cons_succ]
    refine held_take (i := 10) (d := some 41) (v := ?_) rfl rfl (by kernel_rfl) (by kernel_rfl) (by kernel_rfl) (fun _ _ _ h => h) (by rfl) ?_ (by assumption) ?_
    rotate_left 1
    focus (intro w hSw; (try dsimp only at hSw); go_simp; first | done | with_reducible rfl)
    simp only [Act.put, List.setIfInBounds_toArray, List.set_cons_zero, List.set_cons_succ]
    refine held_take (i := 11) (d := some 42) (v := ?_) rfl rfl (by kernel_rfl) (by kernel_rfl) (by kernel_rfl) (fun _ _ _ h => h) (by rfl) ?_ (by assumption) ?_
    rotate_left 1
    focus (intro w hSw; obtain ⟨a0, a1, a2, a3, a4⟩ := Xc.out w hSw; (try dsimp only at hSw); go_simp; first | done | with_reducible rfl)
    simp only [Act.put, List.setIfInBounds_toArray, List.set_cons_zero, List.set_cons_succ]
    refine held_take (i := 12) (d := some 43) (v := ?_) rfl rfl (by kernel_rfl) (by kernel_rfl) (by kernel_rfl) (fun _ _ _ h => h) (by rfl) ?_ (by assumption) ?_
    rotate_left 1
    focus (intro w hSw; obtain ⟨a0, a1, a2, a3, a4⟩ := Xc.out w hSw; (try dsimp only at hSw); go_simp; first | done | with_reducible rfl)
    simp only [Act.put, List.setIfInBounds_toArray, List.set_cons_zero, List.set_cons_succ]
    refine wpAnyH_ready (rs := [13]) (by kernel_rfl) (by simp) ?_
    refine AllReadyH.cons (o := _) rfl (fun K hK => ?_) AllReadyH.nil
    go_simp
    refine (same_any (x := x2) (y := x2) (FldsP.kept H.out.X.fl hHeld (fun _ _ h => h) (fun _ h => h)) (MthsP.kept H.out.X.ml hHeld (fun _ _ h => h) (fun _ h => h)) (FldsP.kept H.out.X.fl hHeld (fun _ _ h => h) (fun _ h => h)) (MthsP.kept H.out.X.ml hHeld (fun _ _ h => h) (fun _ h => h))).mono ?_
    rintro e w' ⟨hv, rfl⟩
    have V := Up.trans hHeld hv
    rw [sameB_refl]
    go_simp
    refine hK.out _ _ (by exact V) (fun hHeld => ?_)
    clear hK K
    refine held_take (i := 14) (d := some 45) (v := ?_) rfl rfl (by kernel_rfl) (by kernel_rfl) (by kernel_rfl) (fun _ _ _ h => h) (by rfl) ?_ (by assumption) ?_
    rotate_left 1
    focus (intro w hSw; (try dsimp only at hSw); go_simp; first | done | with_reducible rfl)
    simp only [Act.put, List.setIfInBounds_toArray, List.set_cons_zero, List.set_cons_succ]
    refine held_take (i := 15) (d := some 46) (v := ?_) rfl rfl (by kernel_rfl) (by kernel_rfl) (by kernel_rfl) (fun _ _ _ h => h) (by rfl) ?_ (by assumption) ?_
    rotate_left 1
    focus (intro w hSw; (try dsimp only at hSw); go_simp; first | done | with_reducible rfl)
    simp only [Act.put, List.setIfInBounds_toArray, List.set_cons_zero, List.set_cons_succ]
    refine held_take (i := 16) (d := some 47) (v := ?_) rfl rfl (by kernel_rfl) (by kernel_rfl) (by kernel_rfl) (fun _ _ _ h => h) (by rfl) ?_ (by assumption) ?_
    rotate_left 1
    focus (intro w hSw; obtain ⟨b0, b1, b2, b3, b4⟩ := Yc.out w hSw; (try dsimp only at hSw); go_simp; first | done | with_reducible rfl)
    simp only [Act.put, List.setIfInBounds_toArray, List.set_cons_zero, List.set_cons_succ]
    refine held_take (i := 17) (d := some 48) (v := ?_) rfl rfl (by kernel_rfl) (by kernel_rfl) (by kernel_rfl) (fun _ _ _ h => h) (by rfl) ?_ (by assumption) ?_
    rotate_left 1
    focus (intro w hSw; obtain ⟨a0, a1, a2, a3, a4⟩ := Xc.out w hSw; (try dsimp only at hSw); go_simp; first | done | with_reducible rfl)
    simp only [Act.put, List.setIfInBounds_toArray, List.set_cons_zero, List.set_cons_succ]
    refine held_take (i := 19) (d := some 50) (v := ?_) rfl rfl (by kernel_rfl) (by kernel_rfl) (by kernel_rfl) (fun _ _ _ h => h) (by rfl) ?_ (by assumption) ?_
    rotate_left 1
    focus (intro w hSw; obtain ⟨a0, a1, a2, a3, a4⟩ := Xc.out w hSw; (try dsimp only at hSw); go_simp; first | done | with_reducible rfl)
    simp only [Act.put, List.setIfInBounds_toArray, List.set_cons_zero, List.set_cons_succ]
    refine held_take (i := 20) (d := some 51) (v := ?_) rfl rfl (by kernel_rfl) (by kernel_rfl) (by kernel_rfl) (fun _ _ _ h => h) (by rfl) ?_ (by assumption) ?_
    rotate_left 1
    focus (intro w hSw; obtain ⟨b0, b1, b2, b3, b4⟩ := Yc.out w hSw; (try dsimp only at hSw); go_simp; first | done | with_reducible rfl)
    simp only [Act.put, List.setIfInBounds_toArray, List.set_cons_zero, List.set_cons_succ]
    refine wpAnyH_ready (rs := [18]) (by kernel_rfl) (by simp) ?_
    refine AllReadyH.cons (o := _) rfl (fun K hK => ?_) AllReadyH.nil
    go_simp
    refine (same_any (x := y2) (y := x2) (FldsP.kept H.out.Y.fl hHeld (fun _ _ h => h) (fun _ h => h)) (MthsP.kept H.out.Y.ml hHeld (fun _ _ h => h) (fun _ h => h)) (FldsP.kept H.out.X.fl hHeld (fun _ _ h => h) (fun _ h => h)) (MthsP.kept H.out.X.ml hHeld (fun _ _ h => h) (fun _ h => h))).mono ?_
    rintro e w' ⟨hv, rfl⟩
    have V := Up.trans hHeld hv
    rw [hr']
    go_simp
    refine hK.out _ _ (by exact V) (fun hHeld => ?_)
    clear hK K
    refine wpAnyH_ready (rs := [21]) (by kernel_rfl) (by simp) ?_
    refine AllReadyH.cons (o := _) rfl (fun K hK => ?_) AllReadyH.nil
    go_simp
    refine (same_any (x := x2) (y := y2) (FldsP.kept H.out.X.fl hHeld (fun _ _ h => h) (fun _ h => h)) (MthsP.kept H.out.X.ml hHeld (fun _ _ h => h) (fun _ h => h)) (FldsP.kept H.out.Y.fl hHeld (fun _ _ h => h) (fun _ h => h)) (MthsP.kept H.out.Y.ml hHeld (fun _ _ h => h) (fun _ h => h))).mono ?_
    rintro e w' ⟨hv, rfl⟩
    have V := Up.trans hHeld hv
    rw [hr]
    go_simp
    refine hK.out _ _ (by exact V) (fun hHeld => ?_)
    clear hK K
    refine held_take (i := 22) (d := some 53) (v := ?_) rfl rfl (by kernel_rfl) (by kernel_rfl) (by kernel_rfl) (fun _ _ _ h => h) (by rfl) ?_ (by assumption) ?_
    rotate_left 1
    focus (intro w hSw; (try dsimp only at hSw); go_simp; first | done | with_reducible rfl)
    simp only [Act.put, List.setIfInBounds_toArray, List.set_cons_zero, List.set_cons_succ]
    refine held_take (i := 23) (d := some 54) (v := ?_) rfl rfl (by kernel_rfl) (by kernel_rfl) (by kernel_rfl) (fun _ _ _ h => h) (by rfl) ?_ (by assumption) ?_
    rotate_left 1
    focus (intro w hSw; (try dsimp only at hSw); go_simp; first | done | with_reducible rfl)
    simp only [Act.put, List.setIfInBounds_toArray, List.set_cons_zero, List.set_cons_succ]
    refine held_take (i := 24) (d := some 12) (v := ?_) rfl rfl (by kernel_rfl) (by kernel_rfl) (by kernel_rfl) (fun _ _ _ h => h) (by rfl) ?_ (by assumption) ?_
    rotate_left 1
    focus (intro w hSw; (try dsimp only at hSw); go_simp; first | done | with_reducible rfl)
    simp only [Act.put, List.setIfInBounds_toArray, List.set_cons_zero, List.set_cons_succ]
    refine wpAnyH_done (by kernel_rfl) ?_ _
    have Hh := Lib.hid hHeld
    clear hHeld
    go_wp2_with fail
    go_ret
    exact ⟨Up.trans H.out.up Hh.out, rfl⟩
end Go.Proofs.YtjlljfeledapaaaDoor
