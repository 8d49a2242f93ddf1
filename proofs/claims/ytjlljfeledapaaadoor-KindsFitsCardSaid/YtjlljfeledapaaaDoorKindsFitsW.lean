/-
  KindsFits: the walk.
-/
import Derived.Test.YtjlljfeledapaaaDoorKFitA
import Derived.Test.YtjlljfeledapaaaDoorTypesW
import Derived.BigQuiet
namespace Go.Proofs.YtjlljfeledapaaaDoor
open Go.RowKit

set_option maxRecDepth 20000 in
set_option maxHeartbeats 8000000 in
theorem kindsfits_any {w : World} {A : Option Addr} {c : Nat} {rs : List RawV} (hr : RawsP w (fun _ => True) A c rs) (hn : Names w) (a b : Int) :
    Calls Tryd.prog 4 #[.slice A rs.length c, .int .i64 a, .int .i64 b] w fun e w' => Up w w' ∧ e = .returned (.bool true) := by
  have hrl := hr.le
  have hrb := hr.big
  have Ty := Lib.hid (types_any hr hn)
  clear hr hn
  go_enter Tryd.func4, Tryd.ntmps4
  go_wp2_with fail
  refine Ty.out.mono ?_
  rintro e w1 ⟨v, ts, rfl, ht, u1, h5, h13, hb, hnm⟩
  obtain ⟨At, ct, rfl, tp⟩ := ht.parts
  have tl := tp.le
  have tb := tp.big
  have T1 := Lib.hid tp
  have U1 := Lib.hid u1
  have B := Lib.hid hb
  have NM := Lib.hid hnm
  clear ht tp u1 hb hnm Ty hrl hrb
  go_wp2_with fail
  refine lknown_any.mono ?_
  rintro e w2 ⟨hv, rfl⟩
  have U2 := Lib.hid hv
  clear hv
  go_wp2_with fail
  refine (right_any (TypsP.kept T1.out U2.out (fun _ _ h => h) (fun _ h => h))).mono ?_
  rintro e w3 ⟨hv, rfl⟩
  have U := Lib.hid (Up.trans U1.out (Up.trans U2.out hv))
  have T3 := Lib.hid (TypsP.kept T1.out (Up.trans U2.out hv) (fun _ _ h => h) (fun _ h => h))
  clear hv
  cases hR : rightB ts with
  | false =>
    clear hR
    go_wp2_with fail
    refine lknown_any.mono ?_
    rintro e w4 ⟨hv, rfl⟩
    have U4 := Lib.hid hv
    clear hv
    go_wp2_with fail
    go_ret
    exact ⟨Up.trans U.out U4.out, rfl⟩
  | true =>
    have R := Lib.hid hR
    clear hR U1 U2 T1
    obtain ⟨j1, hj1, p1, q1⟩ := pick_nat a ts.length (by omega) (by omega)
    obtain ⟨j2, hj2, p2, q2⟩ := pick_nat b ts.length (by omega) (by omega)
    clear q1 q2
    have P1 := Lib.hid p1
    have P2 := Lib.hid p2
    clear p1 p2
    have K1 := Lib.hid (kind_of R.out B.out hj1)
    have K2 := Lib.hid (kind_of R.out B.out hj2)
    have i1 : (j1 : Int) < (ts.length : Int) := by omega
    have i2 : (j2 : Int) < (ts.length : Int) := by omega
    obtain ⟨g, o, Af, cf, Am, cm, rfl, _, xf, xm, k0, k1, k2, k3, k4⟩ := T3.out.typ hj1
    obtain ⟨g', o', Af', cf', Am', cm', eg, _, yf, ym, m0, m1, m2, m3, m4⟩ := T3.out.typ hj2
    simp only [Option.some.injEq, Addr.mk.injEq, and_true] at eg
    obtain ⟨rfl, rfl⟩ := eg
    have XM := Lib.hid xm
    have YM := Lib.hid ym
    clear xf xm yf ym k1 k2 k3 m1 m2 m3
    obtain ⟨kx, hkx⟩ : ∃ kx, kx = ts[j1].kind := ⟨_, rfl⟩
    obtain ⟨ky, hky⟩ : ∃ ky, ky = ts[j2].kind := ⟨_, rfl⟩
    rw [← hkx] at k0
    rw [← hky] at m0
    go_wp2_with fail
    refine (P1.out _).mono ?_
    rintro e w3 ⟨rfl, rfl⟩
    go_wp2_with fail
    refine (P2.out _).mono ?_
    rintro e w3 ⟨rfl, rfl⟩
    clear P1 P2
    by_cases h4 : j1 = 4
    · have hk4 : ts[j1].kind = 4 := by
        rcases K1.out with ⟨_, e⟩ | ⟨h, _⟩
        · rw [e, h4]; rfl
        · omega
      have x4 : kx = 4 := hkx.trans hk4
      have x5 : (kx == 5) = false := by rw [x4]; rfl
      have d4 : (j1 : Int) = 4 := by omega
      have e4 : ((j1 : Int) == 4) = true := by rw [d4]; rfl
      have n4 : ((j1 : Int) != 4) = false := by rw [d4]; rfl
      have n0 : ((j1 : Int) != 0) = true := by rw [d4]; rfl
      have FF := Lib.hid (show fitsB ts j1 j2 = nilableB ky by rw [hky]; exact fits_nil hj1 hj2 hk4)
      clear hk4 x4 d4 h4 h13 h5 k4 m4 XM YM K1 K2 hkx hky hj1 hj2
      by_cases e12 : (j1 : Int) = (j2 : Int)
      · as_aux_lemma =>
        have f12 : ((j1 : Int) == (j2 : Int)) = true := by rw [e12]; exact beq_self_eq_true _
        clear e12
        by_cases y5 : ky = 5
        · have z5 : (ky == 5) = true := by rw [y5]; rfl
          have Fx := Lib.hid (show fitsB ts j1 j2 = true from FF.out.trans (by rw [y5]; rfl))
          clear y5 FF
          go_wp2_with fail
          refine (fits_any T3.out j1 j2).mono ?_
          rintro e w4 ⟨hv, rfl⟩
          have U4 := Lib.hid hv
          clear hv
          rw [Fx.out]
          go_wp2_with fail
          go_ret
          exact ⟨Up.trans U.out U4.out, rfl⟩
        · have z5 : (ky == 5) = false := beq_eq_false_iff_ne.2 y5
          by_cases y6 : ky = 6
          · have z6 : (ky == 6) = true := by rw [y6]; rfl
            have Fx := Lib.hid (show fitsB ts j1 j2 = true from FF.out.trans (by rw [y6]; rfl))
            clear y5 y6 FF
            go_wp2_with fail
            refine (fits_any T3.out j1 j2).mono ?_
            rintro e w4 ⟨hv, rfl⟩
            have U4 := Lib.hid hv
            clear hv
            rw [Fx.out]
            go_wp2_with fail
            go_ret
            exact ⟨Up.trans U.out U4.out, rfl⟩
          · have z6 : (ky == 6) = false := beq_eq_false_iff_ne.2 y6
            by_cases y7 : ky = 7
            · have z7 : (ky == 7) = true := by rw [y7]; rfl
              have Fx := Lib.hid (show fitsB ts j1 j2 = true from FF.out.trans (by rw [y7]; rfl))
              clear y5 y6 y7 FF
              go_wp2_with fail
              refine (fits_any T3.out j1 j2).mono ?_
              rintro e w4 ⟨hv, rfl⟩
              have U4 := Lib.hid hv
              clear hv
              rw [Fx.out]
              go_wp2_with fail
              go_ret
              exact ⟨Up.trans U.out U4.out, rfl⟩
            · have z7 : (ky == 7) = false := beq_eq_false_iff_ne.2 y7
              have Fx := Lib.hid (show fitsB ts j1 j2 = false from FF.out.trans (by unfold nilableB; rw [z5, z6, z7]; rfl))
              clear y5 y6 y7 FF
              go_wp2_with fail
              refine (fits_any T3.out j1 j2).mono ?_
              rintro e w4 ⟨hv, rfl⟩
              have U4 := Lib.hid hv
              clear hv
              rw [Fx.out]
              go_wp2_with fail
              go_ret
              exact ⟨Up.trans U.out U4.out, rfl⟩
      · as_aux_lemma =>
        have f12 : ((j1 : Int) == (j2 : Int)) = false := beq_eq_false_iff_ne.2 e12
        clear e12
        by_cases y5 : ky = 5
        · have z5 : (ky == 5) = true := by rw [y5]; rfl
          have Fx := Lib.hid (show fitsB ts j1 j2 = true from FF.out.trans (by rw [y5]; rfl))
          clear y5 FF
          go_wp2_with fail
          refine (fits_any T3.out j1 j2).mono ?_
          rintro e w4 ⟨hv, rfl⟩
          have U4 := Lib.hid hv
          clear hv
          rw [Fx.out]
          go_wp2_with fail
          go_ret
          exact ⟨Up.trans U.out U4.out, rfl⟩
        · have z5 : (ky == 5) = false := beq_eq_false_iff_ne.2 y5
          by_cases y6 : ky = 6
          · have z6 : (ky == 6) = true := by rw [y6]; rfl
            have Fx := Lib.hid (show fitsB ts j1 j2 = true from FF.out.trans (by rw [y6]; rfl))
            clear y5 y6 FF
            go_wp2_with fail
            refine (fits_any T3.out j1 j2).mono ?_
            rintro e w4 ⟨hv, rfl⟩
            have U4 := Lib.hid hv
            clear hv
            rw [Fx.out]
            go_wp2_with fail
            go_ret
            exact ⟨Up.trans U.out U4.out, rfl⟩
          · have z6 : (ky == 6) = false := beq_eq_false_iff_ne.2 y6
            by_cases y7 : ky = 7
            · have z7 : (ky == 7) = true := by rw [y7]; rfl
              have Fx := Lib.hid (show fitsB ts j1 j2 = true from FF.out.trans (by rw [y7]; rfl))
              clear y5 y6 y7 FF
              go_wp2_with fail
              refine (fits_any T3.out j1 j2).mono ?_
              rintro e w4 ⟨hv, rfl⟩
              have U4 := Lib.hid hv
              clear hv
              rw [Fx.out]
              go_wp2_with fail
              go_ret
              exact ⟨Up.trans U.out U4.out, rfl⟩
            · have z7 : (ky == 7) = false := beq_eq_false_iff_ne.2 y7
              have Fx := Lib.hid (show fitsB ts j1 j2 = false from FF.out.trans (by unfold nilableB; rw [z5, z6, z7]; rfl))
              clear y5 y6 y7 FF
              go_wp2_with fail
              refine (fits_any T3.out j1 j2).mono ?_
              rintro e w4 ⟨hv, rfl⟩
              have U4 := Lib.hid hv
              clear hv
              rw [Fx.out]
              go_wp2_with fail
              go_ret
              exact ⟨Up.trans U.out U4.out, rfl⟩
    · have e4 : ((j1 : Int) == 4) = false := beq_eq_false_iff_ne.2 (by omega)
      have n4 : ((j1 : Int) != 4) = true := by simpa using (show ¬ (j1 : Int) = 4 by omega)
      by_cases h57 : ts[j1].kind = 5 ∧ ts[j2].kind = 7
      · as_aux_lemma =>
        have y7' : ts[j2].kind = 7 := h57.2
        have x5' : ts[j1].kind = 5 := h57.1
        have hne : j1 ≠ j2 := by
          intro e
          subst e
          rw [x5'] at y7'
          cases y7'
        have f12 : ((j1 : Int) == (j2 : Int)) = false := beq_eq_false_iff_ne.2 (by omega)
        have FF := Lib.hid (fits_has hj1 hj2 x5' y7')
        have MO := Lib.hid (show ∀ nm, methodOf ts j1 nm = mthIdx ts[j1].methods nm from fun nm => by
          unfold methodOf isKindB
          rw [isType_yes hj1, typ_at hj1, x5']; rfl)
        have x5 : (kx == 5) = true := by rw [hkx, x5']; rfl
        have y7 : (ky == 7) = true := by rw [hky, y7']; rfl
        have NX := Lib.hid (NM.out ts[j1] (List.getElem_mem _))
        have NY := Lib.hid (NM.out ts[j2] (List.getElem_mem _))
        clear hkx hky x5' y7' hne h57 h4 h13 h5 K1 K2 NM B R
        generalize ts[j1] = X at k4 XM FF NX MO
        generalize ts[j2] = Y at m4 YM FF NY
        clear hj1 hj2
        have xl := XM.out.le
        have xb := XM.out.big
        have yl := YM.out.le
        have yb := YM.out.big
        have hg := World.block_lt_of_cell? w3 _ k4
        have Kx := Lib.hid (show ∀ w', Up w3 w' → w'.cell? ⟨g, o + j1 * 5 + 4, none⟩ = some (.slice Am X.methods.length cm) from fun w' h => (h.cell (p := ⟨g, o + j1 * 5 + 4, none⟩) hg (fun h => h)).trans k4)
        have Ky := Lib.hid (show ∀ w', Up w3 w' → w'.cell? ⟨g, o + j2 * 5 + 4, none⟩ = some (.slice Am' Y.methods.length cm') from fun w' h => (h.cell (p := ⟨g, o + j2 * 5 + 4, none⟩) hg (fun h => h)).trans m4)
        clear hg k4 m4 NY
        go_upto_block 0 with fail
        go_cut [9] (fun want wx => want = .bool (Y.methods.all (offersB X.methods)) ∧ Hid (Up w3 wx))
        case first => as_aux_lemma =>
          clear k0 m0 e4 n4 f12 x5 y7 FF
          go_wp2_with fail
          go_loopw [9, 10] (fun want i wr => ∃ (k : Nat) (W : Bool), k ≤ Y.methods.length ∧ i = .int .i64 k ∧ want = .bool W ∧ Hid (Up w3 wr ∧ (Y.methods.take k).all (offersB X.methods) = W)) (fun _ i _ => Y.methods.length - (intOf i).toNat)
          case atStart => exact ⟨0, true, Nat.zero_le _, rfl, rfl, Lib.hid ⟨up_, rfl⟩⟩
          case round =>
            obtain ⟨k, W, hk, rfl, rfl, hm⟩ := hrel
            obtain ⟨wo, rfl⟩ : ∃ wo : World, wo = wr := ⟨_, rfl⟩
            have ky := Ky.out wo hm.out.1
            by_cases hi : k < Y.methods.length
            · have hi' : (k : Int) < (Y.methods.length : Int) := by omega
              obtain ⟨by', oy, Apy, cpy, rfl, _, yps, v0, v1, v2, _⟩ := (MthsP.kept YM.out hm.out.1 (fun _ _ h => h) (fun _ h => h)).mth hi
              have ypl := yps.le
              have ypb := yps.big
              have Ye := Lib.hid (show (Y.methods.take (k + 1)).all (offersB X.methods) = (W && offersB X.methods Y.methods[k]) by rw [all_succ hi, hm.out.2])
              have Yno := Lib.hid (show offersB X.methods Y.methods[k] = false → Y.methods.all (offersB X.methods) = false from fun h => all_no_more hi h)
              have YP := Lib.hid yps
              clear yps
              generalize Y.methods[k] = y at v0 v1 v2 ypl ypb Ye Yno YP
              go_wp2_with fail
              refine (method_any (TypsP.kept T3.out hm.out.1 (fun _ _ h => h) (fun _ h => h)) j1 y.name).mono ?_
              rintro e w4 ⟨hv, rfl⟩
              rw [MO.out]
              have U4 := Lib.hid (Up.trans hm.out.1 hv)
              have hgy := World.block_lt_of_cell? wo _ v0
              have r1 := (hv.cell (p := ⟨by', oy + k * 4 + 1, none⟩) hgy (fun h => h)).trans v1
              have r2 := (hv.cell (p := ⟨by', oy + k * 4 + 2, none⟩) hgy (fun h => h)).trans v2
              have kx4 := Kx.out w4 U4.out
              have ky4 := Ky.out w4 U4.out
              have YP4 := Lib.hid (IntsP.kept YP.out hv (fun _ _ h => h) (fun _ h => h))
              clear v0 v1 v2 ky hgy hv YP
              cases hx : mthIdx X.methods y.name with
              | none =>
                have NO := Lib.hid (Yno.out (offers_none hx))
                clear hx
                rw [found_none rfl]
                go_wp2_with fail
                go_quiet (fail)
                go_wp2_with fail
                go_meet
                exact ⟨congrArg Value.bool NO.out.symm, Lib.hid (Fr.drewN U4.out _)⟩
              | some n =>
                obtain ⟨hn, ho⟩ := offers_some NX.out hx
                have hn' : (n : Int) < (X.methods.length : Int) := by omega
                have HO := Lib.hid ho
                obtain ⟨bx, ox, Apx, cpx, eAm, _, xps, _, s1, s2, _⟩ := (MthsP.kept XM.out U4.out (fun _ _ h => h) (fun _ h => h)).mth hn
                have xpl := xps.le
                have xpb := xps.big
                have XP := Lib.hid xps
                rw [eAm] at kx4
                rw [found_some rfl]
                clear hx ho xps
                generalize X.methods[n] = x at s1 s2 xpl xpb HO XP
                by_cases hr : x.result = y.result
                · have hr1 : (x.result != y.result) = false := by rw [hr]; exact bne_self_eq_false _
                  by_cases hl : x.params.length = y.params.length
                  · have hl1 : ((x.params.length : Int) != (y.params.length : Int)) = false := by rw [hl]; exact bne_self_eq_false _
                    have HE := Lib.hid (show offersB X.methods y = (x.params == y.params) by rw [HO.out, hr]; simp)
                    have HL := Lib.hid hl
                    clear hr hl
                    have Rr := Lib.hid (show ∀ w', Up w4 w' → w'.cell? ⟨by', oy + k * 4 + 1, none⟩ = some (.slice Apy y.params.length cpy) ∧ w'.cell? ⟨bx, ox + n * 4 + 1, none⟩ = some (.slice Apx x.params.length cpx) ∧ w'.cell? ⟨g, o + j1 * 5 + 4, none⟩ = some (.slice (some ⟨bx, ox, none⟩) X.methods.length cm) ∧ w'.cell? ⟨g, o + j2 * 5 + 4, none⟩ = some (.slice (some ⟨by', oy, none⟩) Y.methods.length cm') from fun w' h =>
                      ⟨(h.cell (p := ⟨by', oy + k * 4 + 1, none⟩) (World.block_lt_of_cell? w4 _ r1) (fun h => h)).trans r1, (h.cell (p := ⟨bx, ox + n * 4 + 1, none⟩) (World.block_lt_of_cell? w4 _ s1) (fun h => h)).trans s1, (h.cell (p := ⟨g, o + j1 * 5 + 4, none⟩) (World.block_lt_of_cell? w4 _ kx4) (fun h => h)).trans kx4, (h.cell (p := ⟨g, o + j2 * 5 + 4, none⟩) (World.block_lt_of_cell? w4 _ ky4) (fun h => h)).trans ky4⟩)
                    go_wp2_with fail
                    go_quiet (fail)
                    clear r1 r2 s1 s2 kx4 ky4 hr1 hl1
                    go_wp2_with fail
                    go_loopw [9, 13] (fun want q wr => ∃ (q' : Nat) (W' : Bool), q' ≤ y.params.length ∧ q = .int .i64 q' ∧ want = .bool W' ∧ Hid (Up w4 wr ∧ (W && (x.params.take q' == y.params.take q')) = W')) (fun _ q _ => y.params.length - (intOf q).toNat)
                    case atStart => exact ⟨0, W, Nat.zero_le _, rfl, rfl, Lib.hid ⟨Fr.drewN up_ _, by simp⟩⟩
                    case round =>
                      obtain ⟨q, W', hq, rfl, rfl, hm2⟩ := hrel
                      obtain ⟨wp, rfl⟩ : ∃ wp : World, wp = wr := ⟨_, rfl⟩
                      obtain ⟨c1, c2, c3, c4⟩ := Rr.out wp hm2.out.1
                      by_cases hq' : q < y.params.length
                      · have hqi : (q : Int) < (y.params.length : Int) := by omega
                        have hqx : q < x.params.length := by rw [HL.out]; exact hq'
                        have hqxi : (q : Int) < (x.params.length : Int) := by omega
                        obtain ⟨b3, o3, rfl, _, e3⟩ := (IntsP.kept YP4.out hm2.out.1 (fun _ _ h => h) (fun _ h => h)).int hq'
                        obtain ⟨b4, o4, rfl, _, e4⟩ := (IntsP.kept XP.out hm2.out.1 (fun _ _ h => h) (fun _ h => h)).int hqx
                        have NW := Lib.hid (show (W && (x.params.take (q + 1) == y.params.take (q + 1))) = (W' && (x.params[q] == y.params[q])) by rw [params_succ hqx hq', ← Bool.and_assoc, hm2.out.2])
                        generalize x.params[q] = xa at e4 NW
                        generalize y.params[q] = ya at e3 NW
                        clear hqx
                        cases W' with
                        | false =>
                          go_wp2_with fail
                          go_quiet (fail)
                          go_wp2_with fail
                          go_roundw
                          case rel => exact ⟨q + 1, false, by omega, by go_num, rfl, Lib.hid ⟨Fr.drewN hm2.out.1 _, NW.out⟩⟩
                          case measure => simp [intOf]; omega
                        | true =>
                          by_cases hxy : xa = ya
                          · subst hxy
                            go_wp2_with fail
                            go_quiet (fail)
                            go_wp2_with fail
                            go_roundw
                            case rel => exact ⟨q + 1, true, by omega, by go_num, by simp, Lib.hid ⟨Fr.drewN hm2.out.1 _, by rw [NW.out]; simp⟩⟩
                            case measure => simp [intOf]; omega
                          · have hxf : (xa == ya) = false := beq_eq_false_iff_ne.2 hxy
                            clear hxy
                            go_wp2_with fail
                            go_quiet (fail)
                            go_wp2_with fail
                            go_roundw
                            case rel => exact ⟨q + 1, false, by omega, by go_num, rfl, Lib.hid ⟨Fr.drewN hm2.out.1 _, by rw [NW.out, hxf]; rfl⟩⟩
                            case measure => simp [intOf]; omega
                      · have hqi : ¬ (q : Int) < (y.params.length : Int) := by omega
                        have NW := Lib.hid (show (Y.methods.take (k + 1)).all (offersB X.methods) = W' by
                          rw [Ye.out, HE.out, ← hm2.out.2, List.take_of_length_le (by rw [HL.out]; omega), List.take_of_length_le (by omega)])
                        go_wp2_with fail
                        go_roundw
                        case rel => exact ⟨k + 1, W', by omega, by go_num, rfl, Lib.hid ⟨Up.trans U4.out hm2.out.1, NW.out⟩⟩
                        case measure => simp [intOf]; omega
                  · have hl1 : ((x.params.length : Int) != (y.params.length : Int)) = true := by simpa using (show ¬ (x.params.length : Int) = (y.params.length : Int) by omega)
                    have NO := Lib.hid (Yno.out (by rw [HO.out, Bool.and_eq_false_iff]; right; rw [beq_eq_false_iff_ne]; intro h; exact hl (by rw [h])))
                    clear hr hl
                    go_wp2_with fail
                    go_quiet (fail)
                    go_wp2_with fail
                    go_meet
                    exact ⟨congrArg Value.bool NO.out.symm, Lib.hid (Fr.drewN U4.out _)⟩
                · have hr1 : (x.result != y.result) = true := by simpa using hr
                  have NO := Lib.hid (Yno.out (by rw [HO.out, beq_eq_false_iff_ne.2 hr]; rfl))
                  clear hr
                  go_wp2_with fail
                  go_quiet (fail)
                  go_wp2_with fail
                  go_meet
                  exact ⟨congrArg Value.bool NO.out.symm, Lib.hid (Fr.drewN U4.out _)⟩
            · have hi' : ¬ (k : Int) < (Y.methods.length : Int) := by omega
              have e : Y.methods.take k = Y.methods := List.take_of_length_le (by omega)
              have E := Lib.hid (show Y.methods.all (offersB X.methods) = W by rw [← hm.out.2, e])
              clear e
              go_wp2_with fail
              go_meet
              exact ⟨congrArg Value.bool E.out.symm, Lib.hid hm.out.1⟩
        case rest => as_aux_lemma =>
          obtain ⟨rfl, Hu⟩ := hcut
          rename World => wx
          obtain ⟨r, hr⟩ : ∃ r, r = Y.methods.all (offersB X.methods) := ⟨_, rfl⟩
          rw [← hr] at FF ⊢
          clear hr k0 m0
          go_wp2_with fail
          refine (fits_any (TypsP.kept T3.out Hu.out (fun _ _ h => h) (fun _ h => h)) j1 j2).mono ?_
          rintro e w4 ⟨hv, rfl⟩
          have U4 := Lib.hid hv
          clear hv
          rw [FF.out]
          go_wp2_with fail
          go_ret
          exact ⟨Up.trans U.out (Up.trans Hu.out U4.out), by simp⟩
      · have FF := Lib.hid (fits_else R.out B.out hj1 hj2 h4 h57)
        rw [← hkx, ← hky] at h57
        have n0 : j1 ≠ 0 → ((j1 : Int) != 0) = true := fun h => by simpa using h
        clear h4 h13 h5 k4 m4 XM YM K1 K2 hkx hky hj1 hj2
        by_cases e12 : j1 = j2
        · have f12 : ((j1 : Int) == (j2 : Int)) = true := by rw [e12]; exact beq_self_eq_true _
          by_cases h0 : j1 = 0
          · as_aux_lemma =>
            have m0' : ((j1 : Int) != 0) = false := by rw [h0]; rfl
            have FV : fitsB ts j1 j2 = false := FF.out.trans (by simp [h0])
            have FW := Lib.hid FV
            by_cases y5 : kx = 5
            · have z5 : (kx == 5) = true := by rw [y5]; rfl
              have z7 : (ky == 7) = false := beq_eq_false_iff_ne.2 (fun h => h57 ⟨y5, h⟩)
              have Fx := Lib.hid (show fitsB ts j1 j2 = false from FW.out)
              clear y5 FF h57 FV n0 e12 h0
              go_wp2_with fail
              refine (fits_any T3.out j1 j2).mono ?_
              rintro e w4 ⟨hv, rfl⟩
              have U4 := Lib.hid hv
              clear hv
              rw [Fx.out]
              go_wp2_with fail
              go_ret
              exact ⟨Up.trans U.out U4.out, rfl⟩
            · have z5 : (kx == 5) = false := beq_eq_false_iff_ne.2 y5
              have Fx := Lib.hid (show fitsB ts j1 j2 = false from FW.out)
              clear y5 FF h57 FV n0 e12 h0
              go_wp2_with fail
              refine (fits_any T3.out j1 j2).mono ?_
              rintro e w4 ⟨hv, rfl⟩
              have U4 := Lib.hid hv
              clear hv
              rw [Fx.out]
              go_wp2_with fail
              go_ret
              exact ⟨Up.trans U.out U4.out, rfl⟩
          · as_aux_lemma =>
            have m0' := n0 h0
            have FV : fitsB ts j1 j2 = true := FF.out.trans (by simp [e12]; omega)
            have FW := Lib.hid FV
            by_cases y5 : kx = 5
            · have z5 : (kx == 5) = true := by rw [y5]; rfl
              have z7 : (ky == 7) = false := beq_eq_false_iff_ne.2 (fun h => h57 ⟨y5, h⟩)
              have Fx := Lib.hid (show fitsB ts j1 j2 = true from FW.out)
              clear y5 FF h57 FV n0 e12 h0
              go_wp2_with fail
              refine (fits_any T3.out j1 j2).mono ?_
              rintro e w4 ⟨hv, rfl⟩
              have U4 := Lib.hid hv
              clear hv
              rw [Fx.out]
              go_wp2_with fail
              go_ret
              exact ⟨Up.trans U.out U4.out, rfl⟩
            · have z5 : (kx == 5) = false := beq_eq_false_iff_ne.2 y5
              have Fx := Lib.hid (show fitsB ts j1 j2 = true from FW.out)
              clear y5 FF h57 FV n0 e12 h0
              go_wp2_with fail
              refine (fits_any T3.out j1 j2).mono ?_
              rintro e w4 ⟨hv, rfl⟩
              have U4 := Lib.hid hv
              clear hv
              rw [Fx.out]
              go_wp2_with fail
              go_ret
              exact ⟨Up.trans U.out U4.out, rfl⟩
        · as_aux_lemma =>
          have f12 : ((j1 : Int) == (j2 : Int)) = false := beq_eq_false_iff_ne.2 (by omega)
          have FV : fitsB ts j1 j2 = false := FF.out.trans (by simp [e12])
          have FW := Lib.hid FV
          by_cases y5 : kx = 5
          · have z5 : (kx == 5) = true := by rw [y5]; rfl
            have z7 : (ky == 7) = false := beq_eq_false_iff_ne.2 (fun h => h57 ⟨y5, h⟩)
            have Fx := Lib.hid (show fitsB ts j1 j2 = false from FW.out)
            clear y5 FF h57 FV n0 e12
            go_wp2_with fail
            refine (fits_any T3.out j1 j2).mono ?_
            rintro e w4 ⟨hv, rfl⟩
            have U4 := Lib.hid hv
            clear hv
            rw [Fx.out]
            go_wp2_with fail
            go_ret
            exact ⟨Up.trans U.out U4.out, rfl⟩
          · have z5 : (kx == 5) = false := beq_eq_false_iff_ne.2 y5
            have Fx := Lib.hid (show fitsB ts j1 j2 = false from FW.out)
            clear y5 FF h57 FV n0 e12
            go_wp2_with fail
            refine (fits_any T3.out j1 j2).mono ?_
            rintro e w4 ⟨hv, rfl⟩
            have U4 := Lib.hid hv
            clear hv
            rw [Fx.out]
            go_wp2_with fail
            go_ret
            exact ⟨Up.trans U.out U4.out, rfl⟩
end Go.Proofs.YtjlljfeledapaaaDoor
