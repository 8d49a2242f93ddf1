/-
  WorldPlays: the walk.
-/
import Derived.Test.YtjeplkbdgphfoaaDoorWpAD
import Derived.StillTailTactics
import Derived.Deep.DeepCutAuto
import Derived.Deep.CutBlock
namespace Go.Proofs.YtjeplkbdgphfoaaDoor
open Go.RowKit
set_option maxRecDepth 100000

/-- The texts that are used. -/
def textsOf (T : List ByteArray) : List ByteArray := (T.take 6).map cutT

set_option maxHeartbeats 100000000 in
theorem worldplays_any {W : World} {A0 A2 A3 : Option Addr} {len0 cap0 len2 cap2 len3 cap3 : Nat} {T : List ByteArray} {xs : List Int} {ps : List PStep} (hlk : Lk W) (h0 : SlP W (fun _ => True) 1 StrC A0 cap0 T) (l0 : T.length = len0) (room : Int)
    (h2 : SlP W (fun _ => True) 1 I64C A2 cap2 xs) (l2 : xs.length = len2) (h3 : SlP W (fun _ => True) 4 PStepC A3 cap3 ps) (l3 : ps.length = len3) :
    Calls Tryd.prog 3 #[.slice A0 len0 cap0, .int .i64 room, .slice A2 len2 cap2, .slice A3 len3 cap3] W fun e W' => e = .returned (.bool true) ∧ Below W.heap.size W W' := by
  have LK := Lib.hid hlk
  have HT := Lib.hid h0
  have HX := Lib.hid h2
  have HP := Lib.hid h3
  have q0 := h0.le
  have q0' := h0.big
  have q2 := h2.le
  have q2' := h2.big
  have q3 := h3.le
  have q3' := h3.big
  clear hlk h0 h2 h3
  go_enter Tryd.func3, Tryd.ntmps3
  go_wp2_with fail
  refine (pick_any room 400 W (by omega) (by omega)).mono ?_
  rintro e w1 ⟨rfl, rfl⟩
  have r0 : 0 ≤ room % 400 := by omega
  have r1 : room % 400 < 400 := by omega
  generalize room % 400 = rr at *
  go_upto_block 0 with fail
  have H0 : Hid (W.ownsRow W.heap.size 9 1 (.slice none 0 0) 0 (((T.take 0).map cutT).map Value.string) ∧ Up W W) := Lib.hid ⟨World.ownsRow_nil _ _ _ _, Fr.refl _ W⟩
  go_cut [9] (fun v wr => ∃ ss : List ByteArray, ss.length ≤ 6 ∧ (∀ t ∈ ss, t.size ≤ 30) ∧ Hid (wr.ownsRow W.heap.size 9 1 v ss.length (ss.map Value.string) ∧ Up W wr))
  case first =>
    go_wp2_with fail
    go_loopw [9, 10] (fun v i wr => ∃ k : Nat, i = .int .i64 k ∧ k ≤ len0 ∧ k ≤ 6 ∧ Hid (wr.ownsRow W.heap.size 9 1 v k (((T.take k).map cutT).map Value.string) ∧ Up W wr)) (fun _ i _ => 6 - (Go.RowKit.intOf i).toNat)
    case atStart => exact ⟨0, rfl, Nat.zero_le _, Nat.zero_le _, H0⟩
    case round =>
      obtain ⟨k, rfl, hk1, hk2, hR⟩ := hrel
      clear H0
      obtain ⟨av, cv, hv, hcv, hcb, _⟩ := row_parts hR.out.1
      subst hv
      by_cases hk : k < len0 ∧ k < 6
      · obtain ⟨hk, hk'⟩ := hk
        have hkx : k < T.length := by omega
        obtain ⟨b, o, cs, rfl, _, hb, ⟨rfl, hxi⟩, _, hcell⟩ := HT.out.elem (k := k) hkx
        have d0 : wr.cell? ⟨b, o + k, none⟩ = some (.string (T[k]'hkx)) := by have := (hR.out.2.cell (p := ⟨b, o + k * 1 + 0, none⟩) hb (fun h => h)).trans (hcell 0 _ rfl); simpa using this
        have ht : (T.take (k + 1)).map cutT = (T.take k).map cutT ++ [cutT (T[k]'hkx)] := by rw [List.take_add_one, List.getElem?_eq_getElem hkx]; simp only [Option.toList_some, List.map_append, List.map_cons, List.map_nil]
        obtain ⟨i, hi, hz, hz1, hz2⟩ := info_parts info_s
        generalize T[k]'hkx = x at *
        obtain ⟨m, hm⟩ : ∃ m, min x.size 30 = m := ⟨_, rfl⟩
        have k1 : min (x.size : Int) 30 = (m : Int) := by omega
        have b1 : (m : Int) ≤ (x.size : Int) := by omega
        have b1n : m ≤ x.size := by omega
        obtain ⟨y, hy⟩ : ∃ y, x.extract 0 m = y := ⟨_, rfl⟩
        have hcut : cutT x = y := by unfold cutT; rw [hm, hy]
        rw [hcut] at ht
        obtain ⟨g2, c2, w4, hrun, hown, hgrow, hg2⟩ := run_append_one (P := Tryd.prog) wr.drew W.heap.size 22 22 9 i (.string ⟨#[]⟩) 16 Tryd.underlying22 hi hz hz1 hz2 rfl _ k _ hR.out.1 (.string y) rfl
          (by unfold maxLen; omega) (by omega) hR.out.2.size
        have HA := Lib.hid hrun
        have HN : Hid (w4.ownsRow W.heap.size 9 1 (.slice (some ⟨g2, 0, none⟩) (k + 1) c2) (k + 1) (((T.take (k + 1)).map cutT).map Value.string) ∧ Up W w4) := Lib.hid (by
          refine ⟨by rw [ht, List.map_append]; exact hown, (hR.out.2.drew).grown hgrow (fun b hb hlt => ?_)⟩
          have := (hR.out.1.lt b hb).1
          omega)
        have KK := Lib.hid ((hgrow.cell (a := ⟨b, o + k, none⟩) d0 (fun e => by have := (hR.out.1.lt b e.symm).1; have := hb; omega)))
        have kl : (k : Int) < (len0 : Int) := by omega
        clear hrun hown hgrow hg2 hi hz hz1 hz2 hcell hxi ht hcut hm
        go_wp2_with fail
        go_region_held3 (fun W' => W'.cell? ⟨b, o + k, none⟩ = some (.string x)) (first | exact d0 | exact KK.out | exact (Fr.cell ((Fr.refl (fun _ => False) wr.drew).alloc (.cells #[.string y] 9)) (p := ⟨b, o + k, none⟩) (World.block_lt_of_cell? wr _ d0) (fun h => h)).trans d0)
          (first | (rw [if_pos (by rfl)]; refine Lib.wp_append_run _ (.tmp 48) (.tmp 60) 22 22 rfl _ _ rfl rfl _ _ HA.out ?_))
        all_goals
          go_wp2_with fail
          go_roundw
          case rel => exact ⟨k + 1, by go_num, by omega, by omega, HN⟩
          case measure => simp [Go.RowKit.intOf]; omega
      · have HE : Hid (∃ ss : List ByteArray, ss.length ≤ 6 ∧ (∀ t ∈ ss, t.size ≤ 30) ∧ Hid (wr.ownsRow W.heap.size 9 1 (.slice av k cv) ss.length (ss.map Value.string) ∧ Up W wr)) := Lib.hid (by
          have el : ((T.take k).map cutT).length = k := by rw [List.length_map, List.length_take]; omega
          refine ⟨(T.take k).map cutT, by omega, fun t ht => ?_, Lib.hid ?_⟩
          · obtain ⟨y, _, rfl⟩ := List.mem_map.1 ht
            exact cutT_size y
          · rw [el]; exact hR.out)
        by_cases hk3 : k < len0
        all_goals
          go_wp2_with fail
          go_meet
          exact HE.out
  case rest =>
    clear H0 HT
    obtain ⟨ss, hs6, hs30, hSS⟩ := hcut
    obtain ⟨av, cv, hv, hcv, hcb, hx9⟩ := row_parts hSS.out.1
    subst hv
    have hst : SlP wc (fun _ => True) 1 StrC av cv ss := ⟨hcv, hcb, fun hne => by
      have hp : 0 < ss.length := by cases ss with | nil => exact absurd rfl hne | cons _ _ => simp
      obtain ⟨g, hg, _, hgl, hc⟩ := hx9 hp
      refine ⟨g, 0, hg, trivial, hgl, fun j t ht => ⟨[.string t], ⟨rfl, ?_⟩, rfl, fun i u hu => ?_⟩⟩
      · have := hs30 t (List.mem_of_getElem? ht); omega
      · match i, hu with
        | 0, hu =>
          simp at hu; subst hu
          rw [Nat.zero_add, Nat.mul_one, Nat.add_zero]
          exact hc j _ (by rw [List.getElem?_map, ht]; rfl)⟩
    have HST := Lib.hid hst
    clear hst hx9
    go_wp2_with fail
    refine (prog_any wc W.heap.size hSS.out.2.size av ss.length cv).mono ?_
    rintro e w1 ⟨gt, ct, rfl, hty, u1⟩
    have HM1 := Lib.hid (Mk0.mk hty (HST.out.kept (G' := fun _ => True) (C' := StrC) u1 (fun _ _ h => h) (fun _ h => h) (fun _ _ _ h => h)) (up_trans hSS.out.2 u1))
    have hib := inputs_bd HX.out
    have hil : (xs.take 40).length ≤ 40 := by rw [List.length_take]; omega
    have IN : ∀ w, Up W w → _ := fun w u => inputs_at HX.out l2 u
    generalize xs.take 40 = ins at *
    have IN1 := Lib.hid IN
    have HIB := Lib.hid hib
    clear IN hib
    clear hty u1 HST hSS
    go_wp2_with fail
    have hblk := heap_alloc_new w1 (.cells #[.slice (some ⟨gt, 0, none⟩) 7 ct, .slice none 0 0, .int .i64 0, .slice av ss.length cv, .slice none 0 0] 29)
    have ub : Up w1 (w1.alloc (.cells #[.slice (some ⟨gt, 0, none⟩) 7 ct, .slice none 0 0, .int .i64 0, .slice av ss.length cv, .slice none 0 0] 29)) := (Fr.refl _ w1).alloc _
    generalize w1.alloc (.cells #[.slice (some ⟨gt, 0, none⟩) 7 ct, .slice none 0 0, .int .i64 0, .slice av ss.length cv, .slice none 0 0] 29) = wp at *
    have cc : ∀ k, wp.cell? ⟨w1.heap.size, k, none⟩ = #[Value.slice (some ⟨gt, 0, none⟩) 7 ct, .slice none 0 0, .int .i64 0, .slice av ss.length cv, .slice none 0 0][k]? := fun k => by rw [cell_of_row wp _ k _ _ _ hblk]
    have F0 := Lib.hid (show Five wp w1.heap.size (.slice (some ⟨gt, 0, none⟩) 7 ct) (.slice none 0 0) (.int .i64 0) (.slice av ss.length cv) (.slice none 0 0) from ⟨cc 0, cc 1, cc 2, cc 3, cc 4⟩)
    have M0 := Lib.hid (HM1.out.kept ub)
    clear hblk ub cc HM1
    have rm0 : 1 ≤ 1 + rr := by omega
    have rm1 : 1 + rr ≤ 65536 := by omega
    cases hadT : addT (1 + rr) [0] ss with
    | none =>
      have AD := Lib.hid hadT
      clear hadT
      go_region_held3 (fun W' => W'.cell? ⟨w1.heap.size, 0, none⟩ = some (.slice (some ⟨gt, 0, none⟩) 7 ct) ∧ W'.cell? ⟨w1.heap.size, 1, none⟩ = some (.slice none 0 0) ∧ W'.cell? ⟨w1.heap.size, 2, none⟩ = some (.int .i64 0) ∧ W'.cell? ⟨w1.heap.size, 3, none⟩ = some (.slice av ss.length cv) ∧ W'.cell? ⟨w1.heap.size, 4, none⟩ = some (.slice none 0 0))
        (first | exact FB.out | exact FA.out | exact F0.out)
        (first
          | (go_at_call 7; refine (IN1.out _ (M0.out.kept ((Fr.refl (fun _ => False) wp).drewN 1)).up).mono ?_; rintro e wA ⟨aiA, ciA, rfl, hiA, uA⟩; have MA := Lib.hid ((M0.out.kept ((Fr.refl (fun _ => False) wp).drewN 1)).kept uA); have FA := Lib.hid (Five.kept (w := (wp).drewN 1) F0.out uA (fun h => h)); have IA := Lib.hid (And.intro hiA uA); clear hiA uA)
          | (go_at_call 6; refine (wnew_none MA.out hs6 (row_base IA.out.1 (M0.out.kept ((Fr.refl (fun _ => False) wp).drewN 1)).up.size) (by omega) HIB.out rm0 rm1 AD.out).mono ?_; rintro e wB ⟨rfl, uB⟩; have MB := Lib.hid (MA.out.kept uB); have FB := Lib.hid (FA.out.kept uB (fun h => h)); clear uB))
      all_goals
        go_wp2_with fail
      go_region_held3 (fun W' => W'.cell? ⟨w1.heap.size, 0, none⟩ = some (.slice (some ⟨gt, 0, none⟩) 7 ct) ∧ W'.cell? ⟨w1.heap.size, 1, none⟩ = some (.slice none 0 0) ∧ W'.cell? ⟨w1.heap.size, 2, none⟩ = some (.int .i64 0) ∧ W'.cell? ⟨w1.heap.size, 3, none⟩ = some (.slice av ss.length cv) ∧ W'.cell? ⟨w1.heap.size, 4, none⟩ = some (.slice none 0 0))
        (first | exact FD.out | exact FC.out | exact FB.out)
        (first
          | (go_at_call 7; refine (IN1.out _ (MB.out.kept ((Fr.refl (fun _ => False) wB).drewN 1)).up).mono ?_; rintro e wC ⟨aiC, ciC, rfl, hiC, uC⟩; have MC := Lib.hid ((MB.out.kept ((Fr.refl (fun _ => False) wB).drewN 1)).kept uC); have FC := Lib.hid (Five.kept (w := (wB).drewN 1) FB.out uC (fun h => h)); have IC := Lib.hid (And.intro hiC uC); clear hiC uC)
          | (go_at_call 8; refine (rnew_none MC.out hs6 (row_base IC.out.1 (MB.out.kept ((Fr.refl (fun _ => False) wB).drewN 1)).up.size) HIB.out rm0 rm1 AD.out).mono ?_; rintro e wD ⟨rfl, uD⟩; have MD := Lib.hid (MC.out.kept uD); have FD := Lib.hid (FC.out.kept uD (fun h => h)); clear uD))
      all_goals
        go_wp2_with fail
      refine (known_any (LK.out.below (below_up MD.out.up (Nat.le_refl _)))).mono ?_
      rintro e wE ⟨rfl, uE⟩
      have ME := Lib.hid (MD.out.kept uE)
      clear uE
      go_wp2_with fail
      go_ret
      exact ⟨rfl, below_up ME.out.up (Nat.le_refl _)⟩
    | some o =>
      have AD := Lib.hid hadT
      clear hadT
      go_region_held3 (fun W' => W'.cell? ⟨w1.heap.size, 0, none⟩ = some (.slice (some ⟨gt, 0, none⟩) 7 ct) ∧ W'.cell? ⟨w1.heap.size, 1, none⟩ = some (.slice none 0 0) ∧ W'.cell? ⟨w1.heap.size, 2, none⟩ = some (.int .i64 0) ∧ W'.cell? ⟨w1.heap.size, 3, none⟩ = some (.slice av ss.length cv) ∧ W'.cell? ⟨w1.heap.size, 4, none⟩ = some (.slice none 0 0))
        (first | exact FB.out | exact FA.out | exact F0.out)
        (first
          | (go_at_call 7; refine (IN1.out _ (M0.out.kept ((Fr.refl (fun _ => False) wp).drewN 1)).up).mono ?_; rintro e wA ⟨aiA, ciA, rfl, hiA, uA⟩; have MA := Lib.hid ((M0.out.kept ((Fr.refl (fun _ => False) wp).drewN 1)).kept uA); have FA := Lib.hid (Five.kept (w := (wp).drewN 1) F0.out uA (fun h => h)); have IA := Lib.hid (And.intro hiA uA); clear hiA uA)
          | (go_at_call 6; refine (wnew_some MA.out hs6 (row_base IA.out.1 (M0.out.kept ((Fr.refl (fun _ => False) wp).drewN 1)).up.size) (by omega) HIB.out rm0 rm1 AD.out).mono ?_; rintro e wB ⟨wq, wpp, wg, wc', wvl, wvs, wvi, rfl, hwB, uB⟩; have WB := Lib.hid (And.intro hwB uB); have MB := Lib.hid (MA.out.kept uB); have FB := Lib.hid (FA.out.kept uB (fun h => h)); clear uB hwB))
      all_goals
        go_wp2_with fail
      go_region_held3 (fun W' => W'.cell? ⟨w1.heap.size, 0, none⟩ = some (.slice (some ⟨gt, 0, none⟩) 7 ct) ∧ W'.cell? ⟨w1.heap.size, 1, none⟩ = some (.slice none 0 0) ∧ W'.cell? ⟨w1.heap.size, 2, none⟩ = some (.int .i64 0) ∧ W'.cell? ⟨w1.heap.size, 3, none⟩ = some (.slice av ss.length cv) ∧ W'.cell? ⟨w1.heap.size, 4, none⟩ = some (.slice none 0 0))
        (first | exact FD.out | exact FC.out | exact FB.out)
        (first
          | (go_at_call 7; refine (IN1.out _ (MB.out.kept ((Fr.refl (fun _ => False) wB).drewN 1)).up).mono ?_; rintro e wC ⟨aiC, ciC, rfl, hiC, uC⟩; have MC := Lib.hid ((MB.out.kept ((Fr.refl (fun _ => False) wB).drewN 1)).kept uC); have FC := Lib.hid (Five.kept (w := (wB).drewN 1) FB.out uC (fun h => h)); have IC := Lib.hid (And.intro hiC uC); clear hiC uC)
          | (go_at_call 8; refine (rnew_some MC.out hs6 (row_base IC.out.1 (MB.out.kept ((Fr.refl (fun _ => False) wB).drewN 1)).up.size) HIB.out rm0 rm1 AD.out).mono ?_; rintro e wD ⟨rs, rfl, hrD, uD, c1, c2, e1, e2, e3, e4, e5, e6, e7, e8⟩; have WD := Lib.hid (And.intro hrD (And.intro uD (And.intro c1 (And.intro c2 (And.intro e1 (And.intro e2 (And.intro e3 (And.intro e4 (And.intro e5 (And.intro e6 (And.intro e7 e8))))))))))); have MD := Lib.hid (MC.out.kept uD); have FD := Lib.hid (FC.out.kept uD (fun h => h)); clear uD hrD c1 c2 e1 e2 e3 e4 e5 e6 e7 e8))
      all_goals
        go_wp2_with fail
      refine (known_any (LK.out.below (below_up MD.out.up (Nat.le_refl _)))).mono ?_
      rintro e wE ⟨rfl, uE⟩
      have HPl : Hid (Pl W (wE.alloc (.cells #[.int .u64 0, .int .u64 0] 38)) wA.heap.size (St0 wq wpp wg wc' (1 + rr) o.1 wvl wvs wvi o.2 ins) rs (.slice (some ⟨wE.heap.size, 0, none⟩) 2 2) [0, 0]) := Lib.hid (by
        obtain ⟨hrD, uD, c1, c2, e1, e2, e3, e4, e5, e6, e7, e8⟩ := WD.out
        have zC := IC.out.2.size
        have zC' : wB.heap.size ≤ wC.heap.size := zC
        have zA : wp.heap.size ≤ wA.heap.size := IA.out.2.size
        have hgt := M0.out.ty.lt gt rfl
        have hol : o.2.length ≤ 6 := by
          have := addT_len _ _ _ _ AD.out
          omega
        refine pl_init WB.out.1 (up_trans (up_trans ((Fr.refl (fun _ => False) wB).drewN 1) IC.out.2) (up_trans uD uE)) (hrD.up uE) (fun b hb => ?_) (fun b hb => ?_) ?_ (fun b hb => ?_) ⟨e1.symm, e2.symm, e6.symm, e7.symm, e8.symm, e3.symm, rfl⟩ ⟨by show o.2.length ≤ 1000; omega, by show ins.length ≤ 1000; omega⟩ LK.out (MD.out.kept uE).up (MA.out.up.size)
        · have := c1 b hb; omega
        · have := c2 b hb; omega
        · omega
        · rw [e5] at hb
          have := (IC.out.1.lt b hb).1
          exact this)
      clear uE WB WD IA IC MA MB MC MD M0 F0 FA FB FC FD AD
      go_wp2_with fail
      generalize hSt : St0 wq wpp wg wc' (1 + rr) o.1 wvl wvs wvi o.2 ins = S at *
      have hSq : S.q = wq := by rw [← hSt]; rfl
      clear hSt
      subst hSq
      generalize wA.heap.size = N at *
      generalize wE.alloc (.cells #[.int .u64 0, .int .u64 0] 38) = wF at *
      go_loopw [15, 16] (fun v i wr => ∃ (k : Nat) (refs : List Int), i = .int .i64 k ∧ k ≤ ss.length ∧ refs.length = 2 + k ∧ Hid (Pl W wr N S rs v refs)) (fun _ i _ => ss.length - (Go.RowKit.intOf i).toNat)
      case atStart => exact ⟨0, [0, 0], rfl, Nat.zero_le _, rfl, HPl⟩
      case round =>
        obtain ⟨k, refs, rfl, hk, hrl, hR⟩ := hrel
        clear HPl
        obtain ⟨av2, cv2, hv2, hcv2, hcb2, _⟩ := row_parts hR.out.row
        rw [hrl] at hv2
        subst hv2
        by_cases hlt : k < ss.length
        · have hx := wordAt_wf (ws := rs.lits) (fun x hx => hR.out.rd.wl x hx) k
          obtain ⟨i, hi, hz, hz1, hz2⟩ := info_parts info_w
          obtain ⟨g2, c2, w4, hrun, hown, hgrow, hg2⟩ := run_append_one (P := Tryd.prog) wr W.heap.size 39 39 38 i (.int .u64 0) 8 Tryd.underlying39 hi hz hz1 hz2 rfl _ refs.length _ hR.out.row (.int .u64 (wordAt rs.lits k)) rfl
            (by unfold maxLen; omega) (by omega) hR.out.bel.size
          have HN := Lib.hid (hR.out.push hx hown hgrow hg2)
          rw [hrl] at hrun HN
          have HA := Lib.hid hrun
          have hkl : (k : Int) < (ss.length : Int) := by omega
          clear hrun hown hgrow hg2 hi hz hz1 hz2
          go_wp2_with fail
          refine (rlit_any hR.out.rd k).mono ?_
          rintro e w5 ⟨rfl, rfl⟩
          generalize wordAt rs.lits (k : Int) = x at *
          go_wp2_with (at_builtin; refine Lib.wpList_append_run _ rfl (.tmp 100) (.tmp 104) 39 39 rfl _ _ rfl rfl _ _ HA.out ?_)
          go_roundw
          case rel => exact ⟨k + 1, refs ++ [x], by go_num, by omega, by simp; omega, HN⟩
          case measure => simp [Go.RowKit.intOf]; omega
        · obtain rfl : k = ss.length := by omega
          go_wp2_with fail
          have HPl : Hid (Pl W wr N S rs (.slice av2 (2 + ss.length) cv2) refs) := hR
          clear hR
          generalize hQ : S.q = Q
          generalize hQ2 : rs.q = Q2
          go_loopw [15, 17] (fun v i wr => ∃ (k : Nat) (refs : List Int) (s : WSt) (r : RSt), i = .int .i64 k ∧ k ≤ len3 ∧ k ≤ 80 ∧ 2 ≤ refs.length ∧ refs.length ≤ 8 + k ∧ s.q = Q ∧ r.q = Q2 ∧ Hid (Pl W wr N s r v refs)) (fun _ i _ => 80 - (Go.RowKit.intOf i).toNat)
          case atStart => exact ⟨0, refs, S, rs, rfl, Nat.zero_le _, Nat.zero_le _, by omega, by omega, hQ, hQ2, HPl⟩
          case round =>
            clear HPl hrl
            obtain ⟨k, refs, s, r, rfl, hk1, hk2, hr2, hr8, rfl, rfl, hR⟩ := hrel
            obtain ⟨av3, cv3, hv3, hcv3, hcb3, hrow⟩ := row_parts hR.out.row
            subst hv3
            by_cases hk : k < len3 ∧ k < 80
            · obtain ⟨hk, hk'⟩ := hk
              have hkx : k < ps.length := by omega
              obtain ⟨b, o, cs, rfl, hb, _, ⟨rfl, hw1, hw2, hw3, hw4⟩, _, hcell⟩ := HP.out.inside.elem (k := k) hkx
              generalize ps[k]'hkx = st at *
              have d0 : wr.cell? ⟨b, o + k * 4, none⟩ = some (.int .i64 st.what) := (hR.out.bel.cell (p := ⟨b, o + k * 4, none⟩) hb).trans (hcell 0 _ rfl)
              have d1 := (hR.out.bel.cell (p := ⟨b, o + k * 4 + 1, none⟩) hb).trans (hcell 1 _ rfl)
              have d2 := (hR.out.bel.cell (p := ⟨b, o + k * 4 + 2, none⟩) hb).trans (hcell 2 _ rfl)
              have d3 := (hR.out.bel.cell (p := ⟨b, o + k * 4 + 3, none⟩) hb).trans (hcell 3 _ rfl)
              obtain ⟨gR, rfl, _, hgR, hcR⟩ := hrow (by omega)
              obtain ⟨L, hL⟩ : ∃ L, refs.length = L := ⟨_, rfl⟩
              have ma := Int.emod_nonneg st.a (show (L : Int) ≠ 0 by omega)
              have ma' := Int.emod_lt_of_pos st.a (show (0 : Int) < (L : Int) by omega)
              have mb := Int.emod_nonneg st.b (show (L : Int) ≠ 0 by omega)
              have mb' := Int.emod_lt_of_pos st.b (show (0 : Int) < (L : Int) by omega)
              obtain ⟨ia, hia⟩ := Int.eq_ofNat_of_zero_le ma
              obtain ⟨ib, hib⟩ := Int.eq_ofNat_of_zero_le mb
              have ra0 := hcR ia (.int .u64 (wordAt refs ia)) (by rw [List.getElem?_map, wordAt_lt (by omega)]; rfl)
              have rb0 := hcR ib (.int .u64 (wordAt refs ib)) (by rw [List.getElem?_map, wordAt_lt (by omega)]; rfl)
              have wa := wordAt_wf (ws := refs) (fun x hx => hR.out.wref x hx) ia
              have wb := wordAt_wf (ws := refs) (fun x hx => hR.out.wref x hx) ib
              have HI := Lib.hid (And.intro hia hib)
              have hia1 : (ia : Int) < (L : Int) := by omega
              have hib1 : (ib : Int) < (L : Int) := by omega
              obtain ⟨hva0, hva1⟩ := wa
              obtain ⟨hvb0, hvb1⟩ := wb
              have HL := Lib.hid hL
              rw [hL]
              clear hia hib ma ma' mb mb' hcR hrow hcell hL
              generalize wordAt refs (ia : Int) = ra at *
              generalize wordAt refs (ib : Int) = rb at *
              have kl3 : (k : Int) < (len3 : Int) := by omega
              have hL2 : 2 ≤ L := by have := HL.out; omega
              have hL8 : L ≤ 88 := by have := HL.out; omega
              have WX := Lib.hid (And.intro hw1 (And.intro hw2 (And.intro hw3 hw4)))
              clear hw1 hw2 hw3 hw4
              go_wp2_with fail
              refine (pick_any st.a L _ (by omega) (by omega)).mono ?_
              rintro e w5 ⟨rfl, rfl⟩
              rw [HI.out.1]
              go_wp2_with fail
              refine (pick_any st.b L _ (by omega) (by omega)).mono ?_
              rintro e w5 ⟨rfl, rfl⟩
              rw [HI.out.2]
              go_wp2_with fail
              have SX : Hid (Sx W (wr.alloc (.cells #[.int .i64 st.what, .int .i64 st.a, .int .i64 st.b, .int .u64 st.v] 42)) N s r (.slice (some ⟨gR, 0, none⟩) L cv3) refs wr.heap.size st) := Lib.hid (by rw [← HL.out]; exact sx_new hR.out st)
              have hq0 := Int.emod_nonneg st.what (show (9 : Int) ≠ 0 by omega)
              have hq9 := Int.emod_lt_of_pos st.what (show (0 : Int) < 9 by omega)
              clear hR d0 d1 d2 d3 ra0 rb0 hgR
              refine (pick_any st.what 9 _ (by omega) (by omega)).mono ?_
              rintro e w5 ⟨rfl, rfl⟩
              generalize wr.alloc (.cells #[.int .i64 st.what, .int .i64 st.a, .int .i64 st.b, .int .u64 st.v] 42) = wv at *
              generalize wr.heap.size = B at *
              generalize st.what % 9 = qw at *
              go_upto_block 6 with fail
              go_cut [15, 21] (fun v15 v21 wx => ∃ (refs' : List Int) (s' : WSt) (r' : RSt), v21 = .bool true ∧ 2 ≤ refs'.length ∧ refs'.length ≤ 9 + k ∧ s'.q = s.q ∧ r'.q = r.q ∧ Hid (Sx W wx N s' r' v15 refs' B st))
              case first =>
                have WV : u64b st.v := WX.out.2.2.2
                have c1 : wv.cell? ⟨B, 1, none⟩ = some (.int .i64 st.a) := SX.out.x.c 1
                have c2 : wv.cell? ⟨B, 2, none⟩ = some (.int .i64 st.b) := SX.out.x.c 2
                have c3 : wv.cell? ⟨B, 3, none⟩ = some (.int .u64 st.v) := SX.out.x.c 3
                by_cases i0 : qw = 0
                · have b0 : (qw == 0) = true := beq_iff_eq.2 i0
                  clear i0
                  as_aux_lemma =>
                  go_wp2_with fail
                  have h1 := pl_print SX.out.pl (Int.tmod st.a 5) st.v WV
                  refine h1.mono ?_
                  rintro e wx ⟨rfl, vt, d⟩
                  have X3 := Lib.hid (SX.out.mid d)
                  have D3 := Lib.hid d
                  have c1 : wx.cell? ⟨B, 1, none⟩ = some (.int .i64 st.a) := X3.out.c 1
                  have c2 : wx.cell? ⟨B, 2, none⟩ = some (.int .i64 st.b) := X3.out.c 2
                  have c3 : wx.cell? ⟨B, 3, none⟩ = some (.int .u64 st.v) := X3.out.c 3
                  clear d h1
                  go_wp2_with fail
                  have h2 := pl_rprint SX.out.pl (Int.tmod st.a 5) st.v WV D3.out
                  refine h2.mono ?_
                  rintro e wy ⟨rfl, hb⟩
                  have HB := Lib.hid (SX.out.both hb)
                  clear hb h2
                  go_wp2_with fail
                  go_meet
                  obtain ⟨s', r', e1, e2, hs⟩ := HB.out
                  exact ⟨_, s', r', by first | rfl | simp, by have := HL.out; omega, by have := HL.out; omega, e1, e2, Lib.hid hs⟩
                have b0 : (qw == 0) = false := beq_eq_false_iff_ne.2 i0
                by_cases i1 : qw = 1
                · have b1 : (qw == 1) = true := beq_iff_eq.2 i1
                  clear i1
                  as_aux_lemma =>
                  go_wp2_with fail
                  have h1 := pl_print SX.out.pl 3 ra ⟨hva0, hva1⟩
                  refine h1.mono ?_
                  rintro e wx ⟨rfl, vt, d⟩
                  have X3 := Lib.hid (SX.out.mid d)
                  have D3 := Lib.hid d
                  have c1 : wx.cell? ⟨B, 1, none⟩ = some (.int .i64 st.a) := X3.out.c 1
                  have c2 : wx.cell? ⟨B, 2, none⟩ = some (.int .i64 st.b) := X3.out.c 2
                  have c3 : wx.cell? ⟨B, 3, none⟩ = some (.int .u64 st.v) := X3.out.c 3
                  clear d h1
                  go_wp2_with fail
                  have h2 := pl_rprint SX.out.pl 3 ra ⟨hva0, hva1⟩ D3.out
                  refine h2.mono ?_
                  rintro e wy ⟨rfl, hb⟩
                  have HB := Lib.hid (SX.out.both hb)
                  clear hb h2
                  go_wp2_with fail
                  go_meet
                  obtain ⟨s', r', e1, e2, hs⟩ := HB.out
                  exact ⟨_, s', r', by first | rfl | simp, by have := HL.out; omega, by have := HL.out; omega, e1, e2, Lib.hid hs⟩
                have b1 : (qw == 1) = false := beq_eq_false_iff_ne.2 i1
                by_cases i2 : qw = 2
                · have b2 : (qw == 2) = true := beq_iff_eq.2 i2
                  clear i2
                  as_aux_lemma =>
                  go_wp2_with fail
                  have h1 := pl_input SX.out.pl
                  generalize hx : inputOf s = x at h1
                  have bx : (x == x) = true := beq_self_eq_true x
                  refine h1.mono ?_
                  rintro e wx ⟨rfl, d⟩
                  have X3 := Lib.hid (SX.out.mid d)
                  have D3 := Lib.hid d
                  have c1 : wx.cell? ⟨B, 1, none⟩ = some (.int .i64 st.a) := X3.out.c 1
                  have c2 : wx.cell? ⟨B, 2, none⟩ = some (.int .i64 st.b) := X3.out.c 2
                  have c3 : wx.cell? ⟨B, 3, none⟩ = some (.int .u64 st.v) := X3.out.c 3
                  clear d h1
                  go_wp2_with fail
                  have h2 := pl_rinput SX.out.pl D3.out
                  rw [hx] at h2
                  refine h2.mono ?_
                  rintro e wy ⟨rfl, hb⟩
                  have HB := Lib.hid (SX.out.both hb)
                  clear hb h2
                  go_wp2_with fail
                  go_meet
                  obtain ⟨s', r', e1, e2, hs⟩ := HB.out
                  exact ⟨_, s', r', by first | rfl | simp, by have := HL.out; omega, by have := HL.out; omega, e1, e2, Lib.hid hs⟩
                have b2 : (qw == 2) = false := beq_eq_false_iff_ne.2 i2
                by_cases i3 : qw = 3
                · have b3 : (qw == 3) = true := beq_iff_eq.2 i3
                  clear i3
                  as_aux_lemma =>
                  go_wp2_with fail
                  obtain ⟨x, b, hxb⟩ := allocE_form s (Int.tmod st.a 9) (wordAt sizesI (Int.tmod st.a 9))
                  have h1 := pl_object SX.out.pl (Int.tmod st.a 9)
                  rw [hxb] at h1
                  have bx : (x == x) = true := beq_self_eq_true x
                  have bb : (b == b) = true := beq_self_eq_true b
                  refine h1.mono ?_
                  rintro e wx ⟨rfl, s3, d, ds⟩
                  have X3 := Lib.hid (SX.out.mid d)
                  have D3 := Lib.hid d
                  have DS := Lib.hid ds
                  clear ds
                  have c1 : wx.cell? ⟨B, 1, none⟩ = some (.int .i64 st.a) := X3.out.c 1
                  have c2 : wx.cell? ⟨B, 2, none⟩ = some (.int .i64 st.b) := X3.out.c 2
                  have c3 : wx.cell? ⟨B, 3, none⟩ = some (.int .u64 st.v) := X3.out.c 3
                  clear d h1
                  go_wp2_with fail
                  have h2 := pl_robject SX.out.pl D3.out DS.out
                  rw [hxb] at h2
                  refine h2.mono ?_
                  rintro e wy ⟨rfl, hb⟩
                  have HB := Lib.hid (SX.out.both hb)
                  clear hb h2
                  go_wp2_with fail
                  go_meet
                  obtain ⟨s', r', e1, e2, hs⟩ := HB.out
                  exact ⟨_, s', r', by first | rfl | simp, by have := HL.out; omega, by have := HL.out; omega, e1, e2, Lib.hid hs⟩
                have b3 : (qw == 3) = false := beq_eq_false_iff_ne.2 i3
                by_cases i4 : qw = 4
                · have b4 : (qw == 4) = true := beq_iff_eq.2 i4
                  clear i4
                  as_aux_lemma =>
                  go_wp2_with fail
                  obtain ⟨x, b, hxb⟩ := allocE_form s 6 st.b
                  have h1 := pl_slice SX.out.pl 6 st.b
                  rw [hxb] at h1
                  have bx : (x == x) = true := beq_self_eq_true x
                  have bb : (b == b) = true := beq_self_eq_true b
                  refine h1.mono ?_
                  rintro e wx ⟨rfl, s3, d, ds⟩
                  have X3 := Lib.hid (SX.out.mid d)
                  have D3 := Lib.hid d
                  have DS := Lib.hid ds
                  clear ds
                  have c1 : wx.cell? ⟨B, 1, none⟩ = some (.int .i64 st.a) := X3.out.c 1
                  have c2 : wx.cell? ⟨B, 2, none⟩ = some (.int .i64 st.b) := X3.out.c 2
                  have c3 : wx.cell? ⟨B, 3, none⟩ = some (.int .u64 st.v) := X3.out.c 3
                  clear d h1
                  go_wp2_with fail
                  have h2 := pl_rslice SX.out.pl D3.out DS.out
                  rw [hxb] at h2
                  refine h2.mono ?_
                  rintro e wy ⟨rfl, hb⟩
                  have HB := Lib.hid (SX.out.both hb)
                  clear hb h2
                  go_wp2_with fail
                  go_meet
                  obtain ⟨s', r', e1, e2, hs⟩ := HB.out
                  exact ⟨_, s', r', by first | rfl | simp, by have := HL.out; omega, by have := HL.out; omega, e1, e2, Lib.hid hs⟩
                have b4 : (qw == 4) = false := beq_eq_false_iff_ne.2 i4
                by_cases i5 : qw = 5
                · have b5 : (qw == 5) = true := beq_iff_eq.2 i5
                  clear i5
                  as_aux_lemma =>
                  go_wp2_with fail
                  have h1 := pl_cat SX.out.pl ra rb hva0 hvb0
                  have bd := catX_bd SX.out.pl (strAt s.ws ra ++ strAt s.ws rb)
                  obtain ⟨x, hx⟩ : ∃ x, (catX s (strAt s.ws ra ++ strAt s.ws rb)).1 = x := ⟨_, rfl⟩
                  obtain ⟨b, hxb⟩ : ∃ b, (catX s (strAt s.ws ra ++ strAt s.ws rb)).2 = b := ⟨_, rfl⟩
                  rw [hx, hxb] at h1
                  rw [hx] at bd
                  have bx : (x == x) = true := beq_self_eq_true x
                  have bb : (b == b) = true := beq_self_eq_true b
                  have HX2 := Lib.hid (And.intro hx hxb)
                  have BD := Lib.hid bd
                  clear hx hxb bd
                  refine h1.mono ?_
                  rintro e wx ⟨rfl, s3, d, ds⟩
                  have D3 := Lib.hid d
                  have DS := Lib.hid ds
                  clear ds d h1 c1 c2 c3
                  go_wp2_with fail
                  have h2 := pl_rcat SX.out.pl hva0 hvb0 D3.out DS.out
                  rw [HX2.out.1, HX2.out.2] at h2
                  refine h2.mono ?_
                  rintro e wy ⟨rfl, hb⟩
                  obtain ⟨s', r', e1, e2, hs⟩ := SX.out.both hb
                  obtain ⟨i, hi, hz, hz1, hz2⟩ := info_parts info_w
                  obtain ⟨g2, cc2, w4, hrun, hown, hgrow, hg2⟩ := run_append_one (P := Tryd.prog) wy W.heap.size 39 39 38 i (.int .u64 0) 8 Tryd.underlying39 hi hz hz1 hz2 rfl _ refs.length _ hs.pl.row (.int .u64 x) rfl
                    (by have := HL.out; unfold maxLen; omega) (by have := HL.out; omega) hs.pl.bel.size
                  have HN := Lib.hid (And.intro e1 (And.intro e2 (hs.push BD.out hown hgrow hg2)))
                  rw [HL.out] at hrun HN
                  have HA := Lib.hid hrun
                  clear hrun hown hgrow hg2 hi hz hz1 hz2 hb hs e1 e2 h2
                  go_wp2_with (at_builtin; refine Lib.wpList_append_run _ rfl (.tmp 289) (.tmp 291) 39 39 rfl _ _ rfl rfl _ _ HA.out ?_)
                  go_meet
                  exact ⟨_, s', r', by first | rfl | simp, by have := HL.out; rw [List.length_append]; simp only [List.length_cons, List.length_nil]; omega, by have := HL.out; rw [List.length_append]; simp only [List.length_cons, List.length_nil]; omega, HN.out.1, HN.out.2.1, Lib.hid HN.out.2.2⟩
                have b5 : (qw == 5) = false := beq_eq_false_iff_ne.2 i5
                by_cases i6 : qw = 6
                · have b6 : (qw == 6) = true := beq_iff_eq.2 i6
                  clear i6
                  as_aux_lemma =>
                  go_wp2_with fail
                  have h1 := pl_cat SX.out.pl ra rb hva0 hvb0
                  have bd := catX_bd SX.out.pl (strAt s.ws ra ++ strAt s.ws rb)
                  obtain ⟨x, hx⟩ : ∃ x, (catX s (strAt s.ws ra ++ strAt s.ws rb)).1 = x := ⟨_, rfl⟩
                  obtain ⟨b, hxb⟩ : ∃ b, (catX s (strAt s.ws ra ++ strAt s.ws rb)).2 = b := ⟨_, rfl⟩
                  rw [hx, hxb] at h1
                  rw [hx] at bd
                  have bx : (x == x) = true := beq_self_eq_true x
                  have bb : (b == b) = true := beq_self_eq_true b
                  have HX2 := Lib.hid (And.intro hx hxb)
                  have BD := Lib.hid bd
                  clear hx hxb bd
                  refine h1.mono ?_
                  rintro e wx ⟨rfl, s3, d, ds⟩
                  have D3 := Lib.hid d
                  have DS := Lib.hid ds
                  clear ds d h1 c1 c2 c3
                  go_wp2_with fail
                  have h2 := pl_rcat SX.out.pl hva0 hvb0 D3.out DS.out
                  rw [HX2.out.1, HX2.out.2] at h2
                  refine h2.mono ?_
                  rintro e wy ⟨rfl, hb⟩
                  obtain ⟨s', r', e1, e2, hs⟩ := SX.out.both hb
                  obtain ⟨i, hi, hz, hz1, hz2⟩ := info_parts info_w
                  obtain ⟨g2, cc2, w4, hrun, hown, hgrow, hg2⟩ := run_append_one (P := Tryd.prog) wy W.heap.size 39 39 38 i (.int .u64 0) 8 Tryd.underlying39 hi hz hz1 hz2 rfl _ refs.length _ hs.pl.row (.int .u64 x) rfl
                    (by have := HL.out; unfold maxLen; omega) (by have := HL.out; omega) hs.pl.bel.size
                  have HN := Lib.hid (And.intro e1 (And.intro e2 (hs.push BD.out hown hgrow hg2)))
                  rw [HL.out] at hrun HN
                  have HA := Lib.hid hrun
                  clear hrun hown hgrow hg2 hi hz hz1 hz2 hb hs e1 e2 h2
                  go_wp2_with (at_builtin; refine Lib.wpList_append_run _ rfl (.tmp 289) (.tmp 291) 39 39 rfl _ _ rfl rfl _ _ HA.out ?_)
                  go_meet
                  exact ⟨_, s', r', by first | rfl | simp, by have := HL.out; rw [List.length_append]; simp only [List.length_cons, List.length_nil]; omega, by have := HL.out; rw [List.length_append]; simp only [List.length_cons, List.length_nil]; omega, HN.out.1, HN.out.2.1, Lib.hid HN.out.2.2⟩
                have b6 : (qw == 6) = false := beq_eq_false_iff_ne.2 i6
                by_cases i7 : qw = 7
                · have b7 : (qw == 7) = true := beq_iff_eq.2 i7
                  clear i7
                  as_aux_lemma =>
                  have er := SX.out.pl.same.1
                  have EQ := fun (w' : World) (h : Sx W w' N s r (.slice (some ⟨gR, 0, none⟩) L cv3) refs B st) => equal_any h.pl.wd ra rb hva0 hvb0
                  have LS := fun (w' : World) (h : Sx W w' N s r (.slice (some ⟨gR, 0, none⟩) L cv3) refs B st) => less_any h.pl.wd ra rb hva0 hvb0
                  have RA := fun (w' : World) (h : Sx W w' N s r (.slice (some ⟨gR, 0, none⟩) L cv3) refs B st) => rstring_any h.pl.rd.heap ra hva0
                  have RB := fun (w' : World) (h : Sx W w' N s r (.slice (some ⟨gR, 0, none⟩) L cv3) refs B st) => rstring_any h.pl.rd.heap rb hvb0
                  rw [← er] at RA RB
                  generalize strAt s.ws ra = s1 at *
                  generalize strAt s.ws rb = s2 at *
                  have EQ1 := Lib.hid EQ
                  have LS1 := Lib.hid LS
                  have RA1 := Lib.hid RA
                  have RB1 := Lib.hid RB
                  have g1 : (eqT s1 s2 == (s1.toList == s2.toList)) = true := beq_self_eq_true _
                  have g2 : (Op.bytesLess s1.toList s2.toList == Op.bytesLess s1.toList s2.toList) = true := beq_self_eq_true _
                  have c5 := SX.out.pl.rd.c5
                  clear EQ LS RA RB er c1 c2 c3
                  go_wp2_with fail
                  go_region_held3 (fun W' => W'.cell? ⟨r.q, 5, none⟩ = some (.pointer (some ⟨r.p, 0, none⟩)))
                    (first | exact X9.out.pl.rd.c5 | exact X8.out.pl.rd.c5 | exact X7.out.pl.rd.c5 | exact X6.out.pl.rd.c5 | exact X5.out.pl.rd.c5 | exact X4.out.pl.rd.c5 | exact c5)
                    (first
                      | (go_at_call 22; refine (RB1.out _ X8.out).mono ?_; rintro e w9 ⟨rfl, u⟩; have X9 := Lib.hid (X8.out.up u); clear u)
                      | (go_at_call 22; refine (RA1.out _ X7.out).mono ?_; rintro e w8 ⟨rfl, u⟩; have X8 := Lib.hid (X7.out.up u); clear u)
                      | (go_at_call 23; refine (LS1.out _ X6.out).mono ?_; rintro e w7 ⟨rfl, u⟩; have X7 := Lib.hid (X6.out.up u); clear u)
                      | (go_at_call 22; refine (RB1.out _ X5.out).mono ?_; rintro e w6 ⟨rfl, u⟩; have X6 := Lib.hid (X5.out.up u); clear u)
                      | (go_at_call 22; refine (RA1.out _ X4.out).mono ?_; rintro e w5 ⟨rfl, u⟩; have X5 := Lib.hid (X4.out.up u); clear u)
                      | (go_at_call 21; refine (EQ1.out _ (SX.out.up ((Fr.refl (fun _ => False) wv).drewN 1))).mono ?_; rintro e w4 ⟨rfl, u⟩; have X4 := Lib.hid ((SX.out.up ((Fr.refl (fun _ => False) wv).drewN 1)).up u); clear u))
                  all_goals
                    go_wp2_with fail
                    go_meet
                    exact ⟨_, s, r, by first | rfl | simp, by have := HL.out; omega, by have := HL.out; omega, rfl, rfl, Lib.hid X9.out⟩
                have b7 : (qw == 7) = false := beq_eq_false_iff_ne.2 i7
                clear i0 i1 i2 i3 i4 i5 i6 i7 c1 c2 c3
                as_aux_lemma =>
                have hsz : s.sizes.length ≤ 1000 := by rw [SX.out.pl.same.2.2.2.2.2.2]; decide
                go_wp2_with fail
                refine (wcopy_any SX.out.pl.wd SX.out.pl.few.1 hsz SX.out.pl.few.2).mono ?_
                rintro e w3 ⟨sc, rfl, hw, hu, f1, f2, f3, f4, f5⟩
                have C3 : Hid (Cp wv w3 sc) := Lib.hid ⟨hu, hw⟩
                have er := SX.out.pl.same
                have E1 : sc.ws = r.ws := f1.trans er.1
                have E2 : sc.taken = r.taken := f2.trans er.2.2.2.1
                have E3 : sc.lines = r.lines := f3.trans er.2.2.2.2.1
                have EE := Lib.hid (And.intro E1 (And.intro E2 E3))
                obtain ⟨a9, c9, h9, _⟩ := row_parts SX.out.pl.rd.lines
                have RS : Hid (∀ w', Up wv w' → w'.cell? ⟨r.q, 5, none⟩ = some (.pointer (some ⟨r.p, 0, none⟩)) ∧ w'.cell? ⟨r.p, 1, none⟩ = some (.slice (some ⟨r.g, 0, none⟩) r.ws.length r.cap) ∧ w'.cell? ⟨r.q, 9, none⟩ = some (.slice a9 r.lines.length c9) ∧ w'.cell? ⟨r.q, 8, none⟩ = some (.int .i64 r.taken)) := Lib.hid (fun w' u => by have := rs4 (SX.out.up u).pl.rd; unfold Rs4 at this; rw [h9] at this; exact this)
                have HD : Hid (∀ w', Up wv w' → Holds w' r.g r.ws) := Lib.hid (fun w' u => Holds.of (SX.out.up u).pl.rd.heap.row)
                have HS : Hid (∀ w', Up wv w' → w'.ownsRow W.heap.size 9 1 (.slice a9 r.lines.length c9) r.lines.length (r.lines.map Value.string)) := Lib.hid (fun w' u => by have := (SX.out.up u).pl.rd.lines; rw [h9] at this; exact this)
                have rl : r.ws.length ≤ 65536 := by have := SX.out.pl.rd.heap.fits; have := SX.out.pl.rd.heap.most; omega
                have rf : r.lines.length ≤ 65536 := by have := SX.out.pl.rd.few; omega
                have RL := Lib.hid (And.intro rl rf)
                have u3 := C3.out.up
                have U3 := Lib.hid u3
                have bt : (r.taken == r.taken) = true := beq_self_eq_true _
                have TK : ∀ w', Cp wv w' sc → Calls Tryd.prog 30 #[.pointer (some ⟨sc.q, 0, none⟩)] w' fun e w'' => e = .returned (.int .i64 r.taken) ∧ w' = w'' := fun w' h => by have := taken_any h.wd; rw [E2] at this; exact this
                have TK1 := Lib.hid TK
                have TR : ∀ w', Cp wv w' sc → Calls Tryd.prog 29 #[.pointer (some ⟨sc.q, 0, none⟩)] w' fun e w'' => ∃ v', e = .returned v' ∧ w''.ownsRow w'.heap.size 9 1 v' r.lines.length (r.lines.map Value.string) ∧ Up w' w'' := fun w' h => by have := trace_any h.wd; rw [E3] at this; exact this
                have TR1 := Lib.hid TR
                clear hw hu f1 f2 f3 f4 f5 er E1 E2 E3 h9 rl rf u3 TK TR hsz
                go_wp2_with fail
                refine (heapof_any C3.out.wd).mono ?_
                rintro e w4 ⟨rfl, rfl⟩
                have c30 := RS.out _ U3.out
                obtain ⟨k1, k2, k3, k4⟩ := c30
                go_wp2_with fail
                go_region_held3 (fun W' => W'.cell? ⟨r.q, 5, none⟩ = some (.pointer (some ⟨r.p, 0, none⟩)) ∧ W'.cell? ⟨r.p, 1, none⟩ = some (.slice (some ⟨r.g, 0, none⟩) r.ws.length r.cap) ∧ W'.cell? ⟨r.q, 9, none⟩ = some (.slice a9 r.lines.length c9) ∧ W'.cell? ⟨r.q, 8, none⟩ = some (.int .i64 r.taken))
                  (first | exact RS.out _ C7.out.up | exact RS.out _ C6.out.up | exact RS.out _ C5.out.up | exact RS.out _ C4.out.up | exact ⟨k1, k2, k3, k4⟩)
                  (first
                    | (go_at_call 30; refine (TK1.out _ C7.out).mono ?_; rintro e w8 ⟨rfl, rfl⟩)
                    | (go_at_call 28; refine (strs_eq RL.out.2 R6.out (HS.out _ C6.out.up)).mono ?_; rintro e w7 ⟨rfl, m7, rfl⟩; have C7 := Lib.hid (C6.out.go ((Fr.refl (fun _ => False) w6).drewN m7)))
                    | (go_at_call 29; refine (TR1.out _ C5.out).mono ?_; rintro e w6 ⟨v6, rfl, r6, u⟩; obtain ⟨a6, c6, rfl, _⟩ := row_parts r6; have R6 := Lib.hid r6; have C6 := Lib.hid (C5.out.go u); clear u r6)
                    | (go_at_call 26; refine (words_eq RL.out.1 H4.out (HD.out _ C4.out.up)).mono ?_; rintro e w5 ⟨rfl, m5, rfl⟩; have C5 := Lib.hid (C4.out.go ((Fr.refl (fun _ => False) w4).drewN m5)))
                    | (go_at_call 27; refine (words_w (C3.out.wd.drewN 1) EE.out.1).mono ?_; rintro e w4 ⟨g4, c4, rfl, h4, u⟩; have H4 := Lib.hid h4; have C4 := Lib.hid ((C3.out.go ((Fr.refl (fun _ => False) w3).drewN 1)).go u); clear u h4)
                    | (go_at_call 25; refine (heapof_any (C3.out.wd.drewN 1)).mono ?_; rintro e wh ⟨rfl, rfl⟩))
                all_goals
                  clear k1 k2 k3 k4
                  go_wp2_with fail
                  have tb : Tab _ := (SX.out.pl.lk.below (C7.out.up.below (Nat.le_refl _) (fun _ _ h => h))).tab
                  refine (print_any C7.out.wd tb 1 5 (by unfold u64b; omega)).mono ?_
                  rintro e w8 ⟨rfl, vt8, d8⟩
                  have C8 := Lib.hid (C7.out.does d8)
                  clear d8 tb
                  go_wp2_with fail
                  refine (object_any C8.out.wd 5).mono ?_
                  intro e w9 hd9
                  obtain ⟨y9, s9, rfl, d9, q9⟩ := allocW_does hd9
                  have q9' : s9.q = sc.q := q9
                  have C9 := Lib.hid (C8.out.does d9)
                  clear d9 hd9 q9
                  go_wp2_with fail
                  have hin := input_any C9.out.wd
                  rw [q9'] at hin
                  refine hin.mono ?_
                  rintro e w10 ⟨rfl, d10⟩
                  have C10 := Lib.hid (C9.out.does d10)
                  clear d10 hin
                  go_wp2_with fail
                  go_meet
                  exact ⟨_, s, r, by first | rfl | simp, by have := HL.out; omega, by have := HL.out; omega, rfl, rfl, Lib.hid (SX.out.up C10.out.up)⟩
              case rest =>
                clear SX hq0 hq9
                obtain ⟨refs', s', r', hv21, hn1, hn2, e1, e2, hX⟩ := hcut
                subst hv21
                obtain ⟨av5, cv5, hv5, hcv5, hcb5, _⟩ := row_parts hX.out.pl.row
                subst hv5
                have el := hX.out.pl.same.2.1
                have et := hX.out.pl.same.2.2.2.1
                have LA : ∀ w', Sx W w' N s' r' (.slice av5 refs'.length cv5) refs' B st → Calls Tryd.prog 31 #[.pointer (some ⟨s.q, 0, none⟩), .int .i64 st.a] w' fun e w'' => e = .returned (.int .u64 (wordAt s'.lits st.a)) ∧ w' = w'' := fun w' h => by rw [← e1]; exact lit_any h.pl.wd st.a
                have LB : ∀ w', Sx W w' N s' r' (.slice av5 refs'.length cv5) refs' B st → Calls Tryd.prog 10 #[.pointer (some ⟨r.q, 0, none⟩), .int .i64 st.a] w' fun e w'' => e = .returned (.int .u64 (wordAt s'.lits st.a)) ∧ w' = w'' := fun w' h => by rw [← e2, el]; exact rlit_any h.pl.rd st.a
                have TK : ∀ w', Sx W w' N s' r' (.slice av5 refs'.length cv5) refs' B st → Calls Tryd.prog 30 #[.pointer (some ⟨s.q, 0, none⟩)] w' fun e w'' => e = .returned (.int .i64 r'.taken) ∧ w' = w'' := fun w' h => by rw [← e1, ← et]; exact taken_any h.pl.wd
                generalize wordAt s'.lits st.a = x at *
                have LA1 := Lib.hid LA
                have LB1 := Lib.hid LB
                have TK1 := Lib.hid TK
                have bx : (x != x) = false := by simp
                have bt : (r'.taken != r'.taken) = false := by simp
                have bx2 : (x == x) = true := beq_self_eq_true x
                have bt2 : (r'.taken == r'.taken) = true := beq_self_eq_true _
                have c1 : wc.cell? ⟨B, 1, none⟩ = some (.int .i64 st.a) := hX.out.x.c 1
                have c8 : wc.cell? ⟨r.q, 8, none⟩ = some (.int .i64 r'.taken) := by rw [← e2]; exact hX.out.pl.rd.c8
                have EN := Lib.hid (And.intro e1 (And.intro e2 (And.intro hn1 hn2)))
                clear LA LB TK el et e1 e2 hn1 hn2
                as_aux_lemma =>
                go_wp2_with fail
                go_region_held3 (fun W' => W'.cell? ⟨B, 1, none⟩ = some (.int .i64 st.a) ∧ W'.cell? ⟨r.q, 8, none⟩ = some (.int .i64 r'.taken))
                  (exact ⟨c1, c8⟩)
                  (first
                    | (go_at_call 30; refine (TK1.out _ (hX.out.up ((Fr.refl (fun _ => False) wc).drewN 1))).mono ?_; rintro e w8 ⟨rfl, rfl⟩)
                    | (go_at_call 10; refine (LB1.out _ (hX.out.up ((Fr.refl (fun _ => False) wc).drewN 1))).mono ?_; rintro e w8 ⟨rfl, rfl⟩)
                    | (go_at_call 31; refine (LA1.out _ (hX.out.up ((Fr.refl (fun _ => False) wc).drewN 1))).mono ?_; rintro e w8 ⟨rfl, rfl⟩))
                all_goals
                  go_wp2_with fail
                  go_roundw
                  case rel => exact ⟨k + 1, refs', s', r', by go_num, by omega, by omega, EN.out.2.2.1, by have := EN.out.2.2.2; omega, EN.out.1, EN.out.2.1, Lib.hid (hX.out.up ((Fr.refl (fun _ => False) wc).drewN 1)).pl⟩
                  case measure => simp [Go.RowKit.intOf]; omega
            · obtain ⟨a9, c9, h9, _⟩ := row_parts hR.out.rd.lines
              have er := hR.out.same
              have E1 : s.ws = r.ws := er.1
              have E3 : s.lines = r.lines := er.2.2.2.2.1
              have RS : Hid (∀ w', Up wr w' → w'.cell? ⟨r.q, 5, none⟩ = some (.pointer (some ⟨r.p, 0, none⟩)) ∧ w'.cell? ⟨r.p, 1, none⟩ = some (.slice (some ⟨r.g, 0, none⟩) r.ws.length r.cap)  ∧ w'.cell? ⟨r.q, 9, none⟩ = some (.slice a9 r.lines.length c9)) := Lib.hid (fun w' u => by have := rs4 (hR.out.up u).rd; unfold Rs4 at this; rw [h9] at this; exact ⟨this.1, this.2.1, this.2.2.1⟩)
              have HD : Hid (∀ w', Up wr w' → Holds w' r.g r.ws) := Lib.hid (fun w' u => Holds.of (hR.out.up u).rd.heap.row)
              have HS : Hid (∀ w', Up wr w' → w'.ownsRow W.heap.size 9 1 (.slice a9 r.lines.length c9) r.lines.length (r.lines.map Value.string)) := Lib.hid (fun w' u => by have := (hR.out.up u).rd.lines; rw [h9] at this; exact this)
              have rl : r.ws.length ≤ 65536 := by have := hR.out.rd.heap.fits; have := hR.out.rd.heap.most; omega
              have rf : r.lines.length ≤ 65536 := by have := hR.out.rd.few; omega
              have RL := Lib.hid (And.intro rl rf)
              have HP0 := Lib.hid (fun (w' : World) (u : Up wr w') => heapof_any (hR.out.up u).wd)
              have WD := Lib.hid (fun (w' : World) (u : Up wr w') => words_w (hR.out.up u).wd E1)
              have TR : ∀ w', Up wr w' → Calls Tryd.prog 29 #[.pointer (some ⟨s.q, 0, none⟩)] w' fun e w'' => ∃ v', e = .returned v' ∧ w''.ownsRow w'.heap.size 9 1 v' r.lines.length (r.lines.map Value.string) ∧ Up w' w'' := fun w' u => by have := trace_any (hR.out.up u).wd; rw [E3] at this; exact this
              have TR1 := Lib.hid TR
              have FW : ∀ w', Up wr w' → Calls Tryd.prog 32 #[.pointer (some ⟨s.q, 0, none⟩)] w' fun e w'' => e = .returned (.bool (decide (4096 ≤ r.lines.length))) ∧ w' = w'' := fun w' u => by have := full_any (hR.out.up u).wd; rw [E3] at this; exact this
              have FR := fun (w' : World) (u : Up wr w') => rfull_any (hR.out.up u).rd
              generalize decide (4096 ≤ r.lines.length) = fb at *
              have bf : (fb == fb) = true := beq_self_eq_true fb
              have FW1 := Lib.hid FW
              have FR1 := Lib.hid FR
              have U0 : Hid (Up wr wr) := Lib.hid (Fr.refl _ wr)
              obtain ⟨k1, k2, k3⟩ := RS.out _ U0.out
              clear hrow er E1 E3 h9 rl rf TR FW FR
              by_cases hk3 : k < len3
              all_goals
                as_aux_lemma =>
                go_wp2_with fail
                go_region_held3 (fun W' => W'.cell? ⟨r.q, 5, none⟩ = some (.pointer (some ⟨r.p, 0, none⟩)) ∧ W'.cell? ⟨r.p, 1, none⟩ = some (.slice (some ⟨r.g, 0, none⟩) r.ws.length r.cap) ∧ W'.cell? ⟨r.q, 9, none⟩ = some (.slice a9 r.lines.length c9))
                  (first | exact RS.out _ U7.out | exact RS.out _ U6.out | exact RS.out _ U5.out | exact RS.out _ U4.out | exact ⟨k1, k2, k3⟩)
                  (first
                    | (go_at_call 33; refine (FR1.out _ U7.out).mono ?_; rintro e w8 ⟨rfl, rfl⟩)
                    | (go_at_call 32; refine (FW1.out _ U7.out).mono ?_; rintro e w8 ⟨rfl, rfl⟩)
                    | (go_at_call 28; refine (strs_eq RL.out.2 R6.out (HS.out _ U6.out)).mono ?_; rintro e w7 ⟨rfl, m7, rfl⟩; have U7 := Lib.hid (up_trans U6.out ((Fr.refl (fun _ => False) w6).drewN m7)))
                    | (go_at_call 29; refine (TR1.out _ U5.out).mono ?_; rintro e w6 ⟨v6, rfl, r6, u⟩; obtain ⟨a6, c6, rfl, _⟩ := row_parts r6; have R6 := Lib.hid r6; have U6 := Lib.hid (up_trans U5.out u); clear u r6)
                    | (go_at_call 26; refine (words_eq RL.out.1 H4.out (HD.out _ U4.out)).mono ?_; rintro e w5 ⟨rfl, m5, rfl⟩; have U5 := Lib.hid (up_trans U4.out ((Fr.refl (fun _ => False) w4).drewN m5)))
                    | (go_at_call 27; refine (WD.out _ ((Fr.refl (fun _ => False) wr).drewN 1)).mono ?_; rintro e w4 ⟨g4, c4, rfl, h4, u⟩; have H4 := Lib.hid h4; have U4 := Lib.hid (up_trans ((Fr.refl (fun _ => False) wr).drewN 1) u); clear u h4)
                    | (go_at_call 25; refine (HP0.out _ ((Fr.refl (fun _ => False) wr).drewN 1)).mono ?_; rintro e wh ⟨rfl, rfl⟩))
                all_goals
                  go_wp2_with fail
                  go_ret
                  exact ⟨by first | rfl | simp, (hR.out.up U7.out).bel⟩
end Go.Proofs.YtjeplkbdgphfoaaDoor
