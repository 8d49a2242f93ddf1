/-
  The reference's 'All': the walk.
-/
import Derived.Test.YtjkpimohgbkjoaaDoorTkRefI
import Derived.Deep.DeepCutAuto
import Derived.Deep.CutBlock
namespace Go.Proofs.YtjkpimohgbkjoaaDoor
open Go.RowKit

set_option maxRecDepth 20000 in
set_option maxHeartbeats 8000000 in
theorem rall_any {w : World} (T : List UInt8) : Calls Tryd.prog 25 #[.string (bs T)] w (RAllDone w T) := by
  have hsz := bs_size T
  go_enter Tryd.func25, Tryd.ntmps25
  by_cases hb : 16384 < T.length
  · have a1 : ((T.length : Int) > 16384) := by omega
    have LX := Lib.hid (show LexAll T (.bad 1 1 6) by unfold LexAll; rw [if_pos hb])
    go_wp2_with fail
    exact bodyPost_ret (res_all (c := 3) (t := 4) (u := 2) (by kernel_rfl) rfl rfl rfl (heap_alloc_new w _) rfl) rfl (show RAllDone w T _ _ from ⟨(Fr.refl _ _).alloc _, _, LX.out, rfl⟩)
  · have a1 : ¬ ((T.length : Int) > 16384) := by omega
    have LA := Lib.hid (show ∀ R, Lex ⟨T, 1, 1, []⟩ R → LexAll T R from fun R h => by unfold LexAll; rw [if_neg hb]; exact h)
    have V0 := Lib.hid (show RA w ((w.alloc zeroTok).alloc (.cells #[.slice none 0 0, .int .i64 1, .int .i64 1, .bool false] 68)) (w.heap.size + 1) w.heap.size T 0 1 1 (.slice none 0 0) [] from
      ⟨⟨⟨by have := heap_alloc_new (w.alloc zeroTok) (.cells #[.slice none 0 0, .int .i64 1, .int .i64 1, .bool false] 68); rwa [World.size_alloc] at this, OwnSl.none_, by simp [Value.ownBlock], Nat.zero_le _, Nat.le_succ _⟩,
        ((Fr.refl _ _).alloc _).alloc _, (Below.heap_alloc _ _ _ (by simp)).trans (heap_alloc_new w _), by omega, Nat.le_refl _, by simp [Value.ownBlock]⟩, Nat.zero_le _, Nat.le_refl _, Nat.le_refl _, fun _ h => h⟩)
    go_upto_block 0 with fail
    change Code.wp _ _ _ _ ((w.alloc zeroTok).alloc (.cells #[.slice none 0 0, .int .i64 1, .int .i64 1, .bool false] 68))
    generalize (w.alloc zeroTok).alloc (.cells #[.slice none 0 0, .int .i64 1, .int .i64 1, .bool false] 68) = w1 at V0 ⊢
    obtain ⟨p, hp⟩ : ∃ p, p = w.heap.size + 1 := ⟨_, rfl⟩
    rw [← hp] at V0 ⊢
    obtain ⟨q, hq⟩ : ∃ q, q = w.heap.size := ⟨_, rfl⟩
    have V0 : Hid (RA w w1 p q T 0 1 1 (.slice none 0 0) []) := by rw [hq]; exact V0
    rw [← hq] at ⊢
    have hT : T.length ≤ 16384 := by omega
    clear hp hq hb a1
    go_cut [6] (fun _ wx => ∃ (line col : Nat) (v : Value) (out : List Tok) (full : Bool), Hid (RE w wx p q v out line col full) ∧ Hid (full = true → LexAll T (.bad line col 6)) ∧ Hid (full = false → ∀ R, Lex ⟨[], line, col, out⟩ R → LexAll T R))
    case first => as_aux_lemma =>
      go_wp2_with fail
      go_loopw [6] (fun i wr => ∃ (k line col : Nat) (v : Value) (out : List Tok), i = .int .i64 k ∧ Hid (RA w wr p q T k line col v out)) (fun i _ => T.length - (intOf i).toNat)
      case atStart => exact ⟨0, 1, 1, _, _, rfl, V0⟩
      case round =>
        obtain ⟨k, line, col, v, out, rfl, hm⟩ := hrel
        obtain ⟨wo, rfl⟩ : ∃ wo : World, wo = wr := ⟨_, rfl⟩
        clear V0
        have M := Lib.hid hm.out.re
        have hkT := hm.out.kT
        have c3 := M.out.fo.c3
        by_cases hlt : k < T.length
        · obtain ⟨c, hc⟩ : ∃ c, T[k]? = some c := ⟨_, List.getElem?_eq_getElem hlt⟩
          have hks : k < (bs T).size := by rw [hsz]; exact hlt
          have gk := get_bs hks hc
          have C := Lib.hid hc
          have d0 : ((k : Int) < ((bs T).size : Int)) := by omega
          have hlk := hm.out.lk
          have hck := hm.out.ck
          obtain ⟨m, hm1⟩ : ∃ m, m = k + 1 := ⟨_, rfl⟩
          have hw : (k : Int) + 1 = (m : Int) := by omega
          have hw2 : IntKind.i64.wrap (m : Int) = (m : Int) := IntWalk.i64_in _ (by omega)
          have Hm := Lib.hid hm1
          obtain ⟨l2, hl2⟩ : ∃ l2, l2 = line + 1 := ⟨_, rfl⟩
          have hwl : (line : Int) + 1 = (l2 : Int) := by omega
          have hwl2 : IntKind.i64.wrap (l2 : Int) = (l2 : Int) := IntWalk.i64_in _ (by omega)
          have Hl := Lib.hid hl2
          obtain ⟨cc2, hc2⟩ : ∃ cc2, cc2 = col + 1 := ⟨_, rfl⟩
          have hwc : (col : Int) + 1 = (cc2 : Int) := by omega
          have hwc2 : IntKind.i64.wrap (cc2 : Int) = (cc2 : Int) := IntWalk.i64_in _ (by omega)
          have Hc := Lib.hid hc2
          clear hc hm1 hl2 hc2
          by_cases h10 : c = 10
          · have q10 : ((c.toNat : Int) == 10) = true := by subst h10; rfl
            have C10 := Lib.hid (show T[k]? = some 10 by rw [C.out, h10])
            clear h10
            go_upto_region 9 with fail
            go_cut [50] (fun b wx => b = .bool (lastEnds out) ∧ Hid (RE w wx p q v out line col false))
            case first => as_aux_lemma =>
              clear c3
              by_cases h0 : out = []
              · subst h0
                obtain ⟨A, c', rfl, hpp⟩ := M.out.fo.own.reads.parts
                have c0 := M.out.fo.c0
                clear hpp
                go_wp2_with fail
                go_quiet (fail)
                go_wp2_with fail
                go_meet
                exact ⟨rfl, Lib.hid (M.out.ups (Fr.drewN (Fr.refl (fun _ => False) _) nq))⟩
              · 
                obtain ⟨b0, o0, cc, n, mm, t, hv, hn, hnm, hn4, hle, hb0, hcells⟩ := last_of M.out.fo h0
                have HC := Lib.hid hcells
                have HLE := Lib.hid hle
                have Hnn := Lib.hid hn
                have hia : ∀ w, (Instr.indexAt 22 (.slice (some ⟨b0, o0, none⟩) n cc) (.int .i64 mm)).run Tryd.prog w = .ok (.pointer (some ⟨b0, o0 + mm * 5, none⟩)) w := by
                  intro w
                  rw [run_indexAt_slice (h := by kernel_rfl), if_pos ⟨Int.natCast_nonneg mm, Int.ofNat_lt.2 (by omega)⟩, show (sizeOf (Tryd.prog.elem 22)).run Tryd.prog w = .ok 5 w from by kernel_rfl]
                  simp [Result.andThen, Addr.add]
                obtain ⟨c0, x0, x1, x2, x3, x4⟩ := hcells _ (Fr.refl _ _)

                have a1 : ((n : Int) > 0) := by omega
                have d1 : decide ((n : Int) > 0) = true := dec_of a1
                have d2 : decide ((0 : Int) < (n : Int)) = true := dec_of a1
                have hn0 : 0 < n := by omega
                have d3 : decide (0 < n) = true := dec_of hn0
                have hw : (n : Int) - 1 = (mm : Int) := by omega
                have hw2 : IntKind.i64.wrap (mm : Int) = (mm : Int) := IntWalk.i64_in _ (by omega)
                clear hcells hn hle hb0 hnm
                obtain ⟨kd, tx, tn, tl, tc⟩ := t
                simp only at x0 x1 x2 x3 x4 HLE
                go_wp2_with fail
                go_still_tail 19, (by kernel_rfl)
                change wpList _ _ _ _ _ (World.drew _)
                have M := Lib.hid (M.out.ups (Fr.drew (Fr.refl (fun _ => False) _)))
                clear c0 x0 x1 x2 x3 x4 hia a1 d1 d2 d3 hn0 hw hw2
                generalize World.drew _ = wz at M ⊢
                have RN := Lib.hid (fun w => rends_any (w := w) kd tx tn tl tc)
                rw [← HLE.out] at RN
                obtain ⟨be, hbe⟩ : ∃ be, be = lastEnds out := ⟨_, rfl⟩
                rw [← hbe] at RN
                have HBE := Lib.hid hbe
                clear hbe

                go_wp2_with fail
                refine (RN.out _).mono ?_
                rintro e w5 ⟨rfl, hu5⟩
                go_wp2_with fail
                go_meet
                exact ⟨by rw [HBE.out], Lib.hid (M.out.ups hu5)⟩
            case rest => as_aux_lemma =>
              clear M c3
              obtain ⟨rfl, M⟩ := hcut
              cases hbe : lastEnds out
              · have NL := Lib.hid (show ∀ R, Lex ⟨T.drop m, l2, 1, out⟩ R → Lex ⟨T, 1, 1, []⟩ R from fun R h => hm.out.lex R (Lex.next (step_nl C10.out hbe) (by rw [← Hm.out, ← Hl.out]; exact h)))
                clear hbe
                have c3 := M.out.fo.c3
                have c1 := M.out.fo.c1
                have c2 := M.out.fo.c2
                have f1 := M.out.fo.fr 1
                have f2 := M.out.fo.fr 2
                go_wp2_with fail
                go_roundw
                case rel => exact ⟨m, l2, 1, _, _, rfl, Lib.hid ⟨(M.out.setLine l2).setCol 1, by have := Hm.out; omega, by have := Hm.out; have := Hl.out; omega, by have := Hm.out; omega, NL.out⟩⟩
                case measure => have := Hm.out; simp [intOf]; omega
              · have HBE := Lib.hid hbe
                clear hbe
                go_wp2_with fail
                change Calls _ _ #[.pointer (some ⟨p, 0, none⟩), tokV 1 [59] 0] _ _
                refine (radd_any M.out.fo 1 [59] 0).mono ?_
                rintro e w6 hd
                obtain ⟨rfl, hfull, hnot⟩ := M.out.add hd
                clear hd
                by_cases h4 : out.length = 4000
                · have LX := Lib.hid (LA.out (.bad line col 6) (hm.out.lex _ (Lex.done (by rw [step_nl_semi C10.out HBE.out, push, if_pos h4]))))
                  have M := Lib.hid (hfull h4)
                  clear hfull hnot h4
                  have c3 := M.out.fo.c3
                  go_wp2_with fail
                  go_meet
                  exact ⟨_, _, _, _, true, M, Lib.hid (fun _ => LX.out), Lib.hid (fun h => by cases h)⟩
                · have NL := Lib.hid (show ∀ R, Lex ⟨T.drop m, l2, 1, out ++ [⟨1, [59], 0, line, col⟩]⟩ R → Lex ⟨T, 1, 1, []⟩ R from fun R h => hm.out.lex R (Lex.next (by rw [step_nl_semi C10.out HBE.out, push, if_neg h4]; rfl)
                    (Lex.next (step_nl C10.out (ends_semi out line col)) (by rw [← Hm.out, ← Hl.out]; exact h))))
                  obtain ⟨v5, M⟩ := hnot h4
                  have M := Lib.hid M
                  clear hfull hnot h4
                  have c3 := M.out.fo.c3
                  have c1 := M.out.fo.c1
                  have c2 := M.out.fo.c2
                  have f1 := M.out.fo.fr 1
                  have f2 := M.out.fo.fr 2
                  go_wp2_with fail
                  go_roundw
                  case rel => exact ⟨m, l2, 1, _, _, rfl, Lib.hid ⟨(M.out.setLine l2).setCol 1, by have := Hm.out; omega, by have := Hm.out; have := Hl.out; omega, by have := Hm.out; omega, NL.out⟩⟩
                  case measure => have := Hm.out; simp [intOf]; omega
          have q10 : ((c.toNat : Int) == 10) = false := by rw [show ((c.toNat : Int) == 10) = decide (c = 10) from beqU c 10]; exact dec_not h10
          by_cases h32 : c = 32
          · have HB := Lib.hid (show c = 32 ∨ c = 9 ∨ c = 13 from .inl h32)
            have q32 : ((c.toNat : Int) == 32) = true := by subst h32; rfl
            clear h32 h10
            have st := step_bl (line := line) (col := col) (out := out) C.out HB.out
            have N := Lib.hid (show ∀ R, Lex ⟨T.drop m, line, cc2, out⟩ R → Lex ⟨T, 1, 1, []⟩ R from fun R h => hm.out.lex R (Lex.next st (by rw [← Hm.out, ← Hc.out]; exact h)))
            have c2 := M.out.fo.c2
            have f2 := M.out.fo.fr 2
            clear st
            go_wp2_with fail
            go_roundw
            case rel => exact ⟨m, line, cc2, _, _, rfl, Lib.hid ⟨M.out.setCol cc2, by have := Hm.out; omega, by have := Hm.out; omega, by have := Hm.out; have := Hc.out; omega, N.out⟩⟩
            case measure => have := Hm.out; simp [intOf]; omega
          have q32 : ((c.toNat : Int) == 32) = false := by rw [show ((c.toNat : Int) == 32) = decide (c = 32) from beqU c 32]; exact dec_not h32
          by_cases h9 : c = 9
          · have HB := Lib.hid (show c = 32 ∨ c = 9 ∨ c = 13 from .inr (.inl h9))
            have q9 : ((c.toNat : Int) == 9) = true := by subst h9; rfl
            clear h9 h32 h10
            have st := step_bl (line := line) (col := col) (out := out) C.out HB.out
            have N := Lib.hid (show ∀ R, Lex ⟨T.drop m, line, cc2, out⟩ R → Lex ⟨T, 1, 1, []⟩ R from fun R h => hm.out.lex R (Lex.next st (by rw [← Hm.out, ← Hc.out]; exact h)))
            have c2 := M.out.fo.c2
            have f2 := M.out.fo.fr 2
            clear st
            go_wp2_with fail
            go_roundw
            case rel => exact ⟨m, line, cc2, _, _, rfl, Lib.hid ⟨M.out.setCol cc2, by have := Hm.out; omega, by have := Hm.out; omega, by have := Hm.out; have := Hc.out; omega, N.out⟩⟩
            case measure => have := Hm.out; simp [intOf]; omega
          have q9 : ((c.toNat : Int) == 9) = false := by rw [show ((c.toNat : Int) == 9) = decide (c = 9) from beqU c 9]; exact dec_not h9
          by_cases h13 : c = 13
          · have HB := Lib.hid (show c = 32 ∨ c = 9 ∨ c = 13 from .inr (.inr h13))
            have q13 : ((c.toNat : Int) == 13) = true := by subst h13; rfl
            clear h13 h9 h32 h10
            have st := step_bl (line := line) (col := col) (out := out) C.out HB.out
            have N := Lib.hid (show ∀ R, Lex ⟨T.drop m, line, cc2, out⟩ R → Lex ⟨T, 1, 1, []⟩ R from fun R h => hm.out.lex R (Lex.next st (by rw [← Hm.out, ← Hc.out]; exact h)))
            have c2 := M.out.fo.c2
            have f2 := M.out.fo.fr 2
            clear st
            go_wp2_with fail
            go_roundw
            case rel => exact ⟨m, line, cc2, _, _, rfl, Lib.hid ⟨M.out.setCol cc2, by have := Hm.out; omega, by have := Hm.out; omega, by have := Hm.out; have := Hc.out; omega, N.out⟩⟩
            case measure => have := Hm.out; simp [intOf]; omega
          have q13 : ((c.toNat : Int) == 13) = false := by rw [show ((c.toNat : Int) == 13) = decide (c = 13) from beqU c 13]; exact dec_not h13
          have HB := Lib.hid (show ¬ (c = 32 ∨ c = 9 ∨ c = 13) by simp [h32, h9, h13])
          have H10 := Lib.hid h10
          clear h32 h9 h13 h10
          obtain ⟨cm, hcm⟩ : ∃ cm, cm = [47, 47].isPrefixOf (T.drop k) := ⟨_, rfl⟩
          have HCM := Lib.hid hcm
          clear hcm
          go_upto_region 18 with fail
          go_cut [104] (fun b wx => b = .bool cm ∧ Hid (RE w wx p q v out line col false))
          case first => as_aux_lemma =>
            by_cases h47 : c = 47
            · have q47 : ((c.toNat : Int) == 47) = true := by subst h47; rfl
              by_cases hmT : m < T.length
              · obtain ⟨c', hc'⟩ : ∃ c', T[m]? = some c' := ⟨_, List.getElem?_eq_getElem hmT⟩
                have hms : m < (bs T).size := by rw [hsz]; exact hmT
                have gm := get_bs hms hc'
                have d1 : ((m : Int) < ((bs T).size : Int)) := by omega
                have DD : T.drop k = 47 :: c' :: T.drop (m + 1) := by rw [drop_at C.out, h47, ← Hm.out, drop_at hc']
                by_cases h47' : c' = 47
                · have q47' : ((c'.toNat : Int) == 47) = true := by subst h47'; rfl
                  have e : cm = true := by rw [HCM.out, DD, h47']; simp [List.isPrefixOf]
                  subst e
                  clear DD HCM h47 h47' hc'
                  go_wp2_with fail
                  go_meet
                  exact ⟨rfl, M⟩
                · have q47' : ((c'.toNat : Int) == 47) = false := by rw [show ((c'.toNat : Int) == 47) = decide (c' = 47) from beqU c' 47]; exact dec_not h47'
                  have e : cm = false := by rw [HCM.out, DD]; simp [List.isPrefixOf]; exact fun e => h47' e.symm
                  subst e
                  clear DD HCM h47 h47' hc'
                  go_wp2_with fail
                  go_meet
                  exact ⟨rfl, M⟩
              · have d1 : ¬ ((m : Int) < ((bs T).size : Int)) := by omega
                have e : cm = false := by rw [HCM.out, drop_at C.out, List.drop_eq_nil_of_le (by have := Hm.out; omega)]; simp [List.isPrefixOf]
                subst e
                clear HCM h47
                go_wp2_with fail
                go_meet
                exact ⟨rfl, M⟩
            · have q47 : ((c.toNat : Int) == 47) = false := by rw [show ((c.toNat : Int) == 47) = decide (c = 47) from beqU c 47]; exact dec_not h47
              have e : cm = false := by rw [HCM.out, drop_at C.out]; simp [List.isPrefixOf]; exact fun e => absurd e.symm h47
              subst e
              clear HCM h47
              go_wp2_with fail
              go_meet
              exact ⟨rfl, M⟩
          case rest => as_aux_lemma =>
            clear M c3
            obtain ⟨rfl, M⟩ := hcut
            cases cm
            · clear hw hw2 hwl hwl2 hwc hwc2 Hm Hl Hc q10 q32 q9 q13 gk
              obtain ⟨L, hL⟩ : ∃ L, L = T.length := ⟨_, rfl⟩
              have E1 : (bs T).extract k T.length = bs (T.drop k) := by rw [← hsz]; exact bs_from T k
              have st := step_tk (line := line) (col := col) (out := out) C.out H10.out HB.out HCM.out.symm
              have on := fun w => rone_any (w := w) (T.drop k) (by rw [List.length_drop]; omega) (by rw [List.length_drop]; omega)
              generalize hG : one (T.drop k) = G at st on
              have ST := Lib.hid st
              have ON := Lib.hid on
              clear st on
              have HG := Lib.hid hG
              have hk0 : (0 : Int) ≤ (k : Int) := by omega
              have hkS : (k : Int) ≤ ((bs T).size : Int) := by omega
              have hkS' : k ≤ (bs T).size := by omega
              clear hG hL
              cases G with
              | err e =>
                have he := one_err HG.out
                have LX := Lib.hid (LA.out (.bad line col e) (hm.out.lex _ (Lex.done ST.out)))
                have e1 : ((e : Int) == 0) = false := by simp; omega
                have e2 : ((e : Int) != 0) = true := by rw [bne, e1]; rfl
                clear he
                go_wp2_with fail
                refine (ON.out _).mono ?_
                rintro e' w3 ⟨rfl, hu3⟩
                have M := Lib.hid ((M.out.ups hu3).ups ((Fr.refl (fun _ => False) w3).alloc (.cells #[.int .i64 0, .string (bs []), .int .i64 0, .int .i64 0, .int .i64 0] 24)))
                unfold gotV tokV
                go_wp2_with fail
                clear hu3
                generalize w3.alloc (.cells #[.int .i64 0, .string (bs []), .int .i64 0, .int .i64 0, .int .i64 0] 24) = w4 at M ⊢
                have c1 := M.out.fo.c1
                have c2 := M.out.fo.c2
                obtain ⟨r0, r1, r2, r3, r4⟩ := M.out.zc.cells
                have z0 := M.out.zc.frz 0
                have z1 := M.out.zc.frz 1
                have z2 := M.out.zc.frz 2
                have z3 := M.out.zc.frz 3
                have z4 := M.out.zc.frz 4
                have hqp := M.out.qp
                have hqp' : p ≠ q := fun e => hqp e.symm
                go_region
                all_goals go_wp2_with fail
                all_goals
                  obtain ⟨f7, b7⟩ := M.out.zc.set (.int .i64 0) (.string (bs [])) (.int .i64 0) (.int .i64 line) (.int .i64 col)
                  exact bodyPost_ret (res_all (c := 3) (t := 4) (u := 2) (q := q) (by kernel_rfl) rfl rfl rfl b7 rfl) rfl (show RAllDone w T _ _ from ⟨Fr.drew f7, _, LX.out, rfl⟩)

              | tok kind text n used =>
                obtain ⟨hu1, hul⟩ := one_used HG.out
                rw [List.length_drop] at hul
                obtain ⟨m, hm1⟩ : ∃ m, m = k + used := ⟨_, rfl⟩
                have hw : (k : Int) + (used : Int) = (m : Int) := by omega
                have hw2 : IntKind.i64.wrap (m : Int) = (m : Int) := IntWalk.i64_in _ (by omega)
                obtain ⟨c2', hc2⟩ : ∃ c2', c2' = col + used := ⟨_, rfl⟩
                have hwc : (col : Int) + (used : Int) = (c2' : Int) := by omega
                have hwc2 : IntKind.i64.wrap (c2' : Int) = (c2' : Int) := IntWalk.i64_in _ (by omega)
                have HM := Lib.hid (And.intro hm1 (And.intro hc2 (And.intro hu1 hul)))
                clear hm1 hc2 hu1 hul
                go_wp2_with fail
                refine (ON.out _).mono ?_
                rintro e' w3 ⟨rfl, hu3⟩
                have M := Lib.hid ((M.out.ups hu3).ups ((Fr.refl (fun _ => False) w3).alloc (.cells #[.int .i64 kind, .string (bs text), .int .i64 n, .int .i64 0, .int .i64 0] 24)))
                have Y5 := Lib.hid (cells5 (heap_alloc_new w3 (.cells #[.int .i64 kind, .string (bs text), .int .i64 n, .int .i64 0, .int .i64 0] 24)))
                obtain ⟨y0, y1, y2, y3, y4⟩ := Y5.out
                clear hu3
                unfold gotV tokV
                go_wp2_with fail
                change Calls _ _ #[.pointer (some ⟨p, 0, none⟩), tokV kind text n] _ _
                refine (radd_any M.out.fo kind text n).mono ?_
                rintro e w6 hd
                obtain ⟨rfl, hfull, hnot⟩ := M.out.add hd
                clear hd y0 y1 y2 y3 y4
                by_cases h4 : out.length = 4000
                · have LX := Lib.hid (LA.out (.bad line col 6) (hm.out.lex _ (Lex.done (by rw [ST.out]; simp only [push, if_pos h4]))))
                  have M := Lib.hid (hfull h4)
                  clear hfull hnot h4
                  have c3 := M.out.fo.c3
                  go_wp2_with fail
                  go_meet
                  exact ⟨_, _, _, _, true, M, Lib.hid (fun _ => LX.out), Lib.hid (fun h => by cases h)⟩
                · have NL := Lib.hid (show ∀ R, Lex ⟨T.drop m, line, c2', out ++ [⟨kind, text, n, line, col⟩]⟩ R → Lex ⟨T, 1, 1, []⟩ R from fun R h => hm.out.lex R (Lex.next (σ' := ⟨(T.drop k).drop used, line, col + used, out ++ [⟨kind, text, n, line, col⟩]⟩) (by rw [ST.out]; simp only [push, if_neg h4])
                    (by rw [List.drop_drop, ← HM.out.1, ← HM.out.2.1]; exact h)))
                  obtain ⟨v5, M⟩ := hnot h4
                  have M := Lib.hid M
                  clear hfull hnot h4
                  have c3 := M.out.fo.c3
                  have c2 := M.out.fo.c2
                  have f2 := M.out.fo.fr 2
                  go_wp2_with fail
                  go_roundw
                  case rel => exact ⟨m, line, c2', _, _, rfl, Lib.hid ⟨M.out.setCol c2', by have := HM.out; omega, by have := HM.out; omega, by have := HM.out; omega, NL.out⟩⟩
                  case measure => have := HM.out; simp [intOf]; omega
            · clear hw hw2 hwl hwl2 hwc hwc2 Hl Hc q10 q32 q9 q13 gk
              have HP := Lib.hid (show [47, 47].isPrefixOf (T.drop k) = true from HCM.out.symm)
              go_wp2_with fail
              go_loopw [6] (fun i wr => ∃ (j col2 : Nat), k ≤ j ∧ j ≤ T.length ∧ i = .int .i64 j ∧ Hid (RE w wr p q v out line col2 false ∧ col2 = col + (j - k) ∧ ∀ i c, k ≤ i → i < j → T[i]? = some c → decide (c ≠ 10) = true)) (fun i _ => T.length - (intOf i).toNat)
              case atStart => exact ⟨k, col, Nat.le_refl _, hkT, rfl, Lib.hid ⟨M.out, by omega, fun _ _ h1 h2 => by omega⟩⟩
              case round =>
                obtain ⟨j, col2, hkj, hjT, rfl, hn⟩ := hrel
                obtain ⟨wo2, rfl⟩ : ∃ wo2 : World, wo2 = wr := ⟨_, rfl⟩
                have M := Lib.hid hn.out.1
                have hcol := hn.out.2.1
                have hm2 := Lib.hid (show ∀ c, T[j]? = some c → decide (c ≠ 10) = false → Hid (RA w wo2 p q T j line col2 v out) ∧ k < j from fun c h1 h2 => by
                  have tw := takeWhile_at hkj hjT hn.out.2.2 (fun c' h => by rw [h1] at h; cases h; exact h2)
                  have h2j : k < j := by
                    rcases Nat.lt_or_ge k j with h | h
                    · exact h
                    · have : j = k := by omega
                      subst this
                      obtain ⟨r, hr⟩ := List.isPrefixOf_iff_prefix.1 HP.out
                      have := congrArg (fun l => l[0]?) hr
                      simp [List.getElem?_drop, h1] at this
                      subst this
                      simp at h2
                  refine ⟨Lib.hid ⟨hn.out.1, hjT, by omega, by omega, fun R h => hm.out.lex R (Lex.next (step_cm HP.out) ?_)⟩, h2j⟩
                  rw [tw, Nat.add_sub_cancel' hkj, ← hcol]; exact h)
                by_cases hjl : j < T.length
                · obtain ⟨c', hc'⟩ : ∃ c', T[j]? = some c' := ⟨_, List.getElem?_eq_getElem hjl⟩
                  have hjs : j < (bs T).size := by rw [hsz]; exact hjl
                  have gj := get_bs hjs hc'
                  have dj : ((j : Int) < ((bs T).size : Int)) := by omega
                  by_cases hx10 : c' = 10
                  · have q10 : ((c'.toNat : Int) != 10) = false := by subst hx10; rfl
                    obtain ⟨NN, hkj2⟩ := hm2.out c' hc' (by simp [hx10])
                    clear hc' hx10
                    go_wp2_with fail
                    go_roundw
                    case rel => exact ⟨j, line, col2, _, _, rfl, NN⟩
                    case measure => simp [intOf]; omega
                  · have q10 : ((c'.toNat : Int) != 10) = true := by rw [bne, show ((c'.toNat : Int) == 10) = decide (c' = 10) from beqU c' 10, dec_not hx10]; rfl
                    obtain ⟨m2, hm3⟩ : ∃ m2, m2 = j + 1 := ⟨_, rfl⟩
                    have hw : (j : Int) + 1 = (m2 : Int) := by omega
                    have hw2 : IntKind.i64.wrap (m2 : Int) = (m2 : Int) := IntWalk.i64_in _ (by omega)
                    obtain ⟨col3, hc3⟩ : ∃ col3, col3 = col2 + 1 := ⟨_, rfl⟩
                    have hwc : (col2 : Int) + 1 = (col3 : Int) := by omega
                    have hwc2 : IntKind.i64.wrap (col3 : Int) = (col3 : Int) := IntWalk.i64_in _ (by omega)
                    have HM := Lib.hid (And.intro hm3 hc3)
                    have C' := Lib.hid hc'
                    have X10 := Lib.hid hx10
                    have c2 := M.out.fo.c2
                    have f2 := M.out.fo.fr 2
                    have HCol := Lib.hid hcol
                    clear hc' hx10 hm3 hc3 hm2 hcol
                    go_wp2_with fail
                    go_roundw
                    case rel => exact ⟨m2, col3, by have := HM.out; omega, by have := HM.out; omega, rfl, Lib.hid ⟨M.out.setCol col3, by have := HM.out; have := HCol.out; omega, fun i y h1 h2 hy => by
                      by_cases hij : i = j
                      · subst hij; rw [C'.out] at hy; cases hy; exact dec_of X10.out
                      · exact hn.out.2.2 i y h1 (by have := HM.out; omega) hy⟩⟩
                    case measure => have := HM.out; simp [intOf]; omega
                · have dj : ¬ ((j : Int) < ((bs T).size : Int)) := by omega
                  have NN := Lib.hid (show RA w wo2 p q T j line col2 v out from ⟨hn.out.1, hjT, by omega, by omega, fun R h => hm.out.lex R (Lex.next (step_cm HP.out) (by
                    rw [takeWhile_at hkj hjT hn.out.2.2 (fun c' h => by have := (List.getElem?_eq_some_iff.1 h).1; omega), Nat.add_sub_cancel' hkj, ← hcol]; exact h))⟩)
                  clear hm2 hcol
                  go_wp2_with fail
                  go_roundw
                  case rel => exact ⟨j, line, col2, _, _, rfl, NN⟩
                  case measure => simp [intOf]; omega
        · have LEX := Lib.hid (show ∀ R, Lex ⟨[], line, col, out⟩ R → LexAll T R from fun R h => LA.out R (hm.out.lex R (by rw [List.drop_eq_nil_of_le (by omega)]; exact h)))
          have d0 : ¬ ((k : Int) < ((bs T).size : Int)) := by omega
          go_wp2_with fail
          go_meet
          exact ⟨_, _, _, _, false, M, Lib.hid (fun h => by cases h), Lib.hid (fun _ => LEX.out)⟩
    case rest => as_aux_lemma =>
      obtain ⟨line, col, v, out, full, M, LF, LEX0⟩ := hcut
      clear V0
      cases full
      · have LEX := Lib.hid (LEX0.out rfl)
        clear LF LEX0
        go_upto_region 29 with fail
        go_cut [190] (fun b wx => b = .bool (lastEnds out) ∧ Hid (RE w wx p q v out line col false))
        case first => as_aux_lemma =>
          have c3 := M.out.fo.c3
          by_cases h0 : out = []
          · subst h0
            obtain ⟨A, c, rfl, hpp⟩ := M.out.fo.own.reads.parts
            have c0 := M.out.fo.c0
            clear hpp
            go_wp2_with fail
            go_quiet (fail)
            go_wp2_with fail
            go_meet
            exact ⟨rfl, Lib.hid (M.out.ups (Fr.drewN (Fr.refl (fun _ => False) _) nq))⟩
          · 
            obtain ⟨b0, o0, cc, n, mm, t, hv, hn, hnm, hn4, hle, hb0, hcells⟩ := last_of M.out.fo h0
            have HC := Lib.hid hcells
            have HLE := Lib.hid hle
            have Hnn := Lib.hid hn
            have hia : ∀ w, (Instr.indexAt 22 (.slice (some ⟨b0, o0, none⟩) n cc) (.int .i64 mm)).run Tryd.prog w = .ok (.pointer (some ⟨b0, o0 + mm * 5, none⟩)) w := by
              intro w
              rw [run_indexAt_slice (h := by kernel_rfl), if_pos ⟨Int.natCast_nonneg mm, Int.ofNat_lt.2 (by omega)⟩, show (sizeOf (Tryd.prog.elem 22)).run Tryd.prog w = .ok 5 w from by kernel_rfl]
              simp [Result.andThen, Addr.add]
            obtain ⟨c0, x0, x1, x2, x3, x4⟩ := hcells _ (Fr.refl _ _)

            have a1 : ((n : Int) > 0) := by omega
            have d1 : decide ((n : Int) > 0) = true := dec_of a1
            have d2 : decide ((0 : Int) < (n : Int)) = true := dec_of a1
            have hn0 : 0 < n := by omega
            have d3 : decide (0 < n) = true := dec_of hn0
            have hw : (n : Int) - 1 = (mm : Int) := by omega
            have hw2 : IntKind.i64.wrap (mm : Int) = (mm : Int) := IntWalk.i64_in _ (by omega)
            clear hcells hn hle hb0 hnm
            obtain ⟨kd, tx, tn, tl, tc⟩ := t
            simp only at x0 x1 x2 x3 x4 HLE
            go_wp2_with fail
            go_still_tail 26, (by kernel_rfl)
            change wpList _ _ _ _ _ (World.drew _)
            have M := Lib.hid (M.out.ups (Fr.drew (Fr.refl (fun _ => False) _)))
            clear c0 x0 x1 x2 x3 x4 hia a1 d1 d2 d3 hn0 hw hw2
            generalize World.drew _ = wz at M ⊢
            have RN := Lib.hid (fun w => rends_any (w := w) kd tx tn tl tc)
            rw [← HLE.out] at RN
            obtain ⟨be, hbe⟩ : ∃ be, be = lastEnds out := ⟨_, rfl⟩
            rw [← hbe] at RN
            have HBE := Lib.hid hbe
            clear hbe
            go_wp2_with fail
            refine (RN.out _).mono ?_
            rintro e w5 ⟨rfl, hu5⟩
            go_wp2_with fail
            go_meet
            exact ⟨by rw [HBE.out], Lib.hid (M.out.ups hu5)⟩
        case rest => as_aux_lemma =>
          obtain ⟨rfl, M⟩ := hcut
          go_upto_if 190 with fail
          go_cut [] (fun wx => ∃ (v : Value) (out : List Tok) (full : Bool), Hid (RE w wx p q v out line col full) ∧ Hid (full = true → LexAll T (.bad line col 6)) ∧ Hid (full = false → lastEnds out = false ∧ ∀ R, Lex ⟨[], line, col, out⟩ R → LexAll T R))
          case first => as_aux_lemma =>
            cases hbe : lastEnds out
            · go_wp2_with fail
              go_meet
              exact ⟨_, _, false, M, Lib.hid (fun h => by cases h), Lib.hid (fun _ => ⟨hbe, LEX.out⟩)⟩
            · have HBE := Lib.hid hbe
              clear hbe
              go_wp2_with fail
              change Calls _ _ #[.pointer (some ⟨p, 0, none⟩), tokV 1 [59] 0] _ _
              refine (radd_any M.out.fo 1 [59] 0).mono ?_
              rintro e w6 hd
              obtain ⟨rfl, hfull, hnot⟩ := M.out.add hd
              clear hd
              go_wp2_with fail
              go_meet
              by_cases h4 : out.length = 4000
              · exact ⟨_, _, true, Lib.hid (hfull h4), Lib.hid (fun _ => LEX.out (.bad line col 6) (Lex.done (by simp only [step, HBE.out, if_true, push, if_pos h4]))), Lib.hid (fun h => by cases h)⟩
              · obtain ⟨v5, M⟩ := hnot h4
                exact ⟨_, _, false, Lib.hid M, Lib.hid (fun h => by cases h), Lib.hid (fun _ => ⟨ends_semi _ _ _, fun R h => LEX.out R (Lex.next (by simp only [step, HBE.out, if_true, push, if_neg h4]; rfl) h)⟩)⟩
          case rest => as_aux_lemma =>
            clear LEX
            obtain ⟨v, out, full, M, LF, LEX0⟩ := hcut
            cases full
            · have HE := Lib.hid (LEX0.out rfl).1
              have LEX := Lib.hid (LEX0.out rfl).2
              clear LF LEX0
              have c3 := M.out.fo.c3
              go_wp2_with fail
              clear c3
              change Calls _ _ #[.pointer (some ⟨p, 0, none⟩), tokV 0 [] 0] _ _
              refine (radd_any M.out.fo 0 [] 0).mono ?_
              rintro e w5 hd
              obtain ⟨rfl, hfull, hnot⟩ := M.out.add hd
              clear hd
              by_cases h4 : (out).length = 4000
              · have LX := Lib.hid (LEX.out (.bad line col 6) (Lex.done (by simp only [step, HE.out, Bool.false_eq_true, if_false, if_pos h4])))
                have M := Lib.hid (hfull h4)
                clear hfull hnot h4
                have c3 := M.out.fo.c3
                go_wp2_with fail
                clear c3
                have c1 := M.out.fo.c1
                have c2 := M.out.fo.c2
                obtain ⟨r0, r1, r2, r3, r4⟩ := M.out.zc.cells
                have z0 := M.out.zc.frz 0
                have z1 := M.out.zc.frz 1
                have z2 := M.out.zc.frz 2
                have z3 := M.out.zc.frz 3
                have z4 := M.out.zc.frz 4
                have hqp := M.out.qp
                have hqp' : p ≠ q := fun e => hqp e.symm
                go_region
                all_goals go_wp2_with fail
                all_goals
                  obtain ⟨f7, b7⟩ := M.out.zc.set (.int .i64 0) (.string (bs [])) (.int .i64 0) (.int .i64 line) (.int .i64 col)
                  exact bodyPost_ret (res_all (c := 3) (t := 4) (u := 2) (q := q) (by kernel_rfl) rfl rfl rfl b7 rfl) rfl (show RAllDone w T _ _ from ⟨Fr.drew f7, _, LX.out, rfl⟩)

              · have LX := Lib.hid (LEX.out (.ok ((out) ++ [⟨0, [], 0, line, col⟩])) (Lex.done (by simp only [step, HE.out, Bool.false_eq_true, if_false, if_neg h4])))
                obtain ⟨v5, M⟩ := hnot h4
                have M := Lib.hid M
                clear hfull hnot h4
                have c3 := M.out.fo.c3
                have c0 := M.out.fo.c0
                obtain ⟨r0, r1, r2, r3, r4⟩ := M.out.zc.cells
                have z0 := M.out.zc.frz 0
                have z1 := M.out.zc.frz 1
                have z2 := M.out.zc.frz 2
                have z3 := M.out.zc.frz 3
                have z4 := M.out.zc.frz 4

                go_wp2_with fail
                obtain ⟨f7, b7⟩ := M.out.zc.set (.int .i64 0) (.string (bs [])) (.int .i64 0) (.int .i64 0) (.int .i64 0)
                exact bodyPost_ret (res_all (c := 3) (t := 4) (u := 2) (q := q) (by kernel_rfl) rfl rfl rfl b7 rfl) rfl (show RAllDone w T _ _ from ⟨f7, _, LX.out, v5, rfl, M.out.fo.own.kept (set5_fr _ q _ _ _ _ _) (fun b hb e => M.out.vq (by rw [hb, e])) (fun _ _ _ h => h)⟩)
            · have LX := Lib.hid (LF.out rfl)
              clear LF LEX0
              have c3 := M.out.fo.c3
              go_wp2_with fail
              clear c3
              have c1 := M.out.fo.c1
              have c2 := M.out.fo.c2
              obtain ⟨r0, r1, r2, r3, r4⟩ := M.out.zc.cells
              have z0 := M.out.zc.frz 0
              have z1 := M.out.zc.frz 1
              have z2 := M.out.zc.frz 2
              have z3 := M.out.zc.frz 3
              have z4 := M.out.zc.frz 4
              have hqp := M.out.qp
              have hqp' : p ≠ q := fun e => hqp e.symm
              go_region
              all_goals go_wp2_with fail
              all_goals
                obtain ⟨f7, b7⟩ := M.out.zc.set (.int .i64 0) (.string (bs [])) (.int .i64 0) (.int .i64 line) (.int .i64 col)
                exact bodyPost_ret (res_all (c := 3) (t := 4) (u := 2) (q := q) (by kernel_rfl) rfl rfl rfl b7 rfl) rfl (show RAllDone w T _ _ from ⟨Fr.drew f7, _, LX.out, rfl⟩)
      · have LX := Lib.hid (LF.out rfl)
        clear LF LEX0
        have c3 := M.out.fo.c3
        go_wp2_with fail
        go_quiet (fail)
        have M := Lib.hid (M.out.ups (Fr.drewN (Fr.refl (fun _ => False) _) nq))
        generalize World.drewN _ nq = wz at M ⊢
        clear c3
        have c3 := M.out.fo.c3
        go_wp2_with fail
        clear c3
        have c1 := M.out.fo.c1
        have c2 := M.out.fo.c2
        obtain ⟨r0, r1, r2, r3, r4⟩ := M.out.zc.cells
        have z0 := M.out.zc.frz 0
        have z1 := M.out.zc.frz 1
        have z2 := M.out.zc.frz 2
        have z3 := M.out.zc.frz 3
        have z4 := M.out.zc.frz 4
        have hqp := M.out.qp
        have hqp' : p ≠ q := fun e => hqp e.symm
        go_region
        all_goals go_wp2_with fail
        all_goals
          obtain ⟨f7, b7⟩ := M.out.zc.set (.int .i64 0) (.string (bs [])) (.int .i64 0) (.int .i64 line) (.int .i64 col)
          exact bodyPost_ret (res_all (c := 3) (t := 4) (u := 2) (q := q) (by kernel_rfl) rfl rfl rfl b7 rfl) rfl (show RAllDone w T _ _ from ⟨Fr.drew f7, _, LX.out, rfl⟩)
end Go.Proofs.YtjkpimohgbkjoaaDoor
