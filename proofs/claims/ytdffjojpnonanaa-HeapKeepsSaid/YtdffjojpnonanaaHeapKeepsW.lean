/-
  HeapKeeps: the walk.
-/
import Derived.Test.YtdffjojpnonanaaKeepsR
import Derived.Deep.RegionHeld3
import Derived.Deep.DeepCutAuto
import Derived.Deep.CutBlock
namespace Go.Proofs.Ytdffjojpnonanaa
open Go.RowKit

theorem info_row : (Try.prog.info? 35).map (fun i => (i.zero, i.size, i.bytes)) = some (some (.slice none 0 0), 1, 24) := by kernel_rfl

theorem allocK {ws : List Int} {k n : Nat} (h : ws.length ≤ 1 + k * 9) (hk : k ≤ 30) (hn : n ≤ 8) : allocB ws 65536 ((k : Int) + 5) n = true := by
  have h1 : isPartB ((k : Int) + 5) = true := by simp [isPartB]; omega
  have h2 : isPartB n = true := by simp [isPartB]; omega
  simp only [allocB, h1, h2, Bool.true_and, decide_eq_true_eq]
  omega

def K1 (w wr : World) (len k p g c : Nat) (o : List (List Int)) (bs : Nat → Nat) (vr vw : Value) : Prop := k ≤ len ∧ o.length = k ∧ KRel w wr p g c o bs vr vw

set_option maxRecDepth 100000 in
set_option maxHeartbeats 4000000 in
theorem heapkeeps_any (a0 : Option Addr) (len0 cap0 : Nat) (z0 : List Int) (a1 : Option Addr) (len1 cap1 : Nat) (z1 : List Int) (a2 : Option Addr) (len2 cap2 : Nat) (z2 : List Int) (w : World)
    (hr0 : IsRow .i64 w a0 len0 cap0 z0) (hr1 : IsRow .i64 w a1 len1 cap1 z1) (hr2 : IsRow .u64 w a2 len2 cap2 z2) :
    Calls Try.prog 5 #[.slice a0 len0 cap0, .slice a1 len1 cap1, .slice a2 len2 cap2] w fun e w' => e = .returned (.bool true) ∧ Below w.heap.size w w' := by
  have hlen0 := hr0.len
  have hlen1 := hr1.len
  have hlen2 := hr2.len
  have HR0 := Lib.hid hr0
  have HR1 := Lib.hid hr1
  have HR2 := Lib.hid hr2
  clear hr0 hr1 hr2
  go_enter Try.func5, Try.ntmps5
  go_wp2_with fail
  refine (new_any 65536 w (by omega) (by omega)).mono ?_
  rintro e w1 ⟨rfl, h1, f1⟩
  have H1 := Lib.hid h1
  have F1 := Lib.hid f1
  clear h1 f1
  go_wp2_with fail
  refine (known_any w1).mono ?_
  rintro e w2 ⟨rfl, f2⟩
  have F2 := Lib.hid f2
  clear f2
  go_upto_block 0 with fail
  have H2 : Hid (K1 w w2 len0 0 (w.heap.size + 1) w.heap.size 1 [] (fun _ => 0) (.slice none 0 0) (.slice none 0 0)) := Lib.hid
    ⟨Nat.zero_le _, rfl, H1.out.kept F2.out (fun h => h) (fun h => h), by simp, by simp, by simp [wsOf, flat], World.ownsRow_nil _ _ _ _, World.ownsRow_nil _ _ _ _, by simp, by simp, fun b hb => by simp [Value.ownBlock] at hb, fun b hb => by simp [Value.ownBlock] at hb, by simp,
      ⟨by omega, Nat.le_refl _⟩, (F1.out.trans F2.out (fun i _ h => h)).below (Nat.le_refl _) (fun _ _ h => h)⟩
  clear H1 F1 F2
  generalize w.heap.size + 1 = p at *
  go_cut [9, 10, 11] (fun vr vw i wr => ∃ (g c : Nat) (o : List (List Int)) (bs : Nat → Nat), Hid (KRel w wr p g c o bs vr vw))
  case first =>
    go_wp2_with fail
    go_loopw [9, 10, 11] (fun vr vw i wr => ∃ (k g c : Nat) (o : List (List Int)) (bs : Nat → Nat), i = .int .i64 k ∧ Hid (K1 w wr len0 k p g c o bs vr vw)) (fun _ _ i _ => 30 - (intOf i).toNat)
    case atStart => exact ⟨0, _, _, _, _, rfl, H2⟩
    case round =>
      obtain ⟨k, g, c, o, bs, rfl, hR⟩ := hrel
      obtain ⟨hk1, hok, -⟩ := hR.out
      have hk2 := hR.out.2.2.n30
      clear H2
      by_cases hk : k < len0 ∧ k < 30
      · obtain ⟨hk, hk'⟩ := hk
        obtain ⟨b, off, y, rfl, hb, hc, hy, hwf⟩ := HR0.out.at hk
        have hcw := (hR.out.2.2.bel.cell (p := ⟨b, off + k, none⟩) hb).trans hc
        clear hy hwf hc
        subst hok
        go_wp2_with fail
        refine (pick_any y 9 wr (by omega) (by omega)).mono ?_
        rintro e w' ⟨rfl, rfl⟩
        obtain ⟨n, hn⟩ := Int.eq_ofNat_of_zero_le (show 0 ≤ y % 9 by omega)
        have hn8 : n ≤ 8 := by omega
        rw [hn]
        clear hn
        go_wp2_with fail
        refine (alloc_y hR.out.2.2.h ((o.length : Int) + 5) n (allocK hR.out.2.2.few hk2 hn8)).mono ?_
        rintro e w3 ⟨rfl, g', c', h3, hg3, f3⟩
        rw [show ((o.length : Int) + 5) = 5 + o.length from by omega, wsOf_alloc] at h3
        have H3 := Lib.hid h3
        have G3 := Lib.hid hg3
        have F3 := Lib.hid f3
        clear h3 hg3 f3
        obtain ⟨i, hi, hz, hz1, hz2⟩ := info_parts info_word
        have hz0 := hR.out.2.2.bel.size
        have hz3 := F3.out.size
        obtain ⟨g2, c2, w4, hrun, hown, hgrow, hg2⟩ := run_append_one (P := Try.prog) w3 w.heap.size 35 35 27 i (.int .u64 0) 8 Try.underlying35 hi hz hz1 hz2 rfl u9 o.length _
          (F3.out.owns hR.out.2.2.refs (fun b hb hh => by have := hR.out.2.2.ar b hb; rcases hh with hh | hh; exact this.1 hh; exact this.2.1 hh)) (.int .u64 (wsOf o).length) rfl
          (by unfold maxLen; omega) (by omega) (by omega)
        have HA := Lib.hid hrun
        have O4 := Lib.hid hown
        have R4 := Lib.hid hgrow
        have B4 := Lib.hid hg2
        have hz4 := hgrow.size
        have hb2 : i.bytes * n ≤ 281474976710656 := by rw [hz2]; omega
        have hm : n ≤ maxLen := by unfold maxLen; omega
        clear hrun hown hgrow hg2 hz2
        go_wp2_with (first
          | (at_builtin; refine Lib.wpList_append_run _ rfl (.tmp 59) (.tmp 61) 35 35 rfl _ _ rfl rfl _ _ HA.out ?_)
          | (at_make; refine wpList_make_full _ rfl _ _ 35 rfl w.heap.size 27 i (.int .u64 0) 1 Try.underlying35 hi hz hz1 _ _ _ _ n rfl rfl rfl rfl hb2 hm (by omega) ?_))
        intro w5 hown5 hgrow5
        have hown5' : w5.ownsRow w.heap.size 27 1 (.slice (some ⟨w4.heap.size, 0, none⟩) n n) n ((List.replicate n 0).map (Value.int .u64)) := by
          rw [List.map_replicate, ← toList_madeCells_one]
          exact hown5
        have O5 := Lib.hid hown5'
        have R5 := Lib.hid hgrow5
        have hz5 := hgrow5.size
        clear hown5 hown5' hgrow5 hi hz hz1 hb2 hm
        obtain ⟨i, hi, hz, hz1, hz2⟩ := info_parts info_row
        have f35 : Fr (fun b => b = p ∨ b = g ∨ u9.ownBlock = some b) wr w5 :=
          (((F3.out.mono (T := fun b => b = p ∨ b = g ∨ u9.ownBlock = some b) (fun i _ hh => by rcases hh with hh | hh; exact .inl hh; exact .inr (.inl hh))).grown R4.out (fun b hb _ => .inr (.inr hb))).grown R5.out (fun b hb => by cases hb))
        obtain ⟨g3, c3, w6, hrun, hown, hgrow, hg3⟩ := run_append_one (P := Try.prog) w5 w.heap.size 49 49 35 i (.slice none 0 0) 24 Try.underlying49 hi hz hz1 hz2 rfl u10 o.length _
          (f35.owns hR.out.2.2.want (fun b hb hh => by
            have := hR.out.2.2.aw b hb
            rcases hh with hh | hh | hh
            · exact this.1 hh
            · exact this.2.1 hh
            · exact (hR.out.2.2.ar b hh).2.2.1 hb)) (.slice (some ⟨w4.heap.size, 0, none⟩) n n) rfl
          (by unfold maxLen; omega) (by omega) (by omega)
        have HA2 := Lib.hid hrun
        have hS : Hid (K1 w w6 len0 (o.length + 1) p g' c' (o ++ [List.replicate n 0]) (bsNew bs o.length w4.heap.size) (.slice (some ⟨g2, 0, none⟩) (o.length + 1) c2) (.slice (some ⟨g3, 0, none⟩) (o.length + 1) c3)) := Lib.hid
          ⟨hk, by simp, hR.out.2.2.step hn8 hk' H3.out G3.out F3.out O4.out R4.out B4.out O5.out R5.out hown hgrow hg3⟩
        clear hrun hown hgrow hg3 hz hz1 hz2 hi f35
        go_wp2_with (at_builtin; refine Lib.wpList_append_run _ rfl (.tmp 63) (.tmp 66) 49 49 rfl _ _ rfl rfl _ _ HA2.out ?_)
        go_roundw
        case rel => exact ⟨o.length + 1, _, _, _, _, by go_num, hS⟩
        case measure => simp [intOf]; omega
      · by_cases hk2' : k < len0
        all_goals
          go_wp2_with fail
          go_meet
          exact ⟨_, _, _, _, Lib.hid hR.out.2.2⟩
  case rest =>
    obtain ⟨g, c, o, bs, hK⟩ := hcut
    have hlen : o.length ≤ 30 := hK.out.n30
    obtain ⟨ar, cr, aw, cw, rfl, rfl, hao⟩ := hK.out.forms
    have Hao := Lib.hid hao
    clear hao
    go_upto_block 2 with fail
    go_cut [15] (fun _i wr => ∃ (o2 : List (List Int)), Hid (o2.length = o.length) ∧ Hid (KRel w wr p g c o2 bs (.slice ar o.length cr) (.slice aw o.length cw)))
    case first =>
      go_wp2_with fail
      go_loopw [15] (fun i wr => ∃ (j : Nat) (o2 : List (List Int)), i = .int .i64 j ∧ j ≤ 100 ∧ Hid (o2.length = o.length) ∧ Hid (KRel w wr p g c o2 bs (.slice ar o.length cr) (.slice aw o.length cw))) (fun i _ => 100 - (intOf i).toNat)
      case atStart => exact ⟨0, _, rfl, by omega, Lib.hid rfl, hK⟩
      case round =>
        obtain ⟨i, o2, rfl, hi100, hlo, hK2⟩ := hrel
        clear hK
        have hb0 := hK2.out.bel
        by_cases hcond : i < len1 ∧ i < len2 ∧ 0 < o.length ∧ i < 100
        · obtain ⟨hi1, hi2, hpos, hi3⟩ := hcond
          obtain ⟨gr, gw, rfl, rfl⟩ := Hao.out hpos
          obtain ⟨b1, o1, y1, rfl, hb1, hc1, hy1, hwf1⟩ := HR1.out.at hi1
          obtain ⟨b2, o2', y2, rfl, hb2, hc2, hy2, hwf2⟩ := HR2.out.at hi2
          obtain ⟨hy20, hy21⟩ := u64_bd hwf2
          have hc1w := (hb0.cell (p := ⟨b1, o1 + i, none⟩) hb1).trans hc1
          have hc2w := (hb0.cell (p := ⟨b2, o2' + i, none⟩) hb2).trans hc2
          clear hy1 hy2 hwf1 hwf2 hc1 hc2 hb0
          go_wp2_with fail
          refine (pick_any y1 o.length wr (by omega) (by omega)).mono ?_
          rintro e w' ⟨rfl, rfl⟩
          obtain ⟨q, hq⟩ := Int.eq_ofNat_of_zero_le (Int.emod_nonneg y1 (show (o.length : Int) ≠ 0 by omega))
          have hqlt : q < o.length := by have := Int.emod_lt_of_pos y1 (show 0 < (o.length : Int) by omega); omega
          rw [hq]
          clear hq
          go_wp2_with fail
          refine (pick_any _ 9 wr (by omega) (by omega)).mono ?_
          rintro e w' ⟨rfl, rfl⟩
          generalize wrap64 (y1.tdiv 30) = y3 at *
          obtain ⟨j, hj⟩ := Int.eq_ofNat_of_zero_le (show 0 ≤ y3 % 9 by omega)
          have hj9 : j < 9 := by omega
          rw [hj]
          clear hj
          obtain ⟨l, hl⟩ : ∃ l, o2[q]? = some l := ⟨_, List.getElem?_eq_getElem (by have := hlo.out; omega)⟩
          have hl8 := hK2.out.small l (List.mem_of_getElem? hl)
          have Hl := Lib.hid hl
          clear hl
          have hK3 := hK2.out
          rw [← hlo.out] at hK3
          have HK3 := Lib.hid hK3
          have hq2 : q < o2.length := by have := hlo.out; omega
          have cr0 := hK3.refCell hq2
          have cw0 := hK3.wantCell Hl.out
          have ltw : gw < wr.heap.size := (hK3.want.lt gw rfl).2
          have hgw : ¬ gw = g := (hK3.aw gw rfl).2.1
          have hb2w : b2 < wr.heap.size := Nat.lt_of_lt_of_le hb2 hK3.bel.size
          have hb2g : ¬ b2 = g := by have := hK3.lo; omega
          clear hK3
          go_wp2_with fail
          have hrg : ¬ gr = g := by have := (HK3.out.ar gr rfl).2.1; exact this
          have ltr : gr < wr.heap.size := (HK3.out.refs.lt gr rfl).2
          have Hpb0 := Lib.hid (wsOf_putB o2 q l Hl.out hl8 j)
          by_cases hjl : j < l.length
          · have Hpb : Hid (putB (wsOf o2) (placeOf (wsOf o2) (rOf o2 q) j) = true) := Lib.hid (by rw [Hpb0.out]; simp [hjl])
            go_region_held3 (fun W' => W'.cell? ⟨gr, q, none⟩ = some (.int .u64 (rOf o2 q)) ∧ W'.cell? ⟨b2, o2' + i, none⟩ = some (.int .u64 y2) ∧ W'.cell? ⟨gw, q, none⟩ = some (.slice (some ⟨bs q, 0, none⟩) l.length l.length))
              (first | exact ⟨cr3, cv3, cw3⟩ | exact ⟨cr0, hc2w, cw0⟩)
              (first | (go_at_call 14; refine (set_any (show HeapAt _ p g c 65536 (wsOf o2) from (HK3.out.h.drewN 1)) (rOf o2 q) j y2 (by omega) hy20 hy21).mono ?_; rintro e w3 ⟨rfl, h3, f3⟩; rw [Hpb.out]; have cr3 := (f3.cell (p := ⟨gr, q, none⟩) ltr hrg).trans cr0; have cw3 := (f3.cell (p := ⟨gw, q, none⟩) ltw hgw).trans cw0; have cv3 := (f3.cell (p := ⟨b2, o2' + i, none⟩) hb2w hb2g).trans hc2w; have H3 := Lib.hid h3; have F3 := Lib.hid f3; clear h3 f3))
            obtain ⟨ci, fi⟩ := HK3.out.innerCell Hl.out hjl
            have hbq := HK3.out.bsLt hq2
            have hbqg := (HK3.out.ab q hq2).2
            have ci3 := (F3.out.cell (p := ⟨bs q, j, none⟩) hbq.2 hbqg).trans ci
            have fi3 := (F3.out.frozen (p := ⟨bs q, j, none⟩) hbq.2 hbqg).trans fi
            have hS := Lib.hid ((show KRel w _ p g c _ bs _ _ from HK3.out.quiet ((Fr.refl _ wr).drewN 1)).put Hl.out hjl H3.out F3.out)
            clear ci fi hbq hbqg
            go_wp2_with fail
            go_region
            all_goals
              go_wp2_with fail
              go_roundw
              case rel => exact ⟨i + 1, o2.set q (l.set j y2), by go_num, by omega, Lib.hid (by rw [List.length_set]; exact hlo.out), Lib.hid (by have := hS.out.drewN 1; rw [hlo.out] at this; exact this)⟩
              case measure => simp [intOf]; omega
          · have Hpb : Hid (putB (wsOf o2) (placeOf (wsOf o2) (rOf o2 q) j) = false) := Lib.hid (by rw [Hpb0.out]; simp [hjl])
            go_region_held3 (fun W' => W'.cell? ⟨gr, q, none⟩ = some (.int .u64 (rOf o2 q)) ∧ W'.cell? ⟨b2, o2' + i, none⟩ = some (.int .u64 y2) ∧ W'.cell? ⟨gw, q, none⟩ = some (.slice (some ⟨bs q, 0, none⟩) l.length l.length))
              (first | exact ⟨cr3, cv3, cw3⟩ | exact ⟨cr0, hc2w, cw0⟩)
              (first | (go_at_call 14; refine (set_any (show HeapAt _ p g c 65536 (wsOf o2) from (HK3.out.h.drewN 1)) (rOf o2 q) j y2 (by omega) hy20 hy21).mono ?_; rintro e w3 ⟨rfl, h3, f3⟩; rw [Hpb.out]; have cr3 := (f3.cell (p := ⟨gr, q, none⟩) ltr hrg).trans cr0; have cw3 := (f3.cell (p := ⟨gw, q, none⟩) ltw hgw).trans cw0; have cv3 := (f3.cell (p := ⟨b2, o2' + i, none⟩) hb2w hb2g).trans hc2w; have H3 := Lib.hid h3; have F3 := Lib.hid f3; clear h3 f3))
            have hS := Lib.hid ((show KRel w _ p g c _ bs _ _ from HK3.out.quiet ((Fr.refl _ wr).drewN 1)).putNo Hl.out hjl H3.out F3.out)
            go_wp2_with fail
            go_roundw
            case rel => exact ⟨i + 1, o2, by go_num, by omega, hlo, Lib.hid (by have := hS.out; rw [hlo.out] at this; exact this)⟩
            case measure => simp [intOf]; omega
        · by_cases d1 : i < len1
          all_goals by_cases d2 : i < len2
          all_goals by_cases d3 : 0 < o.length
          all_goals
            go_wp2_with fail
            go_meet
            exact ⟨o2, hlo, hK2⟩
    case rest =>
      obtain ⟨o2, hlo, hK2⟩ := hcut
      have hlo2 := hlo.out
      have Hlo := Lib.hid hlo2
      clear hlo2 hlo hK
      go_wp2_with fail
      go_loopw [18] (fun i w5 => ∃ q : Nat, i = .int .i64 q ∧ q ≤ o.length ∧ Hid (KRel w w5 p g c o2 bs (.slice ar o.length cr) (.slice aw o.length cw))) (fun i _ => o.length - (intOf i).toNat)
      case atStart => exact ⟨0, rfl, Nat.zero_le _, hK2⟩
      case round =>
        obtain ⟨q, rfl, hqn, hK5⟩ := hrel
        clear hK2
        by_cases hq : q < o.length
        · obtain ⟨gr, gw, rfl, rfl⟩ := Hao.out (by omega)
          obtain ⟨l, hl⟩ : ∃ l, o2[q]? = some l := ⟨_, List.getElem?_eq_getElem (by have := Hlo.out; omega)⟩
          have hl8 := hK5.out.small l (List.mem_of_getElem? hl)
          have Hl := Lib.hid hl
          clear hl
          have hK3 := hK5.out
          rw [← Hlo.out] at hK3
          have HK3 := Lib.hid hK3
          have hq2 : q < o2.length := by have := Hlo.out; omega
          have cr0 := hK3.refCell hq2
          have cw0 := hK3.wantCell Hl.out
          have hrs := hK3.refSmall Hl.out
          clear hK3
          go_wp2_with fail
          go_quiet ((first | (go_at_call 27; exact quietS ((HK3.out.drewN _).typeCalls Hl.out)) | (go_at_call 29; exact quietS ((HK3.out.drewN _).lenCalls Hl.out))))
          go_wp2_with fail
          go_loopw [19] (fun i w6 => ∃ j : Nat, i = .int .i64 j ∧ j ≤ l.length ∧ Hid (KRel w w6 p g c o2 bs (.slice (some ⟨gr, 0, none⟩) o2.length cr) (.slice (some ⟨gw, 0, none⟩) o2.length cw))) (fun i _ => l.length - (intOf i).toNat)
          case atStart => exact ⟨0, rfl, Nat.zero_le _, Lib.hid (HK3.out.drewN _)⟩
          case round =>
            obtain ⟨j, rfl, hjn, hK6⟩ := hrel
            clear cr0 cw0
            have cr0 := hK6.out.refCell hq2
            have cw0 := hK6.out.wantCell Hl.out
            by_cases hj : j < l.length
            · obtain ⟨ci, fi⟩ := hK6.out.innerCell Hl.out hj
              obtain ⟨y, hy⟩ : ∃ y, y = l.getD j 0 := ⟨_, rfl⟩
              rw [← hy] at ci
              have gc : Hid (∀ n, Calls Try.prog 13 #[.pointer (some ⟨p, 0, none⟩), .int .u64 (rOf o2 q), .int .i64 j] (World.drewN _ n) fun e w' => e = .returned (.int .u64 y) ∧ World.drewN _ n = w') := Lib.hid (fun n => by
                rw [hy]; exact (hK6.out.drewN n).getCalls Hl.out hj)
              have wc : Hid (∀ n, Calls Try.prog 16 #[.pointer (some ⟨p, 0, none⟩), .int .u64 ((rOf o2 q : Int) + 1 + j)] (World.drewN _ n) fun e w' => e = .returned (.int .u64 y) ∧ World.drewN _ n = w') := Lib.hid (fun n => by
                rw [hy]; exact (hK6.out.drewN n).wordCalls Hl.out hj)
              clear hy fi
              have hrj1 : IntKind.u64.wrap ((rOf o2 q : Int) + 1) = (rOf o2 q : Int) + 1 := wraps_u64 _ (by omega) (by omega)
              have hrj2 : IntKind.u64.wrap ((rOf o2 q : Int) + 1 + j) = (rOf o2 q : Int) + 1 + j := wraps_u64 _ (by omega) (by omega)
              go_wp2_with fail
              go_quiet ((first | (go_at_call 13; exact quietS (gc.out _)) | (go_at_call 16; exact quietS (wc.out _))))
              clear hrj1 hrj2
              go_wp2_with fail
              go_roundw
              case rel => exact ⟨j + 1, by go_num, by omega, Lib.hid (hK6.out.drewN _)⟩
              case measure => simp [intOf]; omega
            · go_wp2_with fail
              go_roundw
              case rel => exact ⟨q + 1, by go_num, by omega, Lib.hid (by have := hK6.out; rw [Hlo.out] at this; exact this)⟩
              case measure => simp [intOf]; omega
        · go_wp2_with fail
          go_ret
          exact ⟨rfl, hK5.out.bel⟩
end Go.Proofs.Ytdffjojpnonanaa
