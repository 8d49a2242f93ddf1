/-
  HeapPlays: the walk.
-/
import Derived.Test.YtdffjojpnonanaaRefD
import Derived.Test.YtdffjojpnonanaaHeapCopiesW
import Derived.Deep.RegionHeld3
import Derived.Deep.DeepCutAuto
import Derived.Deep.CutBlock
namespace Go.Proofs.Ytdffjojpnonanaa
open Go.RowKit

/-- A call that came in. -/
structure StepV where
  what : Int
  t : Int
  n : Int
  ref : Int
  v : Int
  s : ByteArray
  wild : Bool

structure StepAt (w : World) (b o : Nat) (x : StepV) : Prop where
  e0 : w.cell? ⟨b, o, none⟩ = some (.int .i64 x.what)
  e1 : w.cell? ⟨b, o + 1, none⟩ = some (.int .i64 x.t)
  e2 : w.cell? ⟨b, o + 2, none⟩ = some (.int .i64 x.n)
  e3 : w.cell? ⟨b, o + 3, none⟩ = some (.int .u64 x.ref)
  e4 : w.cell? ⟨b, o + 4, none⟩ = some (.int .u64 x.v)
  e5 : w.cell? ⟨b, o + 5, none⟩ = some (.string x.s)
  e6 : w.cell? ⟨b, o + 6, none⟩ = some (.bool x.wild)
  w3 : 0 ≤ x.ref ∧ x.ref ≤ 18446744073709551615
  w4 : 0 ≤ x.v ∧ x.v ≤ 18446744073709551615
  w5 : x.s.size ≤ 9223372036854775807

def IsSteps (w : World) (a : Option Addr) (len : Nat) : Prop :=
  len ≤ 9223372036854775807 ∧ (0 < len → ∃ b o, a = some ⟨b, o, none⟩ ∧ b < w.heap.size ∧ ∀ i, i < len → ∃ x, StepAt w b (o + i * 7) x)

theorem StepAt.below {B : Nat} {w wr : World} {b o : Nat} {x : StepV} (h : StepAt w b o x) (hb : Below B w wr) (hB : b < B) : StepAt wr b o x :=
  ⟨(hb.cell (p := ⟨b, o, none⟩) hB).trans h.e0, (hb.cell (p := ⟨b, o + 1, none⟩) hB).trans h.e1, (hb.cell (p := ⟨b, o + 2, none⟩) hB).trans h.e2, (hb.cell (p := ⟨b, o + 3, none⟩) hB).trans h.e3,
    (hb.cell (p := ⟨b, o + 4, none⟩) hB).trans h.e4, (hb.cell (p := ⟨b, o + 5, none⟩) hB).trans h.e5, (hb.cell (p := ⟨b, o + 6, none⟩) hB).trans h.e6, h.w3, h.w4, h.w5⟩

/-- Both heaps, with the same words. -/
structure PlayRel (w wr : World) (p g c p2 g2 c2 : Nat) (room : Int) (ws : List Int) : Prop where
  h : HeapAt wr p g c room ws
  r : RefAt wr p2 g2 c2 room ws
  apart : p ≠ p2 ∧ p ≠ g2 ∧ g ≠ p2 ∧ g ≠ g2
  lo : w.heap.size ≤ p ∧ w.heap.size ≤ g ∧ w.heap.size ≤ p2 ∧ w.heap.size ≤ g2
  bel : Below w.heap.size w wr

theorem PlayRel.quiet {w wr w' : World} {p g c p2 g2 c2 : Nat} {room : Int} {ws : List Int} (h : PlayRel w wr p g c p2 g2 c2 room ws) (f : Fr (fun _ => False) wr w') : PlayRel w w' p g c p2 g2 c2 room ws :=
  ⟨h.h.kept f (fun h => h) (fun h => h), h.r.kept f (fun h => h) (fun h => h), h.apart, h.lo, h.bel.trans (f.below h.bel.size (fun _ _ h => h))⟩

theorem PlayRel.two {w wx w3 w4 : World} {p g c p2 g2 c2 g' c' g2' c2' : Nat} {room : Int} {ws ws' : List Int} (h : PlayRel w wx p g c p2 g2 c2 room ws)
    (h3 : HeapAt w3 p g' c' room ws') (hg' : g' = g ∨ wx.heap.size ≤ g') (f3 : Fr (fun b => b = p ∨ b = g) wx w3)
    (r4 : RefAt w4 p2 g2' c2' room ws') (hg2' : g2' = g2 ∨ w3.heap.size ≤ g2') (f4 : Fr (fun b => b = p2 ∨ b = g2) w3 w4) : PlayRel w w4 p g' c' p2 g2' c2' room ws' := by
  have a := h.apart
  have l := h.lo
  have z0 := h.bel.size
  have z3 := f3.size
  have hp := h.h.ltp
  have hg := h.h.ltg
  have hp2 := h.r.ltp
  have hg2 := h.r.ltg
  have hg3 := h3.ltg
  refine ⟨h3.kept f4 (by omega) (by omega), r4, by omega, by omega, ?_⟩
  refine (h.bel.trans (f3.below z0 ?_)).trans (f4.below (by omega) ?_)
  · intro b hb hh; omega
  · intro b hb hh; omega

theorem PlayRel.ref3 {w wx w3 : World} {p g c p2 g2 c2 : Nat} {room : Int} {ws : List Int} (h : PlayRel w wx p g c p2 g2 c2 room ws) (f3 : Fr (fun b => b = p ∨ b = g) wx w3) : RefAt w3 p2 g2 c2 room ws := by
  have a := h.apart
  exact h.r.kept f3 (by omega) (by omega)

/-- What is read of the call's own variable behind the switch's head. -/
structure XAt (w : World) (B : Nat) (t v : Int) (s : ByteArray) : Prop where
  e1 : w.cell? ⟨B, 1, none⟩ = some (.int .i64 t)
  e4 : w.cell? ⟨B, 4, none⟩ = some (.int .u64 v)
  e5 : w.cell? ⟨B, 5, none⟩ = some (.string s)
  lt : B < w.heap.size

theorem XAt.kept {S : Nat → Prop} {w w' : World} {B : Nat} {t v : Int} {s : ByteArray} (h : XAt w B t v s) (f : Fr S w w') (hB : ¬ S B) : XAt w' B t v s :=
  ⟨(f.cell (p := ⟨B, 1, none⟩) h.lt hB).trans h.e1, (f.cell (p := ⟨B, 4, none⟩) h.lt hB).trans h.e4, (f.cell (p := ⟨B, 5, none⟩) h.lt hB).trans h.e5, Nat.lt_of_lt_of_le h.lt f.size⟩

def off4 (B p g p2 g2 : Nat) : Prop := B ≠ p ∧ B ≠ g ∧ B ≠ p2 ∧ B ≠ g2

theorem Fr.one {p g : Nat} {w w' : World} (h : Fr (fun b => b = g) w w') : Fr (fun b => b = p ∨ b = g) w w' := h.mono (fun _ _ hh => .inr hh)
theorem Fr.none {S : Nat → Prop} {w w' : World} (h : Fr (fun _ => False) w w') : Fr S w w' := h.mono (fun _ _ hh => hh.elim)

set_option maxRecDepth 100000 in
set_option maxHeartbeats 4000000 in
theorem heapplays_any (r : Int) (a : Option Addr) (len cap : Nat) (w : World) (hst : IsSteps w a len) :
    Calls Try.prog 4 #[.int .i64 r, .slice a len cap] w fun e w' => e = .returned (.bool true) ∧ Below w.heap.size w w' := by
  have hlen := hst.1
  have HST := Lib.hid hst
  clear hst
  go_enter Try.func4, Try.ntmps4
  go_wp2_with fail
  refine (pick_any r 300 w (by omega) (by omega)).mono ?_
  rintro e w' ⟨rfl, rfl⟩
  have hq0 : 0 ≤ r % 300 := by omega
  have hq1 : r % 300 < 300 := by omega
  generalize r % 300 = q at *
  go_wp2_with fail
  refine (new_any (1 + q) w (by omega) (by omega)).mono ?_
  rintro e w1 ⟨rfl, h1, f1⟩
  have H1 := Lib.hid h1
  have F1 := Lib.hid f1
  clear h1 f1
  go_wp2_with fail
  refine (known_any w1).mono ?_
  rintro e w2 ⟨rfl, f2⟩
  have H2 := Lib.hid (H1.out.kept f2 (fun h => h) (fun h => h))
  have F2 := Lib.hid (F1.out.trans f2 (fun _ _ h => h))
  clear f2 H1 F1
  go_wp2_with fail
  refine (rnew_any (1 + q) w2 (by omega) (by omega)).mono ?_
  rintro e w3 ⟨rfl, h3, f3⟩
  have HP : Hid (PlayRel w w3 (w.heap.size + 1) w.heap.size 1 (w2.heap.size + 1) w2.heap.size 1 (1 + q) [0]) := Lib.hid (by
    have z := H2.out.ltp
    refine ⟨H2.out.kept f3 (fun h => h) (fun h => h), h3, by omega, by omega, (F2.out.trans f3 (fun _ _ h => h)).below (Nat.le_refl _) (fun _ _ h => h)⟩)
  clear h3 f3 H2 F2
  generalize w.heap.size + 1 = p at *
  generalize w2.heap.size + 1 = p2 at *
  go_wp2_with fail
  go_loopw [8] (fun i wr => ∃ (k g c g2 c2 : Nat) (ws : List Int), i = .int .i64 k ∧ k ≤ len ∧ k ≤ 100 ∧ Hid (PlayRel w wr p g c p2 g2 c2 (1 + q) ws)) (fun i _ => 100 - (intOf i).toNat)
  case atStart => exact ⟨0, _, _, _, _, _, rfl, Nat.zero_le _, by omega, HP⟩
  case round =>
    obtain ⟨k, g, c, g2, c2, ws, rfl, hk1, hk2, hP⟩ := hrel
    clear HP
    by_cases hk : k < len ∧ k < 100
    · obtain ⟨hk, hk'⟩ := hk
      obtain ⟨b, o, rfl, hb, hx⟩ := HST.out.2 (by omega)
      obtain ⟨x, hx⟩ := hx k hk
      have hx' := hx.below hP.out.bel hb
      clear hx
      obtain ⟨what, t, n, ref, v, s, wild⟩ := x
      obtain ⟨e0, e1, e2, e3, e4, e5, e6, w3', w4', w5'⟩ := hx'
      simp only at e0 e1 e2 e3 e4 e5 e6 w3' w4' w5'
      obtain ⟨hr0, hr1⟩ := w3'
      obtain ⟨hv0, hv1⟩ := w4'
      go_upto_if 62 with fail
      go_cut [10, 11] (fun rf nn wx => ∃ (ref n : Int), rf = .int .u64 ref ∧ nn = .int .i64 n ∧ 0 ≤ ref ∧ ref ≤ 18446744073709551615 ∧ Hid (wx.cell? ⟨wr.heap.size, 0, none⟩ = some (.int .i64 what)) ∧ Hid (PlayRel w wx p g c p2 g2 c2 (1 + q) ws ∧ XAt wx wr.heap.size t v s ∧ off4 wr.heap.size p g p2 g2))
      case first =>
        have HXX : Hid (PlayRel w (wr.alloc (.cells #[.int .i64 what, .int .i64 t, .int .i64 n, .int .u64 ref, .int .u64 v, .string s, .bool wild] 42)) p g c p2 g2 c2 (1 + q) ws ∧
            XAt (wr.alloc (.cells #[.int .i64 what, .int .i64 t, .int .i64 n, .int .u64 ref, .int .u64 v, .string s, .bool wild] 42)) wr.heap.size t v s ∧ off4 wr.heap.size p g p2 g2) := Lib.hid (by
          have hnew := heap_alloc_new wr (.cells #[.int .i64 what, .int .i64 t, .int .i64 n, .int .u64 ref, .int .u64 v, .string s, .bool wild] 42)
          refine ⟨hP.out.quiet ((Fr.refl _ wr).alloc _), ⟨?_, ?_, ?_, by simp⟩, ?_⟩
          · rw [cell_of_row _ _ 1 _ _ _ hnew]; rfl
          · rw [cell_of_row _ _ 4 _ _ _ hnew]; rfl
          · rw [cell_of_row _ _ 5 _ _ _ hnew]; rfl
          · have := hP.out.h.ltp
            have := hP.out.h.ltg
            have := hP.out.r.ltp
            have := hP.out.r.ltg
            unfold off4
            omega)
        have HX0 : Hid ((wr.alloc (.cells #[.int .i64 what, .int .i64 t, .int .i64 n, .int .u64 ref, .int .u64 v, .string s, .bool wild] 42)).cell? ⟨wr.heap.size, 0, none⟩ = some (.int .i64 what)) := Lib.hid (by
          rw [cell_of_row _ _ 0 _ _ _ (heap_alloc_new wr _)]; rfl)
        cases wild with
        | true =>
          go_wp2_with fail
          go_meet
          exact ⟨ref, n, rfl, rfl, hr0, hr1, HX0, HXX⟩
        | false =>
          go_wp2_with fail
          refine (pick_any (ref % 1000) (1 + q + 2) _ (by omega) (by omega)).mono ?_
          rintro e w' ⟨rfl, rfl⟩
          have hp0 := Int.emod_nonneg (ref % 1000) (show (1 + q + 2) ≠ 0 by omega)
          have hp1 := Int.emod_lt_of_pos (ref % 1000) (show 0 < (1 + q + 2) by omega)
          generalize (ref % 1000) % (1 + q + 2) = rf at *
          go_wp2_with fail
          refine (pick_any n 12 _ (by omega) (by omega)).mono ?_
          rintro e w' ⟨rfl, rfl⟩
          have hn0 : 0 ≤ n % 12 := by omega
          have hn1 : n % 12 < 12 := by omega
          generalize n % 12 = n' at *
          go_wp2_with fail
          go_meet
          exact ⟨rf, n' - 2, rfl, rfl, hp0, by omega, HX0, HXX⟩
      case rest =>
        clear e0 e1 e2 e3 e4 e5 e6 hr0 hr1 n ref
        obtain ⟨ref, n, rfl, rfl, hr0, hr1, h0, HX⟩ := hcut
        have e0 := h0.out
        have hBw : w.heap.size ≤ wr.heap.size := hP.out.bel.size
        clear h0 hP
        generalize wr.heap.size = B at *
        go_wp2_with fail
        refine (pick_any what 9 _ (by omega) (by omega)).mono ?_
        rintro e w' ⟨rfl, rfl⟩
        have hw0 : 0 ≤ what % 9 := by omega
        have hw1 : what % 9 < 9 := by omega
        generalize what % 9 = qw at *
        clear e0
        have e1 := HX.out.2.1.e1
        have e4 := HX.out.2.1.e4
        have e5 := HX.out.2.1.e5
        rename World => wx
        go_upto_block 2 with fail
        go_cut [12] (fun ok wy => ∃ (g' c' g2' c2' : Nat) (ws' : List Int), ok = .bool true ∧ Hid (PlayRel w wy p g' c' p2 g2' c2' (1 + q) ws'))
        case first =>
          by_cases q4 : qw = 4 ∨ qw = 5
          · clear hw0 hw1
            rcases q4 with rfl | rfl
            all_goals
              obtain ⟨bb, hpb⟩ : ∃ bb, putB ws (placeOf ws ref n) = bb := ⟨_, rfl⟩
              all_goals as_aux_lemma =>
                have Hpb := Lib.hid hpb
                clear hpb
                go_wp2_with fail
                go_region_held3 (fun W' => W'.cell? ⟨B, 4, none⟩ = some (.int .u64 v)) (first | exact e4c | exact e4b | exact e4)
                  (first
                    | (go_at_call 14; refine (set_any (show HeapAt _ p g c (1 + q) ws from HX.out.1.h.drewN 1) ref n v hr0 hv0 hv1).mono ?_; rintro e w3 ⟨rfl, h3, f3⟩; rw [Hpb.out]; have e4b := (f3.cell (p := ⟨B, 4, none⟩) HX.out.2.1.lt HX.out.2.2.2.1).trans e4; have H3 := Lib.hid h3; have F3 := Lib.hid (show Fr (fun b => b = p ∨ b = g) wx w3 from Fr.one ⟨f3.os, f3.tape, f3.output, f3.size, f3.block⟩); have R3 := Lib.hid (HX.out.1.ref3 F3.out); have hB3 : B < w3.heap.size := Nat.lt_of_lt_of_le HX.out.2.1.lt f3.size; clear h3 f3)
                    | (go_at_call 20; refine (rset_any (show RefAt _ p2 g2 c2 (1 + q) ws from R3.out) ref n v hr0 hv0 hv1).mono ?_; rintro e w4 ⟨rfl, r4, f4⟩; rw [Hpb.out]; have e4c := (f4.cell (p := ⟨B, 4, none⟩) hB3 HX.out.2.2.2.2.2).trans e4b; have R4 := Lib.hid r4; have F4 := Lib.hid f4; clear r4 f4))
                all_goals
                  go_wp2_with fail
                  go_meet
                  exact ⟨_, _, _, _, _, by first | rfl | (cases bb <;> rfl) | simp, Lib.hid (HX.out.1.two H3.out (.inl rfl) F3.out R4.out (.inl rfl) (Fr.one F4.out))⟩
          · have b4 : (qw == 4) = false := beq_eq_false_iff_ne.2 (by omega)
            have b5 : (qw == 5) = false := beq_eq_false_iff_ne.2 (by omega)
            by_cases q6 : qw = 6
            · have b6 : (qw == 6) = true := beq_iff_eq.2 q6
              clear q4 q6 hw0 hw1
              obtain ⟨bb, hpb⟩ : ∃ bb, putB ws ref = bb := ⟨_, rfl⟩
              all_goals as_aux_lemma =>
                have Hpb := Lib.hid hpb
                clear hpb
                go_wp2_with fail
                go_region_held3 (fun W' => W'.cell? ⟨B, 4, none⟩ = some (.int .u64 v)) (first | exact e4c | exact e4b | exact e4)
                  (first
                    | (go_at_call 15; refine (put_any (show HeapAt _ p g c (1 + q) ws from HX.out.1.h.drewN 1) ref v hr0 hv0 hv1).mono ?_; rintro e w3 ⟨rfl, h3, f3⟩; rw [Hpb.out]; have e4b := (f3.cell (p := ⟨B, 4, none⟩) HX.out.2.1.lt HX.out.2.2.2.1).trans e4; have H3 := Lib.hid h3; have F3 := Lib.hid (show Fr (fun b => b = p ∨ b = g) wx w3 from Fr.one ⟨f3.os, f3.tape, f3.output, f3.size, f3.block⟩); have R3 := Lib.hid (HX.out.1.ref3 F3.out); have hB3 : B < w3.heap.size := Nat.lt_of_lt_of_le HX.out.2.1.lt f3.size; clear h3 f3)
                    | (go_at_call 21; refine (rput_any (show RefAt _ p2 g2 c2 (1 + q) ws from R3.out) ref v hr0 hv0 hv1).mono ?_; rintro e w4 ⟨rfl, r4, f4⟩; rw [Hpb.out]; have e4c := (f4.cell (p := ⟨B, 4, none⟩) hB3 HX.out.2.2.2.2.2).trans e4b; have R4 := Lib.hid r4; have F4 := Lib.hid f4; clear r4 f4))
                all_goals
                  go_wp2_with fail
                  go_meet
                  exact ⟨_, _, _, _, _, by first | rfl | (cases bb <;> rfl) | simp, Lib.hid (HX.out.1.two H3.out (.inl rfl) F3.out R4.out (.inl rfl) (Fr.one F4.out))⟩
            · have b6 : (qw == 6) = false := beq_eq_false_iff_ne.2 q6
              by_cases q7 : qw = 7
              · have b7 : (qw == 7) = true := beq_iff_eq.2 q7
                clear q4 q6 q7 hw0 hw1
                as_aux_lemma =>
                by_cases hs0 : s.size = 0
                · go_wp2_with fail
                  refine (text_empty p s hs0).mono ?_
                  rintro e w3 ⟨rfl, rfl⟩
                  go_wp2_with fail
                  refine (rtext_empty p2 s hs0).mono ?_
                  rintro e w3 ⟨rfl, rfl⟩
                  go_wp2_with fail
                  go_meet
                  exact ⟨_, _, _, _, _, rfl, Lib.hid HX.out.1⟩
                · have hs1 : 0 < s.size := by omega
                  clear hs0
                  cases hb : allocB ws (1 + q) 3 s.size with
                  | true =>
                    have Hb := Lib.hid hb
                    clear hb
                    go_wp2_with fail
                    refine (text_any HX.out.1.h s hs1 Hb.out).mono ?_
                    rintro e w3 ⟨rfl, g3, c3, h3, hg3, f3⟩
                    have H3 := Lib.hid h3
                    have F3 := Lib.hid f3
                    have G3 := Lib.hid hg3
                    have R3 := Lib.hid (HX.out.1.ref3 f3)
                    have X3 := Lib.hid (HX.out.2.1.kept f3 (by have := HX.out.2.2; unfold off4 at this; omega))
                    have e5b := X3.out.e5
                    clear h3 f3 hg3
                    go_wp2_with fail
                    refine (rtext_any R3.out s hs1 Hb.out).mono ?_
                    rintro e w4 ⟨rfl, g4, c4, r4, hg4, f4⟩
                    have HN := Lib.hid (HX.out.1.two H3.out G3.out F3.out r4 hg4 f4)
                    clear r4 hg4 f4
                    go_wp2_with fail
                    go_meet
                    exact ⟨_, _, _, _, _, rfl, HN⟩
                  | false =>
                    have Hb := Lib.hid hb
                    clear hb
                    go_wp2_with fail
                    refine (text_no HX.out.1.h s w5' hs1 Hb.out).mono ?_
                    rintro e w3 ⟨rfl, m3, rfl⟩
                    have P3 := Lib.hid (HX.out.1.quiet ((Fr.refl _ wx).drewN m3))
                    go_wp2_with fail
                    refine (rtext_no P3.out.r s w5' hs1 Hb.out).mono ?_
                    rintro e w4 ⟨rfl, m4, rfl⟩
                    have P4 := Lib.hid (HX.out.1.quiet ((Fr.refl _ wx).drewN (m3 + m4)))
                    go_wp2_with fail
                    go_meet
                    exact ⟨_, _, _, _, _, rfl, P4⟩
              · have b7 : (qw == 7) = false := beq_eq_false_iff_ne.2 q7
                by_cases q8 : qw = 8
                · have b8 : (qw == 8) = true := beq_iff_eq.2 q8
                  clear q4 q6 q7 q8 hw0 hw1
                  as_aux_lemma =>
                  go_wp2_with fail
                  refine (copy_any HX.out.1.h).mono ?_
                  rintro e w3 ⟨p', g', c', rfl, h', lp', lg', f3⟩
                  have P3 := Lib.hid (HX.out.1.quiet f3)
                  have X3 := Lib.hid (HX.out.2.1.kept f3 (fun h => h))
                  have HC := Lib.hid h'
                  have L3 := Lib.hid (And.intro lp' (And.intro lg' f3))
                  clear h' lp' lg' f3
                  go_wp2_with fail
                  refine (same_any HC.out P3.out.r).mono ?_
                  rintro e w4 ⟨rfl, f4⟩
                  have P4 := Lib.hid (P3.out.quiet f4)
                  have X4 := Lib.hid (X3.out.kept f4 (fun h => h))
                  have HC4 := Lib.hid (HC.out.kept f4 (fun h => h) (fun h => h))
                  have e4d := X4.out.e4
                  clear f4 P3 X3 HC
                  go_wp2_with fail
                  refine (put_any HC4.out 1 v (by omega) hv0 hv1).mono ?_
                  rintro e w5 ⟨rfl, h5, f5⟩
                  have HC5 := Lib.hid h5
                  have F5 := Lib.hid f5
                  clear h5 f5
                  go_wp2_with fail
                  refine (alloc_some HC5.out 1 0).mono ?_
                  rintro e w6 ⟨v6, b6, g6, c6, ws6, rfl, h6, hg6, f6⟩
                  have HN : Hid (PlayRel w w6 p g c p2 g2 c2 (1 + q) ws) := Lib.hid (by
                    obtain ⟨lp, lg, f3⟩ := L3.out
                    have z3 := f3.size
                    have hp := HX.out.1.h.ltp
                    have hg := HX.out.1.h.ltg
                    have hp2 := HX.out.1.r.ltp
                    have hg2 := HX.out.1.r.ltg
                    have z0 := HX.out.1.bel.size
                    have z4 := P4.out.bel.size
                    have f56 : Fr (fun b => wx.heap.size ≤ b) w4 w6 := (F5.out.mono (T := fun b => wx.heap.size ≤ b) (fun i _ hh => by omega)).trans f6 (fun i _ hh => by omega)
                    exact ⟨P4.out.h.kept f56 (by omega) (by omega), P4.out.r.kept f56 (by omega) (by omega), P4.out.apart, P4.out.lo, P4.out.bel.trans (f56.below z4 (fun b hb hh => by omega))⟩)
                  clear h6 hg6 f6
                  go_wp2_with fail
                  go_meet
                  exact ⟨_, _, _, _, _, rfl, HN⟩
                · have b8 : (qw == 8) = false := beq_eq_false_iff_ne.2 q8
                  clear q4 q6 q7 q8 hw0 hw1
                  as_aux_lemma =>
                  cases hb : allocB ws (1 + q) t n with
                  | true =>
                    have Hb := Lib.hid hb
                    clear hb
                    go_wp2_with fail
                    refine (alloc_y HX.out.1.h t n Hb.out).mono ?_
                    rintro e w3 ⟨rfl, g3, c3, h3, hg3, f3⟩
                    have H3 := Lib.hid h3
                    have F3 := Lib.hid f3
                    have G3 := Lib.hid hg3
                    have R3 := Lib.hid (HX.out.1.ref3 f3)
                    have X3 := Lib.hid (HX.out.2.1.kept f3 (by have := HX.out.2.2; unfold off4 at this; omega))
                    have e1b := X3.out.e1
                    clear h3 f3 hg3
                    go_wp2_with fail
                    refine (ralloc_y R3.out t n Hb.out).mono ?_
                    rintro e w4 ⟨rfl, g4, c4, r4, hg4, f4⟩
                    have HN := Lib.hid (HX.out.1.two H3.out G3.out F3.out r4 hg4 f4)
                    clear r4 hg4 f4
                    go_wp2_with fail
                    go_meet
                    exact ⟨_, _, _, _, _, rfl, HN⟩
                  | false =>
                    have Hb := Lib.hid hb
                    clear hb
                    go_wp2_with fail
                    refine (alloc_n HX.out.1.h t n Hb.out).mono ?_
                    rintro e w3 ⟨rfl, m3, rfl⟩
                    have P3 := Lib.hid (HX.out.1.quiet ((Fr.refl _ wx).drewN m3))
                    go_wp2_with fail
                    refine (ralloc_n P3.out.r t n Hb.out).mono ?_
                    rintro e w4 ⟨rfl, m4, rfl⟩
                    have P4 := Lib.hid (HX.out.1.quiet ((Fr.refl _ wx).drewN (m3 + m4)))
                    go_wp2_with fail
                    go_meet
                    exact ⟨_, _, _, _, _, rfl, P4⟩
        case rest =>
          as_aux_lemma =>
          clear HX e1 e4 e5 hv0 hv1 w5' hw0 hw1
          obtain ⟨g', c', g2', c2', ws', rfl, hQ⟩ := hcut
          go_wp2_with fail
          refine (same_any hQ.out.h hQ.out.r).mono ?_
          rintro e w5 ⟨rfl, f5⟩
          have P5 := Lib.hid (hQ.out.quiet f5)
          clear f5 hQ
          go_wp2_with fail
          refine (type_any P5.out.h ref hr0).mono ?_
          rintro e w' ⟨rfl, rfl⟩
          go_wp2_with fail
          refine (rtype_any P5.out.r ref hr0).mono ?_
          rintro e w' ⟨rfl, rfl⟩
          go_wp2_with fail
          refine (len_any P5.out.h ref hr0).mono ?_
          rintro e w' ⟨rfl, rfl⟩
          go_wp2_with fail
          refine (rlen_any P5.out.r ref hr0).mono ?_
          rintro e w' ⟨rfl, rfl⟩
          go_wp2_with fail
          refine (get_any P5.out.h ref n hr0).mono ?_
          rintro e w' ⟨rfl, rfl⟩
          go_wp2_with fail
          refine (rget_any P5.out.r ref n hr0).mono ?_
          rintro e w' ⟨rfl, rfl⟩
          go_wp2_with fail
          refine (word_any P5.out.h ref hr0).mono ?_
          rintro e w' ⟨rfl, rfl⟩
          go_wp2_with fail
          refine (rword_any P5.out.r ref hr0).mono ?_
          rintro e w' ⟨rfl, rfl⟩
          go_wp2_with fail
          refine (rlen_any P5.out.r ref hr0).mono ?_
          rintro e w' ⟨rfl, rfl⟩
          by_cases h400 : lenOf ws' ref < 400
          · go_wp2_with fail
            refine (string_any P5.out.h ref hr0).mono ?_
            rintro e w6 ⟨rfl, f6⟩
            have P6 := Lib.hid (P5.out.quiet f6)
            clear f6
            go_wp2_with fail
            refine (rstring_any P6.out.r ref hr0).mono ?_
            rintro e w7 ⟨rfl, f7⟩
            have P7 := Lib.hid (P6.out.quiet f7)
            clear f7
            go_wp2_with fail
            go_roundw
            case rel => exact ⟨k + 1, _, _, _, _, _, by go_num, by omega, by omega, P7⟩
            case measure => simp [intOf]; omega
          · go_wp2_with fail
            go_roundw
            case rel => exact ⟨k + 1, _, _, _, _, _, by go_num, by omega, by omega, P5⟩
            case measure => simp [intOf]; omega
    · by_cases hk3 : k < len
      all_goals
        go_wp2_with fail
        go_ret
        exact ⟨rfl, hP.out.bel⟩
end Go.Proofs.Ytdffjojpnonanaa
