/-
  HeapCopies: the walk.
-/
import Derived.Test.YtdffjojpnonanaaWordsEq
import Derived.Test.YtdffjojpnonanaaHeapFullW
namespace Go.Proofs.Ytdffjojpnonanaa
open Go.RowKit

theorem u64_bd {y : Int} (h : (Lit.int .u64 y).wf = true) : 0 ≤ y ∧ y ≤ 18446744073709551615 := by
  have hmin : IntKind.u64.min = 0 := rfl
  have hmax : IntKind.u64.max = 18446744073709551615 := rfl
  simp only [Lit.wf, Bool.and_eq_true, decide_eq_true_eq, hmin, hmax] at h
  exact h

/-- Alloc, whatever it answers. -/
def AllocSome (w : World) (p g : Nat) (room : Int) (e : Ending) (w' : World) : Prop :=
  ∃ (v : Int) (b : Bool) (g' c' : Nat) (ws' : List Int), e = .returned (.tuple #[.int .u64 v, .bool b]) ∧ HeapAt w' p g' c' room ws' ∧ (g' = g ∨ w.heap.size ≤ g') ∧ Fr (fun k => k = p ∨ k = g) w w'

theorem alloc_some {w : World} {p g cap : Nat} {room : Int} {ws : List Int} (h : HeapAt w p g cap room ws) (t n : Int) :
    Calls Try.prog 25 #[.pointer (some ⟨p, 0, none⟩), .int .i64 t, .int .i64 n] w (AllocSome w p g room) := by
  cases hb : allocB ws room t n with
  | true => exact (alloc_y h t n hb).mono fun e w' ⟨he, g', c', h', hg, hf⟩ => ⟨_, _, g', c', _, he, h', hg, hf⟩
  | false => exact (alloc_n h t n hb).mono fun e w' ⟨he, m, hm⟩ => ⟨_, _, g, cap, ws, he, by rw [hm]; exact h.drewN m, .inl rfl, by rw [hm]; exact (Fr.refl _ w).drewN m⟩

/-- The state of the second loop: the heap, its copy, the words as they were. -/
structure CopRel (w wr : World) (len k p g c p' g' c' gw : Nat) (ws ws2 : List Int) : Prop where
  k1 : k ≤ len
  k2 : k ≤ 20
  h : HeapAt wr p g c 500 ws
  h' : HeapAt wr p' g' c' 500 ws2
  was : wr.ownsRow 0 27 1 (.slice (some ⟨gw, 0, none⟩) ws.length ws.length) ws.length (ws.map (Value.int .u64))
  apart : gw ≠ g' ∧ gw ≠ p' ∧ g ≠ g' ∧ g ≠ p' ∧ p ≠ g' ∧ p ≠ p'
  lo : w.heap.size ≤ p ∧ w.heap.size ≤ g ∧ w.heap.size ≤ p' ∧ w.heap.size ≤ g'
  bel : Below w.heap.size w wr

theorem CopRel.quiet {w wr w' : World} {len k p g c p' g' c' gw : Nat} {ws ws2 : List Int} (h : CopRel w wr len k p g c p' g' c' gw ws ws2) (hf : Fr (fun _ => False) wr w') :
    CopRel w w' len k p g c p' g' c' gw ws ws2 :=
  ⟨h.k1, h.k2, h.h.kept hf (fun h => h) (fun h => h), h.h'.kept hf (fun h => h) (fun h => h), hf.owns h.was (fun _ _ h => h), h.apart, h.lo, h.bel.trans (hf.below h.bel.size (fun _ _ h => h))⟩

theorem CopRel.next {w wr : World} {len k p g c p' g' c' gw : Nat} {ws ws2 : List Int} (h : CopRel w wr len k p g c p' g' c' gw ws ws2) (hk : k < len) (hk' : k < 20) :
    CopRel w wr len (k + 1) p g c p' g' c' gw ws ws2 :=
  ⟨hk, hk', h.h, h.h', h.was, h.apart, h.lo, h.bel⟩

theorem CopRel.put {w wr w' : World} {len k p g c p' g' c' gw : Nat} {ws ws2 ws3 : List Int} (h : CopRel w wr len k p g c p' g' c' gw ws ws2) (hf : Fr (fun k => k = g') wr w')
    (h' : HeapAt w' p' g' c' 500 ws3) : CopRel w w' len k p g c p' g' c' gw ws ws3 := by
  obtain ⟨a1, a2, a3, a4, a5, a6⟩ := h.apart
  obtain ⟨l1, l2, l3, l4⟩ := h.lo
  refine ⟨h.k1, h.k2, h.h.kept hf a5 a3, h', hf.owns h.was (fun j hj => by simp [Value.ownBlock] at hj; subst hj; exact a1), h.apart, h.lo, h.bel.trans (hf.below h.bel.size ?_)⟩
  intro j hj hh
  omega

def OneRel (w wr : World) (len k p g c : Nat) (ws : List Int) : Prop :=
  k ≤ len ∧ k ≤ 20 ∧ HeapAt wr p g c 500 ws ∧ w.heap.size ≤ p ∧ w.heap.size ≤ g ∧ Below w.heap.size w wr

theorem OneRel.step {w wr w' : World} {len k p g c g' c' : Nat} {ws ws' : List Int} (h : OneRel w wr len k p g c ws) (hk : k < len) (hk' : k < 20)
    (h' : HeapAt w' p g' c' 500 ws') (hne : g' = g ∨ wr.heap.size ≤ g') (hf : Fr (fun k => k = p ∨ k = g) wr w') : OneRel w w' len (k + 1) p g' c' ws' := by
  obtain ⟨_, _, _, l1, l2, hb⟩ := h
  have hs := hb.size
  refine ⟨hk, hk', h', l1, by omega, hb.trans (hf.below hs ?_)⟩
  intro j hj hh
  omega

theorem CopRel.start {w wr w3 w4 : World} {len0 len1 k p g c p' g' c' : Nat} {ws : List Int} (h : OneRel w wr len0 k p g c ws) (h' : HeapAt w3 p' g' c' 500 ws) (lp : wr.heap.size ≤ p') (lg : wr.heap.size ≤ g')
    (f3 : Fr (fun _ => False) wr w3) (hw : w4.ownsRow 0 27 1 (.slice (some ⟨w3.heap.size, 0, none⟩) ws.length ws.length) ws.length (ws.map (Value.int .u64))) (f4 : Fr (fun _ => False) w3 w4) :
    CopRel w w4 len1 0 p g c p' g' c' w3.heap.size ws ws := by
  obtain ⟨_, _, hh, l1, l2, hb⟩ := h
  have hs := hb.size
  have hp := hh.ltp
  have hg := hh.ltg
  have hp' := h'.ltp
  have hg' := h'.ltg
  have f34 := f3.trans f4 (fun i _ h => h)
  refine ⟨Nat.zero_le _, Nat.zero_le _, hh.kept f34 (fun h => h) (fun h => h), h'.kept f4 (fun h => h) (fun h => h), hw, by omega, by omega, hb.trans (f34.below hs (fun _ _ h => h))⟩

/-- Behind the loop: the heap turned, the copy not. -/
theorem CopRel.fin {w wr w1 w2 w3 w4 : World} {len k p g c p' g' c' gw g2 c2 : Nat} {ws ws2 ws3 : List Int} (h : CopRel w wr len k p g c p' g' c' gw ws ws2)
    (hn : w1.ownsRow 0 27 1 (.slice (some ⟨wr.heap.size, 0, none⟩) ws2.length ws2.length) ws2.length (ws2.map (Value.int .u64))) (f1 : Fr (fun _ => False) wr w1)
    (_h2 : HeapAt w2 p g2 c2 500 ws3) (hne : g2 = g ∨ w1.heap.size ≤ g2) (f2 : Fr (fun k => k = p ∨ k = g) w1 w2)
    (f3 : Fr (fun k => k = g2) w2 w3) (f4 : Fr (fun _ => False) w3 w4) :
    HeapAt w3 p' g' c' 500 ws2 ∧ Holds w4 wr.heap.size ws2 ∧ Below w.heap.size w w4 := by
  obtain ⟨a1, a2, a3, a4, a5, a6⟩ := h.apart
  obtain ⟨l1, l2, l3, l4⟩ := h.lo
  have z0 := h.bel.size
  have z1 := f1.size
  have z2 := f2.size
  have z3 := f3.size
  have hp' := h.h'.ltp
  have hg' := h.h'.ltg
  have hp := h.h.ltp
  have hg := h.h.ltg
  have hrow := (hn.lt wr.heap.size rfl).2
  have f13 : Fr (fun k => k = p ∨ k = g) wr w3 := by
    refine (f1.mono (fun i _ h => h.elim)).trans (f2.trans f3 (S := fun k => k = p ∨ k = g) ?_) (fun i _ h => h)
    intro i hi hh
    rcases hne with rfl | hle
    · exact .inr hh
    · omega
  have f14 : Fr (fun k => k = p ∨ k = g) w1 w4 := by
    refine (f2.trans f3 (S := fun k => k = p ∨ k = g) ?_).trans f4 (fun i _ h => h.elim)
    intro i hi hh
    rcases hne with rfl | hle
    · exact .inr hh
    · omega
  refine ⟨h.h'.kept f13 (by omega) (by omega), Holds.of (f14.owns hn ?_), ?_⟩
  · intro j hj
    simp [Value.ownBlock] at hj
    omega
  · refine h.bel.trans ((f13.trans f4 (fun i _ h => h.elim)).below z0 ?_)
    intro j hj hh
    omega

set_option maxHeartbeats 4000000 in
theorem heapcopies_any (a0 : Option Addr) (len0 cap0 : Nat) (z0 : List Int) (a1 : Option Addr) (len1 cap1 : Nat) (z1 : List Int) (at0 : Int) (w : World) (hr0 : IsRow .i64 w a0 len0 cap0 z0) (hr1 : IsRow .u64 w a1 len1 cap1 z1) :
    Calls Try.prog 8 #[.slice a0 len0 cap0, .slice a1 len1 cap1, .int .i64 at0] w fun e w' => e = .returned (.bool true) ∧ Below w.heap.size w w' := by
  have hlen0 := hr0.len
  have hlen1 := hr1.len
  have HR0 := Lib.hid hr0
  have HR1 := Lib.hid hr1
  clear hr0 hr1
  go_enter Try.func8, Try.ntmps8
  go_wp2_with fail
  refine (new_any 500 w (by omega) (by omega)).mono ?_
  rintro e w1 ⟨rfl, h1, f1⟩
  have H1 := Lib.hid h1
  have F1 := Lib.hid f1
  clear h1 f1
  go_wp2_with fail
  refine (known_any w1).mono ?_
  rintro e w2 ⟨rfl, f2⟩
  have F2 := Lib.hid f2
  clear f2
  go_wp2_with fail
  have hz2 : w.heap.size + 1 < w2.heap.size := by have := H1.out.ltp; have := F2.out.size; omega
  have H2 : Hid (OneRel w w2 len0 0 (w.heap.size + 1) w.heap.size 1 [0]) := Lib.hid
    ⟨Nat.zero_le _, Nat.zero_le _, H1.out.kept F2.out (fun h => h) (fun h => h), by omega, Nat.le_refl _, (F1.out.trans F2.out (fun i _ h => h)).below (Nat.le_refl _) (fun _ _ h => h)⟩
  clear H1 F1 F2
  generalize w.heap.size + 1 = p at *
  go_loopw [9] (fun i wr => ∃ (k g c : Nat) (ws : List Int), i = .int .i64 k ∧ Hid (OneRel w wr len0 k p g c ws) ∧ p < wr.heap.size) (fun i _ => 20 - (intOf i).toNat)
  case atStart => exact ⟨0, _, _, _, rfl, H2, hz2⟩
  case round =>
    obtain ⟨k, g, c, ws, rfl, hR, hz⟩ := hrel
    obtain ⟨hk1, hk2, -⟩ := hR.out
    clear H2 hz2
    by_cases hk : k < len0 ∧ k < 20
    · obtain ⟨hk, hk'⟩ := hk
      obtain ⟨b, o, y, rfl, hb, hc, hy, hwf⟩ := HR0.out.at hk
      have hcw := (hR.out.2.2.2.2.2.cell (p := ⟨b, o + k, none⟩) hb).trans hc
      clear hy hwf hc
      go_wp2_with fail
      refine (pick_any y 9 wr (by omega) (by omega)).mono ?_
      rintro e w' ⟨rfl, rfl⟩
      go_wp2_with fail
      refine (alloc_some hR.out.2.2.1 5 (y % 9)).mono ?_
      rintro e w3 ⟨v, b, g', c', ws', rfl, h3, hg3, f3⟩
      have hS := Lib.hid (hR.out.step hk hk' h3 hg3 f3)
      have hz3 : p < w3.heap.size := h3.ltp
      clear h3 hg3 f3
      go_wp2_with fail
      go_roundw
      case rel => exact ⟨k + 1, g', c', ws', by go_num, hS, hz3⟩
      case measure => simp [intOf]; omega
    · by_cases hk2' : k < len0
      all_goals
        go_wp2_with fail
        refine (copy_any hR.out.2.2.1).mono ?_
        rintro e w3 ⟨p', g', c', rfl, h', lp', lg', f3⟩
        have Hh3 := Lib.hid (hR.out.2.2.1.kept f3 (fun h => h) (fun h => h))
        have Hh' := Lib.hid h'
        have F3 := Lib.hid f3
        clear h' f3
        go_wp2_with fail
        refine (words_any Hh3.out).mono ?_
        rintro e w4 ⟨rfl, ho4, f4⟩
        have hC := Lib.hid (CopRel.start (len1 := len1) hR.out Hh'.out lp' lg' F3.out ho4 f4)
        have hsm := hC.out.h.small
        have hpos := hC.out.h.pos
        clear ho4 f4 F3 Hh' Hh3 lp' lg' hR hz
        generalize w3.heap.size = gw at *
        clear w3
        go_wp2_with fail
        refine (words_any hC.out.h').mono ?_
        rintro e w5 ⟨rfl, ho5, f5⟩
        have hW5 := Lib.hid (Holds.of ho5)
        have hC5 := Lib.hid (hC.out.quiet f5)
        clear ho5 f5 hC
        go_wp2_with fail
        refine (words_eq hsm hW5.out (Holds.of hC5.out.was)).mono ?_
        rintro e w6 ⟨rfl, m, rfl⟩
        have hC6 := Lib.hid (hC5.out.quiet ((Fr.refl _ w5).drewN m))
        clear hW5 hC5
        generalize w5.drewN m = w6 at *
        clear w5
        go_wp2_with fail
        go_loopw [12] (fun i wr => ∃ (k : Nat) (ws2 : List Int), i = .int .i64 k ∧ Hid (CopRel w wr len1 k p g c p' g' c' gw ws ws2)) (fun i _ => 20 - (intOf i).toNat)
        case atStart => exact ⟨0, ws, rfl, hC6⟩
        case round =>
          obtain ⟨k, ws2, rfl, hR⟩ := hrel
          have hk1 := hR.out.k1
          have hk2 := hR.out.k2
          clear hC6
          by_cases hk : k < len1 ∧ k < 20
          · obtain ⟨hk, hk'⟩ := hk
            obtain ⟨b, o, y, rfl, hb, hc, hy, hwf⟩ := HR1.out.at hk
            obtain ⟨hy0, hy1⟩ := u64_bd hwf
            have hcw := (hR.out.bel.cell (p := ⟨b, o + k, none⟩) hb).trans hc
            clear hy hwf hc
            go_wp2_with fail
            refine (pick_any _ _ wr (by omega) (by omega)).mono ?_
            rintro e w' ⟨rfl, rfl⟩
            have hq := Int.emod_nonneg (wrap64 (at0 + (k : Int))) (show (ws.length : Int) ≠ 0 by omega)
            have hq' := Int.emod_lt_of_pos (wrap64 (at0 + (k : Int))) (show 0 < (ws.length : Int) by omega)
            generalize wrap64 (at0 + (k : Int)) % (ws.length : Int) = q at *
            by_cases hev : (k : Int) % 2 = 0
            · have hev1 : ((k : Int) % 2 == 0) = true := beq_iff_eq.2 hev
              clear hev
              go_wp2_with fail
              refine (put_any hR.out.h' (1 + q) y (by omega) hy0 hy1).mono ?_
              rintro e w7 ⟨rfl, h7, f7⟩
              have hR7 := Lib.hid (hR.out.put f7 h7)
              clear h7 f7 hR
              go_wp2_with fail
              refine (words_any hR7.out.h).mono ?_
              rintro e w8 ⟨rfl, ho8, f8⟩
              have hW8 := Lib.hid (Holds.of ho8)
              have hR8 := Lib.hid (hR7.out.quiet f8)
              clear ho8 f8 hR7
              go_wp2_with fail
              refine (words_eq hsm hW8.out (Holds.of hR8.out.was)).mono ?_
              rintro e w9 ⟨rfl, m, rfl⟩
              have hR9 := Lib.hid ((hR8.out.quiet ((Fr.refl _ w8).drewN m)).next hk hk')
              clear hW8 hR8
              go_wp2_with fail
              go_roundw
              case rel => exact ⟨k + 1, _, by go_num, hR9⟩
              case measure => simp [intOf]; omega
            · have hev1 : ((k : Int) % 2 == 0) = false := beq_eq_false_iff_ne.2 hev
              clear hev
              have hR9 := Lib.hid (hR.out.next hk hk')
              go_wp2_with fail
              go_roundw
              case rel => exact ⟨k + 1, _, by go_num, hR9⟩
              case measure => simp [intOf]; omega
          · by_cases hk3 : k < len1
            all_goals
              go_wp2_with fail
              refine (words_any hR.out.h').mono ?_
              rintro e w7 ⟨rfl, ho7, f7⟩
              have Ho7 := Lib.hid ho7
              have F7 := Lib.hid f7
              have H7 := Lib.hid (hR.out.h.kept f7 (fun h => h) (fun h => h))
              clear ho7 f7
              go_wp2_with fail
              refine (alloc_some H7.out 7 3).mono ?_
              rintro e w8 ⟨v, b, g2, c2, ws3, rfl, h8, hg8, f8⟩
              have H8 := Lib.hid h8
              have G8 := Lib.hid hg8
              have F8 := Lib.hid f8
              clear h8 hg8 f8
              go_wp2_with fail
              refine (put_any H8.out 1 99 (by omega) (by omega) (by omega)).mono ?_
              rintro e w9 ⟨rfl, h9, f9⟩
              have H9 := Lib.hid h9
              have F9 := Lib.hid f9
              clear h9 f9
              have HE := Lib.hid (fun w4 f4 => hR.out.fin (w4 := w4) Ho7.out F7.out H8.out G8.out F8.out F9.out f4)
              have hs2 := hR.out.h'.small
              have Hc := Lib.hid (HE.out w9 (Fr.refl _ _)).1
              go_wp2_with fail
              refine (words_any Hc.out).mono ?_
              rintro e w10 ⟨rfl, ho10, f10⟩
              have HW10 := Lib.hid (Holds.of ho10)
              have HE10 := Lib.hid (HE.out w10 f10)
              clear ho10 f10
              go_wp2_with fail
              refine (words_eq hs2 HW10.out HE10.out.2.1).mono ?_
              rintro e w11 ⟨rfl, m, rfl⟩
              go_wp2_with fail
              go_ret
              exact ⟨rfl, ⟨HE10.out.2.2.os, HE10.out.2.2.tape, HE10.out.2.2.output, HE10.out.2.2.size, HE10.out.2.2.block⟩⟩
end Go.Proofs.Ytdffjojpnonanaa
