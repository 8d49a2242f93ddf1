/-
  HeapTexts: the walk.
-/
import Derived.Test.YtdffjojpnonanaaHeapS
import Derived.Test.YtdffjojpnonanaaApp2
namespace Go.Proofs.Ytdffjojpnonanaa
open Go.RowKit

/-- A slice of strings that came in. -/
def IsStrs (w : World) (a : Option Addr) (len cap : Nat) (ss : List ByteArray) : Prop :=
  (a = none ∧ len = 0 ∧ cap = 0) ∨
  ∃ x, a = some x ∧ len ≤ cap ∧ cap ≤ maxLen ∧ len ≤ ss.length ∧ (∀ i, i < ss.length → w.cell? (x.add i) = some (.string (ss.getD i ByteArray.empty))) ∧ ∀ s ∈ ss, s.size ≤ maxLen

theorem IsStrs.len {w : World} {a : Option Addr} {len cap : Nat} {ss : List ByteArray} (h : IsStrs w a len cap ss) : len ≤ 9223372036854775807 := by
  rcases h with ⟨_, rfl, _⟩ | ⟨x, _, h1, h2, _⟩
  · omega
  · unfold maxLen at h2; omega

theorem strs_at {w : World} {a : Addr} {ss : List ByteArray} (h : ∀ i, i < ss.length → w.cell? (a.add i) = some (.string (ss.getD i ByteArray.empty))) (hp : 0 < ss.length) :
    ∃ b off, a = ⟨b, off, none⟩ ∧ ∀ j, j < ss.length → w.cell? ⟨b, off + j, none⟩ = some (.string (ss.getD j ByteArray.empty)) := by
  obtain ⟨b, off, spot⟩ := a
  have hspot : spot = none := by simpa [Addr.add] using World.cell?_spot (h 0 hp)
  subst hspot
  exact ⟨b, off, rfl, fun j hj => by rw [← Go.WideShapes.add_plain]; exact h j hj⟩

def strI (ss : List ByteArray) (i : Nat) : ByteArray := ss.getD i ByteArray.empty

theorem IsStrs.at {w : World} {a : Option Addr} {len cap : Nat} {ss : List ByteArray} (h : IsStrs w a len cap ss) {i : Nat} (hi : i < len) :
    ∃ b o, a = some ⟨b, o, none⟩ ∧ b < w.heap.size ∧ w.cell? ⟨b, o + i, none⟩ = some (.string (strI ss i)) ∧ (strI ss i).size ≤ 9223372036854775807 := by
  rcases h with ⟨_, rfl, _⟩ | ⟨x, rfl, h1, h2, h3, h4, h5⟩
  · omega
  · obtain ⟨b, o, rfl, hc⟩ := strs_at h4 (by omega : 0 < ss.length)
    have hci := hc i (by omega)
    refine ⟨b, o, rfl, World.block_lt_of_cell? w ⟨b, o + i, none⟩ hci, hci, ?_⟩
    have hm : strI ss i ∈ ss := by
      unfold strI
      rw [List.getD_eq_getElem?_getD, List.getElem?_eq_getElem (by omega)]
      exact List.getElem_mem _
    have := h5 _ hm
    unfold maxLen at this
    omega

/-- The first 500 bytes. -/
def cutS (s : ByteArray) : ByteArray := s.extract 0 (min s.size 500)
theorem size_cutS (s : ByteArray) : (cutS s).size = min s.size 500 := by simp [cutS]

/-- A text that lies in the words ws at r. -/
def TextAt (ws : List Int) (r : Int) (s : ByteArray) : Prop :=
  (s.size = 0 ∧ r = 0) ∨ (0 < s.size ∧ ∃ A B : List Int, r = A.length ∧ ws = A ++ headOf 3 (bts s).length :: (bts s ++ B))

theorem TextAt.grow {ws : List Int} {r : Int} {s : ByteArray} (h : TextAt ws r s) (l : List Int) : TextAt (ws ++ l) r s := by
  rcases h with h | ⟨h, A, B, hr, hw⟩
  · exact .inl h
  · exact .inr ⟨h, A, B ++ l, hr, by rw [hw]; simp⟩

theorem TextAt.new (ws : List Int) (s : ByteArray) (h : 0 < s.size) : TextAt (textWs ws s) ws.length s :=
  .inr ⟨h, ws, [], rfl, by simp [textWs]⟩

theorem TextAt.len {ws : List Int} {r : Int} {s : ByteArray} (h : TextAt ws r s) (h0 : wordAt ws 0 = 0) (hs : s.size ≤ 65536) : lenOf ws r = s.size := by
  rcases h with ⟨h, rfl⟩ | ⟨h, A, B, rfl, rfl⟩
  · unfold lenOf; rw [h0, h]; rfl
  · unfold lenOf
    rw [wordAt_head, headOf_len _ _ (by rw [length_bts]; omega), length_bts]

theorem TextAt.str {ws : List Int} {r : Int} {s : ByteArray} (h : TextAt ws r s) (h0 : wordAt ws 0 = 0) (hs : s.size ≤ 65536) : strAt ws r = s := by
  have hl := h.len h0 hs
  unfold strAt
  rw [hl, Int.toNat_natCast]
  rw [← strOf_bts s]
  congr 1
  rcases h with ⟨h, rfl⟩ | ⟨h, A, B, rfl, rfl⟩
  · rw [strOf_bts, h, Nat.zero_min]
    have : bts s = [] := List.eq_nil_of_length_eq_zero (by rw [length_bts, h])
    rw [this]; rfl
  · rw [strOf_bts, Nat.min_eq_left (by simp [length_bts]; omega)]
    apply List.ext_getElem?
    intro k
    by_cases hk : k < s.size
    · rw [readOf_at _ _ _ _ hk]
      have hp : placeOf (A ++ headOf 3 (bts s).length :: (bts s ++ B)) A.length k = ((A.length + 1 + k : Nat) : Int) := by
        unfold placeOf
        rw [hl, if_pos (by omega)]
        omega
      unfold getOf
      rw [hp, wordAt_behind, List.getD_eq_getElem?_getD, List.getElem?_append_left (by rw [length_bts]; exact hk), bts_at s k hk]
      have := s[k].toNat_lt
      simp only [Option.getD_some]
      rw [Int.emod_eq_of_lt (by omega) (by omega)]
    · rw [List.getElem?_eq_none (by rw [length_readOf]; omega), List.getElem?_eq_none (by rw [length_bts]; omega)]

/-- The state of the first loop. -/
structure TxRel (w wr : World) (ss : List ByteArray) (len k p g c : Nat) (ws : List Int) (v : Value) (R : List Int) : Prop where
  k1 : k ≤ len
  k2 : k ≤ 30
  h : HeapAt wr p g c 65536 ws
  z : wordAt ws 0 = 0
  few : ws.length ≤ 1 + k * 501
  refs : wr.ownsRow w.heap.size 27 1 v k (R.map (Value.int .u64))
  texts : ∀ j, j < k → ∃ r, R[j]? = some r ∧ 0 ≤ r ∧ TextAt ws r (cutS (strI ss j))
  apart : ∀ b, v.ownBlock = some b → b ≠ p ∧ b ≠ g
  lo : w.heap.size ≤ p ∧ w.heap.size ≤ g
  bel : Below w.heap.size w wr

theorem alloc3 {ws : List Int} {k n : Nat} (h : ws.length ≤ 1 + k * 501) (hk : k ≤ 30) (hn : n ≤ 500) : allocB ws 65536 3 n = true := by
  have h1 : isPartB 3 = true := by decide
  have h2 : isPartB n = true := by simp [isPartB]; omega
  simp only [allocB, h1, h2, Bool.true_and, decide_eq_true_eq]
  omega

/-- A text was laid: nothing of it, or behind the words. -/
def LaidDone (wr w3 : World) (p g : Nat) (ws : List Int) (x : ByteArray) (r : Int) (g' c' : Nat) (ws' : List Int) : Prop :=
  HeapAt w3 p g' c' 65536 ws' ∧ (g' = g ∨ wr.heap.size ≤ g') ∧ Fr (fun k => k = p ∨ k = g) wr w3 ∧ 0 ≤ r ∧ TextAt ws' r x ∧ ((∃ l, ws' = ws ++ l ∧ l.length ≤ 501))

theorem TxRel.refs3 {w wr w3 : World} {ss : List ByteArray} {len k p g c g' c' : Nat} {ws ws' R : List Int} {v : Value} {x : ByteArray} {r : Int} (h : TxRel w wr ss len k p g c ws v R) (hd : LaidDone wr w3 p g ws x r g' c' ws') :
    w3.ownsRow w.heap.size 27 1 v k (R.map (Value.int .u64)) :=
  hd.2.2.1.owns h.refs (fun b hb hh => by
    have := h.apart b hb
    rcases hh with hh | hh
    · exact this.1 hh
    · exact this.2 hh)

theorem TxRel.step {w wr w3 w4 : World} {ss : List ByteArray} {len k p g c g' c' g2 c2 : Nat} {ws ws' R : List Int} {v : Value} {x : ByteArray} {r : Int} (h : TxRel w wr ss len k p g c ws v R) (hd : LaidDone wr w3 p g ws x r g' c' ws')
    (hx : cutS (strI ss k) = x) (hk : k < len) (hk' : k < 30)
    (ho : w4.ownsRow w.heap.size 27 1 (.slice (some ⟨g2, 0, none⟩) (k + 1) c2) (k + 1) (R.map (Value.int .u64) ++ [Value.int .u64 r])) (hg : w3.grownBy w4 v.ownBlock) (hb : v.ownBlock = some g2 ∨ w3.heap.size ≤ g2) :
    TxRel w w4 ss len (k + 1) p g' c' ws' (.slice (some ⟨g2, 0, none⟩) (k + 1) c2) (R ++ [r]) := by
  obtain ⟨hh, hg', hf, hr, ht, l, rfl, hl⟩ := hd
  have hs := h.bel.size
  have lo := h.lo
  have hfs := hf.size
  have hp := hh.ltp
  have hgl := hh.ltg
  have hRl : R.length = k := by have := h.refs.1; simpa using this
  have hvb : ∀ b, v.ownBlock = some b → b ≠ p ∧ b ≠ g ∧ w.heap.size ≤ b ∧ b < wr.heap.size := fun b hb => ⟨(h.apart b hb).1, (h.apart b hb).2, h.refs.lt b hb⟩
  have f4 : Fr (fun b => v.ownBlock = some b) w3 w4 := (Fr.refl _ w3).grown hg (fun b hb _ => hb)
  have hpv : ¬ v.ownBlock = some p := fun e => (hvb p e).1 rfl
  have hgv : ¬ v.ownBlock = some g' := fun e => by
    have h3 := hvb g' e
    rcases hg' with e' | hle
    · exact h3.2.1 e'
    · omega
  refine ⟨hk, hk', hh.kept f4 hpv hgv, ?_, ?_, ?_, ?_, ?_, ?_, ?_⟩
  · rw [wordAt_prefix _ _ _ (by have := h.h.pos; omega)]; exact h.z
  · have := h.few; simp only [List.length_append]; omega
  · rw [List.map_append]; exact ho
  · intro j hj
    by_cases hjk : j < k
    · obtain ⟨r', e1, e2, e3⟩ := h.texts j hjk
      refine ⟨r', ?_, e2, e3.grow l⟩
      rw [List.getElem?_append_left (by omega)]; exact e1
    · obtain rfl : j = k := by omega
      refine ⟨r, ?_, hr, by rw [hx]; exact ht⟩
      rw [List.getElem?_append_right (by omega), hRl, Nat.sub_self]; rfl
  · intro b hb'
    simp [Value.ownBlock] at hb'
    subst hb'
    rcases hb with e | hle
    · exact ⟨(hvb _ e).1, fun e' => hgv (by rw [← e']; exact e)⟩
    · omega
  · omega
  · refine h.bel.trans (((hf.mono (T := fun b => b = p ∨ b = g ∨ v.ownBlock = some b) (fun i _ hh => by rcases hh with hh | hh; exact .inl hh; exact .inr (.inl hh))).trans f4 ?_).below hs ?_)
    · intro i hi hh; exact .inr (.inr hh)
    · intro b hb hh
      rcases hh with rfl | rfl | e
      · omega
      · omega
      · have := (hvb b e).2.2.1; omega

set_option maxHeartbeats 4000000 in
theorem heaptexts_any (a : Option Addr) (len cap : Nat) (ss : List ByteArray) (w : World) (hr : IsStrs w a len cap ss) :
    Calls Try.prog 6 #[.slice a len cap] w fun e w' => e = .returned (.bool true) ∧ Below w.heap.size w w' := by
  have hlen := hr.len
  have HR := Lib.hid hr
  clear hr
  go_enter Try.func6, Try.ntmps6
  go_wp2_with fail
  refine (new_any 65536 w (by omega) (by omega)).mono ?_
  rintro e w1 ⟨rfl, h1, f1⟩
  have H1 := Lib.hid h1
  have F1 := Lib.hid f1
  clear h1 f1
  go_wp2_with fail
  refine (known_any w1).mono ?_
  rintro e w2 ⟨rfl, f2⟩
  have F2 := Lib.hid f2
  clear f2
  go_wp2_with fail
  have H2 : Hid (TxRel w w2 ss len 0 (w.heap.size + 1) w.heap.size 1 [0] (.slice none 0 0) []) := Lib.hid
    ⟨Nat.zero_le _, Nat.zero_le _, H1.out.kept F2.out (fun h => h) (fun h => h), rfl, by simp, World.ownsRow_nil _ _ _ _, fun j hj => absurd hj (Nat.not_lt_zero _), fun b hb => by simp [Value.ownBlock] at hb,
      ⟨by omega, Nat.le_refl _⟩, (F1.out.trans F2.out (fun i _ h => h)).below (Nat.le_refl _) (fun _ _ h => h)⟩
  clear H1 F1 F2
  generalize w.heap.size + 1 = p at *
  go_loopw [5, 6] (fun v i wr => ∃ (k g c : Nat) (ws R : List Int), i = .int .i64 k ∧ Hid (TxRel w wr ss len k p g c ws v R)) (fun _ i _ => 30 - (intOf i).toNat)
  case atStart => exact ⟨0, _, _, _, _, rfl, H2⟩
  case round =>
    obtain ⟨k, g, c, ws, R, rfl, hR⟩ := hrel
    have hk1 := hR.out.k1
    have hk2 := hR.out.k2
    clear H2
    by_cases hk : k < len ∧ k < 30
    · obtain ⟨hk, hk'⟩ := hk
      obtain ⟨b, o, rfl, hb, hc, hs⟩ := HR.out.at hk
      have hcw := (hR.out.bel.cell (p := ⟨b, o + k, none⟩) hb).trans hc
      clear hc
      generalize hS : strI ss k = s at *
      have HS := Lib.hid hS
      clear hS
      go_wp2_with fail
      by_cases h500 : s.size ≤ 500
      · have hX : Hid (cutS (strI ss k) = s) := Lib.hid (by rw [HS.out]; unfold cutS; rw [Nat.min_eq_left h500]; exact ByteArray.extract_zero_size)
        clear HS
        go_quiet (fail)
        rename ByteArray => x
        have hx5 : x.size ≤ 500 := h500
        go_wp2_with fail
        have hD := Lib.hid (hR.out.h.drewN nq)
        have hF := Lib.hid ((Fr.refl (fun b => b = p ∨ b = g) wr).drewN nq)
        obtain ⟨i, hi, hz, hz1, hz2⟩ := info_parts info_word
        by_cases hne : 0 < x.size
        · have hne1 : x.toList.isEmpty = false := notEmpty_of hne
          have hw1 : ((ws.length : Int) == 0) = false := beq_eq_false_iff_ne.2 (by have := hR.out.h.pos; omega)
          refine (text_any hD.out x hne (alloc3 hR.out.few hk2 hx5)).mono ?_
          rintro e w3 ⟨rfl, g', c', h3, hg3, f3⟩
          have HL : Hid (LaidDone wr w3 p g ws x ws.length g' c' (textWs ws x)) := Lib.hid
            ⟨h3, hg3, hF.out.trans f3 (fun _ _ h => h), by omega, TextAt.new _ _ hne, _, rfl, by simp [length_bts]; omega⟩
          clear h3 hg3 f3
          obtain ⟨g2, c2, w4, hrun, hown, hgrow, hg2⟩ := run_append_one (P := Try.prog) w3 w.heap.size 35 35 27 i (.int .u64 0) 8 Try.underlying35 hi hz hz1 hz2 rfl u5 k _ (hR.out.refs3 HL.out) (.int .u64 ws.length) rfl
            (by unfold maxLen; omega) (by omega) (by have := hR.out.bel.size; have := HL.out.2.2.1.size; omega)
          have HA := Lib.hid hrun
          have HN := Lib.hid (hR.out.step HL.out hX.out hk hk' hown hgrow hg2)
          clear hrun hown hgrow hg2 hi hz hz1 hz2
          go_wp2_with (at_builtin; refine Lib.wpList_append_run _ rfl (.tmp 62) (.tmp 64) 35 35 rfl _ _ rfl rfl _ _ HA.out ?_)
          go_roundw
          case rel => exact ⟨k + 1, _, _, _, _, by go_num, HN⟩
          case measure => simp [intOf]; omega
        · have hne0 : x.size = 0 := by omega
          have hne1 : x.toList.isEmpty = true := empty_of hne0
          refine (text_empty p x hne0).mono ?_
          rintro e w3 ⟨rfl, rfl⟩
          have HL : Hid (LaidDone wr (wr.drewN nq) p g ws x 0 g c ws) := Lib.hid
            ⟨hD.out, .inl rfl, hF.out, by omega, .inl ⟨hne0, rfl⟩, [], by simp, by simp⟩
          clear hne0 hne
          obtain ⟨g2, c2, w4, hrun, hown, hgrow, hg2⟩ := run_append_one (P := Try.prog) (wr.drewN nq) w.heap.size 35 35 27 i (.int .u64 0) 8 Try.underlying35 hi hz hz1 hz2 rfl u5 k _ (hR.out.refs3 HL.out) (.int .u64 0) rfl
            (by unfold maxLen; omega) (by omega) (by have := hR.out.bel.size; have := HL.out.2.2.1.size; omega)
          have HA := Lib.hid hrun
          have HN := Lib.hid (hR.out.step HL.out hX.out hk hk' hown hgrow hg2)
          clear hrun hown hgrow hg2 hi hz hz1 hz2
          go_wp2_with (at_builtin; refine Lib.wpList_append_run _ rfl (.tmp 62) (.tmp 64) 35 35 rfl _ _ rfl rfl _ _ HA.out ?_)
          go_roundw
          case rel => exact ⟨k + 1, _, _, _, _, by go_num, HN⟩
          case measure => simp [intOf]; omega
      · have hX : Hid (cutS (strI ss k) = s.extract 0 500) := Lib.hid (by rw [HS.out]; unfold cutS; rw [Nat.min_eq_right (by omega)])
        have hx5 : (s.extract 0 500).size ≤ 500 := by simp; omega
        clear HS
        have h500' : 500 < s.size := by omega
        go_quiet (fail)
        go_wp2_with fail
        generalize s.extract 0 500 = x at *
        have hD := Lib.hid (hR.out.h.drewN nq)
        have hF := Lib.hid ((Fr.refl (fun b => b = p ∨ b = g) wr).drewN nq)
        obtain ⟨i, hi, hz, hz1, hz2⟩ := info_parts info_word
        by_cases hne : 0 < x.size
        · have hne1 : x.toList.isEmpty = false := notEmpty_of hne
          have hw1 : ((ws.length : Int) == 0) = false := beq_eq_false_iff_ne.2 (by have := hR.out.h.pos; omega)
          refine (text_any hD.out x hne (alloc3 hR.out.few hk2 hx5)).mono ?_
          rintro e w3 ⟨rfl, g', c', h3, hg3, f3⟩
          have HL : Hid (LaidDone wr w3 p g ws x ws.length g' c' (textWs ws x)) := Lib.hid
            ⟨h3, hg3, hF.out.trans f3 (fun _ _ h => h), by omega, TextAt.new _ _ hne, _, rfl, by simp [length_bts]; omega⟩
          clear h3 hg3 f3
          obtain ⟨g2, c2, w4, hrun, hown, hgrow, hg2⟩ := run_append_one (P := Try.prog) w3 w.heap.size 35 35 27 i (.int .u64 0) 8 Try.underlying35 hi hz hz1 hz2 rfl u5 k _ (hR.out.refs3 HL.out) (.int .u64 ws.length) rfl
            (by unfold maxLen; omega) (by omega) (by have := hR.out.bel.size; have := HL.out.2.2.1.size; omega)
          have HA := Lib.hid hrun
          have HN := Lib.hid (hR.out.step HL.out hX.out hk hk' hown hgrow hg2)
          clear hrun hown hgrow hg2 hi hz hz1 hz2
          go_wp2_with (at_builtin; refine Lib.wpList_append_run _ rfl (.tmp 62) (.tmp 64) 35 35 rfl _ _ rfl rfl _ _ HA.out ?_)
          go_roundw
          case rel => exact ⟨k + 1, _, _, _, _, by go_num, HN⟩
          case measure => simp [intOf]; omega
        · have hne0 : x.size = 0 := by omega
          have hne1 : x.toList.isEmpty = true := empty_of hne0
          refine (text_empty p x hne0).mono ?_
          rintro e w3 ⟨rfl, rfl⟩
          have HL : Hid (LaidDone wr (wr.drewN nq) p g ws x 0 g c ws) := Lib.hid
            ⟨hD.out, .inl rfl, hF.out, by omega, .inl ⟨hne0, rfl⟩, [], by simp, by simp⟩
          clear hne0 hne
          obtain ⟨g2, c2, w4, hrun, hown, hgrow, hg2⟩ := run_append_one (P := Try.prog) (wr.drewN nq) w.heap.size 35 35 27 i (.int .u64 0) 8 Try.underlying35 hi hz hz1 hz2 rfl u5 k _ (hR.out.refs3 HL.out) (.int .u64 0) rfl
            (by unfold maxLen; omega) (by omega) (by have := hR.out.bel.size; have := HL.out.2.2.1.size; omega)
          have HA := Lib.hid hrun
          have HN := Lib.hid (hR.out.step HL.out hX.out hk hk' hown hgrow hg2)
          clear hrun hown hgrow hg2 hi hz hz1 hz2
          go_wp2_with (at_builtin; refine Lib.wpList_append_run _ rfl (.tmp 62) (.tmp 64) 35 35 rfl _ _ rfl rfl _ _ HA.out ?_)
          go_roundw
          case rel => exact ⟨k + 1, _, _, _, _, by go_num, HN⟩
          case measure => simp [intOf]; omega
    · obtain ⟨ao, c2, rfl, hao⟩ : ∃ ao c2, u5 = .slice ao k c2 ∧ ∀ j r, R[j]? = some r → ∃ g2, ao = some ⟨g2, 0, none⟩ ∧ g2 < wr.heap.size ∧ wr.cell? ⟨g2, j, none⟩ = some (.int .u64 r) := by
        have ho := hR.out.refs
        have hRl : R.length = k := by have := ho.1; simpa using this
        rcases ho.2 with ⟨h1, rfl⟩ | ⟨g2, c2, cur, h1, hb, hgg, hr⟩
        · subst h1
          exact ⟨none, 0, rfl, fun j r hj => by rw [List.eq_nil_of_length_eq_zero hRl] at hj; cases hj⟩
        · subst h1
          refine ⟨_, c2, rfl, fun j r hj => ⟨g2, rfl, heap_lt hgg, ?_⟩⟩
          have hjl := (List.getElem?_eq_some_iff.1 hj).1
          rw [ho.cellAt j (by omega), List.getElem?_map, hj]; rfl
      have Hao := Lib.hid hao
      obtain ⟨wo, rfl⟩ : ∃ wo : World, wo = wr := ⟨_, rfl⟩
      have hkl : k ≤ 9223372036854775807 := by omega
      clear hao
      by_cases hk2' : k < len
      all_goals
        go_wp2_with fail
        go_loopw [10] (fun i w5 => ∃ j : Nat, j ≤ k ∧ i = .int .i64 j ∧ Hid (Fr (fun _ => False) wo w5)) (fun i _ => k - (intOf i).toNat)
        case atStart => exact ⟨0, Nat.zero_le _, rfl, Lib.hid (Fr.refl _ _)⟩
        case round =>
          obtain ⟨j, hj, rfl, hF⟩ := hrel
          by_cases hjk : j < k
          · obtain ⟨r, hrj, hr0, htx0⟩ := hR.out.texts j hjk
            obtain ⟨g2, rfl, hlt2', hcj0⟩ := Hao.out j r hrj
            have htx := Lib.hid htx0
            have hlt2 := Nat.lt_of_lt_of_le hlt2' hF.out.size
            have hcj := (hF.out.cell (p := ⟨g2, j, none⟩) hlt2' (fun h => h)).trans hcj0
            have HhA := Lib.hid (hR.out.h.kept hF.out (fun h => h) (fun h => h))
            obtain ⟨b, o, rfl, hb, hc, hs⟩ := HR.out.at (show j < len by omega)
            have hcw := (hF.out.cell (p := ⟨b, o + j, none⟩) (Nat.lt_of_lt_of_le hb hR.out.bel.size) (fun h => h)).trans ((hR.out.bel.cell (p := ⟨b, o + j, none⟩) hb).trans hc)
            clear hc hrj htx0 hcj0
            generalize hS : strI ss j = s at *
            have HS := Lib.hid hS
            clear hS
            go_wp2_with fail
            by_cases h500 : s.size ≤ 500
            · have hX : Hid (cutS s = s) := Lib.hid (by unfold cutS; rw [Nat.min_eq_left h500]; exact ByteArray.extract_zero_size)
              clear HS
              go_quiet (fail)
              rename ByteArray => x
              have hx5 : x.size ≤ 500 := h500
              go_wp2_with fail
              have hT : Hid (lenOf ws r = x.size ∧ strAt ws r = x) := Lib.hid (by
                have ht' := htx.out
                rw [hX.out] at ht'
                exact ⟨ht'.len hR.out.z (by omega), ht'.str hR.out.z (by omega)⟩)
              refine (string_any (HhA.out.drewN nq) r hr0).mono ?_
              rintro e w6 ⟨rfl, f6⟩
              have F6 : Hid (Fr (fun _ => False) wo w6) := Lib.hid ((hF.out.drewN nq).trans f6 (fun _ _ h => h))
              have HhB := Lib.hid (hR.out.h.kept F6.out (fun h => h) (fun h => h))
              have cB := (f6.cell (p := ⟨g2, j, none⟩) (by exact hlt2) (fun h => h)).trans hcj
              clear f6
              rw [show strAt ws r = x from hT.out.2]
              go_wp2_with fail
              refine (len_any HhB.out r hr0).mono ?_
              rintro e w7 ⟨rfl, rfl⟩
              rw [show lenOf ws r = x.size from hT.out.1]
              go_wp2_with fail
              go_roundw
              case rel => exact ⟨j + 1, by omega, by go_num, F6⟩
              case measure => simp [intOf]; omega
            · have hX : Hid (cutS s = s.extract 0 500) := Lib.hid (by unfold cutS; rw [Nat.min_eq_right (by omega)])
              have hx5 : (s.extract 0 500).size ≤ 500 := by simp; omega
              clear HS
              have h500' : 500 < s.size := by omega
              go_quiet (fail)
              go_wp2_with fail
              generalize s.extract 0 500 = x at *
              have hT : Hid (lenOf ws r = x.size ∧ strAt ws r = x) := Lib.hid (by
                have ht' := htx.out
                rw [hX.out] at ht'
                exact ⟨ht'.len hR.out.z (by omega), ht'.str hR.out.z (by omega)⟩)
              refine (string_any (HhA.out.drewN nq) r hr0).mono ?_
              rintro e w6 ⟨rfl, f6⟩
              have F6 : Hid (Fr (fun _ => False) wo w6) := Lib.hid ((hF.out.drewN nq).trans f6 (fun _ _ h => h))
              have HhB := Lib.hid (hR.out.h.kept F6.out (fun h => h) (fun h => h))
              have cB := (f6.cell (p := ⟨g2, j, none⟩) (by exact hlt2) (fun h => h)).trans hcj
              clear f6
              rw [show strAt ws r = x from hT.out.2]
              go_wp2_with fail
              refine (len_any HhB.out r hr0).mono ?_
              rintro e w7 ⟨rfl, rfl⟩
              rw [show lenOf ws r = x.size from hT.out.1]
              go_wp2_with fail
              go_roundw
              case rel => exact ⟨j + 1, by omega, by go_num, F6⟩
              case measure => simp [intOf]; omega
          · go_wp2_with fail
            go_ret
            exact ⟨rfl, hR.out.bel.trans (hF.out.below hR.out.bel.size (fun _ _ h => h))⟩
end Go.Proofs.Ytdffjojpnonanaa
