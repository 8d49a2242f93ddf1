/-
  WorldTexts: the walk.
-/
import Derived.Test.YtbnnjbdiiaoopaaDoorWdQ
namespace Go.Proofs.YtbnnjbdiiaoopaaDoor
open Go.RowKit
set_option maxRecDepth 100000

/-- Where the texts lie. -/
theorem addT_at (room : Int) : ∀ (l : List ByteArray) (ws ws' R : List Int), addT room ws l = some (ws', R) → (∃ t, ws' = ws ++ t) ∧ R.length = l.length ∧ ∀ (j : Nat) (s : ByteArray), l[j]? = some s → ∃ r, R[j]? = some r ∧ TextAt ws' r s
  | [], ws, ws', R, h => by
    simp only [addT, Option.some.injEq, Prod.mk.injEq] at h
    obtain ⟨rfl, rfl⟩ := h
    exact ⟨⟨[], by simp⟩, rfl, fun j s hs => by simp at hs⟩
  | s :: l, ws, ws', R, h => by
    simp only [addT] at h
    split at h
    · rename_i h0
      cases hq : addT room ws l with
      | none => rw [hq] at h; cases h
      | some o =>
        rw [hq] at h
        simp only [Option.map_some, Option.some.injEq, Prod.mk.injEq] at h
        obtain ⟨rfl, rfl⟩ := h
        obtain ⟨h1, h2, h3⟩ := addT_at room l ws o.1 o.2 hq
        refine ⟨h1, by simp [h2], fun j t ht => ?_⟩
        cases j with
        | zero => simp at ht; subst ht; exact ⟨0, rfl, .inl ⟨h0, rfl⟩⟩
        | succ j => exact h3 j t (by simpa using ht)
    · rename_i h0
      split at h
      · cases hq : addT room (textWs ws s) l with
        | none => rw [hq] at h; cases h
        | some o =>
          rw [hq] at h
          simp only [Option.map_some, Option.some.injEq, Prod.mk.injEq] at h
          obtain ⟨rfl, rfl⟩ := h
          obtain ⟨⟨t0, h1⟩, h2, h3⟩ := addT_at room l (textWs ws s) o.1 o.2 hq
          have hg := (TextAt.new ws s (by omega)).grow t0
          rw [← h1] at hg
          refine ⟨⟨headOf 3 (bts s).length :: bts s ++ t0, by rw [h1]; simp [textWs]⟩, by simp [h2], fun j t ht => ?_⟩
          cases j with
          | zero => simp at ht; subst ht; exact ⟨_, rfl, hg⟩
          | succ j => exact h3 j t (by simpa using ht)
      · cases h

theorem alloc_room {ws : List Int} {n : Nat} {room : Int} (hn : n ≤ 1048576) (h : (n : Int) < room - ws.length) : allocB ws room 3 n = true := by
  have h1 : isPartB 3 = true := by decide
  have h2 : isPartB n = true := by simp [isPartB]; omega
  simp only [allocB, h1, h2, Bool.true_and, decide_eq_true_eq]; exact h
theorem length_textWs (ws : List Int) (s : ByteArray) : (textWs ws s).length = ws.length + s.size + 1 := by simp [textWs, length_bts]; omega

/-- There is room. -/
theorem addT_room (room : Int) : ∀ (l : List ByteArray) (ws : List Int), (∀ s ∈ l, s.size ≤ 1000) → (ws.length : Int) + (l.length : Int) * 1001 ≤ room → ∃ o, addT room ws l = some o ∧ o.1.length ≤ ws.length + l.length * 1001
  | [], ws, _, _ => ⟨_, rfl, by simp⟩
  | s :: l, ws, hs, hr => by
    have h1 := hs s List.mem_cons_self
    simp only [List.length_cons] at hr ⊢
    simp only [addT]
    split
    · obtain ⟨o, h, hl⟩ := addT_room room l ws (fun t ht => hs t (List.mem_cons_of_mem _ ht)) (by omega)
      exact ⟨_, by rw [h]; rfl, by simp only; omega⟩
    · have hl2 := length_textWs ws s
      obtain ⟨o, h, hl⟩ := addT_room room l (textWs ws s) (fun t ht => hs t (List.mem_cons_of_mem _ ht)) (by omega)
      rw [if_pos (alloc_room (by omega) (by omega))]
      exact ⟨_, by rw [h]; rfl, by simp only; omega⟩

theorem TextAt.nonneg {ws : List Int} {r : Int} {s : ByteArray} (h : TextAt ws r s) : 0 ≤ r := by
  rcases h with ⟨_, rfl⟩ | ⟨_, A, B, rfl, _⟩ <;> omega

theorem TextAt.le {ws : List Int} {r : Int} {s : ByteArray} (h : TextAt ws r s) : r ≤ ws.length := by
  rcases h with ⟨_, rfl⟩ | ⟨_, A, B, rfl, rfl⟩
  · omega
  · simp; omega

theorem printed_text {s : WSt} {v : Int} (h : s.lines.length < 4096) : printed s 3 v = s.lines ++ [strAt s.ws v] := by
  unfold printed lineText; rw [if_pos h, if_neg (by decide), if_neg (by decide), if_pos rfl]

/-- The World with both texts and the third one, and the one that was laid together. -/
structure TxAt (W wr : World) (N q : Nat) (R : List Int) (x y z : ByteArray) (c : Int) (s : WSt) : Prop where
  at_ : At W wr N s
  q : s.q = q
  lits : s.lits = R
  lines : s.lines = []
  tx : TextAt s.ws (wordAt R 0) x
  ty : TextAt s.ws (wordAt R 1) y
  tz : TextAt s.ws (wordAt R 2) z
  tc : TextAt s.ws c z
  few : s.ws.length ≤ 10000

theorem cat_three {W wr : World} {N q p g c : Nat} {ws' R : List Int} {vl vs vi : Value} {x y z : ByteArray} (h : At W wr N (St0 q p g c 65536 ws' vl vs vi R [])) (ha : addT 65536 [0] [x, y, z] = some (ws', R)) (hxy : x ++ y = z) (hx : x.size ≤ 300) (hy : y.size ≤ 300) (hw : ws'.length ≤ 4000) :
    Calls Tryd.prog 13 #[.pointer (some ⟨q, 0, none⟩), .int .u64 (wordAt R 0), .int .u64 (wordAt R 1)] wr fun e w' => ∃ r s, e = .returned (.tuple #[.int .u64 r, .bool true]) ∧ TxAt W w' N q R x y z r s := by
  obtain ⟨_, hl, ht⟩ := addT_at _ _ _ _ _ ha
  obtain ⟨r0, e0, t0⟩ := ht 0 x rfl
  obtain ⟨r1, e1, t1⟩ := ht 1 y rfl
  obtain ⟨r2, e2, t2⟩ := ht 2 z rfl
  have q0 : wordAt R 0 = r0 := by have := wordAt_lt (xs := R) (k := 0) (by rw [hl]; simp); rw [e0] at this; exact (Option.some.inj this).symm
  have q1 : wordAt R 1 = r1 := by have := wordAt_lt (xs := R) (k := 1) (by rw [hl]; simp); rw [e1] at this; exact (Option.some.inj this).symm
  have q2 : wordAt R 2 = r2 := by have := wordAt_lt (xs := R) (k := 2) (by rw [hl]; simp); rw [e2] at this; exact (Option.some.inj this).symm
  rw [q0, q1]
  have hzs : z.size = x.size + y.size := by rw [← hxy, ByteArray.size_append]
  have hz0 : wordAt ws' 0 = 0 := h.wd.z
  refine (cat_any h.wd r0 r1 t0.nonneg t1.nonneg).mono ?_
  intro e w' hd
  rw [show (St0 q p g c 65536 ws' vl vs vi R []).ws = ws' from rfl, t0.str hz0 (by omega), t1.str hz0 (by omega), hxy] at hd
  rcases hd with ⟨hb, _⟩ | ⟨hz, rfl, d⟩ | ⟨_, hp, hal, rfl, g', c', d⟩ | ⟨_, hp, hal, _⟩
  · omega
  · exact ⟨_, _, rfl, h.does d, rfl, rfl, rfl, by rw [q0]; exact t0, by rw [q1]; exact t1, by rw [q2]; exact t2, .inl ⟨hz, rfl⟩, by show ws'.length ≤ _; omega⟩
  · exact ⟨_, _, rfl, h.does d, rfl, rfl, rfl, by rw [q0]; exact t0.grow _, by rw [q1]; exact t1.grow _, by rw [q2]; exact t2.grow _, TextAt.new _ _ hp, by show (textWs ws' z).length ≤ _; rw [length_textWs]; omega⟩
  · have : allocB ws' 65536 3 z.size = true := alloc_room (by omega) (by omega)
    have hal2 : allocB ws' 65536 3 z.size = false := hal
    rw [this] at hal2; cases hal2

set_option maxHeartbeats 4000000 in
theorem worldtexts_any {W : World} (hlk : Lk W) (a b : ByteArray) (ha : a.size ≤ 9223372036854775807) (hb : b.size ≤ 9223372036854775807) :
    Calls Tryd.prog 6 #[.string a, .string b] W fun e W' => e = .returned (.bool true) ∧ Below W.heap.size W W' := by
  have LK := Lib.hid hlk
  obtain ⟨m1, hm1⟩ : ∃ m, min a.size 300 = m := ⟨_, rfl⟩
  obtain ⟨m2, hm2⟩ : ∃ m, min b.size 300 = m := ⟨_, rfl⟩
  have k1 : min (a.size : Int) 300 = (m1 : Int) := by omega
  have k2 : min (b.size : Int) 300 = (m2 : Int) := by omega
  have b1 : (m1 : Int) ≤ (a.size : Int) := by omega
  have b2 : (m2 : Int) ≤ (b.size : Int) := by omega
  have b1n : m1 ≤ a.size := by omega
  have b2n : m2 ≤ b.size := by omega
  obtain ⟨x, hx⟩ : ∃ x, a.extract 0 m1 = x := ⟨_, rfl⟩
  obtain ⟨y, hy⟩ : ∃ y, b.extract 0 m2 = y := ⟨_, rfl⟩
  have hxs : x.size ≤ 300 := by rw [← hx]; simp; omega
  have hys : y.size ≤ 300 := by rw [← hy]; simp; omega
  have hadd : ∀ w : World, (Op.stringOp .add x y).run Tryd.prog w = .ok (.string (x ++ y)) w := fun w => run_string_add_sum w x y (by omega)
  obtain ⟨z, hz⟩ : ∃ z, x ++ y = z := ⟨_, rfl⟩
  have hzs : z.size = x.size + y.size := by rw [← hz, ByteArray.size_append]
  rw [hz] at hadd
  have HZ := Lib.hid (And.intro hz (And.intro hxs (And.intro hys hzs)))
  clear hlk hm1 hm2 hz hzs
  go_enter Tryd.func6, Tryd.ntmps6
  go_wp2_with fail
  have u0 : Up W (W.alloc (.cells #[.string x, .string y, .string z] 9)) := (Fr.refl _ W).alloc _
  have hblk := heap_alloc_new W (.cells #[.string x, .string y, .string z] 9)
  generalize W.alloc (.cells #[.string x, .string y, .string z] 9) = w0 at *
  refine (prog_any w0 0 (Nat.zero_le _) _ 3 3).mono ?_
  rintro e w1 ⟨gt, ct, rfl, hty, u1⟩
  have HTY := Lib.hid (And.intro hty (up_trans u0 u1))
  have hblk1 := (u1.block _ (heap_lt hblk) (fun h => h)).trans hblk
  have hs : SlP w1 (fun _ => True) 1 StrC (some ⟨W.heap.size, 0, none⟩) 3 [x, y, z] := ⟨Nat.le_refl _, by omega, fun _ => ⟨_, 0, rfl, trivial, heap_lt hblk1, fun j t ht => by
    refine ⟨[.string t], ⟨rfl, ?_⟩, rfl, fun i u hu => ?_⟩
    · match j, ht with
      | 0, ht => simp at ht; subst ht; have := HZ.out; omega
      | 1, ht => simp at ht; subst ht; have := HZ.out; omega
      | 2, ht => simp at ht; subst ht; have := HZ.out; omega
    · match i, hu with
      | 0, hu =>
        simp at hu; subst hu
        rw [Nat.zero_add, Nat.mul_one, Nat.add_zero, cell_of_row w1 _ j _ _ _ hblk1]
        match j, ht with
        | 0, ht => simp at ht; subst ht; rfl
        | 1, ht => simp at ht; subst ht; rfl
        | 2, ht => simp at ht; subst ht; rfl⟩⟩
  have HS := Lib.hid hs
  obtain ⟨o, ho, hol⟩ := addT_room 65536 [x, y, z] [0] (by
    intro t ht
    have := HZ.out
    simp at ht
    rcases ht with rfl | rfl | rfl <;> omega) (by simp)
  have HO := Lib.hid (And.intro ho hol)
  clear hty u0 u1 hblk hblk1 hs ho hol
  go_wp2_with fail
  refine (wnew_any (n := 3) (room := 65536) (ins := []) HTY.out.1 HS.out rfl (by omega) (nil_ins _) (by simp) (by simp) (by omega) (by omega)).mono ?_
  rintro e w2 (⟨ws', R, q, p, g, c, vl, vs, vi, hadT, rfl, hw, hu⟩ | ⟨hno, _⟩)
  case inr => rw [HO.out.1] at hno; cases hno
  have HA : Hid (At W w2 w1.heap.size (St0 q p g c 65536 ws' vl vs vi R [])) := Lib.hid ⟨hw, LK.out, (below_up HTY.out.2 (Nat.le_refl _)).trans (below_up hu HTY.out.2.size), HTY.out.2.size⟩
  have HT : Hid (addT 65536 [0] [x, y, z] = some (ws', R) ∧ ws'.length ≤ 4000) := Lib.hid ⟨hadT, by
    have := HO.out
    rw [hadT] at this
    have h1 := this.2
    have h2 := Option.some.inj this.1
    rw [← h2] at h1
    simp only [List.length_cons, List.length_nil] at h1
    omega⟩
  clear hw hu hadT HTY HS HO
  generalize w1.heap.size = N at *
  go_wp2_with fail
  refine (known_any HA.out.lk).mono ?_
  rintro e w3 ⟨rfl, u3⟩
  have H3 := Lib.hid (HA.out.up u3)
  clear u3 HA
  go_wp2_with fail
  refine (lit_any H3.out.wd 0).mono ?_
  rintro e w4 ⟨rfl, rfl⟩
  go_wp2_with fail
  refine (lit_any H3.out.wd 1).mono ?_
  rintro e w4 ⟨rfl, rfl⟩
  go_wp2_with fail
  refine (cat_three H3.out HT.out.1 HZ.out.1 HZ.out.2.1 HZ.out.2.2.1 HT.out.2).mono ?_
  rintro e w4 ⟨r, s, rfl, hq⟩
  have H4 := Lib.hid hq
  have hqq := hq.q
  subst hqq
  have hr0 := hq.tc.nonneg
  clear hq H3
  have hr1 : r ≤ 10000 := by have := H4.out.tc.le; have := H4.out.few; omega
  have hz0 := Lib.hid H4.out.at_.wd.z
  have ex : Hid (strAt s.ws (wordAt R 0) = x ∧ strAt s.ws (wordAt R 1) = y ∧ strAt s.ws (wordAt R 2) = z ∧ strAt s.ws r = z) := Lib.hid (by
    have hh := HZ.out
    exact ⟨H4.out.tx.str hz0.out (by omega), H4.out.ty.str hz0.out (by omega), H4.out.tz.str hz0.out (by omega), H4.out.tc.str hz0.out (by omega)⟩)
  have nn : Hid (0 ≤ wordAt R 0 ∧ 0 ≤ wordAt R 1 ∧ 0 ≤ wordAt R 2) := Lib.hid ⟨H4.out.tx.nonneg, H4.out.ty.nonneg, H4.out.tz.nonneg⟩
  go_wp2_with fail
  refine (print_at H4.out.at_ 3 r ⟨by omega, by omega⟩).mono ?_
  rintro e w5 ⟨rfl, vt, h5⟩
  rw [printed_text (by rw [H4.out.lines]; decide), H4.out.lines, ex.out.2.2.2] at h5
  have H5 := Lib.hid h5
  have S5 : Hid (s.lits = R) := Lib.hid H4.out.lits
  have L5 : Hid (hlenOf s.ws r = z.size) := Lib.hid (H4.out.tc.len hz0.out (by have := HZ.out; omega))
  clear h5 H4 hz0
  go_wp2_with fail
  refine (trace_any H5.out.wd).mono ?_
  rintro e w6 ⟨v', rfl, ho, u6⟩
  obtain ⟨at', ct', rfl, hc1, hc2, hx6⟩ := row_parts ho
  obtain ⟨gT, rfl, _, hgT, hcT⟩ := hx6 (by simp)
  have t0 : w6.cell? ⟨gT, 0, none⟩ = some (.string z) := hcT 0 _ rfl
  have H6 := Lib.hid (H5.out.up u6)
  clear ho u6 hx6 hcT H5
  simp only [List.nil_append, List.length_cons, List.length_nil] at hc1 ⊢
  go_wp2_with fail
  refine (lit_any H6.out.wd 2).mono ?_
  rintro e w7 ⟨rfl, rfl⟩
  rw [show ({ s with vt := vt, lines := [] ++ [z] } : WSt).lits = R from S5.out]
  go_wp2_with fail
  refine (equal_any H6.out.wd r (wordAt R 2) hr0 nn.out.2.2).mono ?_
  rintro e w7 ⟨rfl, u7⟩
  rw [show eqT (strAt ({ s with vt := vt, lines := [] ++ [z] } : WSt).ws r) (strAt ({ s with vt := vt, lines := [] ++ [z] } : WSt).ws (wordAt R 2)) = true by
    show eqT (strAt s.ws r) (strAt s.ws (wordAt R 2)) = true
    rw [ex.out.2.2.2, ex.out.2.2.1]; simp [eqT]]
  have H7 := Lib.hid (H6.out.up u7)
  have t07 := (u7.cell (p := ⟨gT, 0, none⟩) hgT (fun h => h)).trans t0
  have hg7 := Nat.lt_of_lt_of_le hgT u7.size
  clear u7 t0 H6
  go_wp2_with fail
  refine (heapof_any H7.out.wd).mono ?_
  rintro e w8 ⟨rfl, rfl⟩
  go_wp2_with fail
  refine (len_any H7.out.wd.heap r hr0).mono ?_
  rintro e w8 ⟨rfl, rfl⟩
  rw [show hlenOf ({ s with vt := vt, lines := [] ++ [z] } : WSt).ws r = (x.size : Int) + (y.size : Int) from L5.out.trans (by have := HZ.out; omega)]
  have wsum : IntKind.i64.wrap ((x.size : Int) + (y.size : Int)) = (x.size : Int) + (y.size : Int) := IntWalk.i64_in _ (by have := HZ.out; omega)
  go_wp2_with fail
  refine (lit_any H7.out.wd 0).mono ?_
  rintro e w8 ⟨rfl, rfl⟩
  rw [show ({ s with vt := vt, lines := [] ++ [z] } : WSt).lits = R from S5.out]
  go_wp2_with fail
  refine (lit_any H7.out.wd 1).mono ?_
  rintro e w8 ⟨rfl, rfl⟩
  rw [show ({ s with vt := vt, lines := [] ++ [z] } : WSt).lits = R from S5.out]
  go_wp2_with fail
  refine (less_any H7.out.wd (wordAt R 0) (wordAt R 1) nn.out.1 nn.out.2.1).mono ?_
  rintro e w8 ⟨rfl, u8⟩
  rw [show Op.bytesLess (strAt ({ s with vt := vt, lines := [] ++ [z] } : WSt).ws (wordAt R 0)).toList (strAt ({ s with vt := vt, lines := [] ++ [z] } : WSt).ws (wordAt R 1)).toList = Op.bytesLess x.toList y.toList by
    show Op.bytesLess (strAt s.ws (wordAt R 0)).toList (strAt s.ws (wordAt R 1)).toList = _
    rw [ex.out.1, ex.out.2.1]]
  have H8 := Lib.hid (H7.out.up u8)
  clear u8 H7
  go_wp2_with fail
  refine (lit_any H8.out.wd 0).mono ?_
  rintro e w8 ⟨rfl, rfl⟩
  rw [show ({ s with vt := vt, lines := [] ++ [z] } : WSt).lits = R from S5.out]
  go_wp2_with fail
  refine (lit_any H8.out.wd 1).mono ?_
  rintro e w8 ⟨rfl, rfl⟩
  rw [show ({ s with vt := vt, lines := [] ++ [z] } : WSt).lits = R from S5.out]
  go_wp2_with fail
  refine (equal_any H8.out.wd (wordAt R 0) (wordAt R 1) nn.out.1 nn.out.2.1).mono ?_
  rintro e w9 ⟨rfl, u9⟩
  rw [show eqT (strAt ({ s with vt := vt, lines := [] ++ [z] } : WSt).ws (wordAt R 0)) (strAt ({ s with vt := vt, lines := [] ++ [z] } : WSt).ws (wordAt R 1)) = (x.toList == y.toList) by
    show eqT (strAt s.ws (wordAt R 0)) (strAt s.ws (wordAt R 1)) = _
    rw [ex.out.1, ex.out.2.1]; rfl]
  have H9 := Lib.hid (H8.out.up u9)
  clear u9 H8
  go_wp2_with fail
  go_ret
  exact ⟨rfl, H9.out.bel⟩
end Go.Proofs.YtbnnjbdiiaoopaaDoor
