/-
  The hand's maker: Text.
  The hand's maker: Bent.
-/
import Derived.Test.YtemmdbjcllcelaaDoorHnOP
namespace Go.Proofs.YtemmdbjcllcelaaDoor.Tk
set_option maxRecDepth 100000
open Go.RowKit


theorem lit_sl {α : Type} {C : α → List Value → Prop} (w : World) (p : Nat) (hp : p < w.heap.size) (e : TypeId) (xs : List α) (vals : List Value) (hl : vals.length = xs.length) (hm : xs.length ≤ 100) (hC : ∀ (j : Nat) (x : α) (v : Value), xs[j]? = some x → vals[j]? = some v → C x [v]) : SlP (w.alloc (.cells vals.toArray e)) (fun b => b ≠ p) 1 C (some ⟨w.heap.size, 0, none⟩) xs.length xs :=
  ⟨Nat.le_refl _, by omega, fun _ => ⟨w.heap.size, 0, rfl, by omega, by simp, fun j x hj => by
    have hjl : j < vals.length := by rw [hl]; exact (List.getElem?_eq_some_iff.1 hj).1
    refine ⟨[vals[j]], hC j x _ hj (List.getElem?_eq_getElem hjl), rfl, fun i u hi => ?_⟩
    match i, hi with
    | 0, hi =>
      simp at hi; subst hi
      rw [cell_of_row _ _ _ _ _ _ (heap_alloc_new w _)]
      simp [List.getElem?_eq_getElem hjl]⟩⟩
theorem nm_vals (xs : List ByteArray) (h : ∀ x ∈ xs, x.size ≤ 6) : ∀ (j : Nat) (x : ByteArray) (v : Value), xs[j]? = some x → (xs.map Value.string)[j]? = some v → NmC x [v] := by
  intro j x v hx hv
  rw [List.getElem?_map, hx] at hv
  cases hv
  exact ⟨rfl, h x (List.mem_of_getElem? hx)⟩
theorem int_vals (xs : List Int) : ∀ (j : Nat) (x : Int) (v : Value), xs[j]? = some x → (xs.map (Value.int .i64))[j]? = some v → IntC x [v] := by
  intro j x v hx hv
  rw [List.getElem?_map, hx] at hv
  cases hv
  rfl

/-- Within Text. -/
structure Tx (w0 w : World) (p : Nat) (A : Option Addr) (rc : Nat) (raw : List Int) (m : MS) (rows : List (List ByteArray)) (N : Nat) : Prop where
  mem : Mk w w0.heap.size p A rc raw m rows
  hp : p = w0.heap.size + 1
  up : Up w0 w
  out : m.out.size ≤ N
section
variable {w0 w w' : World} {p : Nat} {A : Option Addr} {rc : Nat} {raw : List Int} {m m' : MS} {rows rows' : List (List ByteArray)} {N N' : Nat}
theorem Tx.next (h : Tx w0 w p A rc raw m rows N) (hm : Mk w' w0.heap.size p A rc raw m' rows') (hf : FM p w w') (ho : m'.out.size ≤ N') : Tx w0 w' p A rc raw m' rows' N' :=
  ⟨hm, h.hp, Fr.trans h.up hf (fun i hi e => by have := h.hp; omega), ho⟩
theorem Tx.over (h : Tx w0 w p A rc raw m rows N) (hu : Up w w') : Tx w0 w' p A rc raw m rows N := ⟨h.mem.up hu, h.hp, Fr.trans h.up hu (fun _ _ h => h), h.out⟩
end

set_option maxRecDepth 20000 in
set_option maxHeartbeats 8000000 in
theorem text_any {w : World} {A : Option Addr} {rc : Nat} {raw : List Int} (h : IntsW w A rc raw) :
    Calls Tryd.prog 14 #[.slice A raw.length rc] w fun e w' => ∃ s : ByteArray, e = .returned (.string s) ∧ s.size ≤ 1000000000 ∧ Up w w' := by
  have H := Lib.hid h
  have mk7 := made7 w
  have hrl := h.le
  have hrb := h.big
  clear h
  go_enter Tryd.func14, Tryd.ntmps14
  go_upto_region 2 with fail
  have T0 := Lib.hid (show Tx w ((w.alloc seven7).alloc (.cells #[.slice A raw.length rc, .int .i64 0, .slice (some ⟨w.heap.size, 0, none⟩) 7 7, .int .i64 0, .int .i64 0, .int .i64 0, .string { data := #[] }, .int .i64 (-1), .bool false] 63)) (w.heap.size + 1) A rc raw ⟨0, .slice (some ⟨w.heap.size, 0, none⟩) 7 7, 0, 0, 0, { data := #[] }, -1, false⟩ (List.replicate 7 []) 0 from by
    have u1 : Up w (w.alloc seven7) := (Fr.refl _ _).alloc _
    have u2 : Up (w.alloc seven7) ((w.alloc seven7).alloc (.cells #[.slice A raw.length rc, .int .i64 0, .slice (some ⟨w.heap.size, 0, none⟩) 7 7, .int .i64 0, .int .i64 0, .int .i64 0, .string { data := #[] }, .int .i64 (-1), .bool false] 63)) := (Fr.refl _ _).alloc _
    have vo := Vo.made (w := w) (Nat.le_refl _) u2
    have hb := heap_alloc_new (w.alloc seven7) (.cells #[.slice A raw.length rc, .int .i64 0, .slice (some ⟨w.heap.size, 0, none⟩) 7 7, .int .i64 0, .int .i64 0, .int .i64 0, .string { data := #[] }, .int .i64 (-1), .bool false] 63)
    rw [show (w.alloc seven7).heap.size = w.heap.size + 1 by simp] at hb
    have u : Up w _ := Fr.trans u1 u2 (fun _ _ h => h)
    refine ⟨⟨hb, ints_kept H.out u (fun _ _ _ h => h), fun hne a ha => ?_, vo.vars (Nat.le_refl _) hb, rfl, Nat.zero_le _, Nat.le_succ _, fun x hx => by rw [List.eq_of_mem_replicate hx]; exact Nat.zero_le _⟩, rfl, u, Nat.le_refl _⟩
    obtain ⟨x, hx⟩ : ∃ x, raw[0]? = some x := by cases raw with | nil => exact absurd rfl hne | cons x r => exact ⟨x, rfl⟩
    obtain ⟨a', e, hc⟩ := H.out.at_ 0 x hx
    rw [ha] at e
    cases e
    have := World.block_lt_of_cell? w _ hc
    rw [add_blk] at this
    exact this)
  generalize ((w.alloc seven7).alloc (.cells #[.slice A raw.length rc, .int .i64 0, .slice (some ⟨w.heap.size, 0, none⟩) 7 7, .int .i64 0, .int .i64 0, .int .i64 0, .string { data := #[] }, .int .i64 (-1), .bool false] 63)) = w1 at T0 ⊢
  obtain ⟨m0, hm0⟩ : ∃ m0 : MS, m0 = ⟨0, .slice (some ⟨w.heap.size, 0, none⟩) 7 7, 0, 0, 0, { data := #[] }, -1, false⟩ := ⟨_, rfl⟩
  rw [← hm0] at T0
  clear hm0 mk7
  generalize w.heap.size + 1 = p at T0 ⊢
  have L1 := Lib.hid (show Calls Tryd.prog 20 #[.pointer (some ⟨p, 0, none⟩), .int .i64 0, .string { data := #[116, 121, 112, 101, 32, 80, 32, 115, 116, 114, 117, 99, 116, 32, 123] }] w1 _ from line_any T0.out.mem 0 (by decide) { data := #[116, 121, 112, 101, 32, 80, 32, 115, 116, 114, 117, 99, 116, 32, 123] } (by decide) (by have := T0.out.out; omega))
  go_wp2_with fail
  refine L1.out.mono ?_
  rintro e w2 ⟨o2, rfl, ho2, hm2, hf2⟩
  have T2 := Lib.hid (T0.out.next hm2 hf2 (show o2.size ≤ 100 by have h1 := T0.out.out; have h2 : ({ data := #[116, 121, 112, 101, 32, 80, 32, 115, 116, 114, 117, 99, 116, 32, 123] } : ByteArray).size = 15 := rfl; rw [h2] at ho2; omega))
  clear ho2 hm2 hf2 L1 T0
  have d6 := T2.out.mem.cell 6
  have f6 := T2.out.mem.free 6
  simp only [List.getElem?_toArray, List.getElem?_cons_zero, List.getElem?_cons_succ] at d6
  have ho2 : o2.size ≤ 100 := T2.out.out
  have q1 : o2.size + 106 ≤ 9223372036854775807 := by omega
  obtain ⟨o3, eo3⟩ : ∃ c, o2 ++ ({ data := #[9, 97, 32, 105, 110, 116, 10, 9, 98, 32, 98, 111, 111, 108, 10, 9, 110, 32, 80, 10, 9, 105, 32, 73, 10, 125, 10, 116, 121, 112, 101, 32, 81, 32, 115, 116, 114, 117, 99, 116, 32, 123, 10, 9, 120, 32, 105, 110, 116, 10, 9, 115, 32, 91, 93, 105, 110, 116, 10, 125, 10, 116, 121, 112, 101, 32, 73, 32, 105, 110, 116, 101, 114, 102, 97, 99, 101, 32, 123, 10, 9, 103, 101, 116, 40, 105, 110, 116, 41, 32, 105, 110, 116, 10, 9, 115, 101, 116, 40, 105, 110, 116, 41, 10, 125, 10] } : ByteArray) = c := ⟨_, rfl⟩
  have ho3 : o3.size ≤ 100 + 106 := cat_le eo3 ho2 (Nat.le_refl _)
  have hp3 := T2.out.mem.put 6 (.string o3) { m0 with out := o3 } rfl T2.out.mem.atle T2.out.mem.short (by rfl)
  have T3 := Lib.hid (T2.out.next hp3.1 hp3.2 (show o3.size ≤ 1000 by omega))
  clear ho2 ho3 hp3
  go_upto_region 4 with fail
  clear d6 f6 q1 eo3 T2
  generalize w2.setCell ⟨p, 6, none⟩ (.string o3) = w3 at T3 ⊢
  generalize ({ m0 with out := o3 } : MS) = m3 at T3
  have C4 := Lib.hid (show Calls Tryd.prog 21 #[.pointer (some ⟨p, 0, none⟩), .string { data := #[102, 117, 110, 99, 32, 109, 97, 105, 110, 40, 41] }, .slice none 0 0, .slice none 0 0, .int .i64 (-1), .int .i64 3, .bool true] w3 _ from fn_any T3.out.mem { data := #[102, 117, 110, 99, 32, 109, 97, 105, 110, 40, 41] } (by decide) (Gp := fun b => b ≠ p) (SlP.none_) (SlP.none_) (fun _ h => h) rfl (by decide) (fun x hx => nomatch hx) (-1) (by decide) (by decide) 3 (by decide) true (by have := T3.out.out; omega))
  go_wp2_with fail
  refine C4.out.mono ?_
  rintro e w4 ⟨rfl, m4, rows4, ho4, hm4, hf4⟩
  have T4 := Lib.hid (T3.out.next hm4 hf4 (show m4.out.size ≤ 100001000 by have := T3.out.out; omega))
  clear ho4 hm4 hf4 C4 T3
  have pl4 := T4.out.mem.plt
  have ua4 : Up w4 (w4.alloc (.cells #[.string { data := #[97] }, .string { data := #[98] }] 9)) := (Fr.refl _ _).alloc _
  have ub4 : Up (w4.alloc (.cells #[.string { data := #[97] }, .string { data := #[98] }] 9)) ((w4.alloc (.cells #[.string { data := #[97] }, .string { data := #[98] }] 9)).alloc (.cells #[.int .i64 0, .int .i64 0] 3)) := (Fr.refl _ _).alloc _
  have sn4 : SlP ((w4.alloc (.cells #[.string { data := #[97] }, .string { data := #[98] }] 9)).alloc (.cells #[.int .i64 0, .int .i64 0] 3)) (fun b => b ≠ p) 1 NmC (some ⟨w4.heap.size, 0, none⟩) 2 ([{ data := #[97] }, { data := #[98] }] : List ByteArray) := SlP.kept (lit_sl (C := NmC) w4 p pl4 9 ([{ data := #[97] }, { data := #[98] }] : List ByteArray) (([{ data := #[97] }, { data := #[98] }] : List ByteArray).map Value.string) rfl (by decide) (nm_vals _ (by decide))) ub4 (fun _ _ h => h) (fun _ h => h) (fun _ _ _ h => h)
  have si4 : SlP ((w4.alloc (.cells #[.string { data := #[97] }, .string { data := #[98] }] 9)).alloc (.cells #[.int .i64 0, .int .i64 0] 3)) (fun b => b ≠ p) 1 IntC (some ⟨w4.heap.size + 1, 0, none⟩) 2 ([0, 0] : List Int) := by
    have := lit_sl (C := IntC) (w4.alloc (.cells #[.string { data := #[97] }, .string { data := #[98] }] 9)) p (Nat.lt_of_lt_of_le pl4 ua4.size) 3 ([0, 0] : List Int) (([0, 0] : List Int).map (Value.int .i64)) rfl (by decide) (int_vals _)
    rw [show (w4.alloc (.cells #[.string { data := #[97] }, .string { data := #[98] }] 9)).heap.size = w4.heap.size + 1 by simp] at this
    exact this
  have X4 := Lib.hid (T4.out.over (Fr.trans ua4 ub4 (fun _ _ h => h)))
  have SN4 := Lib.hid (And.intro sn4 si4)
  clear pl4 ua4 ub4 sn4 si4
  have C104 := Lib.hid (show Calls Tryd.prog 22 #[.pointer (some ⟨p, 0, none⟩), .int .i64 4] ((w4.alloc (.cells #[.string { data := #[97] }, .string { data := #[98] }] 9)).alloc (.cells #[.int .i64 0, .int .i64 0] 3)) _ from next_any X4.out.mem 4 (by decide) (by decide))
  go_wp2_with fail
  refine C104.out.mono ?_
  rintro e v4 ⟨j4, a4, hj4, rfl, hm4, hf4⟩
  have Y4 := Lib.hid (X4.out.next hm4 hf4 X4.out.out)
  have SY4 := Lib.hid (And.intro (SN4.out.1.kept hf4 (G' := fun b => b ≠ p) (fun _ h => h) (fun _ h => h) (fun _ _ _ h => h)) (SN4.out.2.kept hf4 (G' := fun b => b ≠ p) (fun _ h => h) (fun _ h => h) (fun _ _ _ h => h)))
  clear hj4 hm4 hf4 C104 X4 SN4
  have C205 := Lib.hid (show Calls Tryd.prog 21 #[.pointer (some ⟨p, 0, none⟩), .string { data := #[102, 117, 110, 99, 32, 102, 40, 97, 32, 105, 110, 116, 44, 32, 98, 32, 105, 110, 116, 41, 32, 105, 110, 116] }, .slice (some ⟨w4.heap.size, 0, none⟩) 2 2, .slice (some ⟨w4.heap.size + 1, 0, none⟩) 2 2, .int .i64 0, .int .i64 2, .bool ((j4 : Int) == 0)] v4 _ from fn_any Y4.out.mem { data := #[102, 117, 110, 99, 32, 102, 40, 97, 32, 105, 110, 116, 44, 32, 98, 32, 105, 110, 116, 41, 32, 105, 110, 116] } (by decide) (Gp := fun b => b ≠ p) SY4.out.1 SY4.out.2 (fun _ h => h) rfl (by decide) (by decide) (0) (by decide) (by decide) 2 (by decide) ((j4 : Int) == 0) (by have h1 : m4.out.size ≤ 100001000 := Y4.out.out; show m4.out.size ≤ _; omega))
  go_wp2_with fail
  refine C205.out.mono ?_
  rintro e w5 ⟨rfl, m5, rows5, ho5, hm5, hf5⟩
  have T5 := Lib.hid (Y4.out.next hm5 hf5 (show m5.out.size ≤ 200001000 by have h1 : m4.out.size ≤ 100001000 := Y4.out.out; have h2 : m5.out.size ≤ m4.out.size + 100000000 := ho5; omega))
  clear ho5 hm5 hf5 C205 T4 Y4 SY4
  have pl5 := T5.out.mem.plt
  have ua5 : Up w5 (w5.alloc (.cells #[.string { data := #[112] }] 9)) := (Fr.refl _ _).alloc _
  have ub5 : Up (w5.alloc (.cells #[.string { data := #[112] }] 9)) ((w5.alloc (.cells #[.string { data := #[112] }] 9)).alloc (.cells #[.int .i64 4] 3)) := (Fr.refl _ _).alloc _
  have sn5 : SlP ((w5.alloc (.cells #[.string { data := #[112] }] 9)).alloc (.cells #[.int .i64 4] 3)) (fun b => b ≠ p) 1 NmC (some ⟨w5.heap.size, 0, none⟩) 1 ([{ data := #[112] }] : List ByteArray) := SlP.kept (lit_sl (C := NmC) w5 p pl5 9 ([{ data := #[112] }] : List ByteArray) (([{ data := #[112] }] : List ByteArray).map Value.string) rfl (by decide) (nm_vals _ (by decide))) ub5 (fun _ _ h => h) (fun _ h => h) (fun _ _ _ h => h)
  have si5 : SlP ((w5.alloc (.cells #[.string { data := #[112] }] 9)).alloc (.cells #[.int .i64 4] 3)) (fun b => b ≠ p) 1 IntC (some ⟨w5.heap.size + 1, 0, none⟩) 1 ([4] : List Int) := by
    have := lit_sl (C := IntC) (w5.alloc (.cells #[.string { data := #[112] }] 9)) p (Nat.lt_of_lt_of_le pl5 ua5.size) 3 ([4] : List Int) (([4] : List Int).map (Value.int .i64)) rfl (by decide) (int_vals _)
    rw [show (w5.alloc (.cells #[.string { data := #[112] }] 9)).heap.size = w5.heap.size + 1 by simp] at this
    exact this
  have X5 := Lib.hid (T5.out.over (Fr.trans ua5 ub5 (fun _ _ h => h)))
  have SN5 := Lib.hid (And.intro sn5 si5)
  clear pl5 ua5 ub5 sn5 si5
  have C105 := Lib.hid (show Calls Tryd.prog 22 #[.pointer (some ⟨p, 0, none⟩), .int .i64 6] ((w5.alloc (.cells #[.string { data := #[112] }] 9)).alloc (.cells #[.int .i64 4] 3)) _ from next_any X5.out.mem 6 (by decide) (by decide))
  go_wp2_with fail
  refine C105.out.mono ?_
  rintro e v5 ⟨j5, a5, hj5, rfl, hm5, hf5⟩
  have Y5 := Lib.hid (X5.out.next hm5 hf5 X5.out.out)
  have SY5 := Lib.hid (And.intro (SN5.out.1.kept hf5 (G' := fun b => b ≠ p) (fun _ h => h) (fun _ h => h) (fun _ _ _ h => h)) (SN5.out.2.kept hf5 (G' := fun b => b ≠ p) (fun _ h => h) (fun _ h => h) (fun _ _ _ h => h)))
  clear hj5 hm5 hf5 C105 X5 SN5
  have C206 := Lib.hid (show Calls Tryd.prog 21 #[.pointer (some ⟨p, 0, none⟩), .string { data := #[102, 117, 110, 99, 32, 104, 40, 112, 32, 80, 41, 32, 80] }, .slice (some ⟨w5.heap.size, 0, none⟩) 1 1, .slice (some ⟨w5.heap.size + 1, 0, none⟩) 1 1, .int .i64 4, .int .i64 1, .bool ((j5 : Int) == 0)] v5 _ from fn_any Y5.out.mem { data := #[102, 117, 110, 99, 32, 104, 40, 112, 32, 80, 41, 32, 80] } (by decide) (Gp := fun b => b ≠ p) SY5.out.1 SY5.out.2 (fun _ h => h) rfl (by decide) (by decide) (4) (by decide) (by decide) 1 (by decide) ((j5 : Int) == 0) (by have h1 : m5.out.size ≤ 200001000 := Y5.out.out; show m5.out.size ≤ _; omega))
  go_wp2_with fail
  refine C206.out.mono ?_
  rintro e w6 ⟨rfl, m6, rows6, ho6, hm6, hf6⟩
  have T6 := Lib.hid (Y5.out.next hm6 hf6 (show m6.out.size ≤ 300001000 by have h1 : m5.out.size ≤ 200001000 := Y5.out.out; have h2 : m6.out.size ≤ m5.out.size + 100000000 := ho6; omega))
  clear ho6 hm6 hf6 C206 T5 Y5 SY5
  have pl6 := T6.out.mem.plt
  have ua6 : Up w6 (w6.alloc (.cells #[.string { data := #[112] }, .string { data := #[97] }] 9)) := (Fr.refl _ _).alloc _
  have ub6 : Up (w6.alloc (.cells #[.string { data := #[112] }, .string { data := #[97] }] 9)) ((w6.alloc (.cells #[.string { data := #[112] }, .string { data := #[97] }] 9)).alloc (.cells #[.int .i64 4, .int .i64 0] 3)) := (Fr.refl _ _).alloc _
  have sn6 : SlP ((w6.alloc (.cells #[.string { data := #[112] }, .string { data := #[97] }] 9)).alloc (.cells #[.int .i64 4, .int .i64 0] 3)) (fun b => b ≠ p) 1 NmC (some ⟨w6.heap.size, 0, none⟩) 2 ([{ data := #[112] }, { data := #[97] }] : List ByteArray) := SlP.kept (lit_sl (C := NmC) w6 p pl6 9 ([{ data := #[112] }, { data := #[97] }] : List ByteArray) (([{ data := #[112] }, { data := #[97] }] : List ByteArray).map Value.string) rfl (by decide) (nm_vals _ (by decide))) ub6 (fun _ _ h => h) (fun _ h => h) (fun _ _ _ h => h)
  have si6 : SlP ((w6.alloc (.cells #[.string { data := #[112] }, .string { data := #[97] }] 9)).alloc (.cells #[.int .i64 4, .int .i64 0] 3)) (fun b => b ≠ p) 1 IntC (some ⟨w6.heap.size + 1, 0, none⟩) 2 ([4, 0] : List Int) := by
    have := lit_sl (C := IntC) (w6.alloc (.cells #[.string { data := #[112] }, .string { data := #[97] }] 9)) p (Nat.lt_of_lt_of_le pl6 ua6.size) 3 ([4, 0] : List Int) (([4, 0] : List Int).map (Value.int .i64)) rfl (by decide) (int_vals _)
    rw [show (w6.alloc (.cells #[.string { data := #[112] }, .string { data := #[97] }] 9)).heap.size = w6.heap.size + 1 by simp] at this
    exact this
  have X6 := Lib.hid (T6.out.over (Fr.trans ua6 ub6 (fun _ _ h => h)))
  have SN6 := Lib.hid (And.intro sn6 si6)
  clear pl6 ua6 ub6 sn6 si6
  have C207 := Lib.hid (show Calls Tryd.prog 21 #[.pointer (some ⟨p, 0, none⟩), .string { data := #[102, 117, 110, 99, 32, 40, 112, 32, 80, 41, 32, 103, 101, 116, 40, 97, 32, 105, 110, 116, 41, 32, 105, 110, 116] }, .slice (some ⟨w6.heap.size, 0, none⟩) 2 2, .slice (some ⟨w6.heap.size + 1, 0, none⟩) 2 2, .int .i64 0, .int .i64 1, .bool false] ((w6.alloc (.cells #[.string { data := #[112] }, .string { data := #[97] }] 9)).alloc (.cells #[.int .i64 4, .int .i64 0] 3)) _ from fn_any X6.out.mem { data := #[102, 117, 110, 99, 32, 40, 112, 32, 80, 41, 32, 103, 101, 116, 40, 97, 32, 105, 110, 116, 41, 32, 105, 110, 116] } (by decide) (Gp := fun b => b ≠ p) SN6.out.1 SN6.out.2 (fun _ h => h) rfl (by decide) (by decide) (0) (by decide) (by decide) 1 (by decide) false (by have h1 : m6.out.size ≤ 300001000 := X6.out.out; show m6.out.size ≤ _; omega))
  go_wp2_with fail
  refine C207.out.mono ?_
  rintro e w7 ⟨rfl, m7, rows7, ho7, hm7, hf7⟩
  have T7 := Lib.hid (X6.out.next hm7 hf7 (show m7.out.size ≤ 400001000 by have h1 : m6.out.size ≤ 300001000 := X6.out.out; have h2 : m7.out.size ≤ m6.out.size + 100000000 := ho7; omega))
  clear ho7 hm7 hf7 C207 T6 X6 SN6
  have pl7 := T7.out.mem.plt
  have ua7 : Up w7 (w7.alloc (.cells #[.string { data := #[112] }, .string { data := #[97] }] 9)) := (Fr.refl _ _).alloc _
  have ub7 : Up (w7.alloc (.cells #[.string { data := #[112] }, .string { data := #[97] }] 9)) ((w7.alloc (.cells #[.string { data := #[112] }, .string { data := #[97] }] 9)).alloc (.cells #[.int .i64 4, .int .i64 0] 3)) := (Fr.refl _ _).alloc _
  have sn7 : SlP ((w7.alloc (.cells #[.string { data := #[112] }, .string { data := #[97] }] 9)).alloc (.cells #[.int .i64 4, .int .i64 0] 3)) (fun b => b ≠ p) 1 NmC (some ⟨w7.heap.size, 0, none⟩) 2 ([{ data := #[112] }, { data := #[97] }] : List ByteArray) := SlP.kept (lit_sl (C := NmC) w7 p pl7 9 ([{ data := #[112] }, { data := #[97] }] : List ByteArray) (([{ data := #[112] }, { data := #[97] }] : List ByteArray).map Value.string) rfl (by decide) (nm_vals _ (by decide))) ub7 (fun _ _ h => h) (fun _ h => h) (fun _ _ _ h => h)
  have si7 : SlP ((w7.alloc (.cells #[.string { data := #[112] }, .string { data := #[97] }] 9)).alloc (.cells #[.int .i64 4, .int .i64 0] 3)) (fun b => b ≠ p) 1 IntC (some ⟨w7.heap.size + 1, 0, none⟩) 2 ([4, 0] : List Int) := by
    have := lit_sl (C := IntC) (w7.alloc (.cells #[.string { data := #[112] }, .string { data := #[97] }] 9)) p (Nat.lt_of_lt_of_le pl7 ua7.size) 3 ([4, 0] : List Int) (([4, 0] : List Int).map (Value.int .i64)) rfl (by decide) (int_vals _)
    rw [show (w7.alloc (.cells #[.string { data := #[112] }, .string { data := #[97] }] 9)).heap.size = w7.heap.size + 1 by simp] at this
    exact this
  have X7 := Lib.hid (T7.out.over (Fr.trans ua7 ub7 (fun _ _ h => h)))
  have SN7 := Lib.hid (And.intro sn7 si7)
  clear pl7 ua7 ub7 sn7 si7
  have C208 := Lib.hid (show Calls Tryd.prog 21 #[.pointer (some ⟨p, 0, none⟩), .string { data := #[102, 117, 110, 99, 32, 40, 112, 32, 80, 41, 32, 115, 101, 116, 40, 97, 32, 105, 110, 116, 41] }, .slice (some ⟨w7.heap.size, 0, none⟩) 2 2, .slice (some ⟨w7.heap.size + 1, 0, none⟩) 2 2, .int .i64 (-1), .int .i64 1, .bool false] ((w7.alloc (.cells #[.string { data := #[112] }, .string { data := #[97] }] 9)).alloc (.cells #[.int .i64 4, .int .i64 0] 3)) _ from fn_any X7.out.mem { data := #[102, 117, 110, 99, 32, 40, 112, 32, 80, 41, 32, 115, 101, 116, 40, 97, 32, 105, 110, 116, 41] } (by decide) (Gp := fun b => b ≠ p) SN7.out.1 SN7.out.2 (fun _ h => h) rfl (by decide) (by decide) (-1) (by decide) (by decide) 1 (by decide) false (by have h1 : m7.out.size ≤ 400001000 := X7.out.out; show m7.out.size ≤ _; omega))
  go_wp2_with fail
  refine C208.out.mono ?_
  rintro e w8 ⟨rfl, m8, rows8, ho8, hm8, hf8⟩
  have T8 := Lib.hid (X7.out.next hm8 hf8 (show m8.out.size ≤ 500001000 by have h1 : m7.out.size ≤ 400001000 := X7.out.out; have h2 : m8.out.size ≤ m7.out.size + 100000000 := ho8; omega))
  clear ho8 hm8 hf8 C208 T7 X7 SN7
  have pl8 := T8.out.mem.plt
  have ua8 : Up w8 (w8.alloc (.cells #[.string { data := #[113] }, .string { data := #[97] }] 9)) := (Fr.refl _ _).alloc _
  have ub8 : Up (w8.alloc (.cells #[.string { data := #[113] }, .string { data := #[97] }] 9)) ((w8.alloc (.cells #[.string { data := #[113] }, .string { data := #[97] }] 9)).alloc (.cells #[.int .i64 5, .int .i64 0] 3)) := (Fr.refl _ _).alloc _
  have sn8 : SlP ((w8.alloc (.cells #[.string { data := #[113] }, .string { data := #[97] }] 9)).alloc (.cells #[.int .i64 5, .int .i64 0] 3)) (fun b => b ≠ p) 1 NmC (some ⟨w8.heap.size, 0, none⟩) 2 ([{ data := #[113] }, { data := #[97] }] : List ByteArray) := SlP.kept (lit_sl (C := NmC) w8 p pl8 9 ([{ data := #[113] }, { data := #[97] }] : List ByteArray) (([{ data := #[113] }, { data := #[97] }] : List ByteArray).map Value.string) rfl (by decide) (nm_vals _ (by decide))) ub8 (fun _ _ h => h) (fun _ h => h) (fun _ _ _ h => h)
  have si8 : SlP ((w8.alloc (.cells #[.string { data := #[113] }, .string { data := #[97] }] 9)).alloc (.cells #[.int .i64 5, .int .i64 0] 3)) (fun b => b ≠ p) 1 IntC (some ⟨w8.heap.size + 1, 0, none⟩) 2 ([5, 0] : List Int) := by
    have := lit_sl (C := IntC) (w8.alloc (.cells #[.string { data := #[113] }, .string { data := #[97] }] 9)) p (Nat.lt_of_lt_of_le pl8 ua8.size) 3 ([5, 0] : List Int) (([5, 0] : List Int).map (Value.int .i64)) rfl (by decide) (int_vals _)
    rw [show (w8.alloc (.cells #[.string { data := #[113] }, .string { data := #[97] }] 9)).heap.size = w8.heap.size + 1 by simp] at this
    exact this
  have X8 := Lib.hid (T8.out.over (Fr.trans ua8 ub8 (fun _ _ h => h)))
  have SN8 := Lib.hid (And.intro sn8 si8)
  clear pl8 ua8 ub8 sn8 si8
  have C108 := Lib.hid (show Calls Tryd.prog 22 #[.pointer (some ⟨p, 0, none⟩), .int .i64 3] ((w8.alloc (.cells #[.string { data := #[113] }, .string { data := #[97] }] 9)).alloc (.cells #[.int .i64 5, .int .i64 0] 3)) _ from next_any X8.out.mem 3 (by decide) (by decide))
  go_wp2_with fail
  refine C108.out.mono ?_
  rintro e v8 ⟨j8, a8, hj8, rfl, hm8, hf8⟩
  have Y8 := Lib.hid (X8.out.next hm8 hf8 X8.out.out)
  have SY8 := Lib.hid (And.intro (SN8.out.1.kept hf8 (G' := fun b => b ≠ p) (fun _ h => h) (fun _ h => h) (fun _ _ _ h => h)) (SN8.out.2.kept hf8 (G' := fun b => b ≠ p) (fun _ h => h) (fun _ h => h) (fun _ _ _ h => h)))
  clear hj8 hm8 hf8 C108 X8 SN8
  have C209 := Lib.hid (show Calls Tryd.prog 21 #[.pointer (some ⟨p, 0, none⟩), .string { data := #[102, 117, 110, 99, 32, 40, 113, 32, 81, 41, 32, 103, 101, 116, 40, 97, 32, 105, 110, 116, 41, 32, 105, 110, 116] }, .slice (some ⟨w8.heap.size, 0, none⟩) 2 2, .slice (some ⟨w8.heap.size + 1, 0, none⟩) 2 2, .int .i64 0, .int .i64 1, .bool ((j8 : Int) == 0)] v8 _ from fn_any Y8.out.mem { data := #[102, 117, 110, 99, 32, 40, 113, 32, 81, 41, 32, 103, 101, 116, 40, 97, 32, 105, 110, 116, 41, 32, 105, 110, 116] } (by decide) (Gp := fun b => b ≠ p) SY8.out.1 SY8.out.2 (fun _ h => h) rfl (by decide) (by decide) (0) (by decide) (by decide) 1 (by decide) ((j8 : Int) == 0) (by have h1 : m8.out.size ≤ 500001000 := Y8.out.out; show m8.out.size ≤ _; omega))
  go_wp2_with fail
  refine C209.out.mono ?_
  rintro e w9 ⟨rfl, m9, rows9, ho9, hm9, hf9⟩
  have T9 := Lib.hid (Y8.out.next hm9 hf9 (show m9.out.size ≤ 600001000 by have h1 : m8.out.size ≤ 500001000 := Y8.out.out; have h2 : m9.out.size ≤ m8.out.size + 100000000 := ho9; omega))
  clear ho9 hm9 hf9 C209 T8 Y8 SY8
  have pl9 := T9.out.mem.plt
  have ua9 : Up w9 (w9.alloc (.cells #[.string { data := #[113] }, .string { data := #[97] }] 9)) := (Fr.refl _ _).alloc _
  have ub9 : Up (w9.alloc (.cells #[.string { data := #[113] }, .string { data := #[97] }] 9)) ((w9.alloc (.cells #[.string { data := #[113] }, .string { data := #[97] }] 9)).alloc (.cells #[.int .i64 5, .int .i64 0] 3)) := (Fr.refl _ _).alloc _
  have sn9 : SlP ((w9.alloc (.cells #[.string { data := #[113] }, .string { data := #[97] }] 9)).alloc (.cells #[.int .i64 5, .int .i64 0] 3)) (fun b => b ≠ p) 1 NmC (some ⟨w9.heap.size, 0, none⟩) 2 ([{ data := #[113] }, { data := #[97] }] : List ByteArray) := SlP.kept (lit_sl (C := NmC) w9 p pl9 9 ([{ data := #[113] }, { data := #[97] }] : List ByteArray) (([{ data := #[113] }, { data := #[97] }] : List ByteArray).map Value.string) rfl (by decide) (nm_vals _ (by decide))) ub9 (fun _ _ h => h) (fun _ h => h) (fun _ _ _ h => h)
  have si9 : SlP ((w9.alloc (.cells #[.string { data := #[113] }, .string { data := #[97] }] 9)).alloc (.cells #[.int .i64 5, .int .i64 0] 3)) (fun b => b ≠ p) 1 IntC (some ⟨w9.heap.size + 1, 0, none⟩) 2 ([5, 0] : List Int) := by
    have := lit_sl (C := IntC) (w9.alloc (.cells #[.string { data := #[113] }, .string { data := #[97] }] 9)) p (Nat.lt_of_lt_of_le pl9 ua9.size) 3 ([5, 0] : List Int) (([5, 0] : List Int).map (Value.int .i64)) rfl (by decide) (int_vals _)
    rw [show (w9.alloc (.cells #[.string { data := #[113] }, .string { data := #[97] }] 9)).heap.size = w9.heap.size + 1 by simp] at this
    exact this
  have X9 := Lib.hid (T9.out.over (Fr.trans ua9 ub9 (fun _ _ h => h)))
  have SN9 := Lib.hid (And.intro sn9 si9)
  clear pl9 ua9 ub9 sn9 si9
  have C210 := Lib.hid (show Calls Tryd.prog 21 #[.pointer (some ⟨p, 0, none⟩), .string { data := #[102, 117, 110, 99, 32, 40, 113, 32, 81, 41, 32, 115, 101, 116, 40, 97, 32, 105, 110, 116, 41] }, .slice (some ⟨w9.heap.size, 0, none⟩) 2 2, .slice (some ⟨w9.heap.size + 1, 0, none⟩) 2 2, .int .i64 (-1), .int .i64 1, .bool false] ((w9.alloc (.cells #[.string { data := #[113] }, .string { data := #[97] }] 9)).alloc (.cells #[.int .i64 5, .int .i64 0] 3)) _ from fn_any X9.out.mem { data := #[102, 117, 110, 99, 32, 40, 113, 32, 81, 41, 32, 115, 101, 116, 40, 97, 32, 105, 110, 116, 41] } (by decide) (Gp := fun b => b ≠ p) SN9.out.1 SN9.out.2 (fun _ h => h) rfl (by decide) (by decide) (-1) (by decide) (by decide) 1 (by decide) false (by have h1 : m9.out.size ≤ 600001000 := X9.out.out; show m9.out.size ≤ _; omega))
  go_wp2_with fail
  refine C210.out.mono ?_
  rintro e w10 ⟨rfl, m10, rows10, ho10, hm10, hf10⟩
  have T10 := Lib.hid (X9.out.next hm10 hf10 (show m10.out.size ≤ 700001000 by have h1 : m9.out.size ≤ 600001000 := X9.out.out; have h2 : m10.out.size ≤ m9.out.size + 100000000 := ho10; omega))
  clear ho10 hm10 hf10 C210 T9 X9 SN9
  have d6 := T10.out.mem.cell 6
  simp only [List.getElem?_toArray, List.getElem?_cons_zero, List.getElem?_cons_succ] at d6
  go_wp2_with fail
  go_ret
  exact ⟨_, rfl, by have := T10.out.out; omega, T10.out.up⟩


set_option maxHeartbeats 400000 in
theorem pick_big (n m : Int) (w : World) (hm : 1 ≤ m) (hm' : m ≤ 4000000000000000000) :
    Calls Tryd.prog 5 #[.int .i64 n, .int .i64 m] w fun e w' => e = .returned (.int .i64 (n % m)) ∧ w = w' := by
  rcases tmod_cases n m hm with ⟨h1, h2, h3, h4⟩ | ⟨h1, h2, h3, h4⟩
  · have H := Lib.hid h2
    clear h2
    have hlo : -4000000000000000000 ≤ n.tmod m := by have := H.out; omega
    go_enter Tryd.func5, Tryd.ntmps5
    go_wp2
    go_ret
    exact ⟨ret_eq H.out, rfl⟩
  · have H := Lib.hid h2
    clear h2
    go_enter Tryd.func5, Tryd.ntmps5
    go_wp2
    go_ret
    exact ⟨ret_eq H.out, rfl⟩
theorem pick_nat_big (n : Int) (m : Nat) (hm : 1 ≤ m) (hm' : m ≤ 4000000000000000000) : ∃ j : Nat, j < m ∧ ∀ w, Calls Tryd.prog 5 #[.int .i64 n, .int .i64 m] w fun e w' => e = .returned (.int .i64 j) ∧ w' = w := by
  have h0 := Int.emod_nonneg n (show (m : Int) ≠ 0 by omega)
  have h1 := Int.emod_lt_of_pos n (show 0 < (m : Int) by omega)
  refine ⟨(n % (m : Int)).toNat, by omega, fun w => (pick_big n m w (by omega) (by omega)).mono fun e w' ⟨he, hw⟩ => ⟨?_, hw.symm⟩⟩
  rw [he]; exact ret_eq (by omega)
theorem u8_byte (z : Int) : ∃ b : UInt8, IntKind.u8.wrap z = (b.toNat : Int) := by
  have h : 0 ≤ IntKind.u8.wrap z ∧ IntKind.u8.wrap z < 256 := by
    simp only [IntKind.wrap]
    constructor <;> (simp [IntKind.signed, IntKind.bits]; try omega)
  refine ⟨UInt8.ofNat (IntKind.u8.wrap z).toNat, ?_⟩
  rw [UInt8.toNat_ofNat']
  have : (IntKind.u8.wrap z).toNat % 2 ^ 8 = (IntKind.u8.wrap z).toNat := Nat.mod_eq_of_lt (by omega)
  rw [this]; omega

def altA : Array Value := #[.string { data := #[118, 48] }, .string { data := #[122] }, .string { data := #[112] }, .string { data := #[116, 114, 117, 101] }, .string { data := #[48] }, .string { data := #[110, 105, 108] }, .string { data := #[34, 97, 34] }, .string { data := #[110, 101, 119, 40, 81, 41] }]
theorem altB (a : Act) : Tryd.prog.built 52 ((#[(0, .const (.string { data := #[118, 48] })), (1, .const (.string { data := #[122] })), (2, .const (.string { data := #[112] })), (3, .const (.string { data := #[116, 114, 117, 101] })), (4, .const (.string { data := #[48] })), (5, .const (.string { data := #[110, 105, 108] })), (6, .const (.string { data := #[34, 97, 34] })), (7, .const (.string { data := #[110, 101, 119, 40, 81, 41] }))] : Array (Nat × Operand)).map fun (i, x) => (i, a.eval x)).toList = some altA := by kernel_rfl
theorem altIdx : ∀ j : Nat, j < 8 → ∃ x : ByteArray, x.size ≤ 6 ∧ ∀ w, (Instr.index 52 (.agg altA) (.int .i64 (j : Nat))).run Tryd.prog w = .ok (.string x) w
  | 0, _ => ⟨{ data := #[118, 48] }, by decide, fun _ => by kernel_rfl⟩
  | 1, _ => ⟨{ data := #[122] }, by decide, fun _ => by kernel_rfl⟩
  | 2, _ => ⟨{ data := #[112] }, by decide, fun _ => by kernel_rfl⟩
  | 3, _ => ⟨{ data := #[116, 114, 117, 101] }, by decide, fun _ => by kernel_rfl⟩
  | 4, _ => ⟨{ data := #[48] }, by decide, fun _ => by kernel_rfl⟩
  | 5, _ => ⟨{ data := #[110, 105, 108] }, by decide, fun _ => by kernel_rfl⟩
  | 6, _ => ⟨{ data := #[34, 97, 34] }, by decide, fun _ => by kernel_rfl⟩
  | 7, _ => ⟨{ data := #[110, 101, 119, 40, 81, 41] }, by decide, fun _ => by kernel_rfl⟩
  | _ + 8, h => by omega

/-- What Bent's regions read: one of how, the hand's words. -/
def Bs (q : Addr) (y : Int) (W : World) : Prop := W.cell? q = some (.int .i64 y) ∧ Hand W
theorem Bs.kept {q : Addr} {y : Int} {W W' : World} (h : Bs q y W) (hu : Up W W') : Bs q y W' := ⟨(hu.cell (p := q) (World.block_lt_of_cell? W _ h.1) (fun h => h)).trans h.1, h.2.kept hu (fun h => h)⟩

set_option maxRecDepth 20000 in
set_option maxHeartbeats 8000000 in
theorem bent_any {w : World} {A : Option Addr} {rc : Nat} {raw : List Int} (h : IntsW w A rc raw) {A2 : Option Addr} {c2 : Nat} {how : List Int} (hh : IntsW w A2 c2 how) (hd : Hand w) :
    Calls Tryd.prog 9 #[.slice A raw.length rc, .slice A2 how.length c2] w fun e w' => ∃ s : ByteArray, e = .returned (.string s) ∧ s.size ≤ 1000001000 ∧ Up w w' := by
  have TX := Lib.hid (text_any h)
  have HH := Lib.hid hh
  have HD := Lib.hid hd
  have hle := hh.le
  have hbig := hh.big
  obtain ⟨n, hn⟩ : ∃ n, n = how.length := ⟨_, rfl⟩
  rw [← hn] at hle ⊢
  have HN := Lib.hid hn
  have hrl := h.le
  have hrb := h.big
  clear h hh hd hn
  go_enter Tryd.func9, Tryd.ntmps9
  go_wp2_with fail
  refine TX.out.mono ?_
  rintro e w1 ⟨s0, rfl, hs0, hu0⟩
  have I0 := Lib.hid (show Up w w1 ∧ s0.size ≤ 1000000000 + 20 * 0 from ⟨hu0, hs0⟩)
  clear hs0 hu0 TX
  go_wp2_with fail
  go_loopw [5, 6, 7] (fun s i _ wr => ∃ (k : Nat) (l : ByteArray), k ≤ n ∧ k ≤ 3 ∧ i = .int .i64 k ∧ s = .string l ∧ Hid (Up w wr ∧ l.size ≤ 1000000000 + 20 * k)) (fun _ i _ _ => n - (intOf i).toNat)
  case atStart => exact ⟨0, s0, Nat.zero_le _, Nat.zero_le _, rfl, rfl, I0⟩
  case round =>
    clear I0
    obtain ⟨k, l, hk, hk3, rfl, rfl, I⟩ := hrel
    by_cases h1 : k < n
    · by_cases h2 : k < 3
      · have h1i : (k : Int) < (n : Int) := by omega
        have h2i : (k : Int) < 3 := by omega
        have kw : IntKind.i64.wrap ((k : Int) + 1) = (k : Int) + 1 := IntWalk.i64_in _ (by omega)
        have HK := Lib.hid (And.intro h1 h2)
        by_cases h0 : l.size = 0
        · as_aux_lemma =>
          have e0 : ((l.size : Int) == 0) = true := by rw [h0]; rfl
          clear h0 h1 h2 hk hk3
          go_wp2_with fail
          go_ret
          exact ⟨l, rfl, by have := I.out.2; have := HK.out; omega, I.out.1⟩
        · have e0 : ((l.size : Int) == 0) = false := beq_eq_false_iff_ne.2 (by omega)
          obtain ⟨y, hy⟩ : ∃ y, how[k]? = some y := ⟨_, List.getElem?_eq_getElem (by rw [← HN.out]; exact h1)⟩
          obtain ⟨a, rfl, cx0⟩ := HH.out.at_ k y hy
          have cx : wr.cell? (a.add k) = some (.int .i64 y) := (I.out.1.cell (p := a.add k) (World.block_lt_of_cell? w _ cx0) (fun h => h)).trans cx0
          clear hy cx0
          obtain ⟨z50, hz50⟩ : ∃ z, IntKind.i64.wrap (y.tdiv 50) = z := ⟨_, rfl⟩
          obtain ⟨z7, hz7⟩ : ∃ z, IntKind.i64.wrap (y.tdiv 7) = z := ⟨_, rfl⟩
          obtain ⟨z5, hz5⟩ : ∃ z, IntKind.i64.wrap (y.tdiv 5) = z := ⟨_, rfl⟩
          obtain ⟨j, hj, hpj⟩ := pick_nat_big z50 l.size (by omega) (by have := I.out.2; omega)
          obtain ⟨i5, hi5, hp5⟩ := pick_nat_big y 5 (by decide) (by decide)
          have PJ := Lib.hid hpj
          have P5 := Lib.hid (show ∀ w, Calls Tryd.prog 5 #[.int .i64 y, .int .i64 5] w fun e w' => e = .returned (.int .i64 i5) ∧ w' = w from hp5)
          have HJ := Lib.hid (And.intro hj hi5)
          have BS := Lib.hid (show Bs (a.add k) y wr from ⟨cx, HD.out.kept I.out.1 (fun h => h)⟩)
          clear hpj hp5 hj hi5 h0 h1 h2 hk hk3
          go_wp2_with fail
          refine (PJ.out _).mono ?_
          rintro e wr ⟨rfl, rfl⟩
          go_wp2_with fail
          refine (P5.out _).mono ?_
          rintro e wr ⟨rfl, rfl⟩
          clear PJ P5
          have hjl := HJ.out.1
          have hls := I.out.2
          have hk3 := HK.out.2
          obtain ⟨s1, hs1⟩ : ∃ s1, l.extract 0 j = s1 := ⟨_, rfl⟩
          have z1 : s1.size ≤ l.size := by rw [← hs1, ByteArray.size_extract]; omega
          by_cases hc0 : i5 = 0
          · as_aux_lemma =>
            subst hc0
            obtain ⟨b, hb⟩ := u8_byte z7
            have jln : j ≤ l.size := by omega
            have jli : (j : Int) ≤ (l.size : Int) := by omega
            have jl0 : 0 ≤ (j : Int) + 1 := by omega
            have j1w : IntKind.i64.wrap ((j : Int) + 1) = (j : Int) + 1 := IntWalk.i64_in _ (by omega)
            have j1l : (j : Int) + 1 ≤ (l.size : Int) := by omega
            obtain ⟨s2, hs2⟩ : ∃ s2, l.extract (j + 1) l.size = s2 := ⟨_, rfl⟩
            have z2 : s2.size ≤ l.size - (j + 1) := by rw [← hs2, ByteArray.size_extract]; omega
            have z1' : s1.size ≤ j := by rw [← hs1, ByteArray.size_extract]; omega
            have zb : (bs [b]).size = 1 := by rw [bs_size]; rfl
            have q1 : s1.size + (bs [b]).size ≤ 9223372036854775807 := by omega
            have q1' : ¬ 9223372036854775807 < s1.size + (bs [b]).size := by omega
            obtain ⟨a1, ea1⟩ : ∃ c, s1 ++ (bs [b]) = c := ⟨_, rfl⟩
            have ha1 : a1.size ≤ j + 1 := cat_le ea1 z1' (Nat.le_of_eq zb)
            have q2 : a1.size + s2.size ≤ 9223372036854775807 := by omega
            have q2' : ¬ 9223372036854775807 < a1.size + s2.size := by omega
            obtain ⟨a2, ea2⟩ : ∃ c, a1 ++ s2 = c := ⟨_, rfl⟩
            have ha2 : a2.size ≤ j + 1 + (l.size - (j + 1)) := cat_le ea2 ha1 z2
            have q1s : ¬ 9223372036854775807 < s1.size + 1 := by omega
            have Z2 := Lib.hid (show a2.size ≤ l.size by omega)
            clear z1 z1' z2 ha1 ha2
            go_upto_region 11 with fail
            refine wp_region_held_drew (S := Bs (a.add k) y) (by kernel_rfl) (by exact BS.out.kept (Fr.drew (Fr.refl _ _))) (fun hHeld => ?_)
            have hw9 : Up wr wr.drew := Fr.drew (Fr.refl _ _)
            have UD := Lib.hid (Fr.trans I.out.1 hw9 (fun _ _ h => h))
            generalize wr.drew = wd at *
            have hcv := conv_1 wd (IntKind.u8.wrap z7) b hb
            rw [hb] at hcv
            have AU := Lib.hid ((Fr.refl (fun _ => False) wd).alloc (.cells #[.int .u8 (b.toNat : Int)] 5))
            refine held_take (i := 0) (d := some 55) (v := ?_) rfl rfl (by kernel_rfl) (by kernel_rfl) (by kernel_rfl) (fun _ _ _ h => h) (by rfl) ?_ (by assumption) ?_
            rotate_left 1
            focus (intro w hSw; (try dsimp only at hSw); go_simp; first | done | with_reducible rfl)
            simp only [Act.put, List.setIfInBounds_toArray, List.set_cons_zero, List.set_cons_succ]
            refine held_take (i := 1) (d := some 56) (v := ?_) rfl rfl (by kernel_rfl) (by kernel_rfl) (by kernel_rfl) (fun _ _ _ h => h) (by rfl) ?_ (by assumption) ?_
            rotate_left 1
            focus (intro w hSw; (try dsimp only at hSw); go_simp; first | done | with_reducible rfl)
            simp only [Act.put, List.setIfInBounds_toArray, List.set_cons_zero, List.set_cons_succ]
            refine held_take (i := 2) (d := some 57) (v := ?_) rfl rfl (by kernel_rfl) (by kernel_rfl) (by kernel_rfl) (fun _ _ _ h => h) (by rfl) ?_ (by assumption) ?_
            rotate_left 1
            focus (intro w hSw; (try dsimp only at hSw); go_simp; first | done | with_reducible rfl)
            simp only [Act.put, List.setIfInBounds_toArray, List.set_cons_zero, List.set_cons_succ]
            refine held_take (i := 3) (d := some 58) (v := ?_) rfl rfl (by kernel_rfl) (by kernel_rfl) (by kernel_rfl) (fun _ _ _ h => h) (by rfl) ?_ (by assumption) ?_
            rotate_left 1
            focus (intro w hSw; (try dsimp only at hSw); go_simp; first | done | with_reducible rfl)
            simp only [Act.put, List.setIfInBounds_toArray, List.set_cons_zero, List.set_cons_succ]
            refine held_take (i := 4) (d := some 59) (v := ?_) rfl rfl (by kernel_rfl) (by kernel_rfl) (by kernel_rfl) (fun _ _ _ h => h) (by rfl) ?_ (by assumption) ?_
            rotate_left 1
            focus (intro w hSw; (try dsimp only at hSw); go_simp; first | done | with_reducible rfl)
            simp only [Act.put, List.setIfInBounds_toArray, List.set_cons_zero, List.set_cons_succ]
            refine held_take (i := 5) (d := some 60) (v := ?_) rfl rfl (by kernel_rfl) (by kernel_rfl) (by kernel_rfl) (fun _ _ _ h => h) (by rfl) ?_ (by assumption) ?_
            rotate_left 1
            focus (intro w hSw; (try dsimp only at hSw); go_simp; first | done | with_reducible rfl)
            simp only [Act.put, List.setIfInBounds_toArray, List.set_cons_zero, List.set_cons_succ]
            refine held_take (i := 6) (d := some 61) (v := ?_) rfl rfl (by kernel_rfl) (by kernel_rfl) (by kernel_rfl) (fun _ _ _ h => h) (by rfl) ?_ (by assumption) ?_
            rotate_left 1
            focus (intro w hSw; have zz := hSw.1; (try dsimp only at hSw); go_simp; first | done | with_reducible rfl)
            simp only [Act.put, List.setIfInBounds_toArray, List.set_cons_zero, List.set_cons_succ]
            refine held_take (i := 7) (d := some 62) (v := ?_) rfl rfl (by kernel_rfl) (by kernel_rfl) (by kernel_rfl) (fun _ _ _ h => h) (by rfl) ?_ (by assumption) ?_
            rotate_left 1
            focus (intro w hSw; (try dsimp only at hSw); go_simp; first | done | with_reducible rfl)
            simp only [Act.put, List.setIfInBounds_toArray, List.set_cons_zero, List.set_cons_succ]
            refine held_take (i := 8) (d := some 63) (v := ?_) rfl rfl (by kernel_rfl) (by kernel_rfl) (by kernel_rfl) (fun _ _ _ h => h) (by rfl) ?_ (by assumption) ?_
            rotate_left 1
            focus (intro w hSw; (try dsimp only at hSw); go_simp; first | done | with_reducible rfl)
            simp only [Act.put, List.setIfInBounds_toArray, List.set_cons_zero, List.set_cons_succ]
            refine held_take (i := 12) (d := some 67) (v := ?_) rfl rfl (by kernel_rfl) (by kernel_rfl) (by kernel_rfl) (fun _ _ _ h => h) (by rfl) ?_ (by assumption) ?_
            rotate_left 1
            focus (intro w hSw; (try dsimp only at hSw); go_simp; first | done | with_reducible rfl)
            simp only [Act.put, List.setIfInBounds_toArray, List.set_cons_zero, List.set_cons_succ]
            refine held_take (i := 13) (d := some 68) (v := ?_) rfl rfl (by kernel_rfl) (by kernel_rfl) (by kernel_rfl) (fun _ _ _ h => h) (by rfl) ?_ (by assumption) ?_
            rotate_left 1
            focus (intro w hSw; (try dsimp only at hSw); go_simp; first | done | with_reducible rfl)
            simp only [Act.put, List.setIfInBounds_toArray, List.set_cons_zero, List.set_cons_succ]
            refine held_take (i := 14) (d := some 69) (v := ?_) rfl rfl (by kernel_rfl) (by kernel_rfl) (by kernel_rfl) (fun _ _ _ h => h) (by rfl) ?_ (by assumption) ?_
            rotate_left 1
            focus (intro w hSw; (try dsimp only at hSw); go_simp; first | done | with_reducible rfl)
            simp only [Act.put, List.setIfInBounds_toArray, List.set_cons_zero, List.set_cons_succ]
            refine held_take (i := 15) (d := some 70) (v := ?_) rfl rfl (by kernel_rfl) (by kernel_rfl) (by kernel_rfl) (fun _ _ _ h => h) (by rfl) ?_ (by assumption) ?_
            rotate_left 1
            focus (intro w hSw; (try dsimp only at hSw); go_simp; first | done | with_reducible rfl)
            simp only [Act.put, List.setIfInBounds_toArray, List.set_cons_zero, List.set_cons_succ]
            refine wpAnyH_ready (rs := [9]) (by kernel_rfl) (by simp) ?_
            refine AllReadyH.cons (o := _) rfl (fun K hK => ?_) AllReadyH.nil
            go_simp
            refine hK.out _ _ (by exact hHeld.kept AU.out) (fun hHeld => ?_)
            clear hK K
            refine wpAnyH_ready (rs := [10]) (by kernel_rfl) (by simp) ?_
            refine AllReadyH.cons (o := _) rfl (fun K hK => ?_) AllReadyH.nil
            go_simp
            refine hK.out _ _ (by exact hHeld) (fun hHeld => ?_)
            clear hK K
            refine held_take (i := 11) (d := some 66) (v := ?_) rfl rfl (by kernel_rfl) (by kernel_rfl) (by kernel_rfl) (fun _ _ _ h => h) (by rfl) ?_ (by assumption) ?_
            rotate_left 1
            focus (intro w hSw; (try dsimp only at hSw); go_simp; first | done | with_reducible rfl)
            simp only [Act.put, List.setIfInBounds_toArray, List.set_cons_zero, List.set_cons_succ]
            refine held_take (i := 16) (d := some 71) (v := ?_) rfl rfl (by kernel_rfl) (by kernel_rfl) (by kernel_rfl) (fun _ _ _ h => h) (by rfl) ?_ (by assumption) ?_
            rotate_left 1
            focus (intro w hSw; (try dsimp only at hSw); go_simp; first | done | with_reducible rfl)
            simp only [Act.put, List.setIfInBounds_toArray, List.set_cons_zero, List.set_cons_succ]
            refine held_take (i := 17) (d := some 5) (v := ?_) rfl rfl (by kernel_rfl) (by kernel_rfl) (by kernel_rfl) (fun _ _ _ h => h) (by rfl) ?_ (by assumption) ?_
            rotate_left 1
            focus (intro w hSw; (try dsimp only at hSw); go_simp; first | done | with_reducible rfl)
            simp only [Act.put, List.setIfInBounds_toArray, List.set_cons_zero, List.set_cons_succ]
            refine wpAnyH_done (by kernel_rfl) ?_ _
            have UZ := Lib.hid (Fr.trans UD.out AU.out (fun _ _ h => h))
            generalize wd.alloc _ = we at UZ ⊢
            clear hHeld hcv
            have zz2 := Z2.out
            go_wp2_with fail
            exact ⟨⟨k + 1, _, by have := HK.out; omega, by have := HK.out; omega, by simp, rfl, Lib.hid ⟨UZ.out, by have := HK.out; have := I.out.2; omega⟩⟩, by have := HK.out; simp [intOf]; omega⟩
          by_cases hc1 : i5 = 1
          · as_aux_lemma =>
            subst hc1
            obtain ⟨j4, hj4, hp4⟩ := pick_nat_big z5 44 (by decide) (by decide)
            obtain ⟨x4, hx4, cw⟩ := HD.out.word j4 hj4
            have sx4 := bs_size x4
            have CW := Lib.hid (show ∀ W, Bs (a.add k) y W → W.cell? ⟨0, j4, none⟩ = some (.string (bs x4)) from fun W hW => by
              have h9 := hW.2.words j4 (.string (bs x4)) (by
                have h8 := HD.out.words
                obtain ⟨x5, hx5⟩ : ∃ x5, handV[j4]? = some x5 := ⟨_, List.getElem?_eq_getElem (show j4 < handV.length from hj4)⟩
                have h7 := h8 j4 x5 hx5
                rw [Nat.zero_add, cw] at h7
                rw [hx5]; exact h7.symm)
              rwa [Nat.zero_add] at h9)
            have P4 := Lib.hid (show ∀ w, Calls Tryd.prog 5 #[.int .i64 z5, .int .i64 44] w fun e w' => e = .returned (.int .i64 j4) ∧ w' = w from hp4)
            have hj4i : (j4 : Int) < 44 := by omega
            have jl : (j : Int) ≤ (l.size : Int) := by omega
            obtain ⟨s2, hs2⟩ : ∃ s2, l.extract j l.size = s2 := ⟨_, rfl⟩
            have z2 : s2.size ≤ l.size - j := by rw [← hs2, ByteArray.size_extract]; omega
            have z1' : s1.size ≤ j := by rw [← hs1, ByteArray.size_extract]; omega
            have q1 : s1.size + 1 ≤ 9223372036854775807 := by omega
            have q1' : ¬ 9223372036854775807 < s1.size + 1 := by omega
            obtain ⟨a1, ea1⟩ : ∃ c, s1 ++ ({ data := #[32] } : ByteArray) = c := ⟨_, rfl⟩
            have ha1 : a1.size ≤ j + 1 := cat_le ea1 z1' (Nat.le_refl _)
            obtain ⟨t4, ht4⟩ : ∃ t4, bs x4 = t4 := ⟨_, rfl⟩
            rw [ht4] at CW sx4
            have zt : t4.size ≤ 9 := by omega
            have q2 : a1.size + t4.size ≤ 9223372036854775807 := by omega
            have q2' : ¬ 9223372036854775807 < a1.size + t4.size := by omega
            obtain ⟨a2, ea2⟩ : ∃ c, a1 ++ t4 = c := ⟨_, rfl⟩
            have ha2 : a2.size ≤ j + 1 + 9 := cat_le ea2 ha1 zt
            have q3 : a2.size + 1 ≤ 9223372036854775807 := by omega
            have q3' : ¬ 9223372036854775807 < a2.size + 1 := by omega
            obtain ⟨a3, ea3⟩ : ∃ c, a2 ++ ({ data := #[32] } : ByteArray) = c := ⟨_, rfl⟩
            have ha3 : a3.size ≤ j + 1 + 9 + 1 := cat_le ea3 ha2 (Nat.le_refl _)
            have q4 : a3.size + s2.size ≤ 9223372036854775807 := by omega
            have q4' : ¬ 9223372036854775807 < a3.size + s2.size := by omega
            obtain ⟨a4, ea4⟩ : ∃ c, a3 ++ s2 = c := ⟨_, rfl⟩
            have ha4 : a4.size ≤ j + 1 + 9 + 1 + (l.size - j) := cat_le ea4 ha3 z2
            have Z2 := Lib.hid (show a4.size ≤ l.size + 11 by omega)
            clear z1 z1' z2 ha1 ha2 ha3 ha4 hp4 cw hx4 sx4 zt ht4
            go_upto_region 13 with fail
            refine wp_region_held_drew (S := Bs (a.add k) y) (by kernel_rfl) (by exact BS.out.kept (Fr.drew (Fr.refl _ _))) (fun hHeld => ?_)
            have hw9 : Up wr wr.drew := Fr.drew (Fr.refl _ _)
            have UZ := Lib.hid (Fr.trans I.out.1 hw9 (fun _ _ h => h))
            generalize wr.drew = wd at *
            refine held_take (i := 0) (d := some 74) (v := ?_) rfl rfl (by kernel_rfl) (by kernel_rfl) (by kernel_rfl) (fun _ _ _ h => h) (by rfl) ?_ (by assumption) ?_
            rotate_left 1
            focus (intro w hSw; (try dsimp only at hSw); go_simp; first | done | with_reducible rfl)
            simp only [Act.put, List.setIfInBounds_toArray, List.set_cons_zero, List.set_cons_succ]
            refine held_take (i := 1) (d := some 75) (v := ?_) rfl rfl (by kernel_rfl) (by kernel_rfl) (by kernel_rfl) (fun _ _ _ h => h) (by rfl) ?_ (by assumption) ?_
            rotate_left 1
            focus (intro w hSw; (try dsimp only at hSw); go_simp; first | done | with_reducible rfl)
            simp only [Act.put, List.setIfInBounds_toArray, List.set_cons_zero, List.set_cons_succ]
            refine held_take (i := 2) (d := some 76) (v := ?_) rfl rfl (by kernel_rfl) (by kernel_rfl) (by kernel_rfl) (fun _ _ _ h => h) (by rfl) ?_ (by assumption) ?_
            rotate_left 1
            focus (intro w hSw; (try dsimp only at hSw); go_simp; first | done | with_reducible rfl)
            simp only [Act.put, List.setIfInBounds_toArray, List.set_cons_zero, List.set_cons_succ]
            refine held_take (i := 3) (d := some 77) (v := ?_) rfl rfl (by kernel_rfl) (by kernel_rfl) (by kernel_rfl) (fun _ _ _ h => h) (by rfl) ?_ (by assumption) ?_
            rotate_left 1
            focus (intro w hSw; (try dsimp only at hSw); go_simp; first | done | with_reducible rfl)
            simp only [Act.put, List.setIfInBounds_toArray, List.set_cons_zero, List.set_cons_succ]
            refine held_take (i := 4) (d := some 78) (v := ?_) rfl rfl (by kernel_rfl) (by kernel_rfl) (by kernel_rfl) (fun _ _ _ h => h) (by rfl) ?_ (by assumption) ?_
            rotate_left 1
            focus (intro w hSw; (try dsimp only at hSw); go_simp; first | done | with_reducible rfl)
            simp only [Act.put, List.setIfInBounds_toArray, List.set_cons_zero, List.set_cons_succ]
            refine held_take (i := 5) (d := some 79) (v := ?_) rfl rfl (by kernel_rfl) (by kernel_rfl) (by kernel_rfl) (fun _ _ _ h => h) (by rfl) ?_ (by assumption) ?_
            rotate_left 1
            focus (intro w hSw; (try dsimp only at hSw); go_simp; first | done | with_reducible rfl)
            simp only [Act.put, List.setIfInBounds_toArray, List.set_cons_zero, List.set_cons_succ]
            refine held_take (i := 6) (d := some 80) (v := ?_) rfl rfl (by kernel_rfl) (by kernel_rfl) (by kernel_rfl) (fun _ _ _ h => h) (by rfl) ?_ (by assumption) ?_
            rotate_left 1
            focus (intro w hSw; (try dsimp only at hSw); go_simp; first | done | with_reducible rfl)
            simp only [Act.put, List.setIfInBounds_toArray, List.set_cons_zero, List.set_cons_succ]
            refine held_take (i := 7) (d := some 81) (v := ?_) rfl rfl (by kernel_rfl) (by kernel_rfl) (by kernel_rfl) (fun _ _ _ h => h) (by rfl) ?_ (by assumption) ?_
            rotate_left 1
            focus (intro w hSw; have zz := hSw.1; (try dsimp only at hSw); go_simp; first | done | with_reducible rfl)
            simp only [Act.put, List.setIfInBounds_toArray, List.set_cons_zero, List.set_cons_succ]
            refine held_take (i := 8) (d := some 82) (v := ?_) rfl rfl (by kernel_rfl) (by kernel_rfl) (by kernel_rfl) (fun _ _ _ h => h) (by rfl) ?_ (by assumption) ?_
            rotate_left 1
            focus (intro w hSw; (try dsimp only at hSw); go_simp; first | done | with_reducible rfl)
            simp only [Act.put, List.setIfInBounds_toArray, List.set_cons_zero, List.set_cons_succ]
            refine held_take (i := 14) (d := some 88) (v := ?_) rfl rfl (by kernel_rfl) (by kernel_rfl) (by kernel_rfl) (fun _ _ _ h => h) (by rfl) ?_ (by assumption) ?_
            rotate_left 1
            focus (intro w hSw; (try dsimp only at hSw); go_simp; first | done | with_reducible rfl)
            simp only [Act.put, List.setIfInBounds_toArray, List.set_cons_zero, List.set_cons_succ]
            refine held_take (i := 15) (d := some 89) (v := ?_) rfl rfl (by kernel_rfl) (by kernel_rfl) (by kernel_rfl) (fun _ _ _ h => h) (by rfl) ?_ (by assumption) ?_
            rotate_left 1
            focus (intro w hSw; (try dsimp only at hSw); go_simp; first | done | with_reducible rfl)
            simp only [Act.put, List.setIfInBounds_toArray, List.set_cons_zero, List.set_cons_succ]
            refine held_take (i := 16) (d := some 90) (v := ?_) rfl rfl (by kernel_rfl) (by kernel_rfl) (by kernel_rfl) (fun _ _ _ h => h) (by rfl) ?_ (by assumption) ?_
            rotate_left 1
            focus (intro w hSw; (try dsimp only at hSw); go_simp; first | done | with_reducible rfl)
            simp only [Act.put, List.setIfInBounds_toArray, List.set_cons_zero, List.set_cons_succ]
            refine wpAnyH_ready (rs := [9]) (by kernel_rfl) (by simp) ?_
            refine AllReadyH.cons (o := _) rfl (fun K hK => ?_) AllReadyH.nil
            go_simp
            refine (P4.out _).mono ?_
            rintro e w' ⟨rfl, rfl⟩
            go_simp
            refine hK.out _ _ (by exact hHeld) (fun hHeld => ?_)
            clear hK K
            refine held_take (i := 10) (d := some 84) (v := ?_) rfl rfl (by kernel_rfl) (by kernel_rfl) (by kernel_rfl) (fun _ _ _ h => h) (by rfl) ?_ (by assumption) ?_
            rotate_left 1
            focus (intro w hSw; (try dsimp only at hSw); go_simp; first | done | with_reducible rfl)
            simp only [Act.put, List.setIfInBounds_toArray, List.set_cons_zero, List.set_cons_succ]
            refine held_take (i := 11) (d := some 85) (v := ?_) rfl rfl (by kernel_rfl) (by kernel_rfl) (by kernel_rfl) (fun _ _ _ h => h) (by rfl) ?_ (by assumption) ?_
            rotate_left 1
            focus (intro w hSw; have zz := CW.out _ hSw; (try dsimp only at hSw); go_simp; first | done | with_reducible rfl)
            simp only [Act.put, List.setIfInBounds_toArray, List.set_cons_zero, List.set_cons_succ]
            refine held_take (i := 12) (d := some 86) (v := ?_) rfl rfl (by kernel_rfl) (by kernel_rfl) (by kernel_rfl) (fun _ _ _ h => h) (by rfl) ?_ (by assumption) ?_
            rotate_left 1
            focus (intro w hSw; (try dsimp only at hSw); go_simp; first | done | with_reducible rfl)
            simp only [Act.put, List.setIfInBounds_toArray, List.set_cons_zero, List.set_cons_succ]
            refine held_take (i := 13) (d := some 87) (v := ?_) rfl rfl (by kernel_rfl) (by kernel_rfl) (by kernel_rfl) (fun _ _ _ h => h) (by rfl) ?_ (by assumption) ?_
            rotate_left 1
            focus (intro w hSw; (try dsimp only at hSw); go_simp; first | done | with_reducible rfl)
            simp only [Act.put, List.setIfInBounds_toArray, List.set_cons_zero, List.set_cons_succ]
            refine held_take (i := 17) (d := some 91) (v := ?_) rfl rfl (by kernel_rfl) (by kernel_rfl) (by kernel_rfl) (fun _ _ _ h => h) (by rfl) ?_ (by assumption) ?_
            rotate_left 1
            focus (intro w hSw; (try dsimp only at hSw); go_simp; first | done | with_reducible rfl)
            simp only [Act.put, List.setIfInBounds_toArray, List.set_cons_zero, List.set_cons_succ]
            refine held_take (i := 18) (d := some 5) (v := ?_) rfl rfl (by kernel_rfl) (by kernel_rfl) (by kernel_rfl) (fun _ _ _ h => h) (by rfl) ?_ (by assumption) ?_
            rotate_left 1
            focus (intro w hSw; (try dsimp only at hSw); go_simp; first | done | with_reducible rfl)
            simp only [Act.put, List.setIfInBounds_toArray, List.set_cons_zero, List.set_cons_succ]
            refine wpAnyH_done (by kernel_rfl) ?_ _
            clear hHeld
            have zz2 := Z2.out
            go_wp2_with fail
            exact ⟨⟨k + 1, _, by have := HK.out; omega, by have := HK.out; omega, by simp, rfl, Lib.hid ⟨UZ.out, by have := HK.out; have := I.out.2; omega⟩⟩, by have := HK.out; simp [intOf]; omega⟩
          by_cases hc2 : i5 = 2
          · as_aux_lemma =>
            subst hc2
            obtain ⟨j9, hj9, hp9⟩ := pick_nat_big z5 9 (by decide) (by decide)
            have P9 := Lib.hid (show ∀ w, Calls Tryd.prog 5 #[.int .i64 z5, .int .i64 9] w fun e w' => e = .returned (.int .i64 j9) ∧ w' = w from hp9)
            have j1w : IntKind.i64.wrap ((j : Int) + 1) = (j : Int) + 1 := IntWalk.i64_in _ (by omega)
            have j2w : IntKind.i64.wrap ((j : Int) + 1 + (j9 : Int)) = (j : Int) + 1 + (j9 : Int) := IntWalk.i64_in _ (by omega)
            obtain ⟨q, hq⟩ : ∃ q : Nat, min l.size (j + 1 + j9) = q := ⟨_, rfl⟩
            have ql : q ≤ l.size := by omega
            have qli : (q : Int) ≤ (l.size : Int) := by omega
            have jl : (j : Int) ≤ (l.size : Int) := by omega
            have hqi : (if (j : Int) + 1 + (j9 : Int) < (l.size : Int) then (j : Int) + 1 + (j9 : Int) else (l.size : Int)) = (q : Int) := by split <;> omega
            have hqj : j ≤ q := by omega
            obtain ⟨s2, hs2⟩ : ∃ s2, l.extract q l.size = s2 := ⟨_, rfl⟩
            have z2 : s2.size ≤ l.size - q := by rw [← hs2, ByteArray.size_extract]; omega
            have z1' : s1.size ≤ j := by rw [← hs1, ByteArray.size_extract]; omega
            have q1 : s1.size + s2.size ≤ 9223372036854775807 := by omega
            have q1' : ¬ 9223372036854775807 < s1.size + s2.size := by omega
            obtain ⟨a1, ea1⟩ : ∃ c, s1 ++ s2 = c := ⟨_, rfl⟩
            have ha1 : a1.size ≤ j + (l.size - q) := cat_le ea1 z1' z2
            have Z2 := Lib.hid (show a1.size ≤ l.size by omega)
            clear z1 z1' z2 ha1 hp9 hq hqj hj9
            go_upto_region 15 with fail
            refine wp_region_held_drew (S := Bs (a.add k) y) (by kernel_rfl) (by exact BS.out.kept (Fr.drew (Fr.refl _ _))) (fun hHeld => ?_)
            have hw9 : Up wr wr.drew := Fr.drew (Fr.refl _ _)
            have UZ := Lib.hid (Fr.trans I.out.1 hw9 (fun _ _ h => h))
            generalize wr.drew = wd at *
            refine held_take (i := 0) (d := some 94) (v := ?_) rfl rfl (by kernel_rfl) (by kernel_rfl) (by kernel_rfl) (fun _ _ _ h => h) (by rfl) ?_ (by assumption) ?_
            rotate_left 1
            focus (intro w hSw; (try dsimp only at hSw); go_simp; first | done | with_reducible rfl)
            simp only [Act.put, List.setIfInBounds_toArray, List.set_cons_zero, List.set_cons_succ]
            refine held_take (i := 1) (d := some 95) (v := ?_) rfl rfl (by kernel_rfl) (by kernel_rfl) (by kernel_rfl) (fun _ _ _ h => h) (by rfl) ?_ (by assumption) ?_
            rotate_left 1
            focus (intro w hSw; (try dsimp only at hSw); go_simp; first | done | with_reducible rfl)
            simp only [Act.put, List.setIfInBounds_toArray, List.set_cons_zero, List.set_cons_succ]
            refine held_take (i := 2) (d := some 96) (v := ?_) rfl rfl (by kernel_rfl) (by kernel_rfl) (by kernel_rfl) (fun _ _ _ h => h) (by rfl) ?_ (by assumption) ?_
            rotate_left 1
            focus (intro w hSw; (try dsimp only at hSw); go_simp; first | done | with_reducible rfl)
            simp only [Act.put, List.setIfInBounds_toArray, List.set_cons_zero, List.set_cons_succ]
            refine held_take (i := 3) (d := some 97) (v := ?_) rfl rfl (by kernel_rfl) (by kernel_rfl) (by kernel_rfl) (fun _ _ _ h => h) (by rfl) ?_ (by assumption) ?_
            rotate_left 1
            focus (intro w hSw; (try dsimp only at hSw); go_simp; first | done | with_reducible rfl)
            simp only [Act.put, List.setIfInBounds_toArray, List.set_cons_zero, List.set_cons_succ]
            refine held_take (i := 4) (d := some 98) (v := ?_) rfl rfl (by kernel_rfl) (by kernel_rfl) (by kernel_rfl) (fun _ _ _ h => h) (by rfl) ?_ (by assumption) ?_
            rotate_left 1
            focus (intro w hSw; (try dsimp only at hSw); go_simp; first | done | with_reducible rfl)
            simp only [Act.put, List.setIfInBounds_toArray, List.set_cons_zero, List.set_cons_succ]
            refine held_take (i := 5) (d := some 99) (v := ?_) rfl rfl (by kernel_rfl) (by kernel_rfl) (by kernel_rfl) (fun _ _ _ h => h) (by rfl) ?_ (by assumption) ?_
            rotate_left 1
            focus (intro w hSw; (try dsimp only at hSw); go_simp; first | done | with_reducible rfl)
            simp only [Act.put, List.setIfInBounds_toArray, List.set_cons_zero, List.set_cons_succ]
            refine held_take (i := 6) (d := some 100) (v := ?_) rfl rfl (by kernel_rfl) (by kernel_rfl) (by kernel_rfl) (fun _ _ _ h => h) (by rfl) ?_ (by assumption) ?_
            rotate_left 1
            focus (intro w hSw; (try dsimp only at hSw); go_simp; first | done | with_reducible rfl)
            simp only [Act.put, List.setIfInBounds_toArray, List.set_cons_zero, List.set_cons_succ]
            refine held_take (i := 7) (d := some 101) (v := ?_) rfl rfl (by kernel_rfl) (by kernel_rfl) (by kernel_rfl) (fun _ _ _ h => h) (by rfl) ?_ (by assumption) ?_
            rotate_left 1
            focus (intro w hSw; (try dsimp only at hSw); go_simp; first | done | with_reducible rfl)
            simp only [Act.put, List.setIfInBounds_toArray, List.set_cons_zero, List.set_cons_succ]
            refine held_take (i := 8) (d := some 102) (v := ?_) rfl rfl (by kernel_rfl) (by kernel_rfl) (by kernel_rfl) (fun _ _ _ h => h) (by rfl) ?_ (by assumption) ?_
            rotate_left 1
            focus (intro w hSw; (try dsimp only at hSw); go_simp; first | done | with_reducible rfl)
            simp only [Act.put, List.setIfInBounds_toArray, List.set_cons_zero, List.set_cons_succ]
            refine held_take (i := 9) (d := some 103) (v := ?_) rfl rfl (by kernel_rfl) (by kernel_rfl) (by kernel_rfl) (fun _ _ _ h => h) (by rfl) ?_ (by assumption) ?_
            rotate_left 1
            focus (intro w hSw; (try dsimp only at hSw); go_simp; first | done | with_reducible rfl)
            simp only [Act.put, List.setIfInBounds_toArray, List.set_cons_zero, List.set_cons_succ]
            refine held_take (i := 10) (d := some 104) (v := ?_) rfl rfl (by kernel_rfl) (by kernel_rfl) (by kernel_rfl) (fun _ _ _ h => h) (by rfl) ?_ (by assumption) ?_
            rotate_left 1
            focus (intro w hSw; (try dsimp only at hSw); go_simp; first | done | with_reducible rfl)
            simp only [Act.put, List.setIfInBounds_toArray, List.set_cons_zero, List.set_cons_succ]
            refine held_take (i := 11) (d := some 105) (v := ?_) rfl rfl (by kernel_rfl) (by kernel_rfl) (by kernel_rfl) (fun _ _ _ h => h) (by rfl) ?_ (by assumption) ?_
            rotate_left 1
            focus (intro w hSw; have zz := hSw.1; (try dsimp only at hSw); go_simp; first | done | with_reducible rfl)
            simp only [Act.put, List.setIfInBounds_toArray, List.set_cons_zero, List.set_cons_succ]
            refine held_take (i := 12) (d := some 106) (v := ?_) rfl rfl (by kernel_rfl) (by kernel_rfl) (by kernel_rfl) (fun _ _ _ h => h) (by rfl) ?_ (by assumption) ?_
            rotate_left 1
            focus (intro w hSw; (try dsimp only at hSw); go_simp; first | done | with_reducible rfl)
            simp only [Act.put, List.setIfInBounds_toArray, List.set_cons_zero, List.set_cons_succ]
            refine wpAnyH_ready (rs := [13]) (by kernel_rfl) (by simp) ?_
            refine AllReadyH.cons (o := _) rfl (fun K hK => ?_) AllReadyH.nil
            go_simp
            refine (P9.out _).mono ?_
            rintro e w' ⟨rfl, rfl⟩
            go_simp
            refine hK.out _ _ (by exact hHeld) (fun hHeld => ?_)
            clear hK K
            refine held_take (i := 14) (d := some 108) (v := ?_) rfl rfl (by kernel_rfl) (by kernel_rfl) (by kernel_rfl) (fun _ _ _ h => h) (by rfl) ?_ (by assumption) ?_
            rotate_left 1
            focus (intro w hSw; (try dsimp only at hSw); go_simp; first | done | with_reducible rfl)
            simp only [Act.put, List.setIfInBounds_toArray, List.set_cons_zero, List.set_cons_succ]
            refine wpAnyH_ready (rs := [15]) (by kernel_rfl) (by simp) ?_
            refine AllReadyH.cons (o := _) rfl (fun K hK => ?_) AllReadyH.nil
            go_simp
            (try simp only [hqi])
            refine hK.out _ _ (by exact hHeld) (fun hHeld => ?_)
            clear hK K
            refine held_take (i := 16) (d := some 110) (v := ?_) rfl rfl (by kernel_rfl) (by kernel_rfl) (by kernel_rfl) (fun _ _ _ h => h) (by rfl) ?_ (by assumption) ?_
            rotate_left 1
            focus (intro w hSw; (try dsimp only at hSw); go_simp; first | done | with_reducible rfl)
            simp only [Act.put, List.setIfInBounds_toArray, List.set_cons_zero, List.set_cons_succ]
            refine held_take (i := 17) (d := some 111) (v := ?_) rfl rfl (by kernel_rfl) (by kernel_rfl) (by kernel_rfl) (fun _ _ _ h => h) (by rfl) ?_ (by assumption) ?_
            rotate_left 1
            focus (intro w hSw; (try dsimp only at hSw); go_simp; first | done | with_reducible rfl)
            simp only [Act.put, List.setIfInBounds_toArray, List.set_cons_zero, List.set_cons_succ]
            refine held_take (i := 18) (d := some 5) (v := ?_) rfl rfl (by kernel_rfl) (by kernel_rfl) (by kernel_rfl) (fun _ _ _ h => h) (by rfl) ?_ (by assumption) ?_
            rotate_left 1
            focus (intro w hSw; (try dsimp only at hSw); go_simp; first | done | with_reducible rfl)
            simp only [Act.put, List.setIfInBounds_toArray, List.set_cons_zero, List.set_cons_succ]
            refine wpAnyH_done (by kernel_rfl) ?_ _
            clear hHeld
            have zz2 := Z2.out
            go_wp2_with fail
            exact ⟨⟨k + 1, _, by have := HK.out; omega, by have := HK.out; omega, by simp, rfl, Lib.hid ⟨UZ.out, by have := HK.out; have := I.out.2; omega⟩⟩, by have := HK.out; simp [intOf]; omega⟩
          by_cases hc3 : i5 = 3
          · as_aux_lemma =>
            subst hc3
            have jl : (j : Int) ≤ (l.size : Int) := by omega
            have Z1 := Lib.hid z1
            clear z1
            go_wp2_with fail
            have zz2 := Z1.out
            exact ⟨⟨k + 1, _, by have := HK.out; omega, by have := HK.out; omega, by simp, rfl, Lib.hid ⟨I.out.1, by have := HK.out; have := I.out.2; omega⟩⟩, by have := HK.out; simp [intOf]; omega⟩
          have g0 : ((i5 : Int) == 0) = false := beq_eq_false_iff_ne.2 (by omega)
          have g1 : ((i5 : Int) == 1) = false := beq_eq_false_iff_ne.2 (by omega)
          have g2 : ((i5 : Int) == 2) = false := beq_eq_false_iff_ne.2 (by omega)
          have g3 : ((i5 : Int) == 3) = false := beq_eq_false_iff_ne.2 (by omega)
          obtain ⟨j8, hj8, hp8⟩ := pick_nat_big z5 8 (by decide) (by decide)
          have P8 := Lib.hid (show ∀ w, Calls Tryd.prog 5 #[.int .i64 z5, .int .i64 8] w fun e w' => e = .returned (.int .i64 j8) ∧ w' = w from hp8)
          obtain ⟨x8, hx8, gi8⟩ := altIdx j8 hj8
          have hj8i : (j8 : Int) < 8 := by omega
          have jl : (j : Int) ≤ (l.size : Int) := by omega
          obtain ⟨s2, hs2⟩ : ∃ s2, l.extract j l.size = s2 := ⟨_, rfl⟩
          have z2 : s2.size ≤ l.size - j := by rw [← hs2, ByteArray.size_extract]; omega
          have z1' : s1.size ≤ j := by rw [← hs1, ByteArray.size_extract]; omega
          have q1 : s1.size + x8.size ≤ 9223372036854775807 := by omega
          have q1' : ¬ 9223372036854775807 < s1.size + x8.size := by omega
          obtain ⟨a1, ea1⟩ : ∃ c, s1 ++ x8 = c := ⟨_, rfl⟩
          have ha1 : a1.size ≤ j + 6 := cat_le ea1 z1' hx8
          have q2 : a1.size + s2.size ≤ 9223372036854775807 := by omega
          have q2' : ¬ 9223372036854775807 < a1.size + s2.size := by omega
          obtain ⟨a2, ea2⟩ : ∃ c, a1 ++ s2 = c := ⟨_, rfl⟩
          have ha2 : a2.size ≤ j + 6 + (l.size - j) := cat_le ea2 ha1 z2
          have Z2 := Lib.hid (show a2.size ≤ l.size + 6 by omega)
          clear z1 z1' z2 ha1 ha2 hp8 hx8 hj8
          go_upto_region 9 with fail
          refine wp_region_held_drew (S := Bs (a.add k) y) (by kernel_rfl) (by exact BS.out.kept (Fr.drew (Fr.refl _ _))) (fun hHeld => ?_)
          have hw9 : Up wr wr.drew := Fr.drew (Fr.refl _ _)
          have UZ := Lib.hid (Fr.trans I.out.1 hw9 (fun _ _ h => h))
          generalize wr.drew = wd at *
          refine held_take (i := 0) (d := some 37) (v := ?_) rfl rfl (by kernel_rfl) (by kernel_rfl) (by kernel_rfl) (fun _ _ _ h => h) (by rfl) ?_ (by assumption) ?_
          rotate_left 1
          focus (intro w hSw; (try dsimp only at hSw); go_simp; first | done | with_reducible rfl)
          simp only [Act.put, List.setIfInBounds_toArray, List.set_cons_zero, List.set_cons_succ]
          refine held_take (i := 1) (d := some 38) (v := ?_) rfl rfl (by kernel_rfl) (by kernel_rfl) (by kernel_rfl) (fun _ _ _ h => h) (by rfl) ?_ (by assumption) ?_
          rotate_left 1
          focus (intro w hSw; (try dsimp only at hSw); go_simp; first | done | with_reducible rfl)
          simp only [Act.put, List.setIfInBounds_toArray, List.set_cons_zero, List.set_cons_succ]
          refine held_take (i := 2) (d := some 39) (v := ?_) rfl rfl (by kernel_rfl) (by kernel_rfl) (by kernel_rfl) (fun _ _ _ h => h) (by rfl) ?_ (by assumption) ?_
          rotate_left 1
          focus (intro w hSw; (try dsimp only at hSw); go_simp; first | done | with_reducible rfl)
          simp only [Act.put, List.setIfInBounds_toArray, List.set_cons_zero, List.set_cons_succ]
          refine held_take (i := 3) (d := some 40) (v := .agg altA) rfl rfl (by kernel_rfl) (by kernel_rfl) (by kernel_rfl) (fun _ _ _ h => h) (by rfl) (fun w _ => exec_built 52 _ rfl altA (altB _)) (by assumption) ?_
          simp only [Act.put, List.setIfInBounds_toArray, List.set_cons_zero, List.set_cons_succ]
          refine held_take (i := 4) (d := some 41) (v := ?_) rfl rfl (by kernel_rfl) (by kernel_rfl) (by kernel_rfl) (fun _ _ _ h => h) (by rfl) ?_ (by assumption) ?_
          rotate_left 1
          focus (intro w hSw; (try dsimp only at hSw); go_simp; first | done | with_reducible rfl)
          simp only [Act.put, List.setIfInBounds_toArray, List.set_cons_zero, List.set_cons_succ]
          refine held_take (i := 5) (d := some 42) (v := ?_) rfl rfl (by kernel_rfl) (by kernel_rfl) (by kernel_rfl) (fun _ _ _ h => h) (by rfl) ?_ (by assumption) ?_
          rotate_left 1
          focus (intro w hSw; (try dsimp only at hSw); go_simp; first | done | with_reducible rfl)
          simp only [Act.put, List.setIfInBounds_toArray, List.set_cons_zero, List.set_cons_succ]
          refine held_take (i := 6) (d := some 43) (v := ?_) rfl rfl (by kernel_rfl) (by kernel_rfl) (by kernel_rfl) (fun _ _ _ h => h) (by rfl) ?_ (by assumption) ?_
          rotate_left 1
          focus (intro w hSw; (try dsimp only at hSw); go_simp; first | done | with_reducible rfl)
          simp only [Act.put, List.setIfInBounds_toArray, List.set_cons_zero, List.set_cons_succ]
          refine held_take (i := 7) (d := some 44) (v := ?_) rfl rfl (by kernel_rfl) (by kernel_rfl) (by kernel_rfl) (fun _ _ _ h => h) (by rfl) ?_ (by assumption) ?_
          rotate_left 1
          focus (intro w hSw; have zz := hSw.1; (try dsimp only at hSw); go_simp; first | done | with_reducible rfl)
          simp only [Act.put, List.setIfInBounds_toArray, List.set_cons_zero, List.set_cons_succ]
          refine held_take (i := 8) (d := some 45) (v := ?_) rfl rfl (by kernel_rfl) (by kernel_rfl) (by kernel_rfl) (fun _ _ _ h => h) (by rfl) ?_ (by assumption) ?_
          rotate_left 1
          focus (intro w hSw; (try dsimp only at hSw); go_simp; first | done | with_reducible rfl)
          simp only [Act.put, List.setIfInBounds_toArray, List.set_cons_zero, List.set_cons_succ]
          refine held_take (i := 12) (d := some 49) (v := ?_) rfl rfl (by kernel_rfl) (by kernel_rfl) (by kernel_rfl) (fun _ _ _ h => h) (by rfl) ?_ (by assumption) ?_
          rotate_left 1
          focus (intro w hSw; (try dsimp only at hSw); go_simp; first | done | with_reducible rfl)
          simp only [Act.put, List.setIfInBounds_toArray, List.set_cons_zero, List.set_cons_succ]
          refine held_take (i := 13) (d := some 50) (v := ?_) rfl rfl (by kernel_rfl) (by kernel_rfl) (by kernel_rfl) (fun _ _ _ h => h) (by rfl) ?_ (by assumption) ?_
          rotate_left 1
          focus (intro w hSw; (try dsimp only at hSw); go_simp; first | done | with_reducible rfl)
          simp only [Act.put, List.setIfInBounds_toArray, List.set_cons_zero, List.set_cons_succ]
          refine held_take (i := 14) (d := some 51) (v := ?_) rfl rfl (by kernel_rfl) (by kernel_rfl) (by kernel_rfl) (fun _ _ _ h => h) (by rfl) ?_ (by assumption) ?_
          rotate_left 1
          focus (intro w hSw; (try dsimp only at hSw); go_simp; first | done | with_reducible rfl)
          simp only [Act.put, List.setIfInBounds_toArray, List.set_cons_zero, List.set_cons_succ]
          refine wpAnyH_ready (rs := [9]) (by kernel_rfl) (by simp) ?_
          refine AllReadyH.cons (o := _) rfl (fun K hK => ?_) AllReadyH.nil
          go_simp
          refine (P8.out _).mono ?_
          rintro e w' ⟨rfl, rfl⟩
          go_simp
          refine hK.out _ _ (by exact hHeld) (fun hHeld => ?_)
          clear hK K
          refine held_take (i := 10) (d := some 47) (v := ?_) rfl rfl (by kernel_rfl) (by kernel_rfl) (by kernel_rfl) (fun _ _ _ h => h) (by rfl) ?_ (by assumption) ?_
          rotate_left 1
          focus (intro w hSw; (try dsimp only at hSw); go_simp; first | done | with_reducible rfl)
          simp only [Act.put, List.setIfInBounds_toArray, List.set_cons_zero, List.set_cons_succ]
          refine held_take (i := 11) (d := some 48) (v := ?_) rfl rfl (by kernel_rfl) (by kernel_rfl) (by kernel_rfl) (fun _ _ _ h => h) (by rfl) ?_ (by assumption) ?_
          rotate_left 1
          focus (intro w hSw; (try dsimp only at hSw); go_simp; first | done | with_reducible rfl)
          simp only [Act.put, List.setIfInBounds_toArray, List.set_cons_zero, List.set_cons_succ]
          refine held_take (i := 15) (d := some 52) (v := ?_) rfl rfl (by kernel_rfl) (by kernel_rfl) (by kernel_rfl) (fun _ _ _ h => h) (by rfl) ?_ (by assumption) ?_
          rotate_left 1
          focus (intro w hSw; (try dsimp only at hSw); go_simp; first | done | with_reducible rfl)
          simp only [Act.put, List.setIfInBounds_toArray, List.set_cons_zero, List.set_cons_succ]
          refine held_take (i := 16) (d := some 5) (v := ?_) rfl rfl (by kernel_rfl) (by kernel_rfl) (by kernel_rfl) (fun _ _ _ h => h) (by rfl) ?_ (by assumption) ?_
          rotate_left 1
          focus (intro w hSw; (try dsimp only at hSw); go_simp; first | done | with_reducible rfl)
          simp only [Act.put, List.setIfInBounds_toArray, List.set_cons_zero, List.set_cons_succ]
          refine wpAnyH_done (by kernel_rfl) ?_ _
          clear hHeld
          have zz2 := Z2.out
          go_wp2_with fail
          exact ⟨⟨k + 1, _, by have := HK.out; omega, by have := HK.out; omega, by simp, rfl, Lib.hid ⟨UZ.out, by have := HK.out; have := I.out.2; omega⟩⟩, by have := HK.out; simp [intOf]; omega⟩
      · have h1i : (k : Int) < (n : Int) := by omega
        have h2i : ¬ (k : Int) < 3 := by omega
        clear h1 h2 hk
        go_wp2_with fail
        go_ret
        exact ⟨l, rfl, by have := I.out.2; omega, I.out.1⟩
    · have h1i : ¬ (k : Int) < (n : Int) := by omega
      clear h1 hk
      go_wp2_with fail
      go_ret
      exact ⟨l, rfl, by have := I.out.2; omega, I.out.1⟩
end Go.Proofs.YtemmdbjcllcelaaDoor.Tk
