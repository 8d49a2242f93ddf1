/-
  The law TokenKnown: the walk.
-/
import Derived.Test.YtjocekkoahfkjaaDoorTkU
import Derived.Laws.OwnMore
namespace Go.Proofs.YtjocekkoahfkjaaDoor
open Go.RowKit

theorem lex5 : LexAll [34, 92, 110, 92, 34, 34, 32, 97, 10, 59, 32, 102, 111, 114] (.ok [⟨5, [10, 34], 0, 1, 1⟩, ⟨2, [97], 0, 1, 8⟩, ⟨1, [59], 0, 1, 9⟩, ⟨1, [59], 0, 2, 1⟩, ⟨3, [102, 111, 114], 0, 2, 3⟩, ⟨0, [], 0, 2, 6⟩]) := LexAll.run 20 (by decide) (by kernel_rfl)
theorem lex7 : LexAll [] (.ok [⟨0, [], 0, 1, 1⟩]) := LexAll.run 5 (by decide) (by kernel_rfl)

theorem made_long : ∃ M : Array Value, (∀ w, (Instr.makeSlice 28 (.int .i64 16385) (.int .i64 16385)).run Tryd.prog w = .ok (.slice (some ⟨w.heap.size, 0, none⟩) 16385 16385) (w.alloc (.cells M 5))) ∧ ∀ i, i < 16385 → M[i]? = some (.int .u8 0) := by
  obtain ⟨i, hi, hz, hz1, hz2⟩ := info_u8
  refine ⟨madeCells #[.int .u8 0] 16385, fun w => ?_, fun i hi => ?_⟩
  · have := run_makeSlice (P := Tryd.prog) w 28 5 i _ Tryd.underlying28 hi hz .i64 .i64 16385 16385 (by decide) (by decide) (by rw [hz1]; decide) (by rw [hz2]; decide) (by decide)
    rw [hz1] at this
    exact this
  · rw [← Array.getElem?_toList, toList_madeCells_one, List.getElem?_replicate, if_pos hi]

theorem conv_long {w : World} {q : Nat} {M : Array Value} {l : List UInt8} (hl : l.length = 16385) (h0 : ∀ (i : Nat) (h : i < l.length), l[i] = 0) (hb : w.heap[q]? = some (.cells M 5 (0, 0))) (hM : ∀ i, i < 16385 → M[i]? = some (.int .u8 0)) :
    (convert 28 9 (.slice (some ⟨q, 0, none⟩) 16385 16385)).run Tryd.prog w = .ok (.string (bs l)) w := by
  have hs : (bs l).size = 16385 := by rw [bs_size, hl]
  have := Lib.run_convert_whole (P := Tryd.prog) w 28 5 9 Tryd.underlying28 Tryd.underlying5 Tryd.underlying9 q 0 (bs l) (fun i hi => by
    rw [cell_of_row _ _ _ _ _ _ hb, Nat.zero_add, hM i (by rw [hs] at hi; exact hi), bs_get _ i hi, h0 i (by rw [bs_size] at hi; exact hi)]
    rfl) 16385
  rw [hs] at this
  exact this

theorem long_text : ∃ (M : Array Value) (T6 : List UInt8), (∀ w, (Instr.makeSlice 28 (.int .i64 16385) (.int .i64 16385)).run Tryd.prog w = .ok (.slice (some ⟨w.heap.size, 0, none⟩) 16385 16385) (w.alloc (.cells M 5))) ∧ LexAll T6 (.bad 1 1 6) ∧
    ∀ (w : World) (q : Nat), w.heap[q]? = some (.cells M 5 (0, 0)) → (convert 28 9 (.slice (some ⟨q, 0, none⟩) 16385 16385)).run Tryd.prog w = .ok (.string (bs T6)) w := by
  obtain ⟨M, hmk, hM⟩ := made_long
  obtain ⟨l, hl, h0⟩ : ∃ l : List UInt8, l.length = 16385 ∧ ∀ (i : Nat) (h : i < l.length), l[i] = 0 := ⟨List.replicate 16385 0, List.length_replicate, fun i h => List.getElem_replicate h⟩
  exact ⟨M, l, hmk, by unfold LexAll; rw [if_pos (by rw [hl]; decide)], fun w q h => conv_long hl h0 h hM⟩

set_option maxRecDepth 10000 in
set_option maxHeartbeats 4000000 in
theorem tokenKnown_any {w : World} (L : Laid w) (hw : 3 ≤ w.heap.size) : Calls Tryd.prog 3 #[] w fun e w' => e = .returned (.bool true) ∧ Up w w' := by
  have LL := Lib.hid L
  clear L
  go_enter Tryd.func3, Tryd.ntmps3
  go_wp2_with fail
  refine (all_ok lex5 LL.out hw).mono ?_
  rintro e w1 ⟨u1, A, c, rfl, hp⟩
  obtain ⟨b, o, cs0, rfl, _, hb, rfl, _, x0⟩ := hp.elem (k := 0) (by decide)
  obtain ⟨_, _, cs1, e1, _, _, rfl, _, x2⟩ := hp.elem (k := 2) (by decide)
  cases e1
  obtain ⟨_, _, cs1, e1, _, _, rfl, _, x3⟩ := hp.elem (k := 3) (by decide)
  cases e1
  obtain ⟨_, _, cs1, e1, _, _, rfl, _, x4⟩ := hp.elem (k := 4) (by decide)
  cases e1
  have X := Lib.hid (show w1.cell? ⟨b, o, none⟩ = some (.int .i64 5) ∧ w1.cell? ⟨b, o + 1, none⟩ = some (.string (bs [10, 34])) ∧ w1.cell? ⟨b, o + 10, none⟩ = some (.int .i64 1) ∧ w1.cell? ⟨b, o + 13, none⟩ = some (.int .i64 1) ∧
      w1.cell? ⟨b, o + 18, none⟩ = some (.int .i64 2) ∧ w1.cell? ⟨b, o + 20, none⟩ = some (.int .i64 3) from ⟨x0 0 _ rfl, x0 1 _ rfl, x2 0 _ rfl, x2 3 _ rfl, x3 3 _ rfl, x4 0 _ rfl⟩)
  clear x0 x2 x3 x4 hp
  have U1 := Lib.hid (show Up w (w1.alloc (tokO 0 0)) from u1.alloc _)
  have UX := Lib.hid (show Up w1 (w1.alloc (tokO 0 0)) from (Fr.refl _ _).alloc _)
  have HB := Lib.hid hb
  clear u1 hb
  unfold tokA
  obtain ⟨M, T6, hmk, hl6, hcv⟩ := long_text
  have U2 := Lib.hid (show Up w ((w1.alloc (.cells #[.int .i64 0, .string (bs []), .int .i64 0, .int .i64 0, .int .i64 0] 24)).alloc (.cells M 5)) from U1.out.alloc _)
  have UX := Lib.hid (show Up w1 ((w1.alloc (.cells #[.int .i64 0, .string (bs []), .int .i64 0, .int .i64 0, .int .i64 0] 24)).alloc (.cells M 5)) from UX.out.alloc _)
  have CL : (convert 28 9 (.slice (some ⟨w1.heap.size + 1, 0, none⟩) 16385 16385)).run Tryd.prog ((w1.alloc (.cells #[.int .i64 0, .string (bs []), .int .i64 0, .int .i64 0, .int .i64 0] 24)).alloc (.cells M 5)) = .ok (.string (bs T6)) ((w1.alloc (.cells #[.int .i64 0, .string (bs []), .int .i64 0, .int .i64 0, .int .i64 0] 24)).alloc (.cells M 5)) :=
    hcv _ _ (by have := heap_alloc_new (w1.alloc (.cells #[.int .i64 0, .string (bs []), .int .i64 0, .int .i64 0, .int .i64 0] 24)) (.cells M 5); rwa [World.size_alloc] at this)
  have LX6 := Lib.hid hl6
  clear hl6 hcv
  go_wp2_with fail
  refine (all_bad LX6.out (LL.out.kept U2.out (fun h => h) (fun h => h)) (Nat.le_trans hw U2.out.size)).mono ?_
  rintro e w3 ⟨u3, rfl⟩
  have U3 := Lib.hid (show Up w (w3.alloc (.cells #[.int .i64 0, .string (bs []), .int .i64 0, .int .i64 1, .int .i64 1] 24)) from (Fr.trans U2.out u3 (fun _ _ e => e)).alloc _)
  have UX := Lib.hid (show Up w1 (w3.alloc (.cells #[.int .i64 0, .string (bs []), .int .i64 0, .int .i64 1, .int .i64 1] 24)) from (Fr.trans UX.out u3 (fun _ _ e => e)).alloc _)
  have Z3 := Lib.hid (cells5 (heap_alloc_new w3 (.cells #[.int .i64 0, .string (bs []), .int .i64 0, .int .i64 1, .int .i64 1] 24)))
  have ZL := Lib.hid (show w3.heap.size < (w3.alloc (.cells #[.int .i64 0, .string (bs []), .int .i64 0, .int .i64 1, .int .i64 1] 24)).heap.size by simp)
  clear u3 CL hmk
  unfold tokA
  go_wp2_with fail
  change Calls _ _ _ (w3.alloc (.cells #[.int .i64 0, .string (bs []), .int .i64 0, .int .i64 1, .int .i64 1] 24)) _
  refine (all_ok lex7 (LL.out.kept U3.out (fun h => h) (fun h => h)) (Nat.le_trans hw U3.out.size)).mono ?_
  rintro e w4 ⟨u4, A4, c4, rfl, hp4⟩
  have U4 := Lib.hid (show Up w (w4.alloc (.cells #[.int .i64 0, .string (bs []), .int .i64 0, .int .i64 0, .int .i64 0] 24)) from (Fr.trans U3.out u4 (fun _ _ e => e)).alloc _)
  have U34 := Lib.hid (show Up (w3.alloc (.cells #[.int .i64 0, .string (bs []), .int .i64 0, .int .i64 1, .int .i64 1] 24)) (w4.alloc (.cells #[.int .i64 0, .string (bs []), .int .i64 0, .int .i64 0, .int .i64 0] 24)) from u4.alloc _)
  have UX := Lib.hid (show Up w1 (w4.alloc (.cells #[.int .i64 0, .string (bs []), .int .i64 0, .int .i64 0, .int .i64 0] 24)) from (Fr.trans UX.out u4 (fun _ _ e => e)).alloc _)
  clear u4 hp4
  unfold tokA
  go_wp2_with fail
  change Calls _ _ _ (w4.alloc (.cells #[.int .i64 0, .string (bs []), .int .i64 0, .int .i64 0, .int .i64 0] 24)) _
  refine (known_any (LL.out.kept U4.out (fun h => h) (fun h => h)) (Nat.le_trans hw U4.out.size)).mono ?_
  rintro e w5 ⟨rfl, u5⟩
  have U5 := Lib.hid (Fr.trans U4.out u5 (fun _ _ e => e))
  have UX := Lib.hid (Fr.trans UX.out u5 (fun _ _ e => e))
  have U35 := Lib.hid (Fr.trans U34.out u5 (fun _ _ e => e))
  clear u5
  obtain ⟨x0, x1, x2, x3, x4, x5⟩ := X.out
  have y0 := (UX.out.cell (p := ⟨b, o, none⟩) HB.out (fun h => h)).trans x0
  have y1 := (UX.out.cell (p := ⟨b, o + 1, none⟩) HB.out (fun h => h)).trans x1
  have y2 := (UX.out.cell (p := ⟨b, o + 10, none⟩) HB.out (fun h => h)).trans x2
  have y3 := (UX.out.cell (p := ⟨b, o + 13, none⟩) HB.out (fun h => h)).trans x3
  have y4 := (UX.out.cell (p := ⟨b, o + 18, none⟩) HB.out (fun h => h)).trans x4
  have y5 := (UX.out.cell (p := ⟨b, o + 20, none⟩) HB.out (fun h => h)).trans x5
  have y6 := (U35.out.cell (p := ⟨w3.heap.size, 3, none⟩) ZL.out (fun h => h)).trans Z3.out.2.2.2.1
  clear x0 x1 x2 x3 x4 x5
  have ee : ((bs [10, 34]).toList == [10, 34]) = true := by rw [bs_list]; rfl
  have L5 := Lib.hid (LL.out.kept U5.out (fun h => h) (fun h => h))
  go_wp2_with fail
  refine (isWord_any L5.out [110, 105, 108]).mono ?_
  rintro e w6 ⟨rfl, rfl⟩
  rw [show isWord [110, 105, 108] = true from rfl]
  go_wp2_with fail
  refine (isWord_any L5.out [78, 105, 108]).mono ?_
  rintro e w6 ⟨rfl, rfl⟩
  rw [show isWord [78, 105, 108] = false from rfl]
  go_wp2_with fail
  refine (isName_any L5.out [95, 97, 49] (by decide)).mono ?_
  rintro e w6 ⟨rfl, rfl⟩
  rw [show isName [95, 97, 49] = true from rfl]
  go_wp2_with fail
  refine (isName_any L5.out [49, 97] (by decide)).mono ?_
  rintro e w6 ⟨rfl, rfl⟩
  rw [show isName [49, 97] = false from rfl]
  go_wp2_with fail
  refine (isName_any L5.out [102, 111, 114] (by decide)).mono ?_
  rintro e w6 ⟨rfl, rfl⟩
  rw [show isName [102, 111, 114] = false from rfl]
  go_wp2_with fail
  refine (isName_any L5.out [] (by decide)).mono ?_
  rintro e w6 ⟨rfl, rfl⟩
  rw [show isName [] = false from rfl]
  go_wp2_with fail
  go_ret
  exact ⟨rfl, U5.out⟩
end Go.Proofs.YtjocekkoahfkjaaDoor
