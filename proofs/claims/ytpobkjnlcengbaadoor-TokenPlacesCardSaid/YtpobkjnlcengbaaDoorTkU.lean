/-
  The law's own 'known'.
-/
import Derived.Test.YtpobkjnlcengbaaDoorTkT
namespace Go.Proofs.YtpobkjnlcengbaaDoor
open Go.RowKit

theorem LexAll.det {T : List UInt8} {r r' : Res} (h : LexAll T r) (h' : LexAll T r') : r = r' := by
  unfold LexAll at h h'
  split at h
  · rw [if_pos (by assumption)] at h'; exact h.trans h'.symm
  · rw [if_neg (by assumption)] at h'; exact h.det h'
theorem LexAll.run {T : List UInt8} {r : Res} (n : Nat) (hl : T.length ≤ 16384) (h : runN n ⟨T, 1, 1, []⟩ = some r) : LexAll T r := by
  unfold LexAll; rw [if_neg (by omega)]; exact ⟨n, h⟩

theorem all_ok {w : World} {T : List UInt8} {outs : List Tok} (h : LexAll T (.ok outs)) (L : Laid w) (hw : 3 ≤ w.heap.size) :
    Calls Tryd.prog 12 #[.string (bs T)] w fun e w' => Up w w' ∧ ∃ A c, e = .returned (.tuple #[.slice A outs.length c, tokA 0 [] 0 0 0, .int .i64 0]) ∧ SlP w' (fun b => w.heap.size + 1 ≤ b) 5 TokC A c outs :=
  (all_any T L hw).mono fun e w' ⟨u, R, hR, hr⟩ => by
    obtain rfl := hR.det h
    obtain ⟨v, he, ho⟩ := hr
    obtain ⟨A, c, rfl, hp⟩ := ho.reads.parts
    exact ⟨u, A, c, he, hp.kept (Fr.refl (fun _ => False) w') (fun _ _ h => h) (fun b hb => hb.1) (fun _ _ _ h => h)⟩
theorem all_bad {w : World} {T : List UInt8} {line col c : Nat} (h : LexAll T (.bad line col c)) (L : Laid w) (hw : 3 ≤ w.heap.size) :
    Calls Tryd.prog 12 #[.string (bs T)] w fun e w' => Up w w' ∧ e = .returned (.tuple #[.slice none 0 0, tokA 0 [] 0 line col, .int .i64 c]) :=
  (all_any T L hw).mono fun e w' ⟨u, R, hR, hr⟩ => by
    obtain rfl := hR.det h
    exact ⟨u, hr.2⟩

theorem lex1 : LexAll [120, 32, 58, 61, 32, 53, 32, 47, 47, 32, 97] (.ok [⟨2, [120], 0, 1, 1⟩, ⟨6, [58, 61], 0, 1, 3⟩, ⟨4, [53], 5, 1, 6⟩, ⟨1, [59], 0, 1, 12⟩, ⟨0, [], 0, 1, 12⟩]) := LexAll.run 20 (by decide) (by kernel_rfl)
theorem lex2 : LexAll [34, 97, 92, 113, 34] (.bad 1 1 11) := LexAll.run 5 (by decide) (by kernel_rfl)
theorem lex3 : LexAll [57, 50, 50, 51, 51, 55, 50, 48, 51, 54, 56, 53, 52, 55, 55, 53, 56, 48, 56] (.bad 1 1 12) := LexAll.run 5 (by decide) (by kernel_rfl)
theorem lex4 : LexAll [64] (.bad 1 1 10) := LexAll.run 5 (by decide) (by kernel_rfl)

abbrev tokO (line col : Nat) : Obj := .cells #[.int .i64 0, .string (bs []), .int .i64 0, .int .i64 line, .int .i64 col] 24

set_option maxRecDepth 10000 in
set_option maxHeartbeats 4000000 in
theorem known_any {w : World} (L : Laid w) (hw : 3 ≤ w.heap.size) : Calls Tryd.prog 13 #[] w fun e w' => e = .returned (.bool true) ∧ Up w w' := by
  have LL := Lib.hid L
  clear L
  go_enter Tryd.func13, Tryd.ntmps13
  go_wp2_with fail
  refine (all_ok lex1 LL.out hw).mono ?_
  rintro e w1 ⟨u1, A, c, rfl, hp⟩
  obtain ⟨b, o, cs0, rfl, _, hb, rfl, _, x0⟩ := hp.elem (k := 0) (by decide)
  obtain ⟨_, _, cs1, e1, _, _, rfl, _, x1⟩ := hp.elem (k := 1) (by decide)
  cases e1
  obtain ⟨_, _, cs1, e1, _, _, rfl, _, x2⟩ := hp.elem (k := 2) (by decide)
  cases e1
  obtain ⟨_, _, cs1, e1, _, _, rfl, _, x3⟩ := hp.elem (k := 3) (by decide)
  cases e1
  obtain ⟨_, _, cs1, e1, _, _, rfl, _, x4⟩ := hp.elem (k := 4) (by decide)
  cases e1
  have X := Lib.hid (show w1.cell? ⟨b, o, none⟩ = some (.int .i64 2) ∧ w1.cell? ⟨b, o + 6, none⟩ = some (.string (bs [58, 61])) ∧ w1.cell? ⟨b, o + 12, none⟩ = some (.int .i64 5) ∧ w1.cell? ⟨b, o + 15, none⟩ = some (.int .i64 1) ∧
      w1.cell? ⟨b, o + 19, none⟩ = some (.int .i64 12) ∧ w1.cell? ⟨b, o + 20, none⟩ = some (.int .i64 0) from ⟨x0 0 _ rfl, x1 1 _ rfl, x2 2 _ rfl, x3 0 _ rfl, x3 4 _ rfl, x4 0 _ rfl⟩)
  clear x0 x1 x2 x3 x4 hp
  have U1 := Lib.hid (show Up w (w1.alloc (tokO 0 0)) from u1.alloc _)
  have UX := Lib.hid (show Up w1 (w1.alloc (tokO 0 0)) from (Fr.refl _ _).alloc _)
  have HB := Lib.hid hb
  clear u1 hb
  unfold tokA
  go_wp2_with fail
  change Calls _ _ _ (w1.alloc (tokO 0 0)) _
  refine (all_bad lex2 (LL.out.kept U1.out (fun h => h) (fun h => h)) (Nat.le_trans hw U1.out.size)).mono ?_
  rintro e w2 ⟨u2, rfl⟩
  have U2 := Lib.hid (show Up w (w2.alloc (tokO 1 1)) from (Fr.trans U1.out u2 (fun _ _ e => e)).alloc _)
  have UX := Lib.hid (show Up w1 (w2.alloc (tokO 1 1)) from (Fr.trans UX.out u2 (fun _ _ e => e)).alloc _)
  clear u2
  unfold tokA
  go_wp2_with fail
  change Calls _ _ _ (w2.alloc (tokO 1 1)) _
  refine (all_bad lex3 (LL.out.kept U2.out (fun h => h) (fun h => h)) (Nat.le_trans hw U2.out.size)).mono ?_
  rintro e w3 ⟨u3, rfl⟩
  have U3 := Lib.hid (show Up w (w3.alloc (tokO 1 1)) from (Fr.trans U2.out u3 (fun _ _ e => e)).alloc _)
  have UX := Lib.hid (show Up w1 (w3.alloc (tokO 1 1)) from (Fr.trans UX.out u3 (fun _ _ e => e)).alloc _)
  clear u3
  unfold tokA
  go_wp2_with fail
  change Calls _ _ _ (w3.alloc (tokO 1 1)) _
  refine (all_bad lex4 (LL.out.kept U3.out (fun h => h) (fun h => h)) (Nat.le_trans hw U3.out.size)).mono ?_
  rintro e w4 ⟨u4, rfl⟩
  have U4 := Lib.hid (show Up w (w4.alloc (tokO 1 1)) from (Fr.trans U3.out u4 (fun _ _ e => e)).alloc _)
  have UX := Lib.hid (show Up w1 (w4.alloc (tokO 1 1)) from (Fr.trans UX.out u4 (fun _ _ e => e)).alloc _)
  obtain ⟨x0, x1, x2, x3, x4, x5⟩ := X.out
  have y0 : (w4.alloc (.cells #[.int .i64 0, .string (bs []), .int .i64 0, .int .i64 1, .int .i64 1] 24)).cell? ⟨b, o, none⟩ = some (.int .i64 2) := (UX.out.cell (p := ⟨b, o, none⟩) HB.out (fun h => h)).trans x0
  have y1 : (w4.alloc (.cells #[.int .i64 0, .string (bs []), .int .i64 0, .int .i64 1, .int .i64 1] 24)).cell? ⟨b, o + 6, none⟩ = some (.string (bs [58, 61])) := (UX.out.cell (p := ⟨b, o + 6, none⟩) HB.out (fun h => h)).trans x1
  have y2 : (w4.alloc (.cells #[.int .i64 0, .string (bs []), .int .i64 0, .int .i64 1, .int .i64 1] 24)).cell? ⟨b, o + 12, none⟩ = some (.int .i64 5) := (UX.out.cell (p := ⟨b, o + 12, none⟩) HB.out (fun h => h)).trans x2
  have y3 : (w4.alloc (.cells #[.int .i64 0, .string (bs []), .int .i64 0, .int .i64 1, .int .i64 1] 24)).cell? ⟨b, o + 15, none⟩ = some (.int .i64 1) := (UX.out.cell (p := ⟨b, o + 15, none⟩) HB.out (fun h => h)).trans x3
  have y4 : (w4.alloc (.cells #[.int .i64 0, .string (bs []), .int .i64 0, .int .i64 1, .int .i64 1] 24)).cell? ⟨b, o + 19, none⟩ = some (.int .i64 12) := (UX.out.cell (p := ⟨b, o + 19, none⟩) HB.out (fun h => h)).trans x4
  have y5 : (w4.alloc (.cells #[.int .i64 0, .string (bs []), .int .i64 0, .int .i64 1, .int .i64 1] 24)).cell? ⟨b, o + 20, none⟩ = some (.int .i64 0) := (UX.out.cell (p := ⟨b, o + 20, none⟩) HB.out (fun h => h)).trans x5
  clear u4 x0 x1 x2 x3 x4 x5
  have ee : ((bs [58, 61]).toList == [58, 61]) = true := by rw [bs_list]; rfl
  unfold tokA
  go_wp2_with fail
  go_ret
  exact ⟨rfl, U4.out⟩
end Go.Proofs.YtpobkjnlcengbaaDoor
