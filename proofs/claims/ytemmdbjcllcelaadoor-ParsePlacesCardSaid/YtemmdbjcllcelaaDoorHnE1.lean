/-
  The hand's maker: expr of type 1.
-/
import Derived.Test.YtemmdbjcllcelaaDoorHnBC
import Derived.Deep.DeepCutAuto
import Derived.Test.YtemmdbjcllcelaaDoorHeld
namespace Go.Proofs.YtemmdbjcllcelaaDoor.Tk
open Go.RowKit

theorem exec_built {P : Program} {o : Oper} {a : Act} {w : World} (t : TypeId) (parts : Array (Nat × Operand)) (ho : o.op = .build t parts) (cs : Array Value) (hf : P.built t (parts.map fun (i, x) => (i, a.eval x)).toList = some cs) :
    (execOp a.eval o).run P w = .ok (.value (.agg cs)) w := by
  unfold execOp
  simp only [ho, Sem.run_bind, run_build w t _ cs hf, Result.andThen_ok]
  rfl
def cmpA45 : Array Value := #[.string { data := #[32, 60, 32] }, .string { data := #[32, 60, 61, 32] }, .string { data := #[32, 62, 32] }, .string { data := #[32, 62, 61, 32] }, .string { data := #[32, 61, 61, 32] }, .string { data := #[32, 33, 61, 32] }]
theorem cmpB45 (a : Act) : Tryd.prog.built 83 ((#[(0, .const (.string { data := #[32, 60, 32] })), (1, .const (.string { data := #[32, 60, 61, 32] })), (2, .const (.string { data := #[32, 62, 32] })), (3, .const (.string { data := #[32, 62, 61, 32] })), (4, .const (.string { data := #[32, 61, 61, 32] })), (5, .const (.string { data := #[32, 33, 61, 32] }))] : Array (Nat × Operand)).map fun (i, x) => (i, a.eval x)).toList = some cmpA45 := by kernel_rfl
theorem cmpIdx45 : ∀ j : Nat, j < 6 → ∃ x : ByteArray, x.size ≤ 4 ∧ ∀ w, (Instr.index 83 (.agg cmpA45) (.int .i64 (j : Nat))).run Tryd.prog w = .ok (.string x) w
  | 0, _ => ⟨{ data := #[32, 60, 32] }, by decide, fun _ => by kernel_rfl⟩
  | 1, _ => ⟨{ data := #[32, 60, 61, 32] }, by decide, fun _ => by kernel_rfl⟩
  | 2, _ => ⟨{ data := #[32, 62, 32] }, by decide, fun _ => by kernel_rfl⟩
  | 3, _ => ⟨{ data := #[32, 62, 61, 32] }, by decide, fun _ => by kernel_rfl⟩
  | 4, _ => ⟨{ data := #[32, 61, 61, 32] }, by decide, fun _ => by kernel_rfl⟩
  | 5, _ => ⟨{ data := #[32, 33, 61, 32] }, by decide, fun _ => by kernel_rfl⟩
  | _ + 6, h => by omega
def cmpA53 : Array Value := #[.string { data := #[32, 61, 61, 32] }, .string { data := #[32, 33, 61, 32] }]
theorem cmpB53 (a : Act) : Tryd.prog.built 84 ((#[(0, .const (.string { data := #[32, 61, 61, 32] })), (1, .const (.string { data := #[32, 33, 61, 32] }))] : Array (Nat × Operand)).map fun (i, x) => (i, a.eval x)).toList = some cmpA53 := by kernel_rfl
theorem cmpIdx53 : ∀ j : Nat, j < 2 → ∃ x : ByteArray, x.size ≤ 4 ∧ ∀ w, (Instr.index 84 (.agg cmpA53) (.int .i64 (j : Nat))).run Tryd.prog w = .ok (.string x) w
  | 0, _ => ⟨{ data := #[32, 61, 61, 32] }, by decide, fun _ => by kernel_rfl⟩
  | 1, _ => ⟨{ data := #[32, 33, 61, 32] }, by decide, fun _ => by kernel_rfl⟩
  | _ + 2, h => by omega
def cmpA55 : Array Value := #[.int .i64 4, .int .i64 6]
theorem cmpB55 (a : Act) : Tryd.prog.built 85 ((#[(0, .const (.int .i64 4)), (1, .const (.int .i64 6))] : Array (Nat × Operand)).map fun (i, x) => (i, a.eval x)).toList = some cmpA55 := by kernel_rfl
theorem cmpIdx55 : ∀ j : Nat, j < 2 → ∃ x : Nat, x < 7 ∧ ∀ w, (Instr.index 85 (.agg cmpA55) (.int .i64 (j : Nat))).run Tryd.prog w = .ok (.int .i64 (x : Nat)) w
  | 0, _ => ⟨4, by decide, fun _ => by kernel_rfl⟩
  | 1, _ => ⟨6, by decide, fun _ => by kernel_rfl⟩
  | _ + 2, h => by omega
def cmpA57 : Array Value := #[.string { data := #[32, 60, 32] }, .string { data := #[32, 61, 61, 32] }, .string { data := #[32, 62, 61, 32] }, .string { data := #[32, 33, 61, 32] }]
theorem cmpB57 (a : Act) : Tryd.prog.built 86 ((#[(0, .const (.string { data := #[32, 60, 32] })), (1, .const (.string { data := #[32, 61, 61, 32] })), (2, .const (.string { data := #[32, 62, 61, 32] })), (3, .const (.string { data := #[32, 33, 61, 32] }))] : Array (Nat × Operand)).map fun (i, x) => (i, a.eval x)).toList = some cmpA57 := by kernel_rfl
theorem cmpIdx57 : ∀ j : Nat, j < 4 → ∃ x : ByteArray, x.size ≤ 4 ∧ ∀ w, (Instr.index 86 (.agg cmpA57) (.int .i64 (j : Nat))).run Tryd.prog w = .ok (.string x) w
  | 0, _ => ⟨{ data := #[32, 60, 32] }, by decide, fun _ => by kernel_rfl⟩
  | 1, _ => ⟨{ data := #[32, 61, 61, 32] }, by decide, fun _ => by kernel_rfl⟩
  | 2, _ => ⟨{ data := #[32, 62, 61, 32] }, by decide, fun _ => by kernel_rfl⟩
  | 3, _ => ⟨{ data := #[32, 33, 61, 32] }, by decide, fun _ => by kernel_rfl⟩
  | _ + 4, h => by omega
set_option maxRecDepth 20000 in
set_option maxHeartbeats 8000000 in
theorem expr_1 {d D : Nat} (IH : ExprOk d) (hd : d ≤ 5) (hD : D = d + 1) {w : World} {base p : Nat} {A : Option Addr} {rc : Nat} {raw : List Int} {m : MS} {rows : List (List ByteArray)} (h : Mk w base p A rc raw m rows) (hn : m.names ≤ 100) :
    Calls Tryd.prog 35 #[.pointer (some ⟨p, 0, none⟩), .int .i64 1, .int .i64 D] w fun e w' => ∃ (s : ByteArray) (a : Nat) (z : Int), e = .returned (.string s) ∧ s.size ≤ eB D ∧ Mk w' base p A rc raw { m with at_ := a, size := z } rows ∧ FM p w w' := by
  obtain ⟨B, hB⟩ : ∃ B, eB d = B := ⟨_, rfl⟩
  have hB1 : eB D = 2 * B + 20 := by rw [hD, eB, hB]
  have hB0 : B ≤ 2000 := by rw [← hB]; exact eB_le hd
  have hD0 : ¬ (D : Int) ≤ 0 := by omega
  have dD : decide (D = 0) = false := decide_eq_false (by omega)
  have HD := Lib.hid hD
  have _ := @IH
  clear hD
  obtain ⟨z, hz⟩ : ∃ z, IntKind.i64.wrap (m.size + 1) = z := ⟨_, rfl⟩
  obtain ⟨w1, hw1⟩ : ∃ w1, w1 = (w.alloc (.cells #[.pointer (some ⟨p, 0, none⟩)] 60)).alloc (.cells #[.int .i64 D] 3) := ⟨_, rfl⟩
  obtain ⟨hX1, hX2⟩ := Ex.start (d := D) h z w1 hw1
  have X1 := Lib.hid hX1
  have X2 := Lib.hid hX2
  have c5 := hX1.mem.cell 5
  have f5 := hX1.mem.free 5
  have k1 := hX1.kc
  have hrl := h.nums.le
  have hrb := h.nums.big
  simp only [List.getElem?_toArray, List.getElem?_cons_zero, List.getElem?_cons_succ] at c5
  clear h hX1 hX2
  go_enter Tryd.func35, Tryd.ntmps35
  go_upto_region 1 with fail
  rw [← hw1]
  clear hw1
  generalize w.heap.size + 1 = db at X1 X2 k1 ⊢
  generalize hkb : w.heap.size = kb at X1 X2 k1 ⊢
  clear hkb
  go_upto_region 2 with fail
  clear hz c5 f5 k1 X1
  generalize w1.setCell ⟨p, 5, none⟩ (.int .i64 z) = w2 at X2 ⊢
  have c0 := X2.out.mem.cell 0
  have c1 := X2.out.mem.cell 1
  have c5 := X2.out.mem.cell 5
  have k2 := X2.out.kc
  have d2 := X2.out.dc
  simp only [List.getElem?_toArray, List.getElem?_cons_zero, List.getElem?_cons_succ] at c0 c1 c5
  by_cases hz70 : z > 70
  · as_aux_lemma =>
    have dz : decide (70 < z) = true := decide_eq_true hz70
    go_quiet (fail)
    rename Nat => n0
    have X3 := Lib.hid (X2.out.up (Fr.drewN (Fr.refl _ w2) n0))
    generalize w2.drewN n0 = w3 at X3 ⊢
    clear c0 c1 c5 k2 d2 dD dz X2
    have Lf := Lib.hid (show Calls Tryd.prog 61 #[.pointer (some ⟨p, 0, none⟩), .int .i64 1] w3 _ from lf_any X3.out hn 1 (by decide))
    have kcl := X3.out.kc
    go_wp2_with fail
    refine Lf.out.mono ?_
    rintro e wl ⟨sl, bl, rfl, hsl, hXl⟩
    have Xl := Lib.hid hXl
    have hsl2 := Lib.hid hsl
    clear hXl hsl Lf
    go_wp2_with fail
    go_ret
    exact ⟨sl, _, _, rfl, by rw [hB1]; have := hsl2.out; omega, Xl.out.mem, Xl.out.fr⟩
  · have dz : decide (70 < z) = false := decide_eq_false hz70
    by_cases hat : (m.at_ : Int) ≥ (raw.length : Int)
    · as_aux_lemma =>
      have da : decide (raw.length ≤ m.at_) = true := decide_eq_true (by omega)
      go_quiet (fail)
      rename Nat => n0
      have X3 := Lib.hid (X2.out.up (Fr.drewN (Fr.refl _ w2) n0))
      generalize w2.drewN n0 = w3 at X3 ⊢
      clear c0 c1 c5 k2 d2 dD dz da X2
      have Lf := Lib.hid (show Calls Tryd.prog 61 #[.pointer (some ⟨p, 0, none⟩), .int .i64 1] w3 _ from lf_any X3.out hn 1 (by decide))
      have kcl := X3.out.kc
      go_wp2_with fail
      refine Lf.out.mono ?_
      rintro e wl ⟨sl, bl, rfl, hsl, hXl⟩
      have Xl := Lib.hid hXl
      have hsl2 := Lib.hid hsl
      clear hXl hsl Lf
      go_wp2_with fail
      go_ret
      exact ⟨sl, _, _, rfl, by rw [hB1]; have := hsl2.out; omega, Xl.out.mem, Xl.out.fr⟩
    · have da : decide (raw.length ≤ m.at_) = false := decide_eq_false (by omega)
      go_quiet (fail)
      rename Nat => n0
      have X3 := Lib.hid (X2.out.up (Fr.drewN (Fr.refl _ w2) n0))
      generalize w2.drewN n0 = w3 at X3 ⊢
      clear c0 c1 c5 k2 d2 dD dz da X2 hz70 hat hD0
      have k3 := X3.out.kc
      have N := Lib.hid (show Calls Tryd.prog 22 #[.pointer (some ⟨p, 0, none⟩), .int .i64 10] w3 _ from nx_any X3.out 10 (by decide) (by decide))
      go_wp2_with fail
      refine N.out.mono ?_
      rintro e w4 ⟨j, b, hj, rfl, hX4⟩
      have X4 := Lib.hid hX4
      clear hX4 N k3 X3
      by_cases hj0 : j = 0
      · as_aux_lemma =>
        subst hj0
        go_upto_region 45 with fail
        refine wp_region_held_drew (S := fun W => ∃ (a : Nat) (z : Int), Ex w W base p A rc raw { m with at_ := a, size := z } rows kb db D) (by kernel_rfl) (by exact ⟨_, _, X4.out.up (Fr.drew (Fr.refl _ _))⟩) (fun hHeld => ?_)
        refine held_take (i := 0) (d := some 184) (v := ?_) rfl rfl (by kernel_rfl) (by kernel_rfl) (by kernel_rfl) (fun _ _ _ h => h) (by rfl) ?_ (by assumption) ?_
        rotate_left 1
        focus (intro w hSw; (try dsimp only at hSw); go_simp; first | done | with_reducible rfl)
        simp only [Act.put, List.setIfInBounds_toArray, List.set_cons_zero, List.set_cons_succ]
        refine held_take (i := 3) (d := some 187) (v := .agg cmpA45) rfl rfl (by kernel_rfl) (by kernel_rfl) (by kernel_rfl) (fun _ _ _ h => h) (by rfl) (fun w _ => exec_built 83 _ rfl cmpA45 (cmpB45 _)) (by assumption) ?_
        simp only [Act.put, List.setIfInBounds_toArray, List.set_cons_zero, List.set_cons_succ]
        refine held_take (i := 4) (d := some 188) (v := ?_) rfl rfl (by kernel_rfl) (by kernel_rfl) (by kernel_rfl) (fun _ _ _ h => h) (by rfl) ?_ (by assumption) ?_
        rotate_left 1
        focus (intro w hSw; obtain ⟨_, _, hq⟩ := hSw; have kq := hq.kc; clear hq; (try dsimp only at hSw); go_simp; first | done | with_reducible rfl)
        simp only [Act.put, List.setIfInBounds_toArray, List.set_cons_zero, List.set_cons_succ]
        refine held_take (i := 8) (d := some 192) (v := ?_) rfl rfl (by kernel_rfl) (by kernel_rfl) (by kernel_rfl) (fun _ _ _ h => h) (by rfl) ?_ (by assumption) ?_
        rotate_left 1
        focus (intro w hSw; (try dsimp only at hSw); go_simp; first | done | with_reducible rfl)
        simp only [Act.put, List.setIfInBounds_toArray, List.set_cons_zero, List.set_cons_succ]
        refine wpAnyH_ready (rs := [1]) (by kernel_rfl) (by simp) ?_
        refine AllReadyH.cons (o := _) rfl (fun K hK => ?_) AllReadyH.nil
        obtain ⟨ax1, zx1, hE1⟩ := hHeld
        have H1 := Lib.hid hE1
        clear hE1
        go_simp
        refine (show Calls Tryd.prog 62 #[.int .i64 0, .pointer (some ⟨kb, 0, none⟩), .pointer (some ⟨db, 0, none⟩)] _ _ from e_any IH hd HD.out H1.out hn 0 (by decide)).mono ?_
        rintro e wx1 ⟨s1, bx1, yx1, rfl, hs1, hX1⟩
        rw [hB] at hs1
        have X21 := Lib.hid hX1
        clear hX1
        go_simp
        refine hK.out _ _ (by exact ⟨_, _, X21.out⟩) (fun hHeld => ?_)
        clear hK K X21 H1
        have q1 : 1 + s1.size ≤ 9223372036854775807 := by omega
        have q1' : ¬ 9223372036854775807 < 1 + s1.size := by omega
        obtain ⟨ac1, eac1⟩ : ∃ c, ({ data := #[40] } : ByteArray) ++ s1 = c := ⟨_, rfl⟩
        have hac1 : ac1.size ≤ (1 + B) := cat_le eac1 (Nat.le_refl _) hs1
        refine held_take (i := 2) (d := some 186) (v := ?_) rfl rfl (by kernel_rfl) (by kernel_rfl) (by kernel_rfl) (fun _ _ _ h => h) (by rfl) ?_ (by assumption) ?_
        rotate_left 1
        focus (intro w hSw; (try dsimp only at hSw); go_simp; first | done | with_reducible rfl)
        simp only [Act.put, List.setIfInBounds_toArray, List.set_cons_zero, List.set_cons_succ]
        try rw [eac1]
        clear q1 q1'
        refine wpAnyH_ready (rs := [5]) (by kernel_rfl) (by simp) ?_
        refine AllReadyH.cons (o := _) rfl (fun K hK => ?_) AllReadyH.nil
        obtain ⟨axn, zxn, hEn⟩ := hHeld
        have Hn := Lib.hid hEn
        clear hEn
        go_simp
        refine (show Calls Tryd.prog 22 #[.pointer (some ⟨p, 0, none⟩), .int .i64 6] _ _ from nx_any Hn.out 6 (by decide) (by decide)).mono ?_
        rintro e wxn ⟨j5, bn, hj5, rfl, hXn⟩
        have X2n := Lib.hid hXn
        obtain ⟨x5, hx5, gi5⟩ := cmpIdx45 j5 hj5
        have hj5i : (j5 : Int) < 6 := by omega
        clear hXn
        go_simp
        refine hK.out _ _ (by exact ⟨_, _, X2n.out⟩) (fun hHeld => ?_)
        clear hK K X2n Hn
        refine held_take (i := 6) (d := some 190) (v := ?_) rfl rfl (by kernel_rfl) (by kernel_rfl) (by kernel_rfl) (fun _ _ _ h => h) (by rfl) ?_ (by assumption) ?_
        rotate_left 1
        focus (intro w hSw; (try dsimp only at hSw); go_simp; first | done | with_reducible rfl)
        simp only [Act.put, List.setIfInBounds_toArray, List.set_cons_zero, List.set_cons_succ]
        have q2 : ac1.size + x5.size ≤ 9223372036854775807 := by omega
        have q2' : ¬ 9223372036854775807 < ac1.size + x5.size := by omega
        obtain ⟨ac2, eac2⟩ : ∃ c, ac1 ++ x5 = c := ⟨_, rfl⟩
        have hac2 : ac2.size ≤ ((1 + B) + 4) := cat_le eac2 hac1 hx5
        refine held_take (i := 7) (d := some 191) (v := ?_) rfl rfl (by kernel_rfl) (by kernel_rfl) (by kernel_rfl) (fun _ _ _ h => h) (by rfl) ?_ (by assumption) ?_
        rotate_left 1
        focus (intro w hSw; (try dsimp only at hSw); go_simp; first | done | with_reducible rfl)
        simp only [Act.put, List.setIfInBounds_toArray, List.set_cons_zero, List.set_cons_succ]
        try rw [eac2]
        clear q2 q2'
        refine wpAnyH_ready (rs := [9]) (by kernel_rfl) (by simp) ?_
        refine AllReadyH.cons (o := _) rfl (fun K hK => ?_) AllReadyH.nil
        obtain ⟨ax2, zx2, hE2⟩ := hHeld
        have H2 := Lib.hid hE2
        clear hE2
        go_simp
        refine (show Calls Tryd.prog 62 #[.int .i64 0, .pointer (some ⟨kb, 0, none⟩), .pointer (some ⟨db, 0, none⟩)] _ _ from e_any IH hd HD.out H2.out hn 0 (by decide)).mono ?_
        rintro e wx2 ⟨s2, bx2, yx2, rfl, hs2, hX2⟩
        rw [hB] at hs2
        have X22 := Lib.hid hX2
        clear hX2
        go_simp
        refine hK.out _ _ (by exact ⟨_, _, X22.out⟩) (fun hHeld => ?_)
        clear hK K X22 H2
        have q3 : ac2.size + s2.size ≤ 9223372036854775807 := by omega
        have q3' : ¬ 9223372036854775807 < ac2.size + s2.size := by omega
        obtain ⟨ac3, eac3⟩ : ∃ c, ac2 ++ s2 = c := ⟨_, rfl⟩
        have hac3 : ac3.size ≤ (((1 + B) + 4) + B) := cat_le eac3 hac2 hs2
        refine held_take (i := 10) (d := some 194) (v := ?_) rfl rfl (by kernel_rfl) (by kernel_rfl) (by kernel_rfl) (fun _ _ _ h => h) (by rfl) ?_ (by assumption) ?_
        rotate_left 1
        focus (intro w hSw; (try dsimp only at hSw); go_simp; first | done | with_reducible rfl)
        simp only [Act.put, List.setIfInBounds_toArray, List.set_cons_zero, List.set_cons_succ]
        try rw [eac3]
        clear q3 q3'
        have q4 : ac3.size + 1 ≤ 9223372036854775807 := by omega
        have q4' : ¬ 9223372036854775807 < ac3.size + 1 := by omega
        obtain ⟨ac4, eac4⟩ : ∃ c, ac3 ++ ({ data := #[41] } : ByteArray) = c := ⟨_, rfl⟩
        have hac4 : ac4.size ≤ ((((1 + B) + 4) + B) + 1) := cat_le eac4 hac3 (Nat.le_refl _)
        refine held_take (i := 11) (d := some 195) (v := ?_) rfl rfl (by kernel_rfl) (by kernel_rfl) (by kernel_rfl) (fun _ _ _ h => h) (by rfl) ?_ (by assumption) ?_
        rotate_left 1
        focus (intro w hSw; (try dsimp only at hSw); go_simp; first | done | with_reducible rfl)
        simp only [Act.put, List.setIfInBounds_toArray, List.set_cons_zero, List.set_cons_succ]
        try rw [eac4]
        clear q4 q4'
        refine held_take (i := 12) (d := some 6) (v := ?_) rfl rfl (by kernel_rfl) (by kernel_rfl) (by kernel_rfl) (fun _ _ _ h => h) (by rfl) ?_ (by assumption) ?_
        rotate_left 1
        focus (intro w hSw; (try dsimp only at hSw); go_simp; first | done | with_reducible rfl)
        simp only [Act.put, List.setIfInBounds_toArray, List.set_cons_zero, List.set_cons_succ]
        refine wpAnyH_done (by kernel_rfl) ?_ _
        obtain ⟨axe, zxe, hEe⟩ := hHeld
        have He := Lib.hid hEe
        clear hEe
        go_wp2_with fail
        go_ret
        exact ⟨_, _, _, rfl, by rw [hB1]; omega, He.out.mem, He.out.fr⟩
      by_cases hj1 : j = 1
      · as_aux_lemma =>
        subst hj1
        go_upto_region 45 with fail
        refine wp_region_held_drew (S := fun W => ∃ (a : Nat) (z : Int), Ex w W base p A rc raw { m with at_ := a, size := z } rows kb db D) (by kernel_rfl) (by exact ⟨_, _, X4.out.up (Fr.drew (Fr.refl _ _))⟩) (fun hHeld => ?_)
        refine held_take (i := 0) (d := some 184) (v := ?_) rfl rfl (by kernel_rfl) (by kernel_rfl) (by kernel_rfl) (fun _ _ _ h => h) (by rfl) ?_ (by assumption) ?_
        rotate_left 1
        focus (intro w hSw; (try dsimp only at hSw); go_simp; first | done | with_reducible rfl)
        simp only [Act.put, List.setIfInBounds_toArray, List.set_cons_zero, List.set_cons_succ]
        refine held_take (i := 3) (d := some 187) (v := .agg cmpA45) rfl rfl (by kernel_rfl) (by kernel_rfl) (by kernel_rfl) (fun _ _ _ h => h) (by rfl) (fun w _ => exec_built 83 _ rfl cmpA45 (cmpB45 _)) (by assumption) ?_
        simp only [Act.put, List.setIfInBounds_toArray, List.set_cons_zero, List.set_cons_succ]
        refine held_take (i := 4) (d := some 188) (v := ?_) rfl rfl (by kernel_rfl) (by kernel_rfl) (by kernel_rfl) (fun _ _ _ h => h) (by rfl) ?_ (by assumption) ?_
        rotate_left 1
        focus (intro w hSw; obtain ⟨_, _, hq⟩ := hSw; have kq := hq.kc; clear hq; (try dsimp only at hSw); go_simp; first | done | with_reducible rfl)
        simp only [Act.put, List.setIfInBounds_toArray, List.set_cons_zero, List.set_cons_succ]
        refine held_take (i := 8) (d := some 192) (v := ?_) rfl rfl (by kernel_rfl) (by kernel_rfl) (by kernel_rfl) (fun _ _ _ h => h) (by rfl) ?_ (by assumption) ?_
        rotate_left 1
        focus (intro w hSw; (try dsimp only at hSw); go_simp; first | done | with_reducible rfl)
        simp only [Act.put, List.setIfInBounds_toArray, List.set_cons_zero, List.set_cons_succ]
        refine wpAnyH_ready (rs := [1]) (by kernel_rfl) (by simp) ?_
        refine AllReadyH.cons (o := _) rfl (fun K hK => ?_) AllReadyH.nil
        obtain ⟨ax1, zx1, hE1⟩ := hHeld
        have H1 := Lib.hid hE1
        clear hE1
        go_simp
        refine (show Calls Tryd.prog 62 #[.int .i64 0, .pointer (some ⟨kb, 0, none⟩), .pointer (some ⟨db, 0, none⟩)] _ _ from e_any IH hd HD.out H1.out hn 0 (by decide)).mono ?_
        rintro e wx1 ⟨s1, bx1, yx1, rfl, hs1, hX1⟩
        rw [hB] at hs1
        have X21 := Lib.hid hX1
        clear hX1
        go_simp
        refine hK.out _ _ (by exact ⟨_, _, X21.out⟩) (fun hHeld => ?_)
        clear hK K X21 H1
        have q1 : 1 + s1.size ≤ 9223372036854775807 := by omega
        have q1' : ¬ 9223372036854775807 < 1 + s1.size := by omega
        obtain ⟨ac1, eac1⟩ : ∃ c, ({ data := #[40] } : ByteArray) ++ s1 = c := ⟨_, rfl⟩
        have hac1 : ac1.size ≤ (1 + B) := cat_le eac1 (Nat.le_refl _) hs1
        refine held_take (i := 2) (d := some 186) (v := ?_) rfl rfl (by kernel_rfl) (by kernel_rfl) (by kernel_rfl) (fun _ _ _ h => h) (by rfl) ?_ (by assumption) ?_
        rotate_left 1
        focus (intro w hSw; (try dsimp only at hSw); go_simp; first | done | with_reducible rfl)
        simp only [Act.put, List.setIfInBounds_toArray, List.set_cons_zero, List.set_cons_succ]
        try rw [eac1]
        clear q1 q1'
        refine wpAnyH_ready (rs := [5]) (by kernel_rfl) (by simp) ?_
        refine AllReadyH.cons (o := _) rfl (fun K hK => ?_) AllReadyH.nil
        obtain ⟨axn, zxn, hEn⟩ := hHeld
        have Hn := Lib.hid hEn
        clear hEn
        go_simp
        refine (show Calls Tryd.prog 22 #[.pointer (some ⟨p, 0, none⟩), .int .i64 6] _ _ from nx_any Hn.out 6 (by decide) (by decide)).mono ?_
        rintro e wxn ⟨j5, bn, hj5, rfl, hXn⟩
        have X2n := Lib.hid hXn
        obtain ⟨x5, hx5, gi5⟩ := cmpIdx45 j5 hj5
        have hj5i : (j5 : Int) < 6 := by omega
        clear hXn
        go_simp
        refine hK.out _ _ (by exact ⟨_, _, X2n.out⟩) (fun hHeld => ?_)
        clear hK K X2n Hn
        refine held_take (i := 6) (d := some 190) (v := ?_) rfl rfl (by kernel_rfl) (by kernel_rfl) (by kernel_rfl) (fun _ _ _ h => h) (by rfl) ?_ (by assumption) ?_
        rotate_left 1
        focus (intro w hSw; (try dsimp only at hSw); go_simp; first | done | with_reducible rfl)
        simp only [Act.put, List.setIfInBounds_toArray, List.set_cons_zero, List.set_cons_succ]
        have q2 : ac1.size + x5.size ≤ 9223372036854775807 := by omega
        have q2' : ¬ 9223372036854775807 < ac1.size + x5.size := by omega
        obtain ⟨ac2, eac2⟩ : ∃ c, ac1 ++ x5 = c := ⟨_, rfl⟩
        have hac2 : ac2.size ≤ ((1 + B) + 4) := cat_le eac2 hac1 hx5
        refine held_take (i := 7) (d := some 191) (v := ?_) rfl rfl (by kernel_rfl) (by kernel_rfl) (by kernel_rfl) (fun _ _ _ h => h) (by rfl) ?_ (by assumption) ?_
        rotate_left 1
        focus (intro w hSw; (try dsimp only at hSw); go_simp; first | done | with_reducible rfl)
        simp only [Act.put, List.setIfInBounds_toArray, List.set_cons_zero, List.set_cons_succ]
        try rw [eac2]
        clear q2 q2'
        refine wpAnyH_ready (rs := [9]) (by kernel_rfl) (by simp) ?_
        refine AllReadyH.cons (o := _) rfl (fun K hK => ?_) AllReadyH.nil
        obtain ⟨ax2, zx2, hE2⟩ := hHeld
        have H2 := Lib.hid hE2
        clear hE2
        go_simp
        refine (show Calls Tryd.prog 62 #[.int .i64 0, .pointer (some ⟨kb, 0, none⟩), .pointer (some ⟨db, 0, none⟩)] _ _ from e_any IH hd HD.out H2.out hn 0 (by decide)).mono ?_
        rintro e wx2 ⟨s2, bx2, yx2, rfl, hs2, hX2⟩
        rw [hB] at hs2
        have X22 := Lib.hid hX2
        clear hX2
        go_simp
        refine hK.out _ _ (by exact ⟨_, _, X22.out⟩) (fun hHeld => ?_)
        clear hK K X22 H2
        have q3 : ac2.size + s2.size ≤ 9223372036854775807 := by omega
        have q3' : ¬ 9223372036854775807 < ac2.size + s2.size := by omega
        obtain ⟨ac3, eac3⟩ : ∃ c, ac2 ++ s2 = c := ⟨_, rfl⟩
        have hac3 : ac3.size ≤ (((1 + B) + 4) + B) := cat_le eac3 hac2 hs2
        refine held_take (i := 10) (d := some 194) (v := ?_) rfl rfl (by kernel_rfl) (by kernel_rfl) (by kernel_rfl) (fun _ _ _ h => h) (by rfl) ?_ (by assumption) ?_
        rotate_left 1
        focus (intro w hSw; (try dsimp only at hSw); go_simp; first | done | with_reducible rfl)
        simp only [Act.put, List.setIfInBounds_toArray, List.set_cons_zero, List.set_cons_succ]
        try rw [eac3]
        clear q3 q3'
        have q4 : ac3.size + 1 ≤ 9223372036854775807 := by omega
        have q4' : ¬ 9223372036854775807 < ac3.size + 1 := by omega
        obtain ⟨ac4, eac4⟩ : ∃ c, ac3 ++ ({ data := #[41] } : ByteArray) = c := ⟨_, rfl⟩
        have hac4 : ac4.size ≤ ((((1 + B) + 4) + B) + 1) := cat_le eac4 hac3 (Nat.le_refl _)
        refine held_take (i := 11) (d := some 195) (v := ?_) rfl rfl (by kernel_rfl) (by kernel_rfl) (by kernel_rfl) (fun _ _ _ h => h) (by rfl) ?_ (by assumption) ?_
        rotate_left 1
        focus (intro w hSw; (try dsimp only at hSw); go_simp; first | done | with_reducible rfl)
        simp only [Act.put, List.setIfInBounds_toArray, List.set_cons_zero, List.set_cons_succ]
        try rw [eac4]
        clear q4 q4'
        refine held_take (i := 12) (d := some 6) (v := ?_) rfl rfl (by kernel_rfl) (by kernel_rfl) (by kernel_rfl) (fun _ _ _ h => h) (by rfl) ?_ (by assumption) ?_
        rotate_left 1
        focus (intro w hSw; (try dsimp only at hSw); go_simp; first | done | with_reducible rfl)
        simp only [Act.put, List.setIfInBounds_toArray, List.set_cons_zero, List.set_cons_succ]
        refine wpAnyH_done (by kernel_rfl) ?_ _
        obtain ⟨axe, zxe, hEe⟩ := hHeld
        have He := Lib.hid hEe
        clear hEe
        go_wp2_with fail
        go_ret
        exact ⟨_, _, _, rfl, by rw [hB1]; omega, He.out.mem, He.out.fr⟩
      by_cases hj2 : j = 2
      · as_aux_lemma =>
        subst hj2
        go_upto_region 45 with fail
        refine wp_region_held_drew (S := fun W => ∃ (a : Nat) (z : Int), Ex w W base p A rc raw { m with at_ := a, size := z } rows kb db D) (by kernel_rfl) (by exact ⟨_, _, X4.out.up (Fr.drew (Fr.refl _ _))⟩) (fun hHeld => ?_)
        refine held_take (i := 0) (d := some 184) (v := ?_) rfl rfl (by kernel_rfl) (by kernel_rfl) (by kernel_rfl) (fun _ _ _ h => h) (by rfl) ?_ (by assumption) ?_
        rotate_left 1
        focus (intro w hSw; (try dsimp only at hSw); go_simp; first | done | with_reducible rfl)
        simp only [Act.put, List.setIfInBounds_toArray, List.set_cons_zero, List.set_cons_succ]
        refine held_take (i := 3) (d := some 187) (v := .agg cmpA45) rfl rfl (by kernel_rfl) (by kernel_rfl) (by kernel_rfl) (fun _ _ _ h => h) (by rfl) (fun w _ => exec_built 83 _ rfl cmpA45 (cmpB45 _)) (by assumption) ?_
        simp only [Act.put, List.setIfInBounds_toArray, List.set_cons_zero, List.set_cons_succ]
        refine held_take (i := 4) (d := some 188) (v := ?_) rfl rfl (by kernel_rfl) (by kernel_rfl) (by kernel_rfl) (fun _ _ _ h => h) (by rfl) ?_ (by assumption) ?_
        rotate_left 1
        focus (intro w hSw; obtain ⟨_, _, hq⟩ := hSw; have kq := hq.kc; clear hq; (try dsimp only at hSw); go_simp; first | done | with_reducible rfl)
        simp only [Act.put, List.setIfInBounds_toArray, List.set_cons_zero, List.set_cons_succ]
        refine held_take (i := 8) (d := some 192) (v := ?_) rfl rfl (by kernel_rfl) (by kernel_rfl) (by kernel_rfl) (fun _ _ _ h => h) (by rfl) ?_ (by assumption) ?_
        rotate_left 1
        focus (intro w hSw; (try dsimp only at hSw); go_simp; first | done | with_reducible rfl)
        simp only [Act.put, List.setIfInBounds_toArray, List.set_cons_zero, List.set_cons_succ]
        refine wpAnyH_ready (rs := [1]) (by kernel_rfl) (by simp) ?_
        refine AllReadyH.cons (o := _) rfl (fun K hK => ?_) AllReadyH.nil
        obtain ⟨ax1, zx1, hE1⟩ := hHeld
        have H1 := Lib.hid hE1
        clear hE1
        go_simp
        refine (show Calls Tryd.prog 62 #[.int .i64 0, .pointer (some ⟨kb, 0, none⟩), .pointer (some ⟨db, 0, none⟩)] _ _ from e_any IH hd HD.out H1.out hn 0 (by decide)).mono ?_
        rintro e wx1 ⟨s1, bx1, yx1, rfl, hs1, hX1⟩
        rw [hB] at hs1
        have X21 := Lib.hid hX1
        clear hX1
        go_simp
        refine hK.out _ _ (by exact ⟨_, _, X21.out⟩) (fun hHeld => ?_)
        clear hK K X21 H1
        have q1 : 1 + s1.size ≤ 9223372036854775807 := by omega
        have q1' : ¬ 9223372036854775807 < 1 + s1.size := by omega
        obtain ⟨ac1, eac1⟩ : ∃ c, ({ data := #[40] } : ByteArray) ++ s1 = c := ⟨_, rfl⟩
        have hac1 : ac1.size ≤ (1 + B) := cat_le eac1 (Nat.le_refl _) hs1
        refine held_take (i := 2) (d := some 186) (v := ?_) rfl rfl (by kernel_rfl) (by kernel_rfl) (by kernel_rfl) (fun _ _ _ h => h) (by rfl) ?_ (by assumption) ?_
        rotate_left 1
        focus (intro w hSw; (try dsimp only at hSw); go_simp; first | done | with_reducible rfl)
        simp only [Act.put, List.setIfInBounds_toArray, List.set_cons_zero, List.set_cons_succ]
        try rw [eac1]
        clear q1 q1'
        refine wpAnyH_ready (rs := [5]) (by kernel_rfl) (by simp) ?_
        refine AllReadyH.cons (o := _) rfl (fun K hK => ?_) AllReadyH.nil
        obtain ⟨axn, zxn, hEn⟩ := hHeld
        have Hn := Lib.hid hEn
        clear hEn
        go_simp
        refine (show Calls Tryd.prog 22 #[.pointer (some ⟨p, 0, none⟩), .int .i64 6] _ _ from nx_any Hn.out 6 (by decide) (by decide)).mono ?_
        rintro e wxn ⟨j5, bn, hj5, rfl, hXn⟩
        have X2n := Lib.hid hXn
        obtain ⟨x5, hx5, gi5⟩ := cmpIdx45 j5 hj5
        have hj5i : (j5 : Int) < 6 := by omega
        clear hXn
        go_simp
        refine hK.out _ _ (by exact ⟨_, _, X2n.out⟩) (fun hHeld => ?_)
        clear hK K X2n Hn
        refine held_take (i := 6) (d := some 190) (v := ?_) rfl rfl (by kernel_rfl) (by kernel_rfl) (by kernel_rfl) (fun _ _ _ h => h) (by rfl) ?_ (by assumption) ?_
        rotate_left 1
        focus (intro w hSw; (try dsimp only at hSw); go_simp; first | done | with_reducible rfl)
        simp only [Act.put, List.setIfInBounds_toArray, List.set_cons_zero, List.set_cons_succ]
        have q2 : ac1.size + x5.size ≤ 9223372036854775807 := by omega
        have q2' : ¬ 9223372036854775807 < ac1.size + x5.size := by omega
        obtain ⟨ac2, eac2⟩ : ∃ c, ac1 ++ x5 = c := ⟨_, rfl⟩
        have hac2 : ac2.size ≤ ((1 + B) + 4) := cat_le eac2 hac1 hx5
        refine held_take (i := 7) (d := some 191) (v := ?_) rfl rfl (by kernel_rfl) (by kernel_rfl) (by kernel_rfl) (fun _ _ _ h => h) (by rfl) ?_ (by assumption) ?_
        rotate_left 1
        focus (intro w hSw; (try dsimp only at hSw); go_simp; first | done | with_reducible rfl)
        simp only [Act.put, List.setIfInBounds_toArray, List.set_cons_zero, List.set_cons_succ]
        try rw [eac2]
        clear q2 q2'
        refine wpAnyH_ready (rs := [9]) (by kernel_rfl) (by simp) ?_
        refine AllReadyH.cons (o := _) rfl (fun K hK => ?_) AllReadyH.nil
        obtain ⟨ax2, zx2, hE2⟩ := hHeld
        have H2 := Lib.hid hE2
        clear hE2
        go_simp
        refine (show Calls Tryd.prog 62 #[.int .i64 0, .pointer (some ⟨kb, 0, none⟩), .pointer (some ⟨db, 0, none⟩)] _ _ from e_any IH hd HD.out H2.out hn 0 (by decide)).mono ?_
        rintro e wx2 ⟨s2, bx2, yx2, rfl, hs2, hX2⟩
        rw [hB] at hs2
        have X22 := Lib.hid hX2
        clear hX2
        go_simp
        refine hK.out _ _ (by exact ⟨_, _, X22.out⟩) (fun hHeld => ?_)
        clear hK K X22 H2
        have q3 : ac2.size + s2.size ≤ 9223372036854775807 := by omega
        have q3' : ¬ 9223372036854775807 < ac2.size + s2.size := by omega
        obtain ⟨ac3, eac3⟩ : ∃ c, ac2 ++ s2 = c := ⟨_, rfl⟩
        have hac3 : ac3.size ≤ (((1 + B) + 4) + B) := cat_le eac3 hac2 hs2
        refine held_take (i := 10) (d := some 194) (v := ?_) rfl rfl (by kernel_rfl) (by kernel_rfl) (by kernel_rfl) (fun _ _ _ h => h) (by rfl) ?_ (by assumption) ?_
        rotate_left 1
        focus (intro w hSw; (try dsimp only at hSw); go_simp; first | done | with_reducible rfl)
        simp only [Act.put, List.setIfInBounds_toArray, List.set_cons_zero, List.set_cons_succ]
        try rw [eac3]
        clear q3 q3'
        have q4 : ac3.size + 1 ≤ 9223372036854775807 := by omega
        have q4' : ¬ 9223372036854775807 < ac3.size + 1 := by omega
        obtain ⟨ac4, eac4⟩ : ∃ c, ac3 ++ ({ data := #[41] } : ByteArray) = c := ⟨_, rfl⟩
        have hac4 : ac4.size ≤ ((((1 + B) + 4) + B) + 1) := cat_le eac4 hac3 (Nat.le_refl _)
        refine held_take (i := 11) (d := some 195) (v := ?_) rfl rfl (by kernel_rfl) (by kernel_rfl) (by kernel_rfl) (fun _ _ _ h => h) (by rfl) ?_ (by assumption) ?_
        rotate_left 1
        focus (intro w hSw; (try dsimp only at hSw); go_simp; first | done | with_reducible rfl)
        simp only [Act.put, List.setIfInBounds_toArray, List.set_cons_zero, List.set_cons_succ]
        try rw [eac4]
        clear q4 q4'
        refine held_take (i := 12) (d := some 6) (v := ?_) rfl rfl (by kernel_rfl) (by kernel_rfl) (by kernel_rfl) (fun _ _ _ h => h) (by rfl) ?_ (by assumption) ?_
        rotate_left 1
        focus (intro w hSw; (try dsimp only at hSw); go_simp; first | done | with_reducible rfl)
        simp only [Act.put, List.setIfInBounds_toArray, List.set_cons_zero, List.set_cons_succ]
        refine wpAnyH_done (by kernel_rfl) ?_ _
        obtain ⟨axe, zxe, hEe⟩ := hHeld
        have He := Lib.hid hEe
        clear hEe
        go_wp2_with fail
        go_ret
        exact ⟨_, _, _, rfl, by rw [hB1]; omega, He.out.mem, He.out.fr⟩
      by_cases hj3 : j = 3
      · as_aux_lemma =>
        subst hj3
        have C1 := Lib.hid (show Calls Tryd.prog 62 #[.int .i64 1, .pointer (some ⟨kb, 0, none⟩), .pointer (some ⟨db, 0, none⟩)] w4 _ from e_any IH hd HD.out X4.out hn 1 (by decide))
        go_wp2_with fail
        refine C1.out.mono ?_
        rintro e we1 ⟨s1, b1, z1, rfl, hs1, hX1⟩
        have X21 := Lib.hid hX1
        rw [hB] at hs1
        clear hX1 C1
        have q1 : 1 + s1.size ≤ 9223372036854775807 := by omega
        obtain ⟨a1, ea1⟩ : ∃ c, ({ data := #[40] } : ByteArray) ++ s1 = c := ⟨_, rfl⟩
        have ha1 : a1.size ≤ (1 + B) := cat_le ea1 (Nat.le_refl _) hs1
        have q2 : a1.size + 4 ≤ 9223372036854775807 := by omega
        obtain ⟨a2, ea2⟩ : ∃ c, a1 ++ ({ data := #[32, 38, 38, 32] } : ByteArray) = c := ⟨_, rfl⟩
        have ha2 : a2.size ≤ ((1 + B) + 4) := cat_le ea2 ha1 (Nat.le_refl _)
        have C2 := Lib.hid (show Calls Tryd.prog 62 #[.int .i64 1, .pointer (some ⟨kb, 0, none⟩), .pointer (some ⟨db, 0, none⟩)] we1 _ from e_any IH hd HD.out X21.out hn 1 (by decide))
        go_wp2_with fail
        refine C2.out.mono ?_
        rintro e we2 ⟨s2, b2, z2, rfl, hs2, hX2⟩
        have X22 := Lib.hid hX2
        rw [hB] at hs2
        clear hX2 C2
        have q3 : a2.size + s2.size ≤ 9223372036854775807 := by omega
        obtain ⟨a3, ea3⟩ : ∃ c, a2 ++ s2 = c := ⟨_, rfl⟩
        have ha3 : a3.size ≤ (((1 + B) + 4) + B) := cat_le ea3 ha2 hs2
        have q4 : a3.size + 1 ≤ 9223372036854775807 := by omega
        obtain ⟨a4, ea4⟩ : ∃ c, a3 ++ ({ data := #[41] } : ByteArray) = c := ⟨_, rfl⟩
        have ha4 : a4.size ≤ ((((1 + B) + 4) + B) + 1) := cat_le ea4 ha3 (Nat.le_refl _)
        go_wp2_with fail
        go_ret
        exact ⟨_, _, _, rfl, by rw [hB1]; omega, X22.out.mem, X22.out.fr⟩
      by_cases hj4 : j = 4
      · as_aux_lemma =>
        subst hj4
        have C1 := Lib.hid (show Calls Tryd.prog 62 #[.int .i64 1, .pointer (some ⟨kb, 0, none⟩), .pointer (some ⟨db, 0, none⟩)] w4 _ from e_any IH hd HD.out X4.out hn 1 (by decide))
        go_wp2_with fail
        refine C1.out.mono ?_
        rintro e we1 ⟨s1, b1, z1, rfl, hs1, hX1⟩
        have X21 := Lib.hid hX1
        rw [hB] at hs1
        clear hX1 C1
        have q1 : 1 + s1.size ≤ 9223372036854775807 := by omega
        obtain ⟨a1, ea1⟩ : ∃ c, ({ data := #[40] } : ByteArray) ++ s1 = c := ⟨_, rfl⟩
        have ha1 : a1.size ≤ (1 + B) := cat_le ea1 (Nat.le_refl _) hs1
        have q2 : a1.size + 4 ≤ 9223372036854775807 := by omega
        obtain ⟨a2, ea2⟩ : ∃ c, a1 ++ ({ data := #[32, 124, 124, 32] } : ByteArray) = c := ⟨_, rfl⟩
        have ha2 : a2.size ≤ ((1 + B) + 4) := cat_le ea2 ha1 (Nat.le_refl _)
        have C2 := Lib.hid (show Calls Tryd.prog 62 #[.int .i64 1, .pointer (some ⟨kb, 0, none⟩), .pointer (some ⟨db, 0, none⟩)] we1 _ from e_any IH hd HD.out X21.out hn 1 (by decide))
        go_wp2_with fail
        refine C2.out.mono ?_
        rintro e we2 ⟨s2, b2, z2, rfl, hs2, hX2⟩
        have X22 := Lib.hid hX2
        rw [hB] at hs2
        clear hX2 C2
        have q3 : a2.size + s2.size ≤ 9223372036854775807 := by omega
        obtain ⟨a3, ea3⟩ : ∃ c, a2 ++ s2 = c := ⟨_, rfl⟩
        have ha3 : a3.size ≤ (((1 + B) + 4) + B) := cat_le ea3 ha2 hs2
        have q4 : a3.size + 1 ≤ 9223372036854775807 := by omega
        obtain ⟨a4, ea4⟩ : ∃ c, a3 ++ ({ data := #[41] } : ByteArray) = c := ⟨_, rfl⟩
        have ha4 : a4.size ≤ ((((1 + B) + 4) + B) + 1) := cat_le ea4 ha3 (Nat.le_refl _)
        go_wp2_with fail
        go_ret
        exact ⟨_, _, _, rfl, by rw [hB1]; omega, X22.out.mem, X22.out.fr⟩
      by_cases hj5 : j = 5
      · as_aux_lemma =>
        subst hj5
        have C1 := Lib.hid (show Calls Tryd.prog 62 #[.int .i64 1, .pointer (some ⟨kb, 0, none⟩), .pointer (some ⟨db, 0, none⟩)] w4 _ from e_any IH hd HD.out X4.out hn 1 (by decide))
        go_wp2_with fail
        refine C1.out.mono ?_
        rintro e we1 ⟨s1, b1, z1, rfl, hs1, hX1⟩
        have X21 := Lib.hid hX1
        rw [hB] at hs1
        clear hX1 C1
        have q1 : 2 + s1.size ≤ 9223372036854775807 := by omega
        obtain ⟨a1, ea1⟩ : ∃ c, ({ data := #[40, 33] } : ByteArray) ++ s1 = c := ⟨_, rfl⟩
        have ha1 : a1.size ≤ (2 + B) := cat_le ea1 (Nat.le_refl _) hs1
        have q2 : a1.size + 1 ≤ 9223372036854775807 := by omega
        obtain ⟨a2, ea2⟩ : ∃ c, a1 ++ ({ data := #[41] } : ByteArray) = c := ⟨_, rfl⟩
        have ha2 : a2.size ≤ ((2 + B) + 1) := cat_le ea2 ha1 (Nat.le_refl _)
        go_wp2_with fail
        go_ret
        exact ⟨_, _, _, rfl, by rw [hB1]; omega, X21.out.mem, X21.out.fr⟩
      by_cases hj6 : j = 6
      · as_aux_lemma =>
        subst hj6
        go_upto_region 53 with fail
        refine wp_region_held_drew (S := fun W => ∃ (a : Nat) (z : Int), Ex w W base p A rc raw { m with at_ := a, size := z } rows kb db D) (by kernel_rfl) (by exact ⟨_, _, X4.out.up (Fr.drew (Fr.refl _ _))⟩) (fun hHeld => ?_)
        refine held_take (i := 0) (d := some 224) (v := ?_) rfl rfl (by kernel_rfl) (by kernel_rfl) (by kernel_rfl) (fun _ _ _ h => h) (by rfl) ?_ (by assumption) ?_
        rotate_left 1
        focus (intro w hSw; (try dsimp only at hSw); go_simp; first | done | with_reducible rfl)
        simp only [Act.put, List.setIfInBounds_toArray, List.set_cons_zero, List.set_cons_succ]
        refine held_take (i := 3) (d := some 227) (v := .agg cmpA53) rfl rfl (by kernel_rfl) (by kernel_rfl) (by kernel_rfl) (fun _ _ _ h => h) (by rfl) (fun w _ => exec_built 84 _ rfl cmpA53 (cmpB53 _)) (by assumption) ?_
        simp only [Act.put, List.setIfInBounds_toArray, List.set_cons_zero, List.set_cons_succ]
        refine held_take (i := 4) (d := some 228) (v := ?_) rfl rfl (by kernel_rfl) (by kernel_rfl) (by kernel_rfl) (fun _ _ _ h => h) (by rfl) ?_ (by assumption) ?_
        rotate_left 1
        focus (intro w hSw; obtain ⟨_, _, hq⟩ := hSw; have kq := hq.kc; clear hq; (try dsimp only at hSw); go_simp; first | done | with_reducible rfl)
        simp only [Act.put, List.setIfInBounds_toArray, List.set_cons_zero, List.set_cons_succ]
        refine wpAnyH_ready (rs := [1]) (by kernel_rfl) (by simp) ?_
        refine AllReadyH.cons (o := _) rfl (fun K hK => ?_) AllReadyH.nil
        obtain ⟨ax1, zx1, hE1⟩ := hHeld
        have H1 := Lib.hid hE1
        clear hE1
        go_simp
        refine (show Calls Tryd.prog 62 #[.int .i64 4, .pointer (some ⟨kb, 0, none⟩), .pointer (some ⟨db, 0, none⟩)] _ _ from e_any IH hd HD.out H1.out hn 4 (by decide)).mono ?_
        rintro e wx1 ⟨s1, bx1, yx1, rfl, hs1, hX1⟩
        rw [hB] at hs1
        have X21 := Lib.hid hX1
        clear hX1
        go_simp
        refine hK.out _ _ (by exact ⟨_, _, X21.out⟩) (fun hHeld => ?_)
        clear hK K X21 H1
        have q1 : 1 + s1.size ≤ 9223372036854775807 := by omega
        have q1' : ¬ 9223372036854775807 < 1 + s1.size := by omega
        obtain ⟨ac1, eac1⟩ : ∃ c, ({ data := #[40] } : ByteArray) ++ s1 = c := ⟨_, rfl⟩
        have hac1 : ac1.size ≤ (1 + B) := cat_le eac1 (Nat.le_refl _) hs1
        refine held_take (i := 2) (d := some 226) (v := ?_) rfl rfl (by kernel_rfl) (by kernel_rfl) (by kernel_rfl) (fun _ _ _ h => h) (by rfl) ?_ (by assumption) ?_
        rotate_left 1
        focus (intro w hSw; (try dsimp only at hSw); go_simp; first | done | with_reducible rfl)
        simp only [Act.put, List.setIfInBounds_toArray, List.set_cons_zero, List.set_cons_succ]
        try rw [eac1]
        clear q1 q1'
        refine wpAnyH_ready (rs := [5]) (by kernel_rfl) (by simp) ?_
        refine AllReadyH.cons (o := _) rfl (fun K hK => ?_) AllReadyH.nil
        obtain ⟨axn, zxn, hEn⟩ := hHeld
        have Hn := Lib.hid hEn
        clear hEn
        go_simp
        refine (show Calls Tryd.prog 22 #[.pointer (some ⟨p, 0, none⟩), .int .i64 2] _ _ from nx_any Hn.out 2 (by decide) (by decide)).mono ?_
        rintro e wxn ⟨j5, bn, hj5, rfl, hXn⟩
        have X2n := Lib.hid hXn
        obtain ⟨x5, hx5, gi5⟩ := cmpIdx53 j5 hj5
        have hj5i : (j5 : Int) < 2 := by omega
        clear hXn
        go_simp
        refine hK.out _ _ (by exact ⟨_, _, X2n.out⟩) (fun hHeld => ?_)
        clear hK K X2n Hn
        refine held_take (i := 6) (d := some 230) (v := ?_) rfl rfl (by kernel_rfl) (by kernel_rfl) (by kernel_rfl) (fun _ _ _ h => h) (by rfl) ?_ (by assumption) ?_
        rotate_left 1
        focus (intro w hSw; (try dsimp only at hSw); go_simp; first | done | with_reducible rfl)
        simp only [Act.put, List.setIfInBounds_toArray, List.set_cons_zero, List.set_cons_succ]
        have q2 : ac1.size + x5.size ≤ 9223372036854775807 := by omega
        have q2' : ¬ 9223372036854775807 < ac1.size + x5.size := by omega
        obtain ⟨ac2, eac2⟩ : ∃ c, ac1 ++ x5 = c := ⟨_, rfl⟩
        have hac2 : ac2.size ≤ ((1 + B) + 4) := cat_le eac2 hac1 hx5
        refine held_take (i := 7) (d := some 231) (v := ?_) rfl rfl (by kernel_rfl) (by kernel_rfl) (by kernel_rfl) (fun _ _ _ h => h) (by rfl) ?_ (by assumption) ?_
        rotate_left 1
        focus (intro w hSw; (try dsimp only at hSw); go_simp; first | done | with_reducible rfl)
        simp only [Act.put, List.setIfInBounds_toArray, List.set_cons_zero, List.set_cons_succ]
        try rw [eac2]
        clear q2 q2'
        have q3 : ac2.size + 4 ≤ 9223372036854775807 := by omega
        have q3' : ¬ 9223372036854775807 < ac2.size + 4 := by omega
        obtain ⟨ac3, eac3⟩ : ∃ c, ac2 ++ ({ data := #[110, 105, 108, 41] } : ByteArray) = c := ⟨_, rfl⟩
        have hac3 : ac3.size ≤ (((1 + B) + 4) + 4) := cat_le eac3 hac2 (Nat.le_refl _)
        refine held_take (i := 8) (d := some 232) (v := ?_) rfl rfl (by kernel_rfl) (by kernel_rfl) (by kernel_rfl) (fun _ _ _ h => h) (by rfl) ?_ (by assumption) ?_
        rotate_left 1
        focus (intro w hSw; (try dsimp only at hSw); go_simp; first | done | with_reducible rfl)
        simp only [Act.put, List.setIfInBounds_toArray, List.set_cons_zero, List.set_cons_succ]
        try rw [eac3]
        clear q3 q3'
        refine held_take (i := 9) (d := some 6) (v := ?_) rfl rfl (by kernel_rfl) (by kernel_rfl) (by kernel_rfl) (fun _ _ _ h => h) (by rfl) ?_ (by assumption) ?_
        rotate_left 1
        focus (intro w hSw; (try dsimp only at hSw); go_simp; first | done | with_reducible rfl)
        simp only [Act.put, List.setIfInBounds_toArray, List.set_cons_zero, List.set_cons_succ]
        refine wpAnyH_done (by kernel_rfl) ?_ _
        obtain ⟨axe, zxe, hEe⟩ := hHeld
        have He := Lib.hid hEe
        clear hEe
        go_wp2_with fail
        go_ret
        exact ⟨_, _, _, rfl, by rw [hB1]; omega, He.out.mem, He.out.fr⟩
      by_cases hj7 : j = 7
      · as_aux_lemma =>
        subst hj7
        go_upto_region 55 with fail
        refine wp_region_held_drew (S := fun W => ∃ (a : Nat) (z : Int), Ex w W base p A rc raw { m with at_ := a, size := z } rows kb db D) (by kernel_rfl) (by exact ⟨_, _, X4.out.up (Fr.drew (Fr.refl _ _))⟩) (fun hHeld => ?_)
        refine held_take (i := 0) (d := some 235) (v := ?_) rfl rfl (by kernel_rfl) (by kernel_rfl) (by kernel_rfl) (fun _ _ _ h => h) (by rfl) ?_ (by assumption) ?_
        rotate_left 1
        focus (intro w hSw; (try dsimp only at hSw); go_simp; first | done | with_reducible rfl)
        simp only [Act.put, List.setIfInBounds_toArray, List.set_cons_zero, List.set_cons_succ]
        refine held_take (i := 5) (d := some 240) (v := .agg cmpA55) rfl rfl (by kernel_rfl) (by kernel_rfl) (by kernel_rfl) (fun _ _ _ h => h) (by rfl) (fun w _ => exec_built 85 _ rfl cmpA55 (cmpB55 _)) (by assumption) ?_
        simp only [Act.put, List.setIfInBounds_toArray, List.set_cons_zero, List.set_cons_succ]
        refine held_take (i := 6) (d := some 241) (v := ?_) rfl rfl (by kernel_rfl) (by kernel_rfl) (by kernel_rfl) (fun _ _ _ h => h) (by rfl) ?_ (by assumption) ?_
        rotate_left 1
        focus (intro w hSw; obtain ⟨_, _, hq⟩ := hSw; have kq := hq.kc; clear hq; (try dsimp only at hSw); go_simp; first | done | with_reducible rfl)
        simp only [Act.put, List.setIfInBounds_toArray, List.set_cons_zero, List.set_cons_succ]
        refine held_take (i := 4) (d := some 239) (v := ?_) rfl rfl (by kernel_rfl) (by kernel_rfl) (by kernel_rfl) (fun _ _ _ h => h) (by rfl) ?_ (by assumption) ?_
        rotate_left 1
        focus (intro w hSw; (try dsimp only at hSw); go_simp; first | done | with_reducible rfl)
        simp only [Act.put, List.setIfInBounds_toArray, List.set_cons_zero, List.set_cons_succ]
        refine wpAnyH_ready (rs := [1]) (by kernel_rfl) (by simp) ?_
        refine AllReadyH.cons (o := _) rfl (fun K hK => ?_) AllReadyH.nil
        obtain ⟨ax1, zx1, hE1⟩ := hHeld
        have H1 := Lib.hid hE1
        clear hE1
        go_simp
        refine (show Calls Tryd.prog 62 #[.int .i64 6, .pointer (some ⟨kb, 0, none⟩), .pointer (some ⟨db, 0, none⟩)] _ _ from e_any IH hd HD.out H1.out hn 6 (by decide)).mono ?_
        rintro e wx1 ⟨s1, bx1, yx1, rfl, hs1, hX1⟩
        rw [hB] at hs1
        have X21 := Lib.hid hX1
        clear hX1
        go_simp
        refine hK.out _ _ (by exact ⟨_, _, X21.out⟩) (fun hHeld => ?_)
        clear hK K X21 H1
        have q1 : 1 + s1.size ≤ 9223372036854775807 := by omega
        have q1' : ¬ 9223372036854775807 < 1 + s1.size := by omega
        obtain ⟨ac1, eac1⟩ : ∃ c, ({ data := #[40] } : ByteArray) ++ s1 = c := ⟨_, rfl⟩
        have hac1 : ac1.size ≤ (1 + B) := cat_le eac1 (Nat.le_refl _) hs1
        refine held_take (i := 2) (d := some 237) (v := ?_) rfl rfl (by kernel_rfl) (by kernel_rfl) (by kernel_rfl) (fun _ _ _ h => h) (by rfl) ?_ (by assumption) ?_
        rotate_left 1
        focus (intro w hSw; (try dsimp only at hSw); go_simp; first | done | with_reducible rfl)
        simp only [Act.put, List.setIfInBounds_toArray, List.set_cons_zero, List.set_cons_succ]
        try rw [eac1]
        clear q1 q1'
        have q2 : ac1.size + 4 ≤ 9223372036854775807 := by omega
        have q2' : ¬ 9223372036854775807 < ac1.size + 4 := by omega
        obtain ⟨ac2, eac2⟩ : ∃ c, ac1 ++ ({ data := #[32, 61, 61, 32] } : ByteArray) = c := ⟨_, rfl⟩
        have hac2 : ac2.size ≤ ((1 + B) + 4) := cat_le eac2 hac1 (Nat.le_refl _)
        refine held_take (i := 3) (d := some 238) (v := ?_) rfl rfl (by kernel_rfl) (by kernel_rfl) (by kernel_rfl) (fun _ _ _ h => h) (by rfl) ?_ (by assumption) ?_
        rotate_left 1
        focus (intro w hSw; (try dsimp only at hSw); go_simp; first | done | with_reducible rfl)
        simp only [Act.put, List.setIfInBounds_toArray, List.set_cons_zero, List.set_cons_succ]
        try rw [eac2]
        clear q2 q2'
        refine wpAnyH_ready (rs := [7]) (by kernel_rfl) (by simp) ?_
        refine AllReadyH.cons (o := _) rfl (fun K hK => ?_) AllReadyH.nil
        obtain ⟨axn, zxn, hEn⟩ := hHeld
        have Hn := Lib.hid hEn
        clear hEn
        go_simp
        refine (show Calls Tryd.prog 22 #[.pointer (some ⟨p, 0, none⟩), .int .i64 2] _ _ from nx_any Hn.out 2 (by decide) (by decide)).mono ?_
        rintro e wxn ⟨j5, bn, hj5, rfl, hXn⟩
        have X2n := Lib.hid hXn
        obtain ⟨x5, hx5, gi5⟩ := cmpIdx55 j5 hj5
        have hj5i : (j5 : Int) < 2 := by omega
        clear hXn
        go_simp
        refine hK.out _ _ (by exact ⟨_, _, X2n.out⟩) (fun hHeld => ?_)
        clear hK K X2n Hn
        refine held_take (i := 8) (d := some 243) (v := ?_) rfl rfl (by kernel_rfl) (by kernel_rfl) (by kernel_rfl) (fun _ _ _ h => h) (by rfl) ?_ (by assumption) ?_
        rotate_left 1
        focus (intro w hSw; (try dsimp only at hSw); go_simp; first | done | with_reducible rfl)
        simp only [Act.put, List.setIfInBounds_toArray, List.set_cons_zero, List.set_cons_succ]
        refine wpAnyH_ready (rs := [9]) (by kernel_rfl) (by simp) ?_
        refine AllReadyH.cons (o := _) rfl (fun K hK => ?_) AllReadyH.nil
        obtain ⟨ax2, zx2, hE2⟩ := hHeld
        have H2 := Lib.hid hE2
        clear hE2
        go_simp
        refine (show Calls Tryd.prog 62 #[.int .i64 (x5 : Nat), .pointer (some ⟨kb, 0, none⟩), .pointer (some ⟨db, 0, none⟩)] _ _ from e_any IH hd HD.out H2.out hn x5 hx5).mono ?_
        rintro e wx2 ⟨s2, bx2, yx2, rfl, hs2, hX2⟩
        rw [hB] at hs2
        have X22 := Lib.hid hX2
        clear hX2
        go_simp
        refine hK.out _ _ (by exact ⟨_, _, X22.out⟩) (fun hHeld => ?_)
        clear hK K X22 H2
        have q3 : ac2.size + s2.size ≤ 9223372036854775807 := by omega
        have q3' : ¬ 9223372036854775807 < ac2.size + s2.size := by omega
        obtain ⟨ac3, eac3⟩ : ∃ c, ac2 ++ s2 = c := ⟨_, rfl⟩
        have hac3 : ac3.size ≤ (((1 + B) + 4) + B) := cat_le eac3 hac2 hs2
        refine held_take (i := 10) (d := some 245) (v := ?_) rfl rfl (by kernel_rfl) (by kernel_rfl) (by kernel_rfl) (fun _ _ _ h => h) (by rfl) ?_ (by assumption) ?_
        rotate_left 1
        focus (intro w hSw; (try dsimp only at hSw); go_simp; first | done | with_reducible rfl)
        simp only [Act.put, List.setIfInBounds_toArray, List.set_cons_zero, List.set_cons_succ]
        try rw [eac3]
        clear q3 q3'
        have q4 : ac3.size + 1 ≤ 9223372036854775807 := by omega
        have q4' : ¬ 9223372036854775807 < ac3.size + 1 := by omega
        obtain ⟨ac4, eac4⟩ : ∃ c, ac3 ++ ({ data := #[41] } : ByteArray) = c := ⟨_, rfl⟩
        have hac4 : ac4.size ≤ ((((1 + B) + 4) + B) + 1) := cat_le eac4 hac3 (Nat.le_refl _)
        refine held_take (i := 11) (d := some 246) (v := ?_) rfl rfl (by kernel_rfl) (by kernel_rfl) (by kernel_rfl) (fun _ _ _ h => h) (by rfl) ?_ (by assumption) ?_
        rotate_left 1
        focus (intro w hSw; (try dsimp only at hSw); go_simp; first | done | with_reducible rfl)
        simp only [Act.put, List.setIfInBounds_toArray, List.set_cons_zero, List.set_cons_succ]
        try rw [eac4]
        clear q4 q4'
        refine held_take (i := 12) (d := some 6) (v := ?_) rfl rfl (by kernel_rfl) (by kernel_rfl) (by kernel_rfl) (fun _ _ _ h => h) (by rfl) ?_ (by assumption) ?_
        rotate_left 1
        focus (intro w hSw; (try dsimp only at hSw); go_simp; first | done | with_reducible rfl)
        simp only [Act.put, List.setIfInBounds_toArray, List.set_cons_zero, List.set_cons_succ]
        refine wpAnyH_done (by kernel_rfl) ?_ _
        obtain ⟨axe, zxe, hEe⟩ := hHeld
        have He := Lib.hid hEe
        clear hEe
        go_wp2_with fail
        go_ret
        exact ⟨_, _, _, rfl, by rw [hB1]; omega, He.out.mem, He.out.fr⟩
      by_cases hj8 : j = 8
      · as_aux_lemma =>
        subst hj8
        go_upto_region 57 with fail
        refine wp_region_held_drew (S := fun W => ∃ (a : Nat) (z : Int), Ex w W base p A rc raw { m with at_ := a, size := z } rows kb db D) (by kernel_rfl) (by exact ⟨_, _, X4.out.up (Fr.drew (Fr.refl _ _))⟩) (fun hHeld => ?_)
        refine held_take (i := 0) (d := some 249) (v := ?_) rfl rfl (by kernel_rfl) (by kernel_rfl) (by kernel_rfl) (fun _ _ _ h => h) (by rfl) ?_ (by assumption) ?_
        rotate_left 1
        focus (intro w hSw; (try dsimp only at hSw); go_simp; first | done | with_reducible rfl)
        simp only [Act.put, List.setIfInBounds_toArray, List.set_cons_zero, List.set_cons_succ]
        refine held_take (i := 3) (d := some 252) (v := .agg cmpA57) rfl rfl (by kernel_rfl) (by kernel_rfl) (by kernel_rfl) (fun _ _ _ h => h) (by rfl) (fun w _ => exec_built 86 _ rfl cmpA57 (cmpB57 _)) (by assumption) ?_
        simp only [Act.put, List.setIfInBounds_toArray, List.set_cons_zero, List.set_cons_succ]
        refine held_take (i := 4) (d := some 253) (v := ?_) rfl rfl (by kernel_rfl) (by kernel_rfl) (by kernel_rfl) (fun _ _ _ h => h) (by rfl) ?_ (by assumption) ?_
        rotate_left 1
        focus (intro w hSw; obtain ⟨_, _, hq⟩ := hSw; have kq := hq.kc; clear hq; (try dsimp only at hSw); go_simp; first | done | with_reducible rfl)
        simp only [Act.put, List.setIfInBounds_toArray, List.set_cons_zero, List.set_cons_succ]
        refine held_take (i := 8) (d := some 257) (v := ?_) rfl rfl (by kernel_rfl) (by kernel_rfl) (by kernel_rfl) (fun _ _ _ h => h) (by rfl) ?_ (by assumption) ?_
        rotate_left 1
        focus (intro w hSw; (try dsimp only at hSw); go_simp; first | done | with_reducible rfl)
        simp only [Act.put, List.setIfInBounds_toArray, List.set_cons_zero, List.set_cons_succ]
        refine wpAnyH_ready (rs := [1]) (by kernel_rfl) (by simp) ?_
        refine AllReadyH.cons (o := _) rfl (fun K hK => ?_) AllReadyH.nil
        obtain ⟨ax1, zx1, hE1⟩ := hHeld
        have H1 := Lib.hid hE1
        clear hE1
        go_simp
        refine (show Calls Tryd.prog 62 #[.int .i64 2, .pointer (some ⟨kb, 0, none⟩), .pointer (some ⟨db, 0, none⟩)] _ _ from e_any IH hd HD.out H1.out hn 2 (by decide)).mono ?_
        rintro e wx1 ⟨s1, bx1, yx1, rfl, hs1, hX1⟩
        rw [hB] at hs1
        have X21 := Lib.hid hX1
        clear hX1
        go_simp
        refine hK.out _ _ (by exact ⟨_, _, X21.out⟩) (fun hHeld => ?_)
        clear hK K X21 H1
        have q1 : 1 + s1.size ≤ 9223372036854775807 := by omega
        have q1' : ¬ 9223372036854775807 < 1 + s1.size := by omega
        obtain ⟨ac1, eac1⟩ : ∃ c, ({ data := #[40] } : ByteArray) ++ s1 = c := ⟨_, rfl⟩
        have hac1 : ac1.size ≤ (1 + B) := cat_le eac1 (Nat.le_refl _) hs1
        refine held_take (i := 2) (d := some 251) (v := ?_) rfl rfl (by kernel_rfl) (by kernel_rfl) (by kernel_rfl) (fun _ _ _ h => h) (by rfl) ?_ (by assumption) ?_
        rotate_left 1
        focus (intro w hSw; (try dsimp only at hSw); go_simp; first | done | with_reducible rfl)
        simp only [Act.put, List.setIfInBounds_toArray, List.set_cons_zero, List.set_cons_succ]
        try rw [eac1]
        clear q1 q1'
        refine wpAnyH_ready (rs := [5]) (by kernel_rfl) (by simp) ?_
        refine AllReadyH.cons (o := _) rfl (fun K hK => ?_) AllReadyH.nil
        obtain ⟨axn, zxn, hEn⟩ := hHeld
        have Hn := Lib.hid hEn
        clear hEn
        go_simp
        refine (show Calls Tryd.prog 22 #[.pointer (some ⟨p, 0, none⟩), .int .i64 4] _ _ from nx_any Hn.out 4 (by decide) (by decide)).mono ?_
        rintro e wxn ⟨j5, bn, hj5, rfl, hXn⟩
        have X2n := Lib.hid hXn
        obtain ⟨x5, hx5, gi5⟩ := cmpIdx57 j5 hj5
        have hj5i : (j5 : Int) < 4 := by omega
        clear hXn
        go_simp
        refine hK.out _ _ (by exact ⟨_, _, X2n.out⟩) (fun hHeld => ?_)
        clear hK K X2n Hn
        refine held_take (i := 6) (d := some 255) (v := ?_) rfl rfl (by kernel_rfl) (by kernel_rfl) (by kernel_rfl) (fun _ _ _ h => h) (by rfl) ?_ (by assumption) ?_
        rotate_left 1
        focus (intro w hSw; (try dsimp only at hSw); go_simp; first | done | with_reducible rfl)
        simp only [Act.put, List.setIfInBounds_toArray, List.set_cons_zero, List.set_cons_succ]
        have q2 : ac1.size + x5.size ≤ 9223372036854775807 := by omega
        have q2' : ¬ 9223372036854775807 < ac1.size + x5.size := by omega
        obtain ⟨ac2, eac2⟩ : ∃ c, ac1 ++ x5 = c := ⟨_, rfl⟩
        have hac2 : ac2.size ≤ ((1 + B) + 4) := cat_le eac2 hac1 hx5
        refine held_take (i := 7) (d := some 256) (v := ?_) rfl rfl (by kernel_rfl) (by kernel_rfl) (by kernel_rfl) (fun _ _ _ h => h) (by rfl) ?_ (by assumption) ?_
        rotate_left 1
        focus (intro w hSw; (try dsimp only at hSw); go_simp; first | done | with_reducible rfl)
        simp only [Act.put, List.setIfInBounds_toArray, List.set_cons_zero, List.set_cons_succ]
        try rw [eac2]
        clear q2 q2'
        refine wpAnyH_ready (rs := [9]) (by kernel_rfl) (by simp) ?_
        refine AllReadyH.cons (o := _) rfl (fun K hK => ?_) AllReadyH.nil
        obtain ⟨ax2, zx2, hE2⟩ := hHeld
        have H2 := Lib.hid hE2
        clear hE2
        go_simp
        refine (show Calls Tryd.prog 62 #[.int .i64 2, .pointer (some ⟨kb, 0, none⟩), .pointer (some ⟨db, 0, none⟩)] _ _ from e_any IH hd HD.out H2.out hn 2 (by decide)).mono ?_
        rintro e wx2 ⟨s2, bx2, yx2, rfl, hs2, hX2⟩
        rw [hB] at hs2
        have X22 := Lib.hid hX2
        clear hX2
        go_simp
        refine hK.out _ _ (by exact ⟨_, _, X22.out⟩) (fun hHeld => ?_)
        clear hK K X22 H2
        have q3 : ac2.size + s2.size ≤ 9223372036854775807 := by omega
        have q3' : ¬ 9223372036854775807 < ac2.size + s2.size := by omega
        obtain ⟨ac3, eac3⟩ : ∃ c, ac2 ++ s2 = c := ⟨_, rfl⟩
        have hac3 : ac3.size ≤ (((1 + B) + 4) + B) := cat_le eac3 hac2 hs2
        refine held_take (i := 10) (d := some 259) (v := ?_) rfl rfl (by kernel_rfl) (by kernel_rfl) (by kernel_rfl) (fun _ _ _ h => h) (by rfl) ?_ (by assumption) ?_
        rotate_left 1
        focus (intro w hSw; (try dsimp only at hSw); go_simp; first | done | with_reducible rfl)
        simp only [Act.put, List.setIfInBounds_toArray, List.set_cons_zero, List.set_cons_succ]
        try rw [eac3]
        clear q3 q3'
        have q4 : ac3.size + 1 ≤ 9223372036854775807 := by omega
        have q4' : ¬ 9223372036854775807 < ac3.size + 1 := by omega
        obtain ⟨ac4, eac4⟩ : ∃ c, ac3 ++ ({ data := #[41] } : ByteArray) = c := ⟨_, rfl⟩
        have hac4 : ac4.size ≤ ((((1 + B) + 4) + B) + 1) := cat_le eac4 hac3 (Nat.le_refl _)
        refine held_take (i := 11) (d := some 260) (v := ?_) rfl rfl (by kernel_rfl) (by kernel_rfl) (by kernel_rfl) (fun _ _ _ h => h) (by rfl) ?_ (by assumption) ?_
        rotate_left 1
        focus (intro w hSw; (try dsimp only at hSw); go_simp; first | done | with_reducible rfl)
        simp only [Act.put, List.setIfInBounds_toArray, List.set_cons_zero, List.set_cons_succ]
        try rw [eac4]
        clear q4 q4'
        refine held_take (i := 12) (d := some 6) (v := ?_) rfl rfl (by kernel_rfl) (by kernel_rfl) (by kernel_rfl) (fun _ _ _ h => h) (by rfl) ?_ (by assumption) ?_
        rotate_left 1
        focus (intro w hSw; (try dsimp only at hSw); go_simp; first | done | with_reducible rfl)
        simp only [Act.put, List.setIfInBounds_toArray, List.set_cons_zero, List.set_cons_succ]
        refine wpAnyH_done (by kernel_rfl) ?_ _
        obtain ⟨axe, zxe, hEe⟩ := hHeld
        have He := Lib.hid hEe
        clear hEe
        go_wp2_with fail
        go_ret
        exact ⟨_, _, _, rfl, by rw [hB1]; omega, He.out.mem, He.out.fr⟩
      have g0 : ((j : Int) == 0) = false := beq_eq_false_iff_ne.2 (by omega)
      have g1 : ((j : Int) == 1) = false := beq_eq_false_iff_ne.2 (by omega)
      have g2 : ((j : Int) == 2) = false := beq_eq_false_iff_ne.2 (by omega)
      have g3 : ((j : Int) == 3) = false := beq_eq_false_iff_ne.2 (by omega)
      have g4 : ((j : Int) == 4) = false := beq_eq_false_iff_ne.2 (by omega)
      have g5 : ((j : Int) == 5) = false := beq_eq_false_iff_ne.2 (by omega)
      have g6 : ((j : Int) == 6) = false := beq_eq_false_iff_ne.2 (by omega)
      have g7 : ((j : Int) == 7) = false := beq_eq_false_iff_ne.2 (by omega)
      have g8 : ((j : Int) == 8) = false := beq_eq_false_iff_ne.2 (by omega)
      have Lf := Lib.hid (show Calls Tryd.prog 61 #[.pointer (some ⟨p, 0, none⟩), .int .i64 1] w4 _ from lf_any X4.out hn 1 (by decide))
      have kcl := X4.out.kc
      go_wp2_with fail
      refine Lf.out.mono ?_
      rintro e wl ⟨sl, bl, rfl, hsl, hXl⟩
      have Xl := Lib.hid hXl
      have hsl2 := Lib.hid hsl
      clear hXl hsl Lf
      go_wp2_with fail
      go_ret
      exact ⟨sl, _, _, rfl, by rw [hB1]; have := hsl2.out; omega, Xl.out.mem, Xl.out.fr⟩
end Go.Proofs.YtemmdbjcllcelaaDoor.Tk
