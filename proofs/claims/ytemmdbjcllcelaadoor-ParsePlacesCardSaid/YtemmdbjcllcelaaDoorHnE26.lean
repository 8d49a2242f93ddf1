/-
  The hand's maker: expr of type 2.
  The hand's maker: expr of type 3.
  The hand's maker: expr of type 4.
  The hand's maker: expr of type 5.
  The hand's maker: expr of type 6.
-/
import Derived.Test.YtemmdbjcllcelaaDoorHnBC
import Derived.Deep.DeepCutAuto
namespace Go.Proofs.YtemmdbjcllcelaaDoor.Tk
open Go.RowKit


set_option maxRecDepth 20000 in
set_option maxHeartbeats 8000000 in
theorem expr_2 {d D : Nat} (IH : ExprOk d) (hd : d ≤ 5) (hD : D = d + 1) {w : World} {base p : Nat} {A : Option Addr} {rc : Nat} {raw : List Int} {m : MS} {rows : List (List ByteArray)} (h : Mk w base p A rc raw m rows) (hn : m.names ≤ 100) :
    Calls Tryd.prog 35 #[.pointer (some ⟨p, 0, none⟩), .int .i64 2, .int .i64 D] w fun e w' => ∃ (s : ByteArray) (a : Nat) (z : Int), e = .returned (.string s) ∧ s.size ≤ eB D ∧ Mk w' base p A rc raw { m with at_ := a, size := z } rows ∧ FM p w w' := by
  obtain ⟨B, hB⟩ : ∃ B, eB d = B := ⟨_, rfl⟩
  have hB1 : eB D = 2 * B + 20 := by rw [hD, eB, hB]
  have hB0 : B ≤ 2000 := by rw [← hB]; exact eB_le hd
  have hD0 : ¬ (D : Int) ≤ 0 := by omega
  have dD : decide (D = 0) = false := decide_eq_false (by omega)
  have HD := Lib.hid hD
  clear hD
  obtain ⟨z, hz⟩ : ∃ z, IntKind.i64.wrap (m.size + 1) = z := ⟨_, rfl⟩
  obtain ⟨w1, hw1⟩ : ∃ w1, w1 = (w.alloc (.cells #[.pointer (some ⟨p, 0, none⟩)] 60)).alloc (.cells #[.int .i64 D] 3) := ⟨_, rfl⟩
  obtain ⟨hX1, hX2⟩ := Ex.start (d := D) h z w1 hw1
  have X1 := Lib.hid hX1
  have X2 := Lib.hid hX2
  have c5 := hX1.mem.cell 5
  have f5 := hX1.mem.free 5
  have k1 := hX1.kc
  have hrl := h.nums.le
  have hrb := h.nums.big
  simp only [List.getElem?_toArray, List.getElem?_cons_zero, List.getElem?_cons_succ] at c5
  clear h hX1 hX2
  go_enter Tryd.func35, Tryd.ntmps35
  go_upto_region 1 with fail
  rw [← hw1]
  clear hw1
  generalize w.heap.size + 1 = db at X1 X2 k1 ⊢
  generalize hkb : w.heap.size = kb at X1 X2 k1 ⊢
  clear hkb
  go_upto_region 2 with fail
  clear hz c5 f5 k1 X1
  generalize w1.setCell ⟨p, 5, none⟩ (.int .i64 z) = w2 at X2 ⊢
  have c0 := X2.out.mem.cell 0
  have c1 := X2.out.mem.cell 1
  have c5 := X2.out.mem.cell 5
  have k2 := X2.out.kc
  have d2 := X2.out.dc
  simp only [List.getElem?_toArray, List.getElem?_cons_zero, List.getElem?_cons_succ] at c0 c1 c5
  by_cases hz70 : z > 70
  · as_aux_lemma =>
    have dz : decide (70 < z) = true := decide_eq_true hz70
    go_quiet (fail)
    rename Nat => n0
    have X3 := Lib.hid (X2.out.up (Fr.drewN (Fr.refl _ w2) n0))
    generalize w2.drewN n0 = w3 at X3 ⊢
    clear c0 c1 c5 k2 d2 dD dz X2
    have Lf := Lib.hid (show Calls Tryd.prog 61 #[.pointer (some ⟨p, 0, none⟩), .int .i64 2] w3 _ from lf_any X3.out hn 2 (by decide))
    have kcl := X3.out.kc
    go_wp2_with fail
    refine Lf.out.mono ?_
    rintro e wl ⟨sl, bl, rfl, hsl, hXl⟩
    have Xl := Lib.hid hXl
    have hsl2 := Lib.hid hsl
    clear hXl hsl Lf
    go_wp2_with fail
    go_ret
    exact ⟨sl, _, _, rfl, by rw [hB1]; have := hsl2.out; omega, Xl.out.mem, Xl.out.fr⟩
  · have dz : decide (70 < z) = false := decide_eq_false hz70
    by_cases hat : (m.at_ : Int) ≥ (raw.length : Int)
    · as_aux_lemma =>
      have da : decide (raw.length ≤ m.at_) = true := decide_eq_true (by omega)
      go_quiet (fail)
      rename Nat => n0
      have X3 := Lib.hid (X2.out.up (Fr.drewN (Fr.refl _ w2) n0))
      generalize w2.drewN n0 = w3 at X3 ⊢
      clear c0 c1 c5 k2 d2 dD dz da X2
      have Lf := Lib.hid (show Calls Tryd.prog 61 #[.pointer (some ⟨p, 0, none⟩), .int .i64 2] w3 _ from lf_any X3.out hn 2 (by decide))
      have kcl := X3.out.kc
      go_wp2_with fail
      refine Lf.out.mono ?_
      rintro e wl ⟨sl, bl, rfl, hsl, hXl⟩
      have Xl := Lib.hid hXl
      have hsl2 := Lib.hid hsl
      clear hXl hsl Lf
      go_wp2_with fail
      go_ret
      exact ⟨sl, _, _, rfl, by rw [hB1]; have := hsl2.out; omega, Xl.out.mem, Xl.out.fr⟩
    · have da : decide (raw.length ≤ m.at_) = false := decide_eq_false (by omega)
      go_quiet (fail)
      rename Nat => n0
      have X3 := Lib.hid (X2.out.up (Fr.drewN (Fr.refl _ w2) n0))
      generalize w2.drewN n0 = w3 at X3 ⊢
      clear c0 c1 c5 k2 d2 dD dz da X2 hz70 hat hD0
      have k3 := X3.out.kc
      have N := Lib.hid (show Calls Tryd.prog 22 #[.pointer (some ⟨p, 0, none⟩), .int .i64 3] w3 _ from nx_any X3.out 3 (by decide) (by decide))
      go_wp2_with fail
      refine N.out.mono ?_
      rintro e w4 ⟨j, b, hj, rfl, hX4⟩
      have X4 := Lib.hid hX4
      clear hX4 N k3 X3
      by_cases hj0 : j = 0
      · as_aux_lemma =>
        subst hj0
        have C1 := Lib.hid (show Calls Tryd.prog 62 #[.int .i64 2, .pointer (some ⟨kb, 0, none⟩), .pointer (some ⟨db, 0, none⟩)] w4 _ from e_any IH hd HD.out X4.out hn 2 (by decide))
        go_wp2_with fail
        refine C1.out.mono ?_
        rintro e we1 ⟨s1, b1, z1, rfl, hs1, hX1⟩
        have X21 := Lib.hid hX1
        rw [hB] at hs1
        clear hX1 C1
        have q1 : 1 + s1.size ≤ 9223372036854775807 := by omega
        obtain ⟨a1, ea1⟩ : ∃ c, ({ data := #[40] } : ByteArray) ++ s1 = c := ⟨_, rfl⟩
        have ha1 : a1.size ≤ (1 + B) := cat_le ea1 (Nat.le_refl _) hs1
        have q2 : a1.size + 3 ≤ 9223372036854775807 := by omega
        obtain ⟨a2, ea2⟩ : ∃ c, a1 ++ ({ data := #[32, 43, 32] } : ByteArray) = c := ⟨_, rfl⟩
        have ha2 : a2.size ≤ ((1 + B) + 3) := cat_le ea2 ha1 (Nat.le_refl _)
        have C2 := Lib.hid (show Calls Tryd.prog 62 #[.int .i64 2, .pointer (some ⟨kb, 0, none⟩), .pointer (some ⟨db, 0, none⟩)] we1 _ from e_any IH hd HD.out X21.out hn 2 (by decide))
        go_wp2_with fail
        refine C2.out.mono ?_
        rintro e we2 ⟨s2, b2, z2, rfl, hs2, hX2⟩
        have X22 := Lib.hid hX2
        rw [hB] at hs2
        clear hX2 C2
        have q3 : a2.size + s2.size ≤ 9223372036854775807 := by omega
        obtain ⟨a3, ea3⟩ : ∃ c, a2 ++ s2 = c := ⟨_, rfl⟩
        have ha3 : a3.size ≤ (((1 + B) + 3) + B) := cat_le ea3 ha2 hs2
        have q4 : a3.size + 1 ≤ 9223372036854775807 := by omega
        obtain ⟨a4, ea4⟩ : ∃ c, a3 ++ ({ data := #[41] } : ByteArray) = c := ⟨_, rfl⟩
        have ha4 : a4.size ≤ ((((1 + B) + 3) + B) + 1) := cat_le ea4 ha3 (Nat.le_refl _)
        go_wp2_with fail
        go_ret
        exact ⟨_, _, _, rfl, by rw [hB1]; omega, X22.out.mem, X22.out.fr⟩
      have g0 : ((j : Int) == 0) = false := beq_eq_false_iff_ne.2 (by omega)
      have Lf := Lib.hid (show Calls Tryd.prog 61 #[.pointer (some ⟨p, 0, none⟩), .int .i64 2] w4 _ from lf_any X4.out hn 2 (by decide))
      have kcl := X4.out.kc
      go_wp2_with fail
      refine Lf.out.mono ?_
      rintro e wl ⟨sl, bl, rfl, hsl, hXl⟩
      have Xl := Lib.hid hXl
      have hsl2 := Lib.hid hsl
      clear hXl hsl Lf
      go_wp2_with fail
      go_ret
      exact ⟨sl, _, _, rfl, by rw [hB1]; have := hsl2.out; omega, Xl.out.mem, Xl.out.fr⟩


set_option maxRecDepth 20000 in
set_option maxHeartbeats 8000000 in
theorem expr_3 {d D : Nat} (IH : ExprOk d) (hd : d ≤ 5) (hD : D = d + 1) {w : World} {base p : Nat} {A : Option Addr} {rc : Nat} {raw : List Int} {m : MS} {rows : List (List ByteArray)} (h : Mk w base p A rc raw m rows) (hn : m.names ≤ 100) :
    Calls Tryd.prog 35 #[.pointer (some ⟨p, 0, none⟩), .int .i64 3, .int .i64 D] w fun e w' => ∃ (s : ByteArray) (a : Nat) (z : Int), e = .returned (.string s) ∧ s.size ≤ eB D ∧ Mk w' base p A rc raw { m with at_ := a, size := z } rows ∧ FM p w w' := by
  obtain ⟨B, hB⟩ : ∃ B, eB d = B := ⟨_, rfl⟩
  have hB1 : eB D = 2 * B + 20 := by rw [hD, eB, hB]
  have hB0 : B ≤ 2000 := by rw [← hB]; exact eB_le hd
  have hD0 : ¬ (D : Int) ≤ 0 := by omega
  have dD : decide (D = 0) = false := decide_eq_false (by omega)
  have HD := Lib.hid hD
  clear hD
  obtain ⟨z, hz⟩ : ∃ z, IntKind.i64.wrap (m.size + 1) = z := ⟨_, rfl⟩
  obtain ⟨w1, hw1⟩ : ∃ w1, w1 = (w.alloc (.cells #[.pointer (some ⟨p, 0, none⟩)] 60)).alloc (.cells #[.int .i64 D] 3) := ⟨_, rfl⟩
  obtain ⟨hX1, hX2⟩ := Ex.start (d := D) h z w1 hw1
  have X1 := Lib.hid hX1
  have X2 := Lib.hid hX2
  have c5 := hX1.mem.cell 5
  have f5 := hX1.mem.free 5
  have k1 := hX1.kc
  have hrl := h.nums.le
  have hrb := h.nums.big
  simp only [List.getElem?_toArray, List.getElem?_cons_zero, List.getElem?_cons_succ] at c5
  clear h hX1 hX2
  go_enter Tryd.func35, Tryd.ntmps35
  go_upto_region 1 with fail
  rw [← hw1]
  clear hw1
  generalize w.heap.size + 1 = db at X1 X2 k1 ⊢
  generalize hkb : w.heap.size = kb at X1 X2 k1 ⊢
  clear hkb
  go_upto_region 2 with fail
  clear hz c5 f5 k1 X1
  generalize w1.setCell ⟨p, 5, none⟩ (.int .i64 z) = w2 at X2 ⊢
  have c0 := X2.out.mem.cell 0
  have c1 := X2.out.mem.cell 1
  have c5 := X2.out.mem.cell 5
  have k2 := X2.out.kc
  have d2 := X2.out.dc
  simp only [List.getElem?_toArray, List.getElem?_cons_zero, List.getElem?_cons_succ] at c0 c1 c5
  by_cases hz70 : z > 70
  · as_aux_lemma =>
    have dz : decide (70 < z) = true := decide_eq_true hz70
    go_quiet (fail)
    rename Nat => n0
    have X3 := Lib.hid (X2.out.up (Fr.drewN (Fr.refl _ w2) n0))
    generalize w2.drewN n0 = w3 at X3 ⊢
    clear c0 c1 c5 k2 d2 dD dz X2
    have Lf := Lib.hid (show Calls Tryd.prog 61 #[.pointer (some ⟨p, 0, none⟩), .int .i64 3] w3 _ from lf_any X3.out hn 3 (by decide))
    have kcl := X3.out.kc
    go_wp2_with fail
    refine Lf.out.mono ?_
    rintro e wl ⟨sl, bl, rfl, hsl, hXl⟩
    have Xl := Lib.hid hXl
    have hsl2 := Lib.hid hsl
    clear hXl hsl Lf
    go_wp2_with fail
    go_ret
    exact ⟨sl, _, _, rfl, by rw [hB1]; have := hsl2.out; omega, Xl.out.mem, Xl.out.fr⟩
  · have dz : decide (70 < z) = false := decide_eq_false hz70
    by_cases hat : (m.at_ : Int) ≥ (raw.length : Int)
    · as_aux_lemma =>
      have da : decide (raw.length ≤ m.at_) = true := decide_eq_true (by omega)
      go_quiet (fail)
      rename Nat => n0
      have X3 := Lib.hid (X2.out.up (Fr.drewN (Fr.refl _ w2) n0))
      generalize w2.drewN n0 = w3 at X3 ⊢
      clear c0 c1 c5 k2 d2 dD dz da X2
      have Lf := Lib.hid (show Calls Tryd.prog 61 #[.pointer (some ⟨p, 0, none⟩), .int .i64 3] w3 _ from lf_any X3.out hn 3 (by decide))
      have kcl := X3.out.kc
      go_wp2_with fail
      refine Lf.out.mono ?_
      rintro e wl ⟨sl, bl, rfl, hsl, hXl⟩
      have Xl := Lib.hid hXl
      have hsl2 := Lib.hid hsl
      clear hXl hsl Lf
      go_wp2_with fail
      go_ret
      exact ⟨sl, _, _, rfl, by rw [hB1]; have := hsl2.out; omega, Xl.out.mem, Xl.out.fr⟩
    · have da : decide (raw.length ≤ m.at_) = false := decide_eq_false (by omega)
      go_quiet (fail)
      rename Nat => n0
      have X3 := Lib.hid (X2.out.up (Fr.drewN (Fr.refl _ w2) n0))
      generalize w2.drewN n0 = w3 at X3 ⊢
      clear c0 c1 c5 k2 d2 dD dz da X2 hz70 hat hD0
      have k3 := X3.out.kc
      have N := Lib.hid (show Calls Tryd.prog 22 #[.pointer (some ⟨p, 0, none⟩), .int .i64 5] w3 _ from nx_any X3.out 5 (by decide) (by decide))
      go_wp2_with fail
      refine N.out.mono ?_
      rintro e w4 ⟨j, b, hj, rfl, hX4⟩
      have X4 := Lib.hid hX4
      clear hX4 N k3 X3
      by_cases hj0 : j = 0
      · as_aux_lemma =>
        subst hj0
        have C1 := Lib.hid (show Calls Tryd.prog 62 #[.int .i64 0, .pointer (some ⟨kb, 0, none⟩), .pointer (some ⟨db, 0, none⟩)] w4 _ from e_any IH hd HD.out X4.out hn 0 (by decide))
        go_wp2_with fail
        refine C1.out.mono ?_
        rintro e we1 ⟨s1, b1, z1, rfl, hs1, hX1⟩
        have X21 := Lib.hid hX1
        rw [hB] at hs1
        clear hX1 C1
        have q1 : 12 + s1.size ≤ 9223372036854775807 := by omega
        obtain ⟨a1, ea1⟩ : ∃ c, ({ data := #[109, 97, 107, 101, 40, 91, 93, 105, 110, 116, 44, 32] } : ByteArray) ++ s1 = c := ⟨_, rfl⟩
        have ha1 : a1.size ≤ (12 + B) := cat_le ea1 (Nat.le_refl _) hs1
        have q2 : a1.size + 1 ≤ 9223372036854775807 := by omega
        obtain ⟨a2, ea2⟩ : ∃ c, a1 ++ ({ data := #[41] } : ByteArray) = c := ⟨_, rfl⟩
        have ha2 : a2.size ≤ ((12 + B) + 1) := cat_le ea2 ha1 (Nat.le_refl _)
        go_wp2_with fail
        go_ret
        exact ⟨_, _, _, rfl, by rw [hB1]; omega, X21.out.mem, X21.out.fr⟩
      by_cases hj1 : j = 1
      · as_aux_lemma =>
        subst hj1
        have C1 := Lib.hid (show Calls Tryd.prog 62 #[.int .i64 5, .pointer (some ⟨kb, 0, none⟩), .pointer (some ⟨db, 0, none⟩)] w4 _ from e_any IH hd HD.out X4.out hn 5 (by decide))
        go_wp2_with fail
        refine C1.out.mono ?_
        rintro e we1 ⟨s1, b1, z1, rfl, hs1, hX1⟩
        have X21 := Lib.hid hX1
        rw [hB] at hs1
        clear hX1 C1
        have q1 : s1.size + 2 ≤ 9223372036854775807 := by omega
        obtain ⟨a1, ea1⟩ : ∃ c, s1 ++ ({ data := #[46, 115] } : ByteArray) = c := ⟨_, rfl⟩
        have ha1 : a1.size ≤ (B + 2) := cat_le ea1 hs1 (Nat.le_refl _)
        go_wp2_with fail
        go_ret
        exact ⟨_, _, _, rfl, by rw [hB1]; omega, X21.out.mem, X21.out.fr⟩
      have g0 : ((j : Int) == 0) = false := beq_eq_false_iff_ne.2 (by omega)
      have g1 : ((j : Int) == 1) = false := beq_eq_false_iff_ne.2 (by omega)
      have Lf := Lib.hid (show Calls Tryd.prog 61 #[.pointer (some ⟨p, 0, none⟩), .int .i64 3] w4 _ from lf_any X4.out hn 3 (by decide))
      have kcl := X4.out.kc
      go_wp2_with fail
      refine Lf.out.mono ?_
      rintro e wl ⟨sl, bl, rfl, hsl, hXl⟩
      have Xl := Lib.hid hXl
      have hsl2 := Lib.hid hsl
      clear hXl hsl Lf
      go_wp2_with fail
      go_ret
      exact ⟨sl, _, _, rfl, by rw [hB1]; have := hsl2.out; omega, Xl.out.mem, Xl.out.fr⟩


set_option maxRecDepth 20000 in
set_option maxHeartbeats 8000000 in
theorem expr_4 {d D : Nat} (IH : ExprOk d) (hd : d ≤ 5) (hD : D = d + 1) {w : World} {base p : Nat} {A : Option Addr} {rc : Nat} {raw : List Int} {m : MS} {rows : List (List ByteArray)} (h : Mk w base p A rc raw m rows) (hn : m.names ≤ 100) :
    Calls Tryd.prog 35 #[.pointer (some ⟨p, 0, none⟩), .int .i64 4, .int .i64 D] w fun e w' => ∃ (s : ByteArray) (a : Nat) (z : Int), e = .returned (.string s) ∧ s.size ≤ eB D ∧ Mk w' base p A rc raw { m with at_ := a, size := z } rows ∧ FM p w w' := by
  obtain ⟨B, hB⟩ : ∃ B, eB d = B := ⟨_, rfl⟩
  have hB1 : eB D = 2 * B + 20 := by rw [hD, eB, hB]
  have hB0 : B ≤ 2000 := by rw [← hB]; exact eB_le hd
  have hD0 : ¬ (D : Int) ≤ 0 := by omega
  have dD : decide (D = 0) = false := decide_eq_false (by omega)
  have HD := Lib.hid hD
  have _ := @IH
  clear hD
  obtain ⟨z, hz⟩ : ∃ z, IntKind.i64.wrap (m.size + 1) = z := ⟨_, rfl⟩
  obtain ⟨w1, hw1⟩ : ∃ w1, w1 = (w.alloc (.cells #[.pointer (some ⟨p, 0, none⟩)] 60)).alloc (.cells #[.int .i64 D] 3) := ⟨_, rfl⟩
  obtain ⟨hX1, hX2⟩ := Ex.start (d := D) h z w1 hw1
  have X1 := Lib.hid hX1
  have X2 := Lib.hid hX2
  have c5 := hX1.mem.cell 5
  have f5 := hX1.mem.free 5
  have k1 := hX1.kc
  have hrl := h.nums.le
  have hrb := h.nums.big
  simp only [List.getElem?_toArray, List.getElem?_cons_zero, List.getElem?_cons_succ] at c5
  clear h hX1 hX2
  go_enter Tryd.func35, Tryd.ntmps35
  go_upto_region 1 with fail
  rw [← hw1]
  clear hw1
  generalize w.heap.size + 1 = db at X1 X2 k1 ⊢
  generalize hkb : w.heap.size = kb at X1 X2 k1 ⊢
  clear hkb
  go_upto_region 2 with fail
  clear hz c5 f5 k1 X1
  generalize w1.setCell ⟨p, 5, none⟩ (.int .i64 z) = w2 at X2 ⊢
  have c0 := X2.out.mem.cell 0
  have c1 := X2.out.mem.cell 1
  have c5 := X2.out.mem.cell 5
  have k2 := X2.out.kc
  have d2 := X2.out.dc
  simp only [List.getElem?_toArray, List.getElem?_cons_zero, List.getElem?_cons_succ] at c0 c1 c5
  by_cases hz70 : z > 70
  · as_aux_lemma =>
    have dz : decide (70 < z) = true := decide_eq_true hz70
    go_quiet (fail)
    rename Nat => n0
    have X3 := Lib.hid (X2.out.up (Fr.drewN (Fr.refl _ w2) n0))
    generalize w2.drewN n0 = w3 at X3 ⊢
    clear c0 c1 c5 k2 d2 dD dz X2
    have Lf := Lib.hid (show Calls Tryd.prog 61 #[.pointer (some ⟨p, 0, none⟩), .int .i64 4] w3 _ from lf_any X3.out hn 4 (by decide))
    have kcl := X3.out.kc
    go_wp2_with fail
    refine Lf.out.mono ?_
    rintro e wl ⟨sl, bl, rfl, hsl, hXl⟩
    have Xl := Lib.hid hXl
    have hsl2 := Lib.hid hsl
    clear hXl hsl Lf
    go_wp2_with fail
    go_ret
    exact ⟨sl, _, _, rfl, by rw [hB1]; have := hsl2.out; omega, Xl.out.mem, Xl.out.fr⟩
  · have dz : decide (70 < z) = false := decide_eq_false hz70
    by_cases hat : (m.at_ : Int) ≥ (raw.length : Int)
    · as_aux_lemma =>
      have da : decide (raw.length ≤ m.at_) = true := decide_eq_true (by omega)
      go_quiet (fail)
      rename Nat => n0
      have X3 := Lib.hid (X2.out.up (Fr.drewN (Fr.refl _ w2) n0))
      generalize w2.drewN n0 = w3 at X3 ⊢
      clear c0 c1 c5 k2 d2 dD dz da X2
      have Lf := Lib.hid (show Calls Tryd.prog 61 #[.pointer (some ⟨p, 0, none⟩), .int .i64 4] w3 _ from lf_any X3.out hn 4 (by decide))
      have kcl := X3.out.kc
      go_wp2_with fail
      refine Lf.out.mono ?_
      rintro e wl ⟨sl, bl, rfl, hsl, hXl⟩
      have Xl := Lib.hid hXl
      have hsl2 := Lib.hid hsl
      clear hXl hsl Lf
      go_wp2_with fail
      go_ret
      exact ⟨sl, _, _, rfl, by rw [hB1]; have := hsl2.out; omega, Xl.out.mem, Xl.out.fr⟩
    · have da : decide (raw.length ≤ m.at_) = false := decide_eq_false (by omega)
      go_quiet (fail)
      rename Nat => n0
      have X3 := Lib.hid (X2.out.up (Fr.drewN (Fr.refl _ w2) n0))
      generalize w2.drewN n0 = w3 at X3 ⊢
      clear c0 c1 c5 k2 d2 dD dz da X2 hz70 hat hD0
      have k3 := X3.out.kc
      have N := Lib.hid (show Calls Tryd.prog 22 #[.pointer (some ⟨p, 0, none⟩), .int .i64 6] w3 _ from nx_any X3.out 6 (by decide) (by decide))
      go_wp2_with fail
      refine N.out.mono ?_
      rintro e w4 ⟨j, b, hj, rfl, hX4⟩
      have X4 := Lib.hid hX4
      clear hX4 N k3 X3
      by_cases hj0 : j = 0
      · as_aux_lemma =>
        subst hj0
        go_wp2_with fail
        go_ret
        exact ⟨_, _, _, rfl, by rw [hB1]; exact Nat.le_trans (by decide : ({ data := #[110, 101, 119, 40, 80, 41] } : ByteArray).size ≤ 20) (by omega), X4.out.mem, X4.out.fr⟩
      by_cases hj1 : j = 1
      · as_aux_lemma =>
        subst hj1
        have C1 := Lib.hid (show Calls Tryd.prog 62 #[.int .i64 4, .pointer (some ⟨kb, 0, none⟩), .pointer (some ⟨db, 0, none⟩)] w4 _ from e_any IH hd HD.out X4.out hn 4 (by decide))
        go_wp2_with fail
        refine C1.out.mono ?_
        rintro e we1 ⟨s1, b1, z1, rfl, hs1, hX1⟩
        have X21 := Lib.hid hX1
        rw [hB] at hs1
        clear hX1 C1
        have q1 : s1.size + 2 ≤ 9223372036854775807 := by omega
        obtain ⟨a1, ea1⟩ : ∃ c, s1 ++ ({ data := #[46, 110] } : ByteArray) = c := ⟨_, rfl⟩
        have ha1 : a1.size ≤ (B + 2) := cat_le ea1 hs1 (Nat.le_refl _)
        go_wp2_with fail
        go_ret
        exact ⟨_, _, _, rfl, by rw [hB1]; omega, X21.out.mem, X21.out.fr⟩
      by_cases hj2 : j = 2
      · as_aux_lemma =>
        subst hj2
        have C1 := Lib.hid (show Calls Tryd.prog 62 #[.int .i64 6, .pointer (some ⟨kb, 0, none⟩), .pointer (some ⟨db, 0, none⟩)] w4 _ from e_any IH hd HD.out X4.out hn 6 (by decide))
        go_wp2_with fail
        refine C1.out.mono ?_
        rintro e we1 ⟨s1, b1, z1, rfl, hs1, hX1⟩
        have X21 := Lib.hid hX1
        rw [hB] at hs1
        clear hX1 C1
        have q1 : s1.size + 4 ≤ 9223372036854775807 := by omega
        obtain ⟨a1, ea1⟩ : ∃ c, s1 ++ ({ data := #[46, 40, 80, 41] } : ByteArray) = c := ⟨_, rfl⟩
        have ha1 : a1.size ≤ (B + 4) := cat_le ea1 hs1 (Nat.le_refl _)
        go_wp2_with fail
        go_ret
        exact ⟨_, _, _, rfl, by rw [hB1]; omega, X21.out.mem, X21.out.fr⟩
      by_cases hj3 : j = 3
      · as_aux_lemma =>
        subst hj3
        have c8 := X4.out.mem.cell 8
        have k4 := X4.out.kc
        simp only [List.getElem?_toArray, List.getElem?_cons_zero, List.getElem?_cons_succ] at c8
        cases hcl : m.calls
        · rw [hcl] at c8
          have Lf := Lib.hid (show Calls Tryd.prog 61 #[.pointer (some ⟨p, 0, none⟩), .int .i64 4] w4 _ from lf_any X4.out hn 4 (by decide))
          have kcl := X4.out.kc
          go_wp2_with fail
          refine Lf.out.mono ?_
          rintro e wl ⟨sl, bl, rfl, hsl, hXl⟩
          have Xl := Lib.hid hXl
          have hsl2 := Lib.hid hsl
          clear hXl hsl Lf
          go_wp2_with fail
          go_ret
          exact ⟨sl, _, _, rfl, by rw [hB1]; have := hsl2.out; omega, Xl.out.mem, Xl.out.fr⟩
        · rw [hcl] at c8
          have C1 := Lib.hid (show Calls Tryd.prog 62 #[.int .i64 4, .pointer (some ⟨kb, 0, none⟩), .pointer (some ⟨db, 0, none⟩)] w4 _ from e_any IH hd HD.out X4.out hn 4 (by decide))
          go_wp2_with fail
          refine C1.out.mono ?_
          rintro e we1 ⟨s1, b1, z1, rfl, hs1, hX1⟩
          have X21 := Lib.hid hX1
          rw [hB] at hs1
          clear hX1 C1
          have q1 : 2 + s1.size ≤ 9223372036854775807 := by omega
          obtain ⟨a1, ea1⟩ : ∃ c, ({ data := #[104, 40] } : ByteArray) ++ s1 = c := ⟨_, rfl⟩
          have ha1 : a1.size ≤ (2 + B) := cat_le ea1 (Nat.le_refl _) hs1
          have q2 : a1.size + 1 ≤ 9223372036854775807 := by omega
          obtain ⟨a2, ea2⟩ : ∃ c, a1 ++ ({ data := #[41] } : ByteArray) = c := ⟨_, rfl⟩
          have ha2 : a2.size ≤ ((2 + B) + 1) := cat_le ea2 ha1 (Nat.le_refl _)
          go_wp2_with fail
          go_ret
          exact ⟨_, _, _, rfl, by rw [hB1]; omega, X21.out.mem, X21.out.fr⟩
      have g0 : ((j : Int) == 0) = false := beq_eq_false_iff_ne.2 (by omega)
      have g1 : ((j : Int) == 1) = false := beq_eq_false_iff_ne.2 (by omega)
      have g2 : ((j : Int) == 2) = false := beq_eq_false_iff_ne.2 (by omega)
      have g3 : ((j : Int) == 3) = false := beq_eq_false_iff_ne.2 (by omega)
      have Lf := Lib.hid (show Calls Tryd.prog 61 #[.pointer (some ⟨p, 0, none⟩), .int .i64 4] w4 _ from lf_any X4.out hn 4 (by decide))
      have kcl := X4.out.kc
      go_wp2_with fail
      refine Lf.out.mono ?_
      rintro e wl ⟨sl, bl, rfl, hsl, hXl⟩
      have Xl := Lib.hid hXl
      have hsl2 := Lib.hid hsl
      clear hXl hsl Lf
      go_wp2_with fail
      go_ret
      exact ⟨sl, _, _, rfl, by rw [hB1]; have := hsl2.out; omega, Xl.out.mem, Xl.out.fr⟩


set_option maxRecDepth 20000 in
set_option maxHeartbeats 8000000 in
theorem expr_5 {d D : Nat} (IH : ExprOk d) (hd : d ≤ 5) (hD : D = d + 1) {w : World} {base p : Nat} {A : Option Addr} {rc : Nat} {raw : List Int} {m : MS} {rows : List (List ByteArray)} (h : Mk w base p A rc raw m rows) (hn : m.names ≤ 100) :
    Calls Tryd.prog 35 #[.pointer (some ⟨p, 0, none⟩), .int .i64 5, .int .i64 D] w fun e w' => ∃ (s : ByteArray) (a : Nat) (z : Int), e = .returned (.string s) ∧ s.size ≤ eB D ∧ Mk w' base p A rc raw { m with at_ := a, size := z } rows ∧ FM p w w' := by
  obtain ⟨B, hB⟩ : ∃ B, eB d = B := ⟨_, rfl⟩
  have hB1 : eB D = 2 * B + 20 := by rw [hD, eB, hB]
  have hB0 : B ≤ 2000 := by rw [← hB]; exact eB_le hd
  have hD0 : ¬ (D : Int) ≤ 0 := by omega
  have dD : decide (D = 0) = false := decide_eq_false (by omega)
  have HD := Lib.hid hD
  have _ := @IH
  clear hD
  obtain ⟨z, hz⟩ : ∃ z, IntKind.i64.wrap (m.size + 1) = z := ⟨_, rfl⟩
  obtain ⟨w1, hw1⟩ : ∃ w1, w1 = (w.alloc (.cells #[.pointer (some ⟨p, 0, none⟩)] 60)).alloc (.cells #[.int .i64 D] 3) := ⟨_, rfl⟩
  obtain ⟨hX1, hX2⟩ := Ex.start (d := D) h z w1 hw1
  have X1 := Lib.hid hX1
  have X2 := Lib.hid hX2
  have c5 := hX1.mem.cell 5
  have f5 := hX1.mem.free 5
  have k1 := hX1.kc
  have hrl := h.nums.le
  have hrb := h.nums.big
  simp only [List.getElem?_toArray, List.getElem?_cons_zero, List.getElem?_cons_succ] at c5
  clear h hX1 hX2
  go_enter Tryd.func35, Tryd.ntmps35
  go_upto_region 1 with fail
  rw [← hw1]
  clear hw1
  generalize w.heap.size + 1 = db at X1 X2 k1 ⊢
  generalize hkb : w.heap.size = kb at X1 X2 k1 ⊢
  clear hkb
  go_upto_region 2 with fail
  clear hz c5 f5 k1 X1
  generalize w1.setCell ⟨p, 5, none⟩ (.int .i64 z) = w2 at X2 ⊢
  have c0 := X2.out.mem.cell 0
  have c1 := X2.out.mem.cell 1
  have c5 := X2.out.mem.cell 5
  have k2 := X2.out.kc
  have d2 := X2.out.dc
  simp only [List.getElem?_toArray, List.getElem?_cons_zero, List.getElem?_cons_succ] at c0 c1 c5
  by_cases hz70 : z > 70
  · as_aux_lemma =>
    have dz : decide (70 < z) = true := decide_eq_true hz70
    go_quiet (fail)
    rename Nat => n0
    have X3 := Lib.hid (X2.out.up (Fr.drewN (Fr.refl _ w2) n0))
    generalize w2.drewN n0 = w3 at X3 ⊢
    clear c0 c1 c5 k2 d2 dD dz X2
    have Lf := Lib.hid (show Calls Tryd.prog 61 #[.pointer (some ⟨p, 0, none⟩), .int .i64 5] w3 _ from lf_any X3.out hn 5 (by decide))
    have kcl := X3.out.kc
    go_wp2_with fail
    refine Lf.out.mono ?_
    rintro e wl ⟨sl, bl, rfl, hsl, hXl⟩
    have Xl := Lib.hid hXl
    have hsl2 := Lib.hid hsl
    clear hXl hsl Lf
    go_wp2_with fail
    go_ret
    exact ⟨sl, _, _, rfl, by rw [hB1]; have := hsl2.out; omega, Xl.out.mem, Xl.out.fr⟩
  · have dz : decide (70 < z) = false := decide_eq_false hz70
    by_cases hat : (m.at_ : Int) ≥ (raw.length : Int)
    · as_aux_lemma =>
      have da : decide (raw.length ≤ m.at_) = true := decide_eq_true (by omega)
      go_quiet (fail)
      rename Nat => n0
      have X3 := Lib.hid (X2.out.up (Fr.drewN (Fr.refl _ w2) n0))
      generalize w2.drewN n0 = w3 at X3 ⊢
      clear c0 c1 c5 k2 d2 dD dz da X2
      have Lf := Lib.hid (show Calls Tryd.prog 61 #[.pointer (some ⟨p, 0, none⟩), .int .i64 5] w3 _ from lf_any X3.out hn 5 (by decide))
      have kcl := X3.out.kc
      go_wp2_with fail
      refine Lf.out.mono ?_
      rintro e wl ⟨sl, bl, rfl, hsl, hXl⟩
      have Xl := Lib.hid hXl
      have hsl2 := Lib.hid hsl
      clear hXl hsl Lf
      go_wp2_with fail
      go_ret
      exact ⟨sl, _, _, rfl, by rw [hB1]; have := hsl2.out; omega, Xl.out.mem, Xl.out.fr⟩
    · have da : decide (raw.length ≤ m.at_) = false := decide_eq_false (by omega)
      go_quiet (fail)
      rename Nat => n0
      have X3 := Lib.hid (X2.out.up (Fr.drewN (Fr.refl _ w2) n0))
      generalize w2.drewN n0 = w3 at X3 ⊢
      clear c0 c1 c5 k2 d2 dD dz da X2 hz70 hat hD0
      have k3 := X3.out.kc
      have N := Lib.hid (show Calls Tryd.prog 22 #[.pointer (some ⟨p, 0, none⟩), .int .i64 3] w3 _ from nx_any X3.out 3 (by decide) (by decide))
      go_wp2_with fail
      refine N.out.mono ?_
      rintro e w4 ⟨j, b, hj, rfl, hX4⟩
      have X4 := Lib.hid hX4
      clear hX4 N k3 X3
      by_cases hj0 : j = 0
      · as_aux_lemma =>
        subst hj0
        go_wp2_with fail
        go_ret
        exact ⟨_, _, _, rfl, by rw [hB1]; exact Nat.le_trans (by decide : ({ data := #[110, 101, 119, 40, 81, 41] } : ByteArray).size ≤ 20) (by omega), X4.out.mem, X4.out.fr⟩
      have g0 : ((j : Int) == 0) = false := beq_eq_false_iff_ne.2 (by omega)
      have Lf := Lib.hid (show Calls Tryd.prog 61 #[.pointer (some ⟨p, 0, none⟩), .int .i64 5] w4 _ from lf_any X4.out hn 5 (by decide))
      have kcl := X4.out.kc
      go_wp2_with fail
      refine Lf.out.mono ?_
      rintro e wl ⟨sl, bl, rfl, hsl, hXl⟩
      have Xl := Lib.hid hXl
      have hsl2 := Lib.hid hsl
      clear hXl hsl Lf
      go_wp2_with fail
      go_ret
      exact ⟨sl, _, _, rfl, by rw [hB1]; have := hsl2.out; omega, Xl.out.mem, Xl.out.fr⟩


set_option maxRecDepth 20000 in
set_option maxHeartbeats 8000000 in
theorem expr_6 {d D : Nat} (IH : ExprOk d) (hd : d ≤ 5) (hD : D = d + 1) {w : World} {base p : Nat} {A : Option Addr} {rc : Nat} {raw : List Int} {m : MS} {rows : List (List ByteArray)} (h : Mk w base p A rc raw m rows) (hn : m.names ≤ 100) :
    Calls Tryd.prog 35 #[.pointer (some ⟨p, 0, none⟩), .int .i64 6, .int .i64 D] w fun e w' => ∃ (s : ByteArray) (a : Nat) (z : Int), e = .returned (.string s) ∧ s.size ≤ eB D ∧ Mk w' base p A rc raw { m with at_ := a, size := z } rows ∧ FM p w w' := by
  obtain ⟨B, hB⟩ : ∃ B, eB d = B := ⟨_, rfl⟩
  have hB1 : eB D = 2 * B + 20 := by rw [hD, eB, hB]
  have hB0 : B ≤ 2000 := by rw [← hB]; exact eB_le hd
  have hD0 : ¬ (D : Int) ≤ 0 := by omega
  have dD : decide (D = 0) = false := decide_eq_false (by omega)
  have HD := Lib.hid hD
  clear hD
  obtain ⟨z, hz⟩ : ∃ z, IntKind.i64.wrap (m.size + 1) = z := ⟨_, rfl⟩
  obtain ⟨w1, hw1⟩ : ∃ w1, w1 = (w.alloc (.cells #[.pointer (some ⟨p, 0, none⟩)] 60)).alloc (.cells #[.int .i64 D] 3) := ⟨_, rfl⟩
  obtain ⟨hX1, hX2⟩ := Ex.start (d := D) h z w1 hw1
  have X1 := Lib.hid hX1
  have X2 := Lib.hid hX2
  have c5 := hX1.mem.cell 5
  have f5 := hX1.mem.free 5
  have k1 := hX1.kc
  have hrl := h.nums.le
  have hrb := h.nums.big
  simp only [List.getElem?_toArray, List.getElem?_cons_zero, List.getElem?_cons_succ] at c5
  clear h hX1 hX2
  go_enter Tryd.func35, Tryd.ntmps35
  go_upto_region 1 with fail
  rw [← hw1]
  clear hw1
  generalize w.heap.size + 1 = db at X1 X2 k1 ⊢
  generalize hkb : w.heap.size = kb at X1 X2 k1 ⊢
  clear hkb
  go_upto_region 2 with fail
  clear hz c5 f5 k1 X1
  generalize w1.setCell ⟨p, 5, none⟩ (.int .i64 z) = w2 at X2 ⊢
  have c0 := X2.out.mem.cell 0
  have c1 := X2.out.mem.cell 1
  have c5 := X2.out.mem.cell 5
  have k2 := X2.out.kc
  have d2 := X2.out.dc
  simp only [List.getElem?_toArray, List.getElem?_cons_zero, List.getElem?_cons_succ] at c0 c1 c5
  by_cases hz70 : z > 70
  · as_aux_lemma =>
    have dz : decide (70 < z) = true := decide_eq_true hz70
    go_quiet (fail)
    rename Nat => n0
    have X3 := Lib.hid (X2.out.up (Fr.drewN (Fr.refl _ w2) n0))
    generalize w2.drewN n0 = w3 at X3 ⊢
    clear c0 c1 c5 k2 d2 dD dz X2
    have Lf := Lib.hid (show Calls Tryd.prog 61 #[.pointer (some ⟨p, 0, none⟩), .int .i64 6] w3 _ from lf_any X3.out hn 6 (by decide))
    have kcl := X3.out.kc
    go_wp2_with fail
    refine Lf.out.mono ?_
    rintro e wl ⟨sl, bl, rfl, hsl, hXl⟩
    have Xl := Lib.hid hXl
    have hsl2 := Lib.hid hsl
    clear hXl hsl Lf
    go_wp2_with fail
    go_ret
    exact ⟨sl, _, _, rfl, by rw [hB1]; have := hsl2.out; omega, Xl.out.mem, Xl.out.fr⟩
  · have dz : decide (70 < z) = false := decide_eq_false hz70
    by_cases hat : (m.at_ : Int) ≥ (raw.length : Int)
    · as_aux_lemma =>
      have da : decide (raw.length ≤ m.at_) = true := decide_eq_true (by omega)
      go_quiet (fail)
      rename Nat => n0
      have X3 := Lib.hid (X2.out.up (Fr.drewN (Fr.refl _ w2) n0))
      generalize w2.drewN n0 = w3 at X3 ⊢
      clear c0 c1 c5 k2 d2 dD dz da X2
      have Lf := Lib.hid (show Calls Tryd.prog 61 #[.pointer (some ⟨p, 0, none⟩), .int .i64 6] w3 _ from lf_any X3.out hn 6 (by decide))
      have kcl := X3.out.kc
      go_wp2_with fail
      refine Lf.out.mono ?_
      rintro e wl ⟨sl, bl, rfl, hsl, hXl⟩
      have Xl := Lib.hid hXl
      have hsl2 := Lib.hid hsl
      clear hXl hsl Lf
      go_wp2_with fail
      go_ret
      exact ⟨sl, _, _, rfl, by rw [hB1]; have := hsl2.out; omega, Xl.out.mem, Xl.out.fr⟩
    · have da : decide (raw.length ≤ m.at_) = false := decide_eq_false (by omega)
      go_quiet (fail)
      rename Nat => n0
      have X3 := Lib.hid (X2.out.up (Fr.drewN (Fr.refl _ w2) n0))
      generalize w2.drewN n0 = w3 at X3 ⊢
      clear c0 c1 c5 k2 d2 dD dz da X2 hz70 hat hD0
      have k3 := X3.out.kc
      have N := Lib.hid (show Calls Tryd.prog 22 #[.pointer (some ⟨p, 0, none⟩), .int .i64 5] w3 _ from nx_any X3.out 5 (by decide) (by decide))
      go_wp2_with fail
      refine N.out.mono ?_
      rintro e w4 ⟨j, b, hj, rfl, hX4⟩
      have X4 := Lib.hid hX4
      clear hX4 N k3 X3
      by_cases hj0 : j = 0
      · as_aux_lemma =>
        subst hj0
        have C1 := Lib.hid (show Calls Tryd.prog 62 #[.int .i64 4, .pointer (some ⟨kb, 0, none⟩), .pointer (some ⟨db, 0, none⟩)] w4 _ from e_any IH hd HD.out X4.out hn 4 (by decide))
        go_wp2_with fail
        refine C1.out.mono ?_
        rintro e we1 ⟨s1, b1, z1, rfl, hs1, hX1⟩
        have X21 := Lib.hid hX1
        rw [hB] at hs1
        clear hX1 C1
        have q1 : s1.size + 2 ≤ 9223372036854775807 := by omega
        obtain ⟨a1, ea1⟩ : ∃ c, s1 ++ ({ data := #[46, 105] } : ByteArray) = c := ⟨_, rfl⟩
        have ha1 : a1.size ≤ (B + 2) := cat_le ea1 hs1 (Nat.le_refl _)
        go_wp2_with fail
        go_ret
        exact ⟨_, _, _, rfl, by rw [hB1]; omega, X21.out.mem, X21.out.fr⟩
      have g0 : ((j : Int) == 0) = false := beq_eq_false_iff_ne.2 (by omega)
      have Lf := Lib.hid (show Calls Tryd.prog 61 #[.pointer (some ⟨p, 0, none⟩), .int .i64 6] w4 _ from lf_any X4.out hn 6 (by decide))
      have kcl := X4.out.kc
      go_wp2_with fail
      refine Lf.out.mono ?_
      rintro e wl ⟨sl, bl, rfl, hsl, hXl⟩
      have Xl := Lib.hid hXl
      have hsl2 := Lib.hid hsl
      clear hXl hsl Lf
      go_wp2_with fail
      go_ret
      exact ⟨sl, _, _, rfl, by rw [hB1]; have := hsl2.out; omega, Xl.out.mem, Xl.out.fr⟩
end Go.Proofs.YtemmdbjcllcelaaDoor.Tk
