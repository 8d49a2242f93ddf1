/-
  The hand's maker: expr whole, Digits, tabs.
-/
import Derived.Test.YtemmdbjcllcelaaDoorHnE0
import Derived.Test.YtemmdbjcllcelaaDoorHnE1
import Derived.Test.YtemmdbjcllcelaaDoorHnE26
namespace Go.Proofs.YtemmdbjcllcelaaDoor.Tk
set_option maxRecDepth 100000
open Go.RowKit

set_option maxRecDepth 20000 in
set_option maxHeartbeats 4000000 in
theorem expr_z {D : Nat} (hD : D = 0) {w : World} {base p : Nat} {A : Option Addr} {rc : Nat} {raw : List Int} {m : MS} {rows : List (List ByteArray)} (h : Mk w base p A rc raw m rows) (hn : m.names ≤ 100) (t : Nat) (ht : t < 7) :
    Calls Tryd.prog 35 #[.pointer (some ⟨p, 0, none⟩), .int .i64 t, .int .i64 D] w fun e w' => ∃ (s : ByteArray) (a : Nat) (z : Int), e = .returned (.string s) ∧ s.size ≤ eB D ∧ Mk w' base p A rc raw { m with at_ := a, size := z } rows ∧ FM p w w' := by
  have hB1 : eB D = 20 := by rw [hD, eB]
  have dD : decide (D = 0) = true := decide_eq_true hD
  clear hD
  obtain ⟨z, hz⟩ : ∃ z, IntKind.i64.wrap (m.size + 1) = z := ⟨_, rfl⟩
  obtain ⟨w1, hw1⟩ : ∃ w1, w1 = (w.alloc (.cells #[.pointer (some ⟨p, 0, none⟩)] 60)).alloc (.cells #[.int .i64 D] 3) := ⟨_, rfl⟩
  obtain ⟨hX1, hX2⟩ := Ex.start (d := D) h z w1 hw1
  have X1 := Lib.hid hX1
  have X2 := Lib.hid hX2
  have c5 := hX1.mem.cell 5
  have f5 := hX1.mem.free 5
  have k1 := hX1.kc
  have hrl := h.nums.le
  have hrb := h.nums.big
  simp only [List.getElem?_toArray, List.getElem?_cons_zero, List.getElem?_cons_succ] at c5
  clear h hX1 hX2
  go_enter Tryd.func35, Tryd.ntmps35
  go_upto_region 1 with fail
  rw [← hw1]
  clear hw1
  generalize w.heap.size + 1 = db at X1 X2 k1 ⊢
  generalize hkb : w.heap.size = kb at X1 X2 k1 ⊢
  clear hkb
  go_upto_region 2 with fail
  clear hz c5 f5 k1 X1
  generalize w1.setCell ⟨p, 5, none⟩ (.int .i64 z) = w2 at X2 ⊢
  have k2 := X2.out.kc
  have d2 := X2.out.dc
  go_quiet (fail)
  rename Nat => n0
  have X3 := Lib.hid (X2.out.up (Fr.drewN (Fr.refl _ w2) n0))
  generalize w2.drewN n0 = w3 at X3 ⊢
  clear k2 d2 dD X2
  have Lf := Lib.hid (show Calls Tryd.prog 61 #[.pointer (some ⟨p, 0, none⟩), .int .i64 t] w3 _ from lf_any X3.out hn t ht)
  have kcl := X3.out.kc
  clear ht hn
  go_wp2_with fail
  refine Lf.out.mono ?_
  rintro e wl ⟨sl, bl, rfl, hsl, hXl⟩
  have Xl := Lib.hid hXl
  have hsl2 := Lib.hid hsl
  clear hXl hsl Lf
  go_wp2_with fail
  go_ret
  exact ⟨sl, _, _, rfl, by rw [hB1]; have := hsl2.out; omega, Xl.out.mem, Xl.out.fr⟩

theorem expr_any : ∀ d : Nat, d ≤ 5 → ExprOk d
  | 0, _ => fun _ _ _ _ _ _ _ _ h hn t ht => expr_z rfl h hn t ht
  | d + 1, hd => fun w base p A rc raw m rows h hn t ht => by
    have IH := expr_any d (by omega)
    have h5 : d ≤ 5 := by omega
    match t, ht with
    | 0, _ => exact expr_0 IH h5 rfl h hn
    | 1, _ => exact expr_1 IH h5 rfl h hn
    | 2, _ => exact expr_2 IH h5 rfl h hn
    | 3, _ => exact expr_3 IH h5 rfl h hn
    | 4, _ => exact expr_4 IH h5 rfl h hn
    | 5, _ => exact expr_5 IH h5 rfl h hn
    | 6, _ => exact expr_6 IH h5 rfl h hn
    | _ + 7, h7 => omega
end Go.Proofs.YtemmdbjcllcelaaDoor.Tk
