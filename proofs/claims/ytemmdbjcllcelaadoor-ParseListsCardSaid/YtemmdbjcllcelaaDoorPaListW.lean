/-
  The law ParseLists: the walk.
-/
import Derived.Test.YtemmdbjcllcelaaDoorPaLK
import Derived.Test.YtemmdbjcllcelaaDoorPaLists2
import Derived.Test.YtemmdbjcllcelaaDoorPaDig
namespace Go.Proofs.YtemmdbjcllcelaaDoor.Pa
open Go.RowKit
open Go.Proofs.YtemmdbjcllcelaaDoor.Tk (Laid bs LexAll)
set_option maxRecDepth 100000

theorem dig_len (i : Nat) : (dig i).length ≤ 2 := by unfold dig; split <;> simp
theorem headB_len : ∀ m, (headB m).length ≤ 7 + 9 * m
  | 0 => by decide
  | m + 1 => by
    have := headB_len m
    have := dig_len m
    simp only [headB, List.length_append]
    split <;> simp only [List.length_cons, List.length_nil] <;> omega
theorem stB_len (b : Nat → Bool) : ∀ k i, (stB b i k).length ≤ 14 * k
  | 0, _ => by simp [stB]
  | k + 1, i => by
    have := stB_len b k (i + 1)
    have := dig_len i
    simp only [stB, stmtB, List.length_append]
    split <;> simp only [semB, List.length_cons, List.length_nil] <;> omega
theorem stB_snoc (b : Nat → Bool) : ∀ k i, stB b i (k + 1) = stB b i k ++ (stmtB (i + k) ++ (if b (i + k) then semB else []))
  | 0, i => by simp [stB]
  | k + 1, i => by
    have h := stB_snoc b k (i + 1)
    rw [stB, h, show i + 1 + k = i + (k + 1) by omega]
    simp [stB]
theorem parN_len (m : Nat) (hm : m < 9) : (parN m).length = m := by
  obtain ⟨q, c, -, -, -, h⟩ := ls_par_run m hm []
  exact h
def BoolC (b : Bool) (cs : List Value) : Prop := cs = [.bool b]
/-- What the walk wants of the tree that Parse gives. -/
theorem lists_says {w w' : World} {e : Ending} {b : Nat → Bool} {m n : Nat} (hm : m < 9) (hn : n ≤ 29) (hT : (headB m ++ midB ++ (stB b 0 n ++ tailB)).length ≤ 16384) (h : ParseDone w (headB m ++ midB ++ (stB b 0 n ++ tailB)) e w') :
    Up w w' ∧ ∃ (xs : List Nd) (l0 c0 l1 c1 l2 c2 : Nat) (A : Option Addr) (cap : Nat), e = .returned (.tuple #[.agg #[.int .i64 1, .string (bs []), .int .i64 0, .int .i64 l0, .int .i64 c0, .slice A 1 cap], .agg #[.int .i64 0, .int .i64 0], .int .i64 0]) ∧
      NdC w' (fun _ => True) (Nd.mk 1 [] 0 l0 c0 [Nd.mk 6 [102] 0 l1 c1 (none_ :: none_ :: Nd.mk 10 [] 0 l2 c2 xs :: parN m)]) [.int .i64 1, .string (bs []), .int .i64 0, .int .i64 l0, .int .i64 c0, .slice A 1 cap] ∧ xs.length = n ∧
      ∀ j x, xs[j]? = some x → ∃ l1 c1 l2 c2, x = Nd.mk 20 [] 0 l1 c1 [Nd.mk 21 [] j l2 c2 []] := by
  obtain ⟨toks, N, r, xs, l0, c0, l1, c1, l2, c2, hl, hr, hx, hall⟩ := lists_tree b m n hm hn hT
  obtain ⟨hu, h⟩ := h.short
  refine ⟨hu, ?_⟩
  rcases h with ⟨l, c, e, h0, hb, rfl⟩ | ⟨t, cs, ⟨toks2, n2, r2, hl2, hr2⟩, rfl, hn2⟩
  · rcases hb with hb | ⟨toks2, n2, hl2, hr2⟩
    · cases hb.det hl
    · cases hl2.det hl
      cases run_det hr2 (by simp) hr (by simp)
  · cases hl2.det hl
    cases run_det hr2 (by simp) hr (by simp)
    obtain ⟨A, cap, rfl, -⟩ := hn2.row
    exact ⟨xs, l0, c0, l1, c1, l2, c2, A, cap, rfl, hn2.kept (Fr.refl (fun _ => False) _) (fun _ _ e => e) (fun _ _ => True.intro), hx, hall⟩

set_option maxHeartbeats 8000000 in
theorem parseLists_any {w : World} (L : Laid w) (hw : 2 + 1 ≤ w.heap.size)
    (zn zm : Int) {A0 : Option Addr} {c0 : Nat} {bl : List Bool} (hb : SlP w (fun _ => True) 1 BoolC A0 c0 bl) :
    Calls Tryd.prog 3 #[.int .i64 zn, .int .i64 zm, .slice A0 bl.length c0] w fun e w' => e = .returned (.bool true) ∧ Up w w' := by
  have LL := Lib.hid L
  have HW := Lib.hid hw
  have HB := Lib.hid hb
  obtain ⟨nb, hnb⟩ : ∃ nb, nb = bl.length := ⟨_, rfl⟩
  have big := hb.big
  have hle := hb.le
  rw [← hnb] at hle ⊢
  have NB := Lib.hid hnb
  clear L hw hb hnb
  go_enter Tryd.func3, Tryd.ntmps3
  go_wp2_with fail
  obtain ⟨n, hn, hp, -⟩ := Tk.pick_nat zn 30 (by decide) (by decide)
  refine (hp _).mono ?_
  rintro e w' ⟨rfl, rfl⟩
  clear hp
  go_wp2_with fail
  obtain ⟨m, hm, hp, -⟩ := Tk.pick_nat zm 9 (by decide) (by decide)
  refine (hp _).mono ?_
  rintro e w' ⟨rfl, rfl⟩
  clear hp
  have n0 : (0 : Int) ≤ n := Int.natCast_nonneg n
  have m0 : (0 : Int) ≤ m := Int.natCast_nonneg m
  have n30 : (n : Int) < 30 := by omega
  have m9 : (m : Int) < 9 := by omega
  obtain ⟨w0, hw0⟩ : ∃ w0 : World, w0 = w' := ⟨_, rfl⟩
  go_wp2_with fail
  go_loopw [7, 8] (fun uv iv wr => ∃ i : Nat, iv = .int .i64 i ∧ i ≤ m ∧ uv = .string (bs (headB i)) ∧ Hid (Up w' wr)) (fun _ iv _ => m - ixOf iv)
  case atStart => exact ⟨0, rfl, Nat.zero_le _, rfl, Lib.hid (Fr.refl _ _)⟩
  case round =>
    obtain ⟨i, rfl, hin, rfl, hu⟩ := hrel
    have i0 : (0 : Int) ≤ i := Int.natCast_nonneg i
    by_cases hlt : i < m
    · have d1 : decide ((i : Int) < (m : Int)) = true := decide_eq_true (by omega)
      have l1 : (i : Int) < (m : Int) := by omega
      have hl := headB_len i
      have hd := dig_len i
      obtain ⟨X, hX⟩ : ∃ X, X = headB i := ⟨_, rfl⟩
      obtain ⟨D, hD⟩ : ∃ D, D = dig i := ⟨_, rfl⟩
      obtain ⟨X1, hX1⟩ : ∃ X1, X1 = X ++ (if 0 < i then [44, 32] else []) := ⟨_, rfl⟩
      obtain ⟨X2, hX2⟩ : ∃ X2, X2 = X1 ++ [112] := ⟨_, rfl⟩
      obtain ⟨X3, hX3⟩ : ∃ X3, X3 = X2 ++ D := ⟨_, rfl⟩
      obtain ⟨X4, hX4⟩ : ∃ X4, X4 = X3 ++ [32, 105, 110, 116] := ⟨_, rfl⟩
      have hn1 : headB (i + 1) = X4 := by rw [hX4, hX3, hX2, hX1, hX, hD]; rfl
      have DG := Lib.hid (fun w => digits_is w i (by omega))
      rw [← hX] at hl ⊢
      rw [← hD] at hd DG
      have hl1 : X1.length ≤ 7 + 9 * i + 2 := by rw [hX1, List.length_append]; split <;> simp <;> omega
      have e2 : bs X1 ++ { data := #[112] } = bs X2 := by rw [hX2]; exact Tk.bs_append X1 [112]
      have e3 : bs X2 ++ bs D = bs X3 := by rw [hX3]; exact Tk.bs_append _ D
      have e4 : bs X3 ++ { data := #[32, 105, 110, 116] } = bs X4 := by rw [hX4]; exact Tk.bs_append _ [32, 105, 110, 116]
      have z2 : (bs X1).size + 1 ≤ 9223372036854775807 := by rw [Tk.bs_size]; omega
      have z3 : (bs X2).size + (bs D).size ≤ 9223372036854775807 := by rw [Tk.bs_size, Tk.bs_size, hX2, List.length_append]; simp; omega
      have z4 : (bs X3).size + 4 ≤ 9223372036854775807 := by rw [Tk.bs_size, hX3, hX2, List.length_append, List.length_append]; simp; omega
      have HN1 := Lib.hid hn1
      by_cases h0 : 0 < i
      · have g1 : decide ((i : Int) > 0) = true := decide_eq_true (by omega)
        have g2 : (i : Int) > 0 := by omega
        have g3 : (0 : Int) < i := by omega
        have e1 : bs X ++ { data := #[44, 32] } = bs X1 := by rw [hX1, if_pos h0]; exact Tk.bs_append X [44, 32]
        have z1 : (bs X).size + 2 ≤ 9223372036854775807 := by rw [Tk.bs_size]; omega
        clear hX hX1 hX2 hX3 hX4 hD hn1 hl hd hl1
        go_wp2_with fail
        refine (DG.out wr).mono ?_
        rintro e w2 ⟨rfl, u2⟩
        have U2 := Lib.hid (Fr.trans hu.out u2 (fun _ _ e => e))
        clear u2
        go_wp2_with fail
        exact ⟨⟨i + 1, by push_cast; rfl, by omega, by rw [HN1.out], U2⟩, by have e9 : ixOf (.int .i64 ((i : Int) + 1)) = i + 1 := (by show ((i : Int) + 1).toNat = i + 1; omega); have e8 : ixOf (.int .i64 (i : Int)) = i := (by show ((i : Int)).toNat = i; omega); rw [e9, e8]; omega⟩
      · obtain rfl : i = 0 := by omega
        obtain rfl : X1 = X := by rw [hX1]; simp
        have DG0 := Lib.hid (show ∀ w, Calls Tryd.prog 6 #[.int .i64 0] w _ from DG.out)
        clear hX hX1 hX2 hX3 hX4 hD hn1 hl hd hl1
        go_wp2_with fail
        refine (DG0.out wr).mono ?_
        rintro e w2 ⟨rfl, u2⟩
        have U2 := Lib.hid (Fr.trans hu.out u2 (fun _ _ e => e))
        clear u2
        go_wp2_with fail
        exact ⟨⟨1, rfl, by omega, by rw [HN1.out], U2⟩, by show m - 1 < m - 0; omega⟩
    · have d1 : decide ((i : Int) < (m : Int)) = false := decide_eq_false (by omega)
      have l1 : ¬ (i : Int) < (m : Int) := by omega
      obtain rfl : i = m := by omega
      have hl := headB_len i
      obtain ⟨X, hX⟩ : ∃ X, X = headB i := ⟨_, rfl⟩
      obtain ⟨P, hP⟩ : ∃ P, P = headB i ++ midB := ⟨_, rfl⟩
      rw [← hX] at hl ⊢
      have e1 : bs X ++ { data := #[41, 32, 123, 10] } = bs P := by rw [hP, ← hX]; exact Tk.bs_append X midB
      have z1 : (bs X).size + 4 ≤ 9223372036854775807 := by rw [Tk.bs_size]; omega
      have HP := Lib.hid hP
      have hPl : P.length ≤ 100 := by rw [hP, ← hX, List.length_append]; simp only [midB, List.length_cons, List.length_nil]; omega
      have bfun : ∃ b : Nat → Bool, ∀ j, b j = (bl[j]?).getD false := ⟨_, fun _ => rfl⟩
      obtain ⟨b, hbf⟩ := bfun
      have BF := Lib.hid hbf
      have U1 := hu
      clear hX hP hl hbf hu d1 l1 hlt hin
      go_wp2_with fail
      go_loopw [7, 9] (fun uv iv wr => ∃ j : Nat, iv = .int .i64 j ∧ j ≤ n ∧ uv = .string (bs (P ++ stB b 0 j)) ∧ Hid (Up w' wr)) (fun _ iv _ => n - ixOf iv)
      case atStart => exact ⟨0, rfl, Nat.zero_le _, by simp [stB], U1⟩
      case round =>
        obtain ⟨j, rfl, hjn, rfl, hu⟩ := hrel
        have j0 : (0 : Int) ≤ j := Int.natCast_nonneg j
        by_cases hlt : j < n
        · have d1 : decide ((j : Int) < (n : Int)) = true := decide_eq_true (by omega)
          have l1 : (j : Int) < (n : Int) := by omega
          have hl := stB_len b j 0
          have hd := dig_len j
          obtain ⟨X, hX⟩ : ∃ X, X = P ++ stB b 0 j := ⟨_, rfl⟩
          obtain ⟨D, hD⟩ : ∃ D, D = dig j := ⟨_, rfl⟩
          obtain ⟨X2, hX2⟩ : ∃ X2, X2 = X ++ [112, 114, 105, 110, 116, 40] := ⟨_, rfl⟩
          obtain ⟨X3, hX3⟩ : ∃ X3, X3 = X2 ++ D := ⟨_, rfl⟩
          obtain ⟨X4, hX4⟩ : ∃ X4, X4 = X3 ++ [41, 10] := ⟨_, rfl⟩
          obtain ⟨X5, hX5⟩ : ∃ X5, X5 = X4 ++ semB := ⟨_, rfl⟩
          have hn1 : P ++ stB b 0 (j + 1) = if b j then X5 else X4 := by
            rw [stB_snoc, Nat.zero_add, hX5, hX4, hX3, hX2, hX, hD]
            split <;> simp [stmtB]
          have DG := Lib.hid (fun w => digits_is w j (by omega))
          rw [← hX]
          rw [← hD] at hd DG
          have hl1 : X.length ≤ 100 + 14 * j := by rw [hX, List.length_append]; omega
          have hl2 : X2.length ≤ 106 + 14 * j := by rw [hX2, List.length_append]; simp; omega
          have hl3 : X3.length ≤ 108 + 14 * j := by rw [hX3, List.length_append]; omega
          have hl4 : X4.length ≤ 110 + 14 * j := by rw [hX4, List.length_append]; simp; omega
          have e2 : bs X ++ { data := #[112, 114, 105, 110, 116, 40] } = bs X2 := by rw [hX2]; exact Tk.bs_append X _
          have e3 : bs X2 ++ bs D = bs X3 := by rw [hX3]; exact Tk.bs_append _ D
          have e4 : bs X3 ++ { data := #[41, 10] } = bs X4 := by rw [hX4]; exact Tk.bs_append _ [41, 10]
          have e5 : bs X4 ++ { data := #[59, 59, 10, 59] } = bs X5 := by rw [hX5]; exact Tk.bs_append _ semB
          have z2 : (bs X).size + 6 ≤ 9223372036854775807 := by rw [Tk.bs_size]; omega
          have z3 : (bs X2).size + (bs D).size ≤ 9223372036854775807 := by rw [Tk.bs_size, Tk.bs_size]; omega
          have z4 : (bs X3).size + 2 ≤ 9223372036854775807 := by rw [Tk.bs_size]; omega
          have z5 : (bs X4).size + 4 ≤ 9223372036854775807 := by rw [Tk.bs_size]; omega
          have HN1 := Lib.hid hn1
          clear hX hX2 hX3 hX4 hX5 hD hn1 hl hd hl1 hl2 hl3 hl4
          by_cases hjb : j < nb
          · have k1 : decide ((j : Int) < (nb : Int)) = true := decide_eq_true (by omega)
            have k2 : (j : Int) < (nb : Int) := by omega
            have hjl : j < bl.length := by rw [← NB.out]; exact hjb
            obtain ⟨bb, bo, rfl, -, blt, ball⟩ := HB.out.at_ (fun e => by rw [e] at hjl; simp at hjl)
            obtain ⟨bcs, rfl, -, bc⟩ := ball j _ (List.getElem?_eq_getElem hjl)
            have bj : b j = bl[j] := by rw [BF.out, List.getElem?_eq_getElem hjl]; rfl
            rw [← bj] at bc
            have bcell : w'.cell? ⟨bb, bo + j, none⟩ = some (.bool (b j)) := by have := bc 0 _ rfl; simpa using this
            have hia : ∀ w, (Instr.indexAt 22 (.slice (some ⟨bb, bo, none⟩) nb c0) (.int .i64 j)).run Tryd.prog w = .ok (.pointer (some ⟨bb, bo + j, none⟩)) w := by
              intro w
              rw [run_indexAt_slice (h := by kernel_rfl), if_pos ⟨j0, k2⟩, show (sizeOf (Tryd.prog.elem 22)).run Tryd.prog w = .ok 1 w from by kernel_rfl]
              simp [Result.andThen, Addr.add]
            clear bc ball bj hjl
            have BC := Lib.hid bcell
            have BL := Lib.hid blt
            clear bcell blt
            go_wp2_with fail
            refine (DG.out wr).mono ?_
            rintro e w2 ⟨rfl, u2⟩
            have U2 := Lib.hid (Fr.trans hu.out u2 (fun _ _ e => e))
            clear u2
            have cb := (U2.out.cell (p := ⟨bb, bo + j, none⟩) BL.out (fun e => e)).trans BC.out
            cases hbj : b j with
            | false =>
              rw [hbj] at cb
              rw [hbj] at HN1
              go_wp2_with fail
              exact ⟨⟨j + 1, by push_cast; rfl, by omega, by rw [HN1.out]; rfl, U2⟩, by have e9 : ixOf (.int .i64 ((j : Int) + 1)) = j + 1 := (by show ((j : Int) + 1).toNat = j + 1; omega); have e8 : ixOf (.int .i64 (j : Int)) = j := (by show ((j : Int)).toNat = j; omega); rw [e9, e8]; omega⟩
            | true =>
              rw [hbj] at cb
              rw [hbj] at HN1
              go_wp2_with fail
              exact ⟨⟨j + 1, by push_cast; rfl, by omega, by rw [HN1.out]; rfl, U2⟩, by have e9 : ixOf (.int .i64 ((j : Int) + 1)) = j + 1 := (by show ((j : Int) + 1).toNat = j + 1; omega); have e8 : ixOf (.int .i64 (j : Int)) = j := (by show ((j : Int)).toNat = j; omega); rw [e9, e8]; omega⟩
          · have k1 : decide ((j : Int) < (nb : Int)) = false := decide_eq_false (by omega)
            have k2 : ¬ (j : Int) < (nb : Int) := by omega
            have bj : b j = false := by rw [BF.out, List.getElem?_eq_none (by rw [← NB.out]; omega)]; rfl
            rw [bj] at HN1
            go_wp2_with fail
            refine (DG.out wr).mono ?_
            rintro e w2 ⟨rfl, u2⟩
            have U2 := Lib.hid (Fr.trans hu.out u2 (fun _ _ e => e))
            clear u2
            go_wp2_with fail
            exact ⟨⟨j + 1, by push_cast; rfl, by omega, by rw [HN1.out]; rfl, U2⟩, by have e9 : ixOf (.int .i64 ((j : Int) + 1)) = j + 1 := (by show ((j : Int) + 1).toNat = j + 1; omega); have e8 : ixOf (.int .i64 (j : Int)) = j := (by show ((j : Int)).toNat = j; omega); rw [e9, e8]; omega⟩
        · have d1 : decide ((j : Int) < (n : Int)) = false := decide_eq_false (by omega)
          have l1 : ¬ (j : Int) < (n : Int) := by omega
          obtain rfl : j = n := by omega
          have hl := stB_len b j 0
          obtain ⟨X, hX⟩ : ∃ X, X = P ++ stB b 0 j := ⟨_, rfl⟩
          obtain ⟨T, hT⟩ : ∃ T, T = headB i ++ midB ++ (stB b 0 j ++ tailB) := ⟨_, rfl⟩
          have hXT : X ++ tailB = T := by rw [hX, hT, HP.out, List.append_assoc]
          have hXl : X.length ≤ 600 := by rw [hX, List.length_append]; omega
          have hTl : T.length ≤ 16384 := by rw [← hXT, List.length_append]; simp only [tailB, List.length_cons, List.length_nil]; omega
          have e1 : bs X ++ { data := #[125, 10, 59, 59, 10] } = bs T := by rw [← hXT]; exact Tk.bs_append X tailB
          have z1 : (bs X).size + 5 ≤ 9223372036854775807 := by rw [Tk.bs_size]; omega
          have HT := Lib.hid hT
          have HTL := Lib.hid hTl
          rw [← hX]
          clear hX hT hXT hXl hTl hl HP hPl
          go_wp2_with fail
          refine (parse_any T (LL.out.kept hu.out (fun h => h) (fun h => h)) (Nat.le_trans HW.out hu.out.size)).mono ?_
          rintro e w2 hd
          obtain ⟨u2, xs, l0, q0, la, qa1, lb, qb1, A, cap, rfl, hnd, hxl, hall⟩ := lists_says (b := b) (m := i) (n := j) (by omega) (by omega) (by rw [← HT.out]; exact HTL.out) (by rw [← HT.out]; exact hd)
          have U2 := Lib.hid (Fr.trans hu.out u2 (fun _ _ e => e))
          have N2 := Lib.hid hnd
          have XL := Lib.hid hxl
          have XA := Lib.hid hall
          clear hd u2 hnd hxl hall e1 z1 hu U1 d1 l1 hjn HTL
          go_wp2_with fail
          obtain ⟨v3, b1, b2⟩ := two_facts w2 (.int .i64 1) (.string (bs [])) (.int .i64 0) (.int .i64 l0) (.int .i64 q0) (.slice A 1 cap) (.int .i64 0) (.int .i64 0)
          have U3 := Lib.hid (Fr.trans U2.out v3 (fun _ _ e => e))
          have V3 := Lib.hid v3
          have B1 := Lib.hid b1
          clear v3 b1 b2
          change Calls _ _ _ (two w2 (.int .i64 1) (.string (bs [])) (.int .i64 0) (.int .i64 l0) (.int .i64 q0) (.slice A 1 cap) (.int .i64 0) (.int .i64 0)) _
          generalize two w2 (.int .i64 1) (.string (bs [])) (.int .i64 0) (.int .i64 l0) (.int .i64 q0) (.slice A 1 cap) (.int .i64 0) (.int .i64 0) = w3 at *
          obtain ⟨qa, eqa⟩ : ∃ q, q = w2.heap.size := ⟨_, rfl⟩
          rw [← eqa] at B1 ⊢
          clear eqa
          refine (known_walk (LL.out.kept U3.out (fun h => h) (fun h => h)) (Nat.le_trans HW.out U3.out.size)).mono ?_
          rintro e w4 ⟨rfl, u4⟩
          have U4 := Lib.hid (Fr.trans U3.out u4 (fun _ _ e => e))
          have c1 := (u4.block qa (heap_lt B1.out) (fun e => e)).trans B1.out
          have C1 := Lib.hid c1
          have n4 := N2.out.kept (Fr.trans V3.out u4 (fun _ _ e => e)) (fun _ _ e => e) (G' := fun _ => True) (fun _ _ => True.intro)
          clear u4 B1
          obtain ⟨bf, pf, if_, cf, nf, ef⟩ := n4.kid 0 _ rfl rfl 0 rfl
          obtain ⟨Af, kf, rfl, -⟩ := nf.row
          obtain ⟨mm, hmm⟩ : ∃ mm, mm = i + 3 := ⟨_, rfl⟩
          have hlen : (none_ :: none_ :: Nd.mk 10 [] 0 lb qb1 xs :: parN i).length = mm := by have := parN_len i (by omega); simp only [List.length_cons]; omega
          rw [hlen] at nf ef
          obtain ⟨bb, pb, ib, cb, nb4, eb⟩ := nf.kid 2 _ rfl hlen 2 rfl
          obtain ⟨Ab, kb, rfl, -⟩ := nb4.row
          rw [XL.out] at nb4 eb
          have NF := Lib.hid nf
          have NB4 := Lib.hid nb4
          have HLEN := Lib.hid hlen
          have f5 := ef 5 _ rfl
          have F5 := Lib.hid f5
          have g5 := eb 5 _ rfl
          have G5 := Lib.hid g5
          have k3 : ((mm : Int) == 3 + (i : Int)) = true := by simp; omega
          have k4 : ((mm : Int) != 3 + (i : Int)) = false := by rw [bne, k3]; rfl
          have k5 : ((j : Int) == (j : Int)) = true := by simp
          have k6 : ((j : Int) != (j : Int)) = false := by simp
          obtain ⟨y0, y1, y2, y3, y4, y5⟩ := cells6 c1
          have HMM := Lib.hid hmm
          have IF := Lib.hid if_
          have IB := Lib.hid ib
          clear n4 nf nb4 ef eb c1 hlen hmm N2 V3
          go_wp2_with fail
          clear y0 y1 y2 y3 y4 y5 f5 g5 k3 k4 k5 k6 if_ ib
          go_loopw [13] (fun iv wr => ∃ p : Nat, iv = .int .i64 p ∧ p ≤ i ∧ Hid (Up w4 wr)) (fun iv _ => i - ixOf iv)
          case atStart => exact ⟨0, rfl, Nat.zero_le _, Lib.hid (Fr.refl _ _)⟩
          case round =>
            obtain ⟨p, rfl, hpi, hr⟩ := hrel
            have p0 : (0 : Int) ≤ p := Int.natCast_nonneg p
            by_cases hlt : p < i
            · have d1 : decide ((p : Int) < (i : Int)) = true := decide_eq_true (by omega)
              have l1 : (p : Int) < (i : Int) := by omega
              have hpl : p < (parN i).length := by rw [parN_len i (by omega)]; exact hlt
              obtain ⟨lx, qx, ksx, hx⟩ := ls_par_names i (by omega) p _ (List.getElem?_eq_getElem hpl)
              obtain ⟨N, hN⟩ : ∃ N, N = [112] ++ dig p := ⟨_, rfl⟩
              obtain ⟨D, hD⟩ : ∃ D, D = dig p := ⟨_, rfl⟩
              rw [← hN] at hx
              have n5 := NF.out.kept hr.out (fun _ _ e => e) (G' := fun _ => True) (fun _ _ => True.intro)
              obtain ⟨bq, pq, iq, cq, nq, eq_⟩ := n5.kid (3 + p) (Nd.mk 7 N 0 lx qx ksx) (by rw [← hx, show 3 + p = p + 1 + 1 + 1 by omega]; simp only [List.getElem?_cons_succ]; exact List.getElem?_eq_getElem hpl) HLEN.out (3 + (p : Int)) (by push_cast; rfl)
              obtain ⟨Aq, kq, rfl, -⟩ := nq.row
              have NQ := Lib.hid (eq_ 1 _ rfl)
              have D1 := Lib.hid ((hr.out.block qa (heap_lt C1.out) (fun e => e)).trans C1.out)
              have D5 := Lib.hid ((hr.out.cell (p := ⟨bf, pf + 5, none⟩) (World.block_lt_of_cell? w4 _ F5.out) (fun e => e)).trans F5.out)
              have DG := Lib.hid (fun w => digits_is w p (by omega))
              rw [← hD] at DG
              have hd := dig_len p
              rw [← hD] at hd
              have e1 : { data := #[112] } ++ bs D = bs N := by rw [hN, hD]; exact Tk.bs_append [112] _
              have z1 : 1 + (bs D).size ≤ 9223372036854775807 := by rw [Tk.bs_size]; omega
              have E1 := Lib.hid e1
              have Z1 := Lib.hid z1
              have p9 : (p : Int) < 9 := by omega
              have hw3 : IntKind.i64.wrap (3 + (p : Int)) = 3 + (p : Int) := IntWalk.i64_in _ (by omega)
              have ifw := IF.out
              clear n5 nq eq_ hx hN hD hd e1 z1
              go_upto_region 23 with fail
              refine wp_region_held_drew (S := fun W => W.heap[qa]? = some (.cells #[.int .i64 1, .string (bs []), .int .i64 0, .int .i64 l0, .int .i64 q0, .slice A 1 cap] 27 (0, 0)) ∧ W.cell? ⟨bf, pf + 5, none⟩ = some (.slice Af mm kf) ∧ W.cell? ⟨bq, pq + 1, none⟩ = some (.string (bs N))) (by kernel_rfl) (by exact ⟨D1.out, D5.out, NQ.out⟩) (fun hHeld => ?_)
              have UD := Lib.hid (hr.out.drew)
              clear D1 D5 NQ
              generalize wr.drew = wd at *
              refine held_take (i := 0) (d := some 108) (v := ?_) rfl rfl (by kernel_rfl) (by kernel_rfl) (by kernel_rfl) (fun _ _ _ h => h) (by rfl) ?_ (by assumption) ?_
              rotate_left 1
              focus (intro w hSw; (try dsimp only at hSw); go_simp; first | done | with_reducible rfl)
              simp only [Act.put, List.setIfInBounds_toArray, List.set_cons_zero, List.set_cons_succ]
              refine held_take (i := 1) (d := some 109) (v := ?_) rfl rfl (by kernel_rfl) (by kernel_rfl) (by kernel_rfl) (fun _ _ _ h => h) (by rfl) ?_ (by assumption) ?_
              rotate_left 1
              focus (intro w hSw; obtain ⟨k0, k1, k2, k3, k4, k5⟩ := cells6 hSw.1; (try dsimp only at hSw); go_simp; first | done | with_reducible rfl)
              simp only [Act.put, List.setIfInBounds_toArray, List.set_cons_zero, List.set_cons_succ]
              refine held_take (i := 2) (d := some 110) (v := ?_) rfl rfl (by kernel_rfl) (by kernel_rfl) (by kernel_rfl) (fun _ _ _ h => h) (by rfl) ?_ (by assumption) ?_
              rotate_left 1
              focus (intro w hSw; have q := ifw w; (try dsimp only at hSw); go_simp; first | done | with_reducible rfl)
              simp only [Act.put, List.setIfInBounds_toArray, List.set_cons_zero, List.set_cons_succ]
              refine held_take (i := 3) (d := some 111) (v := ?_) rfl rfl (by kernel_rfl) (by kernel_rfl) (by kernel_rfl) (fun _ _ _ h => h) (by rfl) ?_ (by assumption) ?_
              rotate_left 1
              focus (intro w hSw; (try dsimp only at hSw); go_simp; first | done | with_reducible rfl)
              simp only [Act.put, List.setIfInBounds_toArray, List.set_cons_zero, List.set_cons_succ]
              refine held_take (i := 4) (d := some 112) (v := ?_) rfl rfl (by kernel_rfl) (by kernel_rfl) (by kernel_rfl) (fun _ _ _ h => h) (by rfl) ?_ (by assumption) ?_
              rotate_left 1
              focus (intro w hSw; have q := hSw.2.1; (try dsimp only at hSw); go_simp; first | done | with_reducible rfl)
              simp only [Act.put, List.setIfInBounds_toArray, List.set_cons_zero, List.set_cons_succ]
              refine held_take (i := 5) (d := some 113) (v := ?_) rfl rfl (by kernel_rfl) (by kernel_rfl) (by kernel_rfl) (fun _ _ _ h => h) (by rfl) ?_ (by assumption) ?_
              rotate_left 1
              focus (intro w hSw; (try dsimp only at hSw); go_simp; first | done | with_reducible rfl)
              simp only [Act.put, List.setIfInBounds_toArray, List.set_cons_zero, List.set_cons_succ]
              refine held_take (i := 6) (d := some 114) (v := ?_) rfl rfl (by kernel_rfl) (by kernel_rfl) (by kernel_rfl) (fun _ _ _ h => h) (by rfl) ?_ (by assumption) ?_
              rotate_left 1
              focus (intro w hSw; have q := hw3; (try dsimp only at hSw); go_simp; first | done | with_reducible rfl)
              simp only [Act.put, List.setIfInBounds_toArray, List.set_cons_zero, List.set_cons_succ]
              refine held_take (i := 7) (d := some 115) (v := ?_) rfl rfl (by kernel_rfl) (by kernel_rfl) (by kernel_rfl) (fun _ _ _ h => h) (by rfl) ?_ (by assumption) ?_
              rotate_left 1
              focus (intro w hSw; have q := iq w; (try dsimp only at hSw); go_simp; first | done | with_reducible rfl)
              simp only [Act.put, List.setIfInBounds_toArray, List.set_cons_zero, List.set_cons_succ]
              refine held_take (i := 8) (d := some 116) (v := ?_) rfl rfl (by kernel_rfl) (by kernel_rfl) (by kernel_rfl) (fun _ _ _ h => h) (by rfl) ?_ (by assumption) ?_
              rotate_left 1
              focus (intro w hSw; (try dsimp only at hSw); go_simp; first | done | with_reducible rfl)
              simp only [Act.put, List.setIfInBounds_toArray, List.set_cons_zero, List.set_cons_succ]
              refine held_take (i := 9) (d := some 117) (v := ?_) rfl rfl (by kernel_rfl) (by kernel_rfl) (by kernel_rfl) (fun _ _ _ h => h) (by rfl) ?_ (by assumption) ?_
              rotate_left 1
              focus (intro w hSw; have q := hSw.2.2; (try dsimp only at hSw); go_simp; first | done | with_reducible rfl)
              simp only [Act.put, List.setIfInBounds_toArray, List.set_cons_zero, List.set_cons_succ]
              refine held_take (i := 10) (d := some 118) (v := ?_) rfl rfl (by kernel_rfl) (by kernel_rfl) (by kernel_rfl) (fun _ _ _ h => h) (by rfl) ?_ (by assumption) ?_
              rotate_left 1
              focus (intro w hSw; (try dsimp only at hSw); go_simp; first | done | with_reducible rfl)
              simp only [Act.put, List.setIfInBounds_toArray, List.set_cons_zero, List.set_cons_succ]
              refine wpAnyH_ready (rs := [11]) (by kernel_rfl) (by simp) ?_
              refine (AllReadyH.cons (o := _) rfl (fun K hK => ?_) AllReadyH.nil)
              go_simp
              refine (DG.out wd).mono ?_
              rintro e w7 ⟨rfl, u7⟩
              have U7 := Lib.hid (Fr.trans UD.out u7 (fun _ _ e => e))
              have HH := Lib.hid hHeld
              go_simp
              refine hK.out _ _ (by exact ⟨(u7.block qa (heap_lt HH.out.1) (fun e => e)).trans HH.out.1, (u7.cell (p := ⟨bf, pf + 5, none⟩) (World.block_lt_of_cell? wd _ HH.out.2.1) (fun e => e)).trans HH.out.2.1, (u7.cell (p := ⟨bq, pq + 1, none⟩) (World.block_lt_of_cell? wd _ HH.out.2.2) (fun e => e)).trans HH.out.2.2⟩) (fun hHeld2 => ?_)
              clear hK K u7 hHeld
              refine held_take (i := 12) (d := some 120) (v := ?_) rfl rfl (by kernel_rfl) (by kernel_rfl) (by kernel_rfl) (fun _ _ _ h => h) (by rfl) ?_ (by assumption) ?_
              rotate_left 1
              focus (intro w hSw; have q := E1.out; have q2 : (9223372036854775807 < 1 + (bs D).size) = False := eq_false (Nat.not_lt.2 Z1.out); (try dsimp only at hSw); go_simp; first | done | with_reducible rfl)
              simp only [Act.put, List.setIfInBounds_toArray, List.set_cons_zero, List.set_cons_succ]
              refine held_take (i := 13) (d := some 121) (v := ?_) rfl rfl (by kernel_rfl) (by kernel_rfl) (by kernel_rfl) (fun _ _ _ h => h) (by rfl) ?_ (by assumption) ?_
              rotate_left 1
              focus (intro w hSw; (try dsimp only at hSw); go_simp; first | done | with_reducible rfl)
              simp only [Act.put, List.setIfInBounds_toArray, List.set_cons_zero, List.set_cons_succ]
              refine wpAnyH_done (by kernel_rfl) ?_ _
              clear hHeld2 HH
              go_wp2_with fail
              exact ⟨⟨p + 1, by push_cast; rfl, by omega, U7⟩, by have e9 : ixOf (.int .i64 ((p : Int) + 1)) = p + 1 := (by show ((p : Int) + 1).toNat = p + 1; omega); have e8 : ixOf (.int .i64 (p : Int)) = p := (by show ((p : Int)).toNat = p; omega); rw [e9, e8]; omega⟩
            · have d1 : decide ((p : Int) < (i : Int)) = false := decide_eq_false (by omega)
              have l1 : ¬ (p : Int) < (i : Int) := by omega
              obtain rfl : p = i := by omega
              have V0 := hr
              clear hr d1 l1 hlt hpi
              go_wp2_with fail
              go_loopw [14] (fun iv wr => ∃ k : Nat, iv = .int .i64 k ∧ k ≤ j ∧ Hid (Up w4 wr)) (fun iv _ => j - ixOf iv)
              case atStart => exact ⟨0, rfl, Nat.zero_le _, V0⟩
              case round =>
                obtain ⟨k, rfl, hkj, hr⟩ := hrel
                have k0 : (0 : Int) ≤ k := Int.natCast_nonneg k
                by_cases hlt : k < j
                · have d1 : decide ((k : Int) < (j : Int)) = true := decide_eq_true (by omega)
                  have l1 : (k : Int) < (j : Int) := by omega
                  have hkl : k < xs.length := by rw [XL.out]; exact hlt
                  obtain ⟨l6, q6, l7, q7, hx⟩ := XA.out k _ (List.getElem?_eq_getElem hkl)
                  have n5 := NB4.out.kept hr.out (fun _ _ e => e) (G' := fun _ => True) (fun _ _ => True.intro)
                  obtain ⟨bx, px, ix, cx, nx, ex⟩ := n5.kid k (Nd.mk 20 [] 0 l6 q6 [Nd.mk 21 [] k l7 q7 []]) (by rw [← hx]; exact List.getElem?_eq_getElem hkl) XL.out (k : Int) rfl
                  obtain ⟨Ax, kx, rfl, -⟩ := nx.row
                  obtain ⟨by_, py, iy, cy, ny, ey⟩ := nx.kid 0 _ rfl rfl 0 rfl
                  obtain ⟨Ay, ky, rfl, -⟩ := ny.row
                  have ly : ∀ w', (Instr.indexAt 25 (.slice Ax 1 kx) (.int .i64 0)).run Tryd.prog w' = .ok (.pointer (some ⟨by_, py, none⟩)) w' := iy
                  have x0 := ex 0 (.int .i64 20) rfl
                  have x1 := ex 1 (.string ⟨#[]⟩) rfl
                  have x2 := ex 2 (.int .i64 0) rfl
                  have x3 := ex 3 (.int .i64 l6) rfl
                  have x4 := ex 4 (.int .i64 q6) rfl
                  have x5 := ex 5 (.slice Ax 1 kx) rfl
                  have t2 := ey 2 (.int .i64 k) rfl
                  rw [Nat.add_zero] at x0
                  have T2 := Lib.hid t2
                  have c1 := (hr.out.block qa (heap_lt C1.out) (fun e => e)).trans C1.out
                  have f5 := (hr.out.cell (p := ⟨bf, pf + 5, none⟩) (World.block_lt_of_cell? w4 _ F5.out) (fun e => e)).trans F5.out
                  have g5 := (hr.out.cell (p := ⟨bb, pb + 5, none⟩) (World.block_lt_of_cell? w4 _ G5.out) (fun e => e)).trans G5.out
                  obtain ⟨y0, y1, y2, y3, y4, y5⟩ := cells6 c1
                  have if_ := IF.out
                  have ib := IB.out
                  have LY := Lib.hid ly
                  clear n5 nx ny ex ey t2 c1 hx iy ly
                  go_upto_region 29 with fail
                  have v5 : Up wr (wr.alloc (.cells #[.int .i64 20, .string ⟨#[]⟩, .int .i64 0, .int .i64 l6, .int .i64 q6, .slice Ax 1 kx] 27)) := (Fr.refl _ _).alloc _
                  have b7 := heap_alloc_new wr (.cells #[.int .i64 20, .string ⟨#[]⟩, .int .i64 0, .int .i64 l6, .int .i64 q6, .slice Ax 1 kx] 27)
                  have tt := (v5.cell (p := ⟨by_, py + 2, none⟩) (World.block_lt_of_cell? wr _ T2.out) (fun e => e)).trans T2.out
                  have U5 := Lib.hid (Fr.trans hr.out v5 (fun _ _ e => e))
                  clear x0 x1 x2 x3 x4 x5 y0 y1 y2 y3 y4 y5 f5 g5 v5 if_ ib ix
                  generalize wr.alloc (.cells #[.int .i64 20, .string ⟨#[]⟩, .int .i64 0, .int .i64 l6, .int .i64 q6, .slice Ax 1 kx] 27) = w5 at *
                  obtain ⟨y0, y1, y2, y3, y4, y5⟩ := cells6 b7
                  have ly := LY.out
                  have m1 : ((k : Int) == (k : Int)) = true := by simp
                  have m2 : ((k : Int) != (k : Int)) = false := by simp
                  go_wp2_with fail
                  exact ⟨⟨k + 1, by push_cast; rfl, by omega, U5⟩, by have e9 : ixOf (.int .i64 ((k : Int) + 1)) = k + 1 := (by show ((k : Int) + 1).toNat = k + 1; omega); have e8 : ixOf (.int .i64 (k : Int)) = k := (by show ((k : Int)).toNat = k; omega); rw [e9, e8]; omega⟩
                · have d1 : decide ((k : Int) < (j : Int)) = false := decide_eq_false (by omega)
                  have l1 : ¬ (k : Int) < (j : Int) := by omega
                  have UU := Lib.hid (Fr.trans U4.out hr.out (fun _ _ e => e))
                  go_wp2_with fail
                  go_ret
                  exact ⟨rfl, UU.out⟩
end Go.Proofs.YtemmdbjcllcelaaDoor.Pa
