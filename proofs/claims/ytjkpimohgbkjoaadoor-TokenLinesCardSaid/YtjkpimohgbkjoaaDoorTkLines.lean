/-
  The law TokenLines: the walk.
-/
import Derived.Test.YtjkpimohgbkjoaaDoorTkTok
namespace Go.Proofs.YtjkpimohgbkjoaaDoor
open Go.RowKit

set_option maxRecDepth 20000 in
set_option maxHeartbeats 8000000 in
theorem tokenLines_any {w : World} (L : Laid w) (H : Hand w) (hw : 3 ≤ w.heap.size) {A0 : Option Addr} {c0 : Nat} {xs0 : List Int} (hx0 : IntsW w A0 c0 xs0) {A1 : Option Addr} {c1 : Nat} {xs1 : List Int} (hx1 : IntsW w A1 c1 xs1) :
    Calls Tryd.prog 10 #[.slice A0 xs0.length c0, .slice A1 xs1.length c1] w fun e w' => e = .returned (.bool true) ∧ Up w w' := by
  have LL := Lib.hid L
  obtain ⟨k0, s0, hk0, W0⟩ := words_front (hx := hx0) H
  obtain ⟨k1, s1, hk1, W1⟩ := words_front (hx := hx1) H
  have W0 := Lib.hid W0
  have W1 := Lib.hid W1
  have l0 : xs0.length ≤ 9223372036854775807 := Nat.le_trans hx0.le hx0.big
  have l1 : xs1.length ≤ 9223372036854775807 := Nat.le_trans hx1.le hx1.big
  clear L H hx0 hx1
  go_enter Tryd.func10, Tryd.ntmps10
  go_wp2_with fail
  refine (W0.out).mono ?_
  rintro e w' ⟨⟨pa, la, ha, sa, rfl⟩, rfl⟩
  go_wp2_with fail
  refine (W1.out).mono ?_
  rintro e w' ⟨⟨pb, lb, hb, sb, rfl⟩, rfl⟩
  obtain ⟨X, Y, D, hX, hY, hY0, hD, hYl, L1, L2, L3⟩ := lines_lex2 pa pb ha hb la lb sa sb
  have HYL := Lib.hid hYl
  clear hYl
  have LX1 := Lib.hid L1
  have LX2 := Lib.hid L2
  have LX3 := Lib.hid L3
  clear W0 W1 s0 s1 hk0 hk1 l0 l1 ha hb la lb L1 L2 L3
  generalize flat pa = ta at *
  generalize flat pb = tb at *
  have e1 : bs ta ++ { data := #[10] } = bs (ta ++ [10]) := bs_append ta [10]
  have e2 := bs_append (ta ++ [10]) tb
  have z1 : (bs ta).size + 1 ≤ 9223372036854775807 := by rw [bs_size]; omega
  have z2 : (bs (ta ++ [10])).size + (bs tb).size ≤ 9223372036854775807 := by rw [bs_size, bs_size, List.length_append]; simp; omega
  obtain ⟨t2, ht2⟩ : ∃ t2, t2 = ta ++ [10] := ⟨_, rfl⟩
  obtain ⟨t3, ht3⟩ : ∃ t3, t3 = ta ++ [10] ++ tb := ⟨_, rfl⟩
  rw [← ht3] at e2 LX3
  rw [← ht2] at e1 e2 z2 LX1
  clear sa sb ht2 ht3
  obtain ⟨n, hn⟩ : ∃ n, n = X.length := ⟨_, rfl⟩
  obtain ⟨m, hm⟩ : ∃ m, m = Y.length := ⟨_, rfl⟩
  obtain ⟨n1, hn1⟩ : ∃ n1, n1 = n + 1 := ⟨_, rfl⟩
  obtain ⟨nz, hnz⟩ : ∃ nz, nz = n + m := ⟨_, rfl⟩
  have hl1 : (X ++ [(⟨0, [], 0, D + 1, 1⟩ : Tok)]).length = n1 := by rw [List.length_append, ← hn, hn1]; rfl
  have hl3 : (X ++ Y.map (dn D)).length = nz := by rw [List.length_append, List.length_map, ← hn, ← hm, hnz]
  rw [← hn] at hX
  rw [← hm] at hY hY0
  have HN := Lib.hid hn
  have HM := Lib.hid hm
  have HNZ := Lib.hid hnz
  have HN1 := Lib.hid hn1
  have HL1 := Lib.hid hl1
  have HL3 := Lib.hid hl3
  clear hn hm hl1 hl3 hnz hn1
  go_wp2_with fail
  refine (all_okn LX1.out HL1.out LL.out hw).mono ?_
  rintro e w1 ⟨hu1, B1, d1, rfl, hp1⟩
  have P1 := Lib.hid hp1
  have U1 := Lib.hid hu1
  have g1 := hp1.le
  have g1b := hp1.big
  clear hu1 hp1
  unfold tokA
  go_wp2_with fail
  change Calls _ _ _ (w1.alloc zeroTok) _
  have U2 := Lib.hid (show Up w (w1.alloc zeroTok) from U1.out.alloc _)
  have V2 := Lib.hid (show Up w1 (w1.alloc zeroTok) from (Fr.refl _ _).alloc _)
  generalize w1.alloc zeroTok = w2 at U2 V2 ⊢
  refine (all_okn LX2.out HM.out.symm (LL.out.kept U2.out (fun h => h) (fun h => h)) (Nat.le_trans hw U2.out.size)).mono ?_
  rintro e w3 ⟨hu3, B2, d2, rfl, hp2⟩
  have P2 := Lib.hid hp2
  have U3 := Lib.hid (show Up w w3 from Fr.trans U2.out hu3 (fun _ _ e => e))
  have V3 := Lib.hid (show Up w1 w3 from Fr.trans V2.out hu3 (fun _ _ e => e))
  have g2 := hp2.le
  have g2b := hp2.big
  clear hu3 hp2
  unfold tokA
  go_wp2_with fail
  change Calls _ _ _ (w3.alloc zeroTok) _
  have U4 := Lib.hid (show Up w (w3.alloc zeroTok) from U3.out.alloc _)
  have V4 := Lib.hid (show Up w1 (w3.alloc zeroTok) from V3.out.alloc _)
  have T4 := Lib.hid (show Up w3 (w3.alloc zeroTok) from (Fr.refl _ _).alloc _)
  generalize w3.alloc zeroTok = w4 at U4 V4 T4 ⊢
  refine (all_okn LX3.out HL3.out (LL.out.kept U4.out (fun h => h) (fun h => h)) (Nat.le_trans hw U4.out.size)).mono ?_
  rintro e w5 ⟨hu5, B3, d3, rfl, hp3⟩
  have P3 := Lib.hid hp3
  have U5 := Lib.hid (show Up w w5 from Fr.trans U4.out hu5 (fun _ _ e => e))
  have V5 := Lib.hid (show Up w1 w5 from Fr.trans V4.out hu5 (fun _ _ e => e))
  have T5 := Lib.hid (show Up w3 w5 from Fr.trans T4.out hu5 (fun _ _ e => e))
  have g3 := hp3.le
  have g3b := hp3.big
  clear hu5 hp3
  unfold tokA
  go_wp2_with fail
  change Calls _ _ _ (w5.alloc zeroTok) _
  have U6 := Lib.hid (show Up w (w5.alloc zeroTok) from U5.out.alloc _)
  have V6 := Lib.hid (show Up w1 (w5.alloc zeroTok) from V5.out.alloc _)
  have T6 := Lib.hid (show Up w3 (w5.alloc zeroTok) from T5.out.alloc _)
  have S6 := Lib.hid (show Up w5 (w5.alloc zeroTok) from (Fr.refl _ _).alloc _)
  generalize w5.alloc zeroTok = w6 at U6 V6 T6 S6 ⊢
  refine (known_any (LL.out.kept U6.out (fun h => h) (fun h => h)) (Nat.le_trans hw U6.out.size)).mono ?_
  rintro e w7 ⟨rfl, hu7⟩
  have U7 := Lib.hid (show Up w w7 from Fr.trans U6.out hu7 (fun _ _ e => e))
  have Q1 := Lib.hid (P1.out.kept (show Up w1 w7 from Fr.trans V6.out hu7 (fun _ _ e => e)) (fun _ _ h => h) (fun _ h => h) (fun _ _ _ h => h))
  have Q2 := Lib.hid (P2.out.kept (show Up w3 w7 from Fr.trans T6.out hu7 (fun _ _ e => e)) (fun _ _ h => h) (fun _ h => h) (fun _ _ _ h => h))
  have Q3 := Lib.hid (P3.out.kept (show Up w5 w7 from Fr.trans S6.out hu7 (fun _ _ e => e)) (fun _ _ h => h) (fun _ h => h) (fun _ _ _ h => h))
  rw [HL1.out] at g1
  rw [← HM.out] at g2
  rw [HL3.out] at g3
  clear hu7 e1 e2 z1 z2 P1 P2 P3 U1 V2 U2 U3 V3 U4 V4 T4 U5 V5 T5 U6 V6 T6 S6
  have a1 : (n1 : Int) - 1 = (n : Int) := by rw [HN1.out]; simp
  have a2 : (n : Int) + (m : Int) = (nz : Int) := by rw [HNZ.out]; simp
  have a3 : ((nz : Int) != (nz : Int)) = false := by simp
  have a3' : ((nz : Int) == (nz : Int)) = true := by simp
  have w1 : IntKind.i64.wrap (n : Int) = (n : Int) := IntWalk.i64_in _ (by omega)
  have w2 : IntKind.i64.wrap (nz : Int) = (nz : Int) := IntWalk.i64_in _ (by have := HNZ.out; omega)
  obtain ⟨b1, o1, hB1, _, _, _, x3, _⟩ := tok_at Q1.out (k := n) (by rw [HL1.out, HN1.out]; omega)
  have hlast : (X ++ [(⟨0, [], 0, D + 1, 1⟩ : Tok)])[n]'(by rw [HL1.out, HN1.out]; omega) = ⟨0, [], 0, D + 1, 1⟩ := by
    rw [List.getElem_append_right (by rw [HN.out]; exact Nat.le_refl _)]
    simp
  rw [hlast] at x3
  subst hB1
  have i1 := fun w => idx_tok b1 o1 n1 d1 n (by have := HN1.out; omega) w
  have a4 : ((D + 1 : Nat) : Int) - 1 = (D : Int) := by omega
  simp only at x3
  obtain ⟨dl, hdl⟩ : ∃ dl, dl = D + 1 := ⟨_, rfl⟩
  rw [← hdl] at x3 a4
  have HDL := Lib.hid hdl
  clear hdl hlast
  have w3 : IntKind.i64.wrap (D : Int) = (D : Int) := IntWalk.i64_in _ (by omega)
  go_wp2_with fail
  go_loopw [17] (fun i wr => ∃ k : Nat, k ≤ n ∧ i = .int .i64 k ∧ Hid (Up w7 wr)) (fun i _ => n - (intOf i).toNat)
  case atStart => exact ⟨0, Nat.zero_le _, rfl, Lib.hid (Fr.refl _ _)⟩
  case round =>
    obtain ⟨k, hk, rfl, hr⟩ := hrel
    obtain ⟨wo, rfl⟩ : ∃ wo : World, wo = wr := ⟨_, rfl⟩
    clear x3 i1
    by_cases hlt : k < n
    · have hki : (k : Int) < (n : Int) := by omega
      obtain ⟨b, o, hA, y0, y1, y2, y3, y4⟩ := tok_at (Q1.out.kept hr.out (fun _ _ h => h) (fun _ h => h) (fun _ _ _ h => h)) (k := k) (by rw [HL1.out, HN1.out]; omega)
      obtain ⟨b', o', hA', v0, v1, v2, v3, v4⟩ := tok_at (Q3.out.kept hr.out (fun _ _ h => h) (fun _ h => h) (fun _ _ _ h => h)) (k := k) (by rw [HL3.out, HNZ.out]; omega)
      subst hA'
      cases hA
      obtain ⟨t, ht⟩ : ∃ t, t = X[k]'(by rw [← HN.out]; exact hlt) := ⟨_, rfl⟩
      rw [List.getElem_append_left (by rw [← HN.out]; exact hlt), ← ht] at y0 y1 y2 y3 y4
      rw [List.getElem_append_left (by rw [← HN.out]; exact hlt), ← ht] at v0 v1 v2 v3 v4
      have hne := fun w => run_neq_tok t.kind t.n t.line t.col (bs t.text) w
      have j1 := fun w => idx_tok b1 o1 n1 d1 k (by have := HN1.out; omega) w
      have j2 := fun w => idx_tok b' o' nz d3 k (by have := HNZ.out; omega) w
      clear ht
      go_wp2_with fail
      go_quiet (fail)
      go_wp2_with fail
      go_roundw
      case rel => exact ⟨k + 1, by omega, by go_num, Lib.hid (Fr.drewN hr.out _)⟩
      case measure => simp [intOf]; omega
    · have hki : ¬ (k : Int) < (n : Int) := by omega
      have V0 := Lib.hid hr.out
      clear hlt hk hr
      go_wp2_with fail
      clear hki
      go_loopw [18] (fun i wr => ∃ k : Nat, k ≤ m ∧ i = .int .i64 k ∧ Hid (Up w7 wr)) (fun i _ => m - (intOf i).toNat)
      case atStart => exact ⟨0, Nat.zero_le _, rfl, V0⟩
      case round =>
        obtain ⟨k, hk, rfl, hr⟩ := hrel
        obtain ⟨wp, rfl⟩ : ∃ wp : World, wp = wr := ⟨_, rfl⟩
        by_cases hlt : k < m
        · have hki : (k : Int) < (m : Int) := by omega
          obtain ⟨b, o, hA, y0, y1, y2, y3, y4⟩ := tok_at (Q2.out.kept hr.out (fun _ _ h => h) (fun _ h => h) (fun _ _ _ h => h)) (k := k) (by rw [← HM.out]; exact hlt)
          subst hA
          obtain ⟨t, ht⟩ : ∃ t, t = Y[k]'(by rw [← HM.out]; exact hlt) := ⟨_, rfl⟩
          rw [← ht] at y0 y1 y2 y3 y4
          have htl : t.line ≤ 61 := HYL.out t (by rw [ht]; exact List.getElem_mem _)
          obtain ⟨nk, hnk⟩ : ∃ nk, nk = n + k := ⟨_, rfl⟩
          have hnki : (n : Int) + (k : Int) = (nk : Int) := by omega
          have wnk : IntKind.i64.wrap (nk : Int) = (nk : Int) := IntWalk.i64_in _ (by omega)
          have hg : ∀ h : nk < (X ++ Y.map (dn D)).length, (X ++ Y.map (dn D))[nk]'h = dn D t := by
            intro h
            subst hnk
            rw [List.getElem_append_right (by rw [HN.out]; omega), List.getElem_map, ht]
            congr 2
            rw [← HN.out, Nat.add_sub_cancel_left]
          obtain ⟨l2, hl2⟩ : ∃ l2, l2 = t.line + D := ⟨_, rfl⟩
          have hwl : (t.line : Int) + (D : Int) = (l2 : Int) := by omega
          have wl2 : IntKind.i64.wrap (l2 : Int) = (l2 : Int) := IntWalk.i64_in _ (by omega)
          have hne := fun w => run_neq_tok t.kind t.n l2 t.col (bs t.text) w
          have j1 := fun w => idx_tok b o m d2 k hlt w
          have DT : dn D t = ⟨t.kind, t.text, t.n, l2, t.col⟩ := by rw [hl2]; rfl
          rw [DT] at hg
          have HG := Lib.hid hg
          have HNK := Lib.hid hnk
          have u9 : Up w7 (wp.alloc (.cells #[.int .i64 t.kind, .string (bs t.text), .int .i64 t.n, .int .i64 l2, .int .i64 t.col] 24)) := hr.out.alloc _
          obtain ⟨r0, r1, r2, r3, r4⟩ := cells5 (heap_alloc_new wp (.cells #[.int .i64 t.kind, .string (bs t.text), .int .i64 t.n, .int .i64 l2, .int .i64 t.col] 24))
          obtain ⟨b', o', hA', v0, v1, v2, v3, v4⟩ := tok_at (Q3.out.kept u9 (fun _ _ h => h) (fun _ h => h) (fun _ _ _ h => h)) (k := nk) (by rw [HL3.out, HNZ.out, HNK.out]; omega)
          rw [HG.out _] at v0 v1 v2 v3 v4
          subst hA'
          have j2 := fun w => idx_tok b' o' nz d3 nk (by have := HNZ.out; have := HNK.out; omega) w
          have UU := Lib.hid u9
          simp only at v0 v1 v2 v3 v4
          clear hg DT ht htl hl2 u9 hnk
          go_wp2_with fail
          go_quiet (fail)
          go_wp2_with fail
          go_roundw
          case rel => exact ⟨k + 1, by omega, by go_num, Lib.hid (Fr.drewN UU.out _)⟩
          case measure => simp [intOf]; omega
        · have hki : ¬ (k : Int) < (m : Int) := by omega
          have UU := Lib.hid (show Up w wp from Fr.trans U7.out hr.out (fun _ _ e => e))
          go_wp2_with fail
          go_ret
          exact ⟨rfl, UU.out⟩
end Go.Proofs.YtjkpimohgbkjoaaDoor
