/-
  The lines of code: what the reference's Show returns.
-/
import Derived.Test.YtomononppbjnnaaDoorCdRef
namespace Go.Proofs.YtomononppbjnnaaDoor
open Go.RowKit

set_option maxHeartbeats 1000000 in
theorem rdigits_any (n : Int) (h0 : -9223372036854775808 ≤ n) (h1 : n ≤ 9223372036854775807) (w : World) :
    Calls Tryd.prog 23 #[.int .i64 n] w fun e w' => e = .returned (.string (bsv (Lib.itoa n))) ∧ Up w w' := by
  by_cases hn : n < 0
  · obtain ⟨m, hm⟩ : ∃ m, m = n.natAbs := ⟨_, rfl⟩
    obtain rfl : n = -(m : Int) := by omega
    have B := Lib.hid (below_any (m + 1) m (by omega) (by omega))
    have E := Lib.hid (show Lib.itoa (-(m : Int)) = 45 :: Lib.decDigits m by unfold Lib.itoa; rw [if_pos hn, ← hm])
    have hl := decDigits_le 18 m (by omega)
    have z : 1 + (bsv (Lib.decDigits m)).size ≤ 9223372036854775807 := by rw [bsv_size]; omega
    have y : ⟨#[45]⟩ ++ bsv (Lib.decDigits m) = bsv (45 :: Lib.decDigits m) := bsv_append [45] _
    have d : decide (-(m : Int) < 0) = true := by simpa using hn
    clear hm hl
    go_enter Tryd.func23, Tryd.ntmps23
    go_wp2_with fail
    refine (B.out _).mono ?_
    rintro e w' ⟨rfl, u⟩
    go_wp2_with fail
    go_ret
    exact ⟨by rw [E.out]; rfl, u⟩
  · obtain ⟨m, rfl⟩ : ∃ m : Nat, n = m := ⟨n.toNat, by omega⟩
    have B := Lib.hid (below_any (m + 1) m (by omega) (by omega))
    have E := Lib.hid (show Lib.itoa (m : Int) = Lib.decDigits m by unfold Lib.itoa; rw [if_neg hn]; rfl)
    have hl := decDigits_le 18 m (by omega)
    have z : 0 + (bsv (Lib.decDigits m)).size ≤ 9223372036854775807 := by rw [bsv_size]; omega
    have z' : (bsv (Lib.decDigits m)).size ≤ 9223372036854775807 := by rw [bsv_size]; omega
    have y : ⟨#[]⟩ ++ bsv (Lib.decDigits m) = bsv (Lib.decDigits m) := bsv_append [] _
    have d : decide ((m : Int) < 0) = false := by simp
    have w1 : IntKind.i64.wrap (-(m : Int)) = -(m : Int) := IntWalk.i64_in _ (by omega)
    clear hl hn h0
    go_enter Tryd.func23, Tryd.ntmps23
    go_wp2_with fail
    refine (B.out _).mono ?_
    rintro e w' ⟨rfl, u⟩
    go_wp2_with fail
    go_ret
    exact ⟨by rw [E.out]; rfl, u⟩
theorem cat_ex (a b : ByteArray) : ∃ c, a ++ b = c ∧ c.size = a.size + b.size := ⟨_, rfl, ByteArray.size_append⟩

theorem nle {a b : Nat} (h : a + b ≤ 1000000) : a + b ≤ 9223372036854775807 := by omega
theorem nlt2 {a b : Nat} (h : a + b ≤ 1000000) : ¬ 9223372036854775807 < a + b := by omega
/-- What a round lays together. -/
structure Cats (p d sh da db : ByteArray) (op : Int) (k : Nat) (t1 t2 t3 t4 t5 t6 t7 u0 u1 u2 : ByteArray) : Prop where
  e1 : p ++ d = t1
  e2 : t1 ++ ⟨#[32]⟩ = t2
  e3 : t2 ++ sh = t3
  e4 : t3 ++ ⟨#[32]⟩ = t4
  e5 : t4 ++ da = t5
  e6 : t5 ++ ⟨#[32]⟩ = t6
  e7 : t6 ++ db = t7
  f0 : t3 ++ ⟨#[10]⟩ = u0
  f1 : t5 ++ ⟨#[10]⟩ = u1
  f2 : t7 ++ ⟨#[10]⟩ = u2
  s1 : p.size + d.size ≤ 1000000
  s2 : t1.size + 1 ≤ 1000000
  s3 : t2.size + sh.size ≤ 1000000
  s4 : t3.size + 1 ≤ 1000000
  s5 : t4.size + da.size ≤ 1000000
  s6 : t5.size + 1 ≤ 1000000
  s7 : t6.size + db.size ≤ 1000000
  s8 : t7.size + 1 ≤ 1000000
theorem cats {l : List Ins} {k : Nat} {op a b : Int} (hx : l[k]? = some ⟨op, a, b⟩) (ho : i64 op) (ha : i64 a) (hb : i64 b) (hk : k ≤ 5000) (hlen : (showUpto l k).length ≤ k * 86) :
    ∃ t1 t2 t3 t4 t5 t6 t7 u0 u1 u2 : ByteArray, Cats (bsv (showUpto l k)) (bsv (Lib.itoa k)) (bsv (shownOf op)) (bsv (Lib.itoa a)) (bsv (Lib.itoa b)) op k t1 t2 t3 t4 t5 t6 t7 u0 u1 u2 ∧
      (oneArg op = true → u1 = bsv (showUpto l (k + 1))) ∧ (oneArg op = false → twoArgs op = true → u2 = bsv (showUpto l (k + 1))) ∧ (oneArg op = false → twoArgs op = false → u0 = bsv (showUpto l (k + 1))) := by
  have hs := showUpto_succ hx
  have l1 := itoa_le (n := k) (by omega) (by omega)
  have l2 := shown_le ho
  have l3 := itoa_le ha.1 ha.2
  have l4 := itoa_le hb.1 hb.2
  refine ⟨bsv (showUpto l k ++ Lib.itoa k), bsv (showUpto l k ++ Lib.itoa k ++ [32]), bsv (showUpto l k ++ headOf op k), bsv (showUpto l k ++ headOf op k ++ [32]), bsv (showUpto l k ++ headOf op k ++ [32] ++ Lib.itoa a),
    bsv (showUpto l k ++ headOf op k ++ [32] ++ Lib.itoa a ++ [32]), bsv (showUpto l k ++ headOf op k ++ [32] ++ Lib.itoa a ++ [32] ++ Lib.itoa b), bsv (showUpto l k ++ headOf op k ++ [10]), bsv (showUpto l k ++ headOf op k ++ [32] ++ Lib.itoa a ++ [10]), bsv (showUpto l k ++ headOf op k ++ [32] ++ Lib.itoa a ++ [32] ++ Lib.itoa b ++ [10]), ?_, fun h => ?_, fun h h2 => ?_, fun h h2 => ?_⟩
  · refine ⟨bsv_append _ _, bsv_append _ [32], ?_, bsv_append _ [32], bsv_append _ _, bsv_append _ [32], bsv_append _ _, bsv_append _ [10], bsv_append _ [10], bsv_append _ [10], ?_, ?_, ?_, ?_, ?_, ?_, ?_, ?_⟩
    · rw [bsv_append]; simp [headOf]
    all_goals (simp only [bsv_size, List.length_append, List.length_singleton, headOf]; omega)
  · rw [hs, lineOf, argsOf, if_pos h]; congr 1; simp
  · rw [hs, lineOf, argsOf, if_neg (by rw [h]; decide), if_pos h2]; congr 1; simp
  · rw [hs, lineOf, argsOf, if_neg (by rw [h]; decide), if_neg (by rw [h2]; decide)]; congr 1; simp

set_option maxRecDepth 20000 in
set_option maxHeartbeats 8000000 in
theorem rshow_any {w : World} {A : Option Addr} {l : List Ins} {c : Nat} {u1 u2 u3 u4 : Value} (hc : CodeAt w A l) (hn : l.length ≤ 5000) (hcap : l.length ≤ c) (hR : w.rangeAt 0 0 namesV) :
    Calls Tryd.prog 18 #[.agg #[u1, u2, u3, u4, .slice A l.length c]] w fun e w' => e = .returned (.string (bsv (showUpto l l.length))) ∧ Up w w' := by
  have HC := Lib.hid hc
  have R := Lib.hid hR
  clear hc hR
  obtain ⟨n, hN⟩ : ∃ n, n = l.length := ⟨_, rfl⟩
  rw [← hN] at hn hcap
  simp only [← hN]
  have HN := Lib.hid hN
  clear hN
  go_enter Tryd.func18, Tryd.ntmps18
  go_wp2_with fail
  obtain ⟨W0, hW0⟩ : ∃ W, W = w.alloc (.cells #[u1, u2, u3, u4, .slice A n c] 28) := ⟨_, rfl⟩
  have F0 : Up w W0 := by rw [hW0]; exact (Fr.refl _ _).alloc _
  have C4 : W0.cell? ⟨w.heap.size, 4, none⟩ = some (.slice A n c) := by rw [hW0, cell_of_row _ _ _ _ _ _ (heap_alloc_new _ _)]; rfl
  rw [← hW0]
  have H0 := Lib.hid (And.intro F0 C4)
  clear hW0 F0 C4
  go_loopw [3, 4] (fun s i wr => ∃ k : Nat, k ≤ n ∧ i = .int .i64 k ∧ s = .string (bsv (showUpto l k)) ∧ Hid (Up W0 wr)) (fun _ i _ => n - natOf i)
  case atStart => exact ⟨0, Nat.zero_le _, rfl, rfl, Lib.hid (Fr.refl _ _)⟩
  case round =>
    obtain ⟨wo, rfl⟩ : ∃ wo : World, wo = wr := ⟨_, rfl⟩
    obtain ⟨k, hk, rfl, rfl, hm⟩ := hrel
    have FW : Up w wo := up_trans H0.out.1 hm.out
    have c4 : wo.cell? ⟨w.heap.size, 4, none⟩ = some (.slice A n c) := by rw [hm.out.cell (World.block_lt_of_cell? _ _ H0.out.2) (fun h => h)]; exact H0.out.2
    by_cases hlt : k < n
    · have k1 : (k : Int) < (n : Int) := by omega
      obtain ⟨⟨op, a, b⟩, hx⟩ : ∃ x, l[k]? = some x := ⟨_, List.getElem?_eq_getElem (by rw [← HN.out]; exact hlt)⟩
      obtain ⟨i1, i2, i3, g, o, rfl, hg, q0, q1, q2⟩ := (HC.out.kept FW (fun i hi h => h)).at_ k _ hx
      simp only at i1 i2 i3 q0 q1 q2
      have I := Lib.hid (And.intro i1 (And.intro i2 (And.intro i3 hx)))
      have RW := Lib.hid (range_kept R.out FW (fun h => h))
      have hlen : (showUpto l k).length ≤ k * 86 := showUpto_le (fun j x hj => by obtain ⟨h1, h2, h3, _⟩ := HC.out.at_ j x hj; exact ⟨h1, h2, h3⟩) k (by omega)
      obtain ⟨t1, t2, t3, t4, t5, t6, t7, v0, v1, v2, CT, O1, O2, O0⟩ := cats hx i1 i2 i3 (by omega) hlen
      have HT := Lib.hid CT
      have HO := Lib.hid (And.intro O1 (And.intro O2 O0))
      have hsh := shown_le i1
      have hnm := nameOf_le op
      have hio := itoa_le i1.1 i1.2
      have SH := Lib.hid (And.intro hsh (And.intro hnm hio))
      clear i1 i2 i3 hx hlen CT O1 O2 O0 hsh hnm hio
      go_wp2_with fail
      refine (rname_any op _ (range_kept (S := fun _ => False) RW.out ((Fr.refl _ _).alloc _) (fun h => h))).mono ?_
      rintro e w' ⟨rfl, rfl⟩
      have UA := Lib.hid (Fr.refl (fun _ => False) (wo.alloc (.cells #[.int .i64 op, .int .i64 a, .int .i64 b] 24)))
      by_cases hE : nameOf op = []
      · have E : shownOf op = [111, 112] ++ Lib.itoa op := by unfold shownOf; rw [if_pos hE]
        rw [hE]
        have e0 : bsv [] = ⟨#[]⟩ := rfl
        have q1 : 2 + (bsv (Lib.itoa op)).size ≤ 9223372036854775807 := by rw [bsv_size]; have := SH.out.2.2; omega
        have q2 := bsv_append [111, 112] (Lib.itoa op)
        rw [← E] at q2
        have q3 : (⟨#[111, 112]⟩ : ByteArray) ++ bsv (Lib.itoa op) = bsv (shownOf op) := q2
        simp only [e0]
        clear hE E q2
        go_wp2_with fail
        refine (rdigits_any op I.out.1.1 I.out.1.2 _).mono ?_
        rintro e w1 ⟨rfl, v⟩
        have UA := Lib.hid (up_trans UA.out v)
        clear v
        obtain ⟨sh, hsh⟩ : ∃ x, x = bsv (shownOf op) := ⟨_, rfl⟩
        rw [← hsh] at HT
        rw [← hsh] at q3
        obtain ⟨p, hp⟩ : ∃ x, x = bsv (showUpto l k) := ⟨_, rfl⟩
        rw [← hp] at HT
        simp only [← hp]
        have e1 := HT.out.e1
        have e2 := HT.out.e2
        have e3 := HT.out.e3
        have s1 := nle HT.out.s1
        have s2 := nle HT.out.s2
        have s3 := nle HT.out.s3
        clear hsh hp
        go_wp2_with fail
        refine (rdigits_any k (by omega) (by omega) _).mono ?_
        rintro e w2 ⟨rfl, v⟩
        have UB := Lib.hid (up_trans UA.out v)
        clear v
        obtain ⟨c0, c1, c2⟩ := cells3 UB.out
        obtain ⟨d, hd⟩ : ∃ x, x = bsv (Lib.itoa k) := ⟨_, rfl⟩
        rw [← hd] at HT e1 s1
        simp only [← hd]
        clear hd
        have e4 := HT.out.e4
        have s4 := nle HT.out.s4
        have f0 := HT.out.f0
        have hW : Up W0 (wo.alloc (.cells #[.int .i64 op, .int .i64 a, .int .i64 b] 24)) := up_trans hm.out ((Fr.refl _ _).alloc _)
        have HW := Lib.hid hW
        clear hW
        go_wp2_with fail
        all_goals first
          | (refine (rdigits_any a I.out.2.1.1 I.out.2.1.2 _).mono ?_
             rintro e w3 ⟨rfl, v⟩
             have UC := Lib.hid (up_trans UB.out v)
             clear v
             have e5 := HT.out.e5
             have s5 := nle HT.out.s5
             have f1 := HT.out.f1
             have s6 := nle HT.out.s6
             go_wp2_with fail
             exact ⟨⟨k + 1, by omega, by go_num, congrArg Value.string (HO.out.1 (by simp_all [oneArg])), Lib.hid (up_trans HW.out UC.out)⟩, by simp [natOf]; omega⟩)
          | exact ⟨⟨k + 1, by omega, by go_num, congrArg Value.string (HO.out.2.2 (by simp_all [oneArg]) (by simp_all [twoArgs])), Lib.hid (up_trans HW.out UB.out)⟩, by simp [natOf]; omega⟩
          | skip
        all_goals
          have E2 := Lib.hid (HO.out.2.1 (by simp_all [oneArg]) (by simp_all [twoArgs]))
          have e5 := HT.out.e5
          have e6 := HT.out.e6
          have e7 := HT.out.e7
          have f2 := HT.out.f2
          have z4 := nlt2 HT.out.s4
          have z5 := nlt2 HT.out.s5
          have z6 := nlt2 HT.out.s6
          have z7 := nlt2 HT.out.s7
          have s8 := nle HT.out.s8
          clear e1 e2 e3 s1 s2 s3
          refine wp_region_held_drew (S := fun W => Up (wo.alloc (.cells #[.int .i64 op, .int .i64 a, .int .i64 b] 24)) W) (by kernel_rfl) (by exact UB.out.drew) (fun hHeld => ?_)
          refine held_take (i := 0) (d := some 62) (v := ?_) rfl rfl (by kernel_rfl) (by kernel_rfl) (by kernel_rfl) (fun _ _ _ h => h) (by rfl) ?_ (by assumption) ?_
          rotate_left 1
          focus (intro w hSw; (try dsimp only at hSw); go_simp; first | done | with_reducible rfl)
          simp only [Act.put, List.setIfInBounds_toArray, List.set_cons_zero, List.set_cons_succ]
          refine held_take (i := 1) (d := some 63) (v := ?_) rfl rfl (by kernel_rfl) (by kernel_rfl) (by kernel_rfl) (fun _ _ _ h => h) (by rfl) ?_ (by assumption) ?_
          rotate_left 1
          focus (intro w hSw; (try dsimp only at hSw); go_simp; first | done | with_reducible rfl)
          simp only [Act.put, List.setIfInBounds_toArray, List.set_cons_zero, List.set_cons_succ]
          refine held_take (i := 2) (d := some 64) (v := ?_) rfl rfl (by kernel_rfl) (by kernel_rfl) (by kernel_rfl) (fun _ _ _ h => h) (by rfl) ?_ (by assumption) ?_
          rotate_left 1
          focus (intro w hSw; (try dsimp only at hSw); go_simp; first | done | with_reducible rfl)
          simp only [Act.put, List.setIfInBounds_toArray, List.set_cons_zero, List.set_cons_succ]
          refine held_take (i := 3) (d := some 65) (v := ?_) rfl rfl (by kernel_rfl) (by kernel_rfl) (by kernel_rfl) (fun _ _ _ h => h) (by rfl) ?_ (by assumption) ?_
          rotate_left 1
          focus (intro w hSw; obtain ⟨c0, c1, c2⟩ := cells3 hSw; (try dsimp only at hSw); go_simp; first | done | with_reducible rfl)
          simp only [Act.put, List.setIfInBounds_toArray, List.set_cons_zero, List.set_cons_succ]
          refine held_take (i := 7) (d := some 69) (v := ?_) rfl rfl (by kernel_rfl) (by kernel_rfl) (by kernel_rfl) (fun _ _ _ h => h) (by rfl) ?_ (by assumption) ?_
          rotate_left 1
          focus (intro w hSw; (try dsimp only at hSw); go_simp; first | done | with_reducible rfl)
          simp only [Act.put, List.setIfInBounds_toArray, List.set_cons_zero, List.set_cons_succ]
          refine held_take (i := 8) (d := some 70) (v := ?_) rfl rfl (by kernel_rfl) (by kernel_rfl) (by kernel_rfl) (fun _ _ _ h => h) (by rfl) ?_ (by assumption) ?_
          rotate_left 1
          focus (intro w hSw; obtain ⟨c0, c1, c2⟩ := cells3 hSw; (try dsimp only at hSw); go_simp; first | done | with_reducible rfl)
          simp only [Act.put, List.setIfInBounds_toArray, List.set_cons_zero, List.set_cons_succ]
          refine wpAnyH_ready (rs := [4]) (by kernel_rfl) (by simp) ?_
          refine AllReadyH.cons (o := _) rfl (fun K hK => ?_) AllReadyH.nil
          go_simp
          refine (rdigits_any a I.out.2.1.1 I.out.2.1.2 _).mono ?_
          rintro e w1 ⟨rfl, u1⟩
          go_simp
          refine hK.out _ _ (by exact up_trans hHeld u1) (fun hHeld => ?_)
          clear hK K
          refine held_take (i := 5) (d := some 67) (v := ?_) rfl rfl (by kernel_rfl) (by kernel_rfl) (by kernel_rfl) (fun _ _ _ h => h) (by rfl) ?_ (by assumption) ?_
          rotate_left 1
          focus (intro w hSw; (try dsimp only at hSw); go_simp; first | done | with_reducible rfl)
          simp only [Act.put, List.setIfInBounds_toArray, List.set_cons_zero, List.set_cons_succ]
          refine held_take (i := 6) (d := some 68) (v := ?_) rfl rfl (by kernel_rfl) (by kernel_rfl) (by kernel_rfl) (fun _ _ _ h => h) (by rfl) ?_ (by assumption) ?_
          rotate_left 1
          focus (intro w hSw; (try dsimp only at hSw); go_simp; first | done | with_reducible rfl)
          simp only [Act.put, List.setIfInBounds_toArray, List.set_cons_zero, List.set_cons_succ]
          refine wpAnyH_ready (rs := [9]) (by kernel_rfl) (by simp) ?_
          refine AllReadyH.cons (o := _) rfl (fun K hK => ?_) AllReadyH.nil
          go_simp
          refine (rdigits_any b I.out.2.2.1.1 I.out.2.2.1.2 _).mono ?_
          rintro e w1 ⟨rfl, u1⟩
          go_simp
          refine hK.out _ _ (by exact up_trans hHeld u1) (fun hHeld => ?_)
          clear hK K
          refine held_take (i := 10) (d := some 72) (v := ?_) rfl rfl (by kernel_rfl) (by kernel_rfl) (by kernel_rfl) (fun _ _ _ h => h) (by rfl) ?_ (by assumption) ?_
          rotate_left 1
          focus (intro w hSw; (try dsimp only at hSw); go_simp; first | done | with_reducible rfl)
          simp only [Act.put, List.setIfInBounds_toArray, List.set_cons_zero, List.set_cons_succ]
          refine held_take (i := 11) (d := some 3) (v := ?_) rfl rfl (by kernel_rfl) (by kernel_rfl) (by kernel_rfl) (fun _ _ _ h => h) (by rfl) ?_ (by assumption) ?_
          rotate_left 1
          focus (intro w hSw; (try dsimp only at hSw); go_simp; first | done | with_reducible rfl)
          simp only [Act.put, List.setIfInBounds_toArray, List.set_cons_zero, List.set_cons_succ]
          refine wpAnyH_done (by kernel_rfl) ?_ _
          have UC := Lib.hid hHeld
          clear hHeld
          go_wp2_with fail
          exact ⟨⟨k + 1, by omega, by go_num, congrArg Value.string E2.out, Lib.hid (up_trans HW.out UC.out)⟩, by simp [natOf]; omega⟩
      · have E : shownOf op = nameOf op := by unfold shownOf; rw [if_neg hE]
        have q1 : ((bsv (nameOf op)).toList == (⟨#[]⟩ : ByteArray).toList) = false := by
          rw [beq_eq_false_iff_ne]
          intro h
          rw [bytesList, bytesList] at h
          exact hE h
        have q2 : (bsv (nameOf op)).toList.isEmpty = false := by
          rw [bytesList]
          cases hx : (bsv (nameOf op)).data.toList with
          | nil => exact absurd hx hE
          | cons => rfl
        rw [← E] at q1 q2 ⊢
        clear hE E
        obtain ⟨sh, hsh⟩ : ∃ x, x = bsv (shownOf op) := ⟨_, rfl⟩
        rw [← hsh] at HT
        rw [← hsh] at q1 q2 ⊢
        obtain ⟨p, hp⟩ : ∃ x, x = bsv (showUpto l k) := ⟨_, rfl⟩
        rw [← hp] at HT
        simp only [← hp]
        have e1 := HT.out.e1
        have e2 := HT.out.e2
        have e3 := HT.out.e3
        have s1 := nle HT.out.s1
        have s2 := nle HT.out.s2
        have s3 := nle HT.out.s3
        clear hsh hp
        go_wp2_with fail
        refine (rdigits_any k (by omega) (by omega) _).mono ?_
        rintro e w2 ⟨rfl, v⟩
        have UB := Lib.hid (up_trans UA.out v)
        clear v
        obtain ⟨c0, c1, c2⟩ := cells3 UB.out
        obtain ⟨d, hd⟩ : ∃ x, x = bsv (Lib.itoa k) := ⟨_, rfl⟩
        rw [← hd] at HT e1 s1
        simp only [← hd]
        clear hd
        have e4 := HT.out.e4
        have s4 := nle HT.out.s4
        have f0 := HT.out.f0
        have hW : Up W0 (wo.alloc (.cells #[.int .i64 op, .int .i64 a, .int .i64 b] 24)) := up_trans hm.out ((Fr.refl _ _).alloc _)
        have HW := Lib.hid hW
        clear hW
        go_wp2_with fail
        all_goals first
          | (refine (rdigits_any a I.out.2.1.1 I.out.2.1.2 _).mono ?_
             rintro e w3 ⟨rfl, v⟩
             have UC := Lib.hid (up_trans UB.out v)
             clear v
             have e5 := HT.out.e5
             have s5 := nle HT.out.s5
             have f1 := HT.out.f1
             have s6 := nle HT.out.s6
             go_wp2_with fail
             exact ⟨⟨k + 1, by omega, by go_num, congrArg Value.string (HO.out.1 (by simp_all [oneArg])), Lib.hid (up_trans HW.out UC.out)⟩, by simp [natOf]; omega⟩)
          | exact ⟨⟨k + 1, by omega, by go_num, congrArg Value.string (HO.out.2.2 (by simp_all [oneArg]) (by simp_all [twoArgs])), Lib.hid (up_trans HW.out UB.out)⟩, by simp [natOf]; omega⟩
          | skip
        all_goals
          have E2 := Lib.hid (HO.out.2.1 (by simp_all [oneArg]) (by simp_all [twoArgs]))
          have e5 := HT.out.e5
          have e6 := HT.out.e6
          have e7 := HT.out.e7
          have f2 := HT.out.f2
          have z4 := nlt2 HT.out.s4
          have z5 := nlt2 HT.out.s5
          have z6 := nlt2 HT.out.s6
          have z7 := nlt2 HT.out.s7
          have s8 := nle HT.out.s8
          clear e1 e2 e3 s1 s2 s3
          refine wp_region_held_drew (S := fun W => Up (wo.alloc (.cells #[.int .i64 op, .int .i64 a, .int .i64 b] 24)) W) (by kernel_rfl) (by exact UB.out.drew) (fun hHeld => ?_)
          refine held_take (i := 0) (d := some 62) (v := ?_) rfl rfl (by kernel_rfl) (by kernel_rfl) (by kernel_rfl) (fun _ _ _ h => h) (by rfl) ?_ (by assumption) ?_
          rotate_left 1
          focus (intro w hSw; (try dsimp only at hSw); go_simp; first | done | with_reducible rfl)
          simp only [Act.put, List.setIfInBounds_toArray, List.set_cons_zero, List.set_cons_succ]
          refine held_take (i := 1) (d := some 63) (v := ?_) rfl rfl (by kernel_rfl) (by kernel_rfl) (by kernel_rfl) (fun _ _ _ h => h) (by rfl) ?_ (by assumption) ?_
          rotate_left 1
          focus (intro w hSw; (try dsimp only at hSw); go_simp; first | done | with_reducible rfl)
          simp only [Act.put, List.setIfInBounds_toArray, List.set_cons_zero, List.set_cons_succ]
          refine held_take (i := 2) (d := some 64) (v := ?_) rfl rfl (by kernel_rfl) (by kernel_rfl) (by kernel_rfl) (fun _ _ _ h => h) (by rfl) ?_ (by assumption) ?_
          rotate_left 1
          focus (intro w hSw; (try dsimp only at hSw); go_simp; first | done | with_reducible rfl)
          simp only [Act.put, List.setIfInBounds_toArray, List.set_cons_zero, List.set_cons_succ]
          refine held_take (i := 3) (d := some 65) (v := ?_) rfl rfl (by kernel_rfl) (by kernel_rfl) (by kernel_rfl) (fun _ _ _ h => h) (by rfl) ?_ (by assumption) ?_
          rotate_left 1
          focus (intro w hSw; obtain ⟨c0, c1, c2⟩ := cells3 hSw; (try dsimp only at hSw); go_simp; first | done | with_reducible rfl)
          simp only [Act.put, List.setIfInBounds_toArray, List.set_cons_zero, List.set_cons_succ]
          refine held_take (i := 7) (d := some 69) (v := ?_) rfl rfl (by kernel_rfl) (by kernel_rfl) (by kernel_rfl) (fun _ _ _ h => h) (by rfl) ?_ (by assumption) ?_
          rotate_left 1
          focus (intro w hSw; (try dsimp only at hSw); go_simp; first | done | with_reducible rfl)
          simp only [Act.put, List.setIfInBounds_toArray, List.set_cons_zero, List.set_cons_succ]
          refine held_take (i := 8) (d := some 70) (v := ?_) rfl rfl (by kernel_rfl) (by kernel_rfl) (by kernel_rfl) (fun _ _ _ h => h) (by rfl) ?_ (by assumption) ?_
          rotate_left 1
          focus (intro w hSw; obtain ⟨c0, c1, c2⟩ := cells3 hSw; (try dsimp only at hSw); go_simp; first | done | with_reducible rfl)
          simp only [Act.put, List.setIfInBounds_toArray, List.set_cons_zero, List.set_cons_succ]
          refine wpAnyH_ready (rs := [4]) (by kernel_rfl) (by simp) ?_
          refine AllReadyH.cons (o := _) rfl (fun K hK => ?_) AllReadyH.nil
          go_simp
          refine (rdigits_any a I.out.2.1.1 I.out.2.1.2 _).mono ?_
          rintro e w1 ⟨rfl, u1⟩
          go_simp
          refine hK.out _ _ (by exact up_trans hHeld u1) (fun hHeld => ?_)
          clear hK K
          refine held_take (i := 5) (d := some 67) (v := ?_) rfl rfl (by kernel_rfl) (by kernel_rfl) (by kernel_rfl) (fun _ _ _ h => h) (by rfl) ?_ (by assumption) ?_
          rotate_left 1
          focus (intro w hSw; (try dsimp only at hSw); go_simp; first | done | with_reducible rfl)
          simp only [Act.put, List.setIfInBounds_toArray, List.set_cons_zero, List.set_cons_succ]
          refine held_take (i := 6) (d := some 68) (v := ?_) rfl rfl (by kernel_rfl) (by kernel_rfl) (by kernel_rfl) (fun _ _ _ h => h) (by rfl) ?_ (by assumption) ?_
          rotate_left 1
          focus (intro w hSw; (try dsimp only at hSw); go_simp; first | done | with_reducible rfl)
          simp only [Act.put, List.setIfInBounds_toArray, List.set_cons_zero, List.set_cons_succ]
          refine wpAnyH_ready (rs := [9]) (by kernel_rfl) (by simp) ?_
          refine AllReadyH.cons (o := _) rfl (fun K hK => ?_) AllReadyH.nil
          go_simp
          refine (rdigits_any b I.out.2.2.1.1 I.out.2.2.1.2 _).mono ?_
          rintro e w1 ⟨rfl, u1⟩
          go_simp
          refine hK.out _ _ (by exact up_trans hHeld u1) (fun hHeld => ?_)
          clear hK K
          refine held_take (i := 10) (d := some 72) (v := ?_) rfl rfl (by kernel_rfl) (by kernel_rfl) (by kernel_rfl) (fun _ _ _ h => h) (by rfl) ?_ (by assumption) ?_
          rotate_left 1
          focus (intro w hSw; (try dsimp only at hSw); go_simp; first | done | with_reducible rfl)
          simp only [Act.put, List.setIfInBounds_toArray, List.set_cons_zero, List.set_cons_succ]
          refine held_take (i := 11) (d := some 3) (v := ?_) rfl rfl (by kernel_rfl) (by kernel_rfl) (by kernel_rfl) (fun _ _ _ h => h) (by rfl) ?_ (by assumption) ?_
          rotate_left 1
          focus (intro w hSw; (try dsimp only at hSw); go_simp; first | done | with_reducible rfl)
          simp only [Act.put, List.setIfInBounds_toArray, List.set_cons_zero, List.set_cons_succ]
          refine wpAnyH_done (by kernel_rfl) ?_ _
          have UC := Lib.hid hHeld
          clear hHeld
          go_wp2_with fail
          exact ⟨⟨k + 1, by omega, by go_num, congrArg Value.string E2.out, Lib.hid (up_trans HW.out UC.out)⟩, by simp [natOf]; omega⟩
    · have hk' : k = n := by omega
      subst hk'
      go_wp2_with fail
      go_ret
      exact ⟨rfl, FW⟩
end Go.Proofs.YtomononppbjnnaaDoor
