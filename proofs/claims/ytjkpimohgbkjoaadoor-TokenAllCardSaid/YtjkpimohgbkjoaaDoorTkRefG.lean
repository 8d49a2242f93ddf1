/-
  The reference's 'one': signs, and the whole.
-/
import Derived.Test.YtjkpimohgbkjoaaDoorTkRefF
import Derived.Deep.WholeRow
namespace Go.Proofs.YtjkpimohgbkjoaaDoor
open Go.RowKit

def signs25 : List (List UInt8) := signsL ++ [[59]]
theorem wpList_build_eq {P : Program} {ops : Array Oper} {rest : List Oper} {o : Oper} {a : Act} {w : World} {Q : Exit → Act → World → Prop} (hg : o.guard = none) (t : TypeId) (parts : Array (Nat × Operand)) (ho : o.op = .build t parts) (cs : Array Value)
    (hf : P.built t (parts.map fun (i, x) => (i, a.eval x)).toList = some cs)
    (h : wpList P ops Q rest (a.put o.dst (.agg cs)) w) : wpList P ops Q (o :: rest) a w :=
  wpList_build hg t parts ho (by rw [hf]; rfl) (by rw [hf]; exact h)
def signs27 : List Value := (signs25 ++ [[], []]).map (fun x => .string (bs x))
theorem signs25_len : ∀ x ∈ signs25, x.length ≤ 2 ∧ 1 ≤ x.length := by decide
theorem signs25_at (k : Nat) (x : List UInt8) (h : signs25[k]? = some x) : (k < 24 → signsL[k]? = some x ∧ (x == [59]) = false ∧ ∀ r, x ≠ 59 :: r) ∧ (k = 24 → x = [59]) := by
  have hk := (List.getElem?_eq_some_iff.1 h).1
  have hk : k < 25 := hk
  constructor
  · intro h24
    have e : signsL[k]? = some x := by
      rw [signs25, List.getElem?_append_left (show k < signsL.length from h24)] at h
      exact h
    have hm := List.mem_of_getElem? e
    refine ⟨e, ?_, ?_⟩
    · have : ∀ x ∈ signsL, (x == [59]) = false := by decide
      exact this x hm
    · have : ∀ x ∈ signsL, x.head? ≠ some 59 := by decide
      intro r hr
      have := this x hm
      rw [hr] at this
      exact this rfl
  · rintro rfl
    have : signs25[24]? = some [59] := rfl
    rw [this] at h
    cases h; rfl
theorem take_prefix {x T : List UInt8} (h : x.isPrefixOf T = true) : T.take x.length = x := by
  obtain ⟨r, hr⟩ := List.isPrefixOf_iff_prefix.1 h
  rw [← hr]; simp
theorem prefix_le {x T : List UInt8} (h : x.isPrefixOf T = true) : x.length ≤ T.length := by
  obtain ⟨r, hr⟩ := List.isPrefixOf_iff_prefix.1 h
  rw [← hr]; simp
theorem take_not {x T : List UInt8} (h : x.isPrefixOf T = false) : (T.take x.length == x) = false := by
  rw [beq_eq_false_iff_ne]
  intro e
  have : x.isPrefixOf T = true := List.isPrefixOf_iff_prefix.2 ⟨T.drop x.length, by have := List.take_append_drop x.length T; rwa [e] at this⟩
  rw [h] at this; cases this

def signs27A : Array Value := signs27.toArray
theorem signs27A_size : signs27A.size = 27 := rfl
theorem signs27A_one : signs27A.all (·.oneCell') = true := by kernel_rfl
structure SgInv (w wr : World) (q g : Nat) (T : List UInt8) (k : Nat) : Prop where
  zc : Zc w wr q
  qg : q < g
  blk : wr.heap[g]? = some (.cells signs27A 77 (0, 0))
  no : ∀ i x, i < k → signs25[i]? = some x → x.isPrefixOf T = false
theorem SgInv.up {w wr w' : World} {q g : Nat} {T : List UInt8} {k : Nat} (h : SgInv w wr q g T k) (u : Up wr w') : SgInv w w' q g T k :=
  ⟨h.zc.up u, h.qg, (u.block g (heap_lt h.blk) (fun e => e)).trans h.blk, h.no⟩
theorem SgInv.cell {w wr : World} {q g : Nat} {T : List UInt8} {k : Nat} (h : SgInv w wr q g T k) {i : Nat} {x : List UInt8} (hx : signs25[i]? = some x) : wr.cell? ⟨g, i, none⟩ = some (.string (bs x)) := by
  rw [cell_of_row _ _ _ _ _ _ h.blk, signs27A, List.getElem?_toArray, signs27, List.getElem?_map, List.getElem?_append_left (List.getElem?_eq_some_iff.1 hx).1, hx]
  rfl

set_option maxRecDepth 10000 in
set_option maxHeartbeats 4000000 in
theorem rone_sign {w : World} (T : List UInt8) (hl : T.length ≤ 16384) {b : UInt8} {r : List UInt8} (hT : T = b :: r) (hL : letter b.toNat = false) (hD : digit b.toNat = false) (h34 : b ≠ 34) :
    Calls Tryd.prog 39 #[.string (bs T)] w fun e w' => e = .returned (gotV (one T)) ∧ Up w w' := by
  have hsz := bs_size T
  obtain ⟨G, hG⟩ : ∃ G, G = one T := ⟨_, rfl⟩
  rw [← hG]
  have HG := Lib.hid hG
  have hTl : 1 ≤ T.length := by rw [hT]; simp
  have hb0 : T[0]? = some b := by rw [hT]; rfl
  have h0 : 0 < (bs T).size := by omega
  have g0 := get_bs h0 hb0
  have LT := Lib.hid (show ∀ w, Calls Tryd.prog 27 #[.int .u8 b.toNat] w fun e w' => e = .returned (.bool false) ∧ w = w' from fun w => by rw [← hL]; exact rletter_any _ (UInt8.toNat_lt b))
  have DG := Lib.hid (show ∀ w, Calls Tryd.prog 28 #[.int .u8 b.toNat] w fun e w' => e = .returned (.bool false) ∧ w = w' from fun w => by rw [← hD]; exact rdigit_any _ (UInt8.toNat_lt b))
  have q34 : ((b.toNat : Int) == 34) = false := by rw [show ((b.toNat : Int) == 34) = decide (b = 34) from beqU b 34]; exact dec_not h34
  have HS := Lib.hid (show ∀ y, one T = y ↔ (if b = 59 then Got.tok 1 [59] 0 1 else match signsL.find? (fun g => g.isPrefixOf T) with
    | none => .err 10
    | some g => .tok 6 g 0 g.length) = y from fun y => by
      split
      · next h => subst h; rw [one_semi hT]
      · next h => rw [one_sign hT hL hD h34 h]; exact Iff.rfl)
  have HT := Lib.hid hT
  have h0i : (0 : Int) < ((bs T).size : Int) := by omega
  clear hG hb0 hT hL hD h34
  go_enter Tryd.func39, Tryd.ntmps39
  go_wp2_with fail
  refine (LT.out _).mono ?_
  rintro e w' ⟨rfl, rfl⟩
  go_wp2_with fail
  refine (DG.out _).mono ?_
  rintro e w' ⟨rfl, rfl⟩
  go_upto_region 21 with fail
  have ST : (storeCells ⟨w.heap.size + 1, 0, none⟩ signs27A.toList).run Tryd.prog ((w.alloc (.cells #[.int .i64 0, .string { data := #[] }, .int .i64 0, .int .i64 0, .int .i64 0] 24)).alloc (.cells #[.string { data := #[] }, .string { data := #[] }, .string { data := #[] }, .string { data := #[] }, .string { data := #[] }, .string { data := #[] }, .string { data := #[] }, .string { data := #[] }, .string { data := #[] }, .string { data := #[] }, .string { data := #[] }, .string { data := #[] }, .string { data := #[] }, .string { data := #[] }, .string { data := #[] }, .string { data := #[] }, .string { data := #[] }, .string { data := #[] }, .string { data := #[] }, .string { data := #[] }, .string { data := #[] }, .string { data := #[] }, .string { data := #[] }, .string { data := #[] }, .string { data := #[] }, .string { data := #[] }, .string { data := #[] }] 77)) =
      .ok () ((w.alloc zeroTok).alloc (.cells signs27A 77)) := by
    have := run_storeCells_new (P := Tryd.prog) (w.alloc zeroTok) 77 #[.string { data := #[] }, .string { data := #[] }, .string { data := #[] }, .string { data := #[] }, .string { data := #[] }, .string { data := #[] }, .string { data := #[] }, .string { data := #[] }, .string { data := #[] }, .string { data := #[] }, .string { data := #[] }, .string { data := #[] }, .string { data := #[] }, .string { data := #[] }, .string { data := #[] }, .string { data := #[] }, .string { data := #[] }, .string { data := #[] }, .string { data := #[] }, .string { data := #[] }, .string { data := #[] }, .string { data := #[] }, .string { data := #[] }, .string { data := #[] }, .string { data := #[] }, .string { data := #[] }, .string { data := #[] }] signs27A (by kernel_rfl) rfl signs27A_one
    rwa [World.size_alloc] at this
  go_wp2_with (refine wpList_build_eq rfl 77 _ rfl signs27A (by kernel_rfl) ?_)
  have V0 := Lib.hid (show SgInv w ((w.alloc zeroTok).alloc (.cells signs27A 77)) w.heap.size (w.heap.size + 1) T 0 from
    ⟨Zc.start.up ((Fr.refl _ _).alloc _), Nat.lt_succ_self _, by have := heap_alloc_new (w.alloc zeroTok) (.cells signs27A 77); rwa [World.size_alloc] at this, fun _ _ h => absurd h (Nat.not_lt_zero _)⟩)
  clear ST
  clear g0 LT DG h0 h0i q34
  generalize hg : w.heap.size + 1 = g at V0 ⊢
  clear hg
  generalize w.heap.size = q at V0 ⊢
  generalize (w.alloc zeroTok).alloc (.cells signs27A 77) = w1 at V0 ⊢
  go_loopw [11] (fun i wr => ∃ k : Nat, k ≤ 25 ∧ i = .int .i64 k ∧ Hid (SgInv w wr q g T k)) (fun i _ => 26 - (intOf i).toNat)
  case atStart => exact ⟨0, by decide, rfl, V0⟩
  case round =>
    obtain ⟨k, hk, rfl, hm⟩ := hrel
    obtain ⟨wo, rfl⟩ : ∃ wo : World, wo = wr := ⟨_, rfl⟩
    by_cases hlt : k < 25
    · obtain ⟨x, hx⟩ : ∃ x, signs25[k]? = some x := ⟨_, List.getElem?_eq_getElem (show k < signs25.length from hlt)⟩
      have cx := hm.out.cell hx
      have hxl := bs_size x
      obtain ⟨n, hn⟩ : ∃ n, n = x.length := ⟨_, rfl⟩
      rw [← hn] at hxl
      have hX := Lib.hid hx
      have h2 := (signs25_len x (List.mem_of_getElem? hx)).1
      rw [← hn] at h2
      have Hn := Lib.hid hn
      clear hx hn
      have hki : (k : Int) < 27 := by omega
      have hk0 : (0 : Int) ≤ (k : Int) := by omega
      obtain ⟨L, hLn⟩ : ∃ L, L = T.length := ⟨_, rfl⟩
      rw [← hLn] at hsz hl hTl
      have HLn := Lib.hid hLn
      clear hLn
      cases hp : x.isPrefixOf T
      · have next : ∀ w2, Up wo w2 → SgInv w w2 q g T (k + 1) := fun w2 u => by
          have := hm.out.up u
          exact ⟨this.zc, this.qg, this.blk, fun i y hi hy => by
            by_cases hij : i = k
            · subst hij; rw [hX.out] at hy; cases hy; exact hp
            · exact this.no i y (by omega) hy⟩
        have NX := Lib.hid next
        have Hp := Lib.hid hp
        clear hp next
        by_cases hge : L ≥ n
        · have a1 : ((L : Int) ≥ (n : Int)) := by omega
          have d1 : decide ((L : Int) ≥ (n : Int)) = true := dec_of a1
          have E : (bs T).extract 0 n = bs (T.take n) := by rw [bs_extract]; simp
          have eq : ((bs (T.take n)).toList == (bs x).toList) = false := by rw [eqL, Hn.out]; exact take_not Hp.out
          have hnS : (n : Int) ≤ ((bs T).size : Int) := by omega
          have hnS' : n ≤ (bs T).size := by omega
          go_wp2_with fail
          go_quiet (fail)
          go_wp2_with fail
          go_roundw
          case rel => exact ⟨k + 1, by omega, by go_num, Lib.hid (NX.out _ (Fr.drewN (Fr.refl _ _) _))⟩
          case measure => simp [intOf]; omega
        · have a1 : ¬ ((L : Int) ≥ (n : Int)) := by omega
          have d1 : decide ((L : Int) ≥ (n : Int)) = false := dec_not a1
          go_wp2_with fail
          go_quiet (fail)
          go_wp2_with fail
          go_roundw
          case rel => exact ⟨k + 1, by omega, by go_num, Lib.hid (NX.out _ (Fr.drewN (Fr.refl _ _) _))⟩
          case measure => simp [intOf]; omega
      · have hge := prefix_le hp
        rw [← Hn.out, ← HLn.out] at hge
        have a1 : ((L : Int) ≥ (n : Int)) := by omega
        have d1 : decide ((L : Int) ≥ (n : Int)) = true := dec_of a1
        have E : (bs T).extract 0 n = bs x := by rw [bs_extract, Hn.out]; simp [take_prefix hp]
        have eq : ((bs x).toList == (bs x).toList) = true := by rw [eqL]; simp
        have hnS : (n : Int) ≤ ((bs T).size : Int) := by omega
        have hnS' : n ≤ (bs T).size := by omega
        by_cases h24 : k < 24
        · obtain ⟨s1, s2, s3⟩ := (signs25_at k x hX.out).1 h24
          have e : G = .tok 6 x 0 n := by
            rw [HG.out, HS.out]
            have hb : b ≠ 59 := by
              rintro rfl
              have hh := take_prefix hp
              rw [HT.out] at hh
              have h1 := (signs25_len x (List.mem_of_getElem? hX.out)).2
              obtain ⟨c, y, rfl⟩ : ∃ c y, x = c :: y := by
                cases x with
                | nil => simp at h1
                | cons c y => exact ⟨c, y, rfl⟩
              simp at hh
              exact s3 y (by rw [hh.1])
            rw [if_neg hb, find_sign s1 hp (fun i y hi hy => hm.out.no i y hi (by rw [signs25, List.getElem?_append_left (List.getElem?_eq_some_iff.1 hy).1]; exact hy)), Hn.out]
          subst e
          have es : ((bs x).toList == [59]) = false := by rw [bs_list]; exact s2
          clear HG HS hp s1 s2 s3
          go_wp2_with fail
          go_quiet (fail)
          have M1 := Lib.hid (hm.out.up (Fr.drewN (Fr.refl _ _) nq))
          generalize wo.drewN nq = w2 at M1 ⊢
          clear cx
          have cx := M1.out.cell hX.out
          go_wp2_with fail
          obtain ⟨r0, r1, r2, r3, r4⟩ := M1.out.zc.cells
          have z0 := M1.out.zc.frz 0
          have z1 := M1.out.zc.frz 1
          have z2 := M1.out.zc.frz 2
          have z3 := M1.out.zc.frz 3
          have z4 := M1.out.zc.frz 4
          have hqg := M1.out.qg
          have hqg' : g ≠ q := by omega
          go_region
          all_goals go_wp2_with fail
          all_goals
            obtain ⟨f2, b2⟩ := M1.out.zc.set (.int .i64 6) (.string (bs x)) (.int .i64 0) (.int .i64 0) (.int .i64 0)
            exact bodyPost_ret (res_tok3 (c := 2) (t := 3) (u := 4) (by kernel_rfl) rfl rfl rfl b2 rfl) rfl ⟨rfl, f2.drew⟩
        · have hx59 := (signs25_at k x hX.out).2 (by omega)
          have e : G = .tok 1 x 0 n := by
            rw [HG.out, HS.out]
            have hb : b = 59 := by
              have hh := take_prefix hp
              rw [HT.out, hx59] at hh
              simpa using hh
            rw [if_pos hb, Hn.out, hx59]
            rfl
          subst e
          have es : ((bs x).toList == [59]) = true := by rw [bs_list, hx59]; rfl
          clear HG HS hp hx59
          go_wp2_with fail
          go_quiet (fail)
          have M1 := Lib.hid (hm.out.up (Fr.drewN (Fr.refl _ _) nq))
          generalize wo.drewN nq = w2 at M1 ⊢
          clear cx
          have cx := M1.out.cell hX.out
          go_wp2_with fail
          obtain ⟨r0, r1, r2, r3, r4⟩ := M1.out.zc.cells
          have z0 := M1.out.zc.frz 0
          have z1 := M1.out.zc.frz 1
          have z2 := M1.out.zc.frz 2
          have z3 := M1.out.zc.frz 3
          have z4 := M1.out.zc.frz 4
          have hqg := M1.out.qg
          have hqg' : g ≠ q := by omega
          go_region
          all_goals go_wp2_with fail
          all_goals
            obtain ⟨f2, b2⟩ := M1.out.zc.set (.int .i64 1) (.string (bs x)) (.int .i64 0) (.int .i64 0) (.int .i64 0)
            exact bodyPost_ret (res_tok3 (c := 2) (t := 3) (u := 4) (by kernel_rfl) rfl rfl rfl b2 rfl) rfl ⟨rfl, f2.drew⟩
    · have hj2 : k = 25 := by omega
      subst hj2
      have e : G = .err 10 := by
        rw [HG.out, HS.out]
        have hb : b ≠ 59 := by
          rintro rfl
          have := hm.out.no 24 [59] (by decide) rfl
          rw [HT.out] at this
          simp [List.isPrefixOf] at this
        rw [if_neg hb, find_sign_none (fun i y hi hy => hm.out.no i y (by omega) (by rw [signs25, List.getElem?_append_left (List.getElem?_eq_some_iff.1 hy).1]; exact hy))]
      subst e
      clear HG HS
      obtain ⟨r0, r1, r2, r3, r4⟩ := hm.out.zc.cells
      have z0 := hm.out.zc.frz 0
      have z1 := hm.out.zc.frz 1
      have z2 := hm.out.zc.frz 2
      have z3 := hm.out.zc.frz 3
      have z4 := hm.out.zc.frz 4
      go_wp2_with fail
      obtain ⟨f2, b2⟩ := hm.out.zc.set (.int .i64 0) (.string (bs [])) (.int .i64 0) (.int .i64 0) (.int .i64 0)
      exact bodyPost_ret (res_tok3 (c := 2) (t := 3) (u := 4) (by kernel_rfl) rfl rfl rfl b2 rfl) rfl ⟨rfl, f2⟩
end Go.Proofs.YtjkpimohgbkjoaaDoor
