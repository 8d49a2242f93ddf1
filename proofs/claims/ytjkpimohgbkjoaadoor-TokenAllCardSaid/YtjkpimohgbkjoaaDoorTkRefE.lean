/-
  The reference's 'one'.
-/
import Derived.Test.YtjkpimohgbkjoaaDoorTkRefD
namespace Go.Proofs.YtjkpimohgbkjoaaDoor
open Go.RowKit

theorem one_name {T : List UInt8} {b : UInt8} {r : List UInt8} (hT : T = b :: r) (hL : letter b.toNat = true) : one T = .tok (if isWord (T.takeWhile inName) then 3 else 2) (T.takeWhile inName) 0 (T.takeWhile inName).length := by
  subst hT
  have h59 : b ≠ 59 := by rintro rfl; simp [letter] at hL
  simp only [one, if_neg h59, hL, if_true]
theorem one_num {T : List UInt8} {b : UInt8} {r : List UInt8} (hT : T = b :: r) (hL : letter b.toNat = false) (hD : digit b.toNat = true) : one T = match numGo T 0 0 with
      | none => .err 12
      | some (x, k) => .tok 4 (T.take k) x k := by
  subst hT
  have h59 : b ≠ 59 := by rintro rfl; simp [digit] at hD
  simp only [one, if_neg h59, hL, hD, if_true, Bool.false_eq_true, if_false]
  rfl
theorem one_txt {T : List UInt8} {b : UInt8} {r : List UInt8} (hT : T = b :: r) (hL : letter b.toNat = false) (hD : digit b.toNat = false) (hb : b = 34) : one T = txtGot T := by
  subst hT hb
  rfl
theorem one_semi {T : List UInt8} {r : List UInt8} (hT : T = 59 :: r) : one T = .tok 1 [59] 0 1 := by
  subst hT
  rfl
theorem one_sign {T : List UInt8} {b : UInt8} {r : List UInt8} (hT : T = b :: r) (hL : letter b.toNat = false) (hD : digit b.toNat = false) (hb : b ≠ 34) (h59 : b ≠ 59) : one T = match signsL.find? (fun g => g.isPrefixOf T) with
    | none => .err 10
    | some g => .tok 6 g 0 g.length := by
  subst hT
  simp only [one, if_neg h59, hL, hD, if_neg hb, Bool.false_eq_true, if_false]
  rfl

structure NmInv (w wr : World) (q : Nat) (T : List UInt8) (k : Nat) : Prop where
  zc : Zc w wr q
  all : ∀ j c, j < k → T[j]? = some c → inName c = true
structure NbInv (w wr : World) (q : Nat) (T : List UInt8) (j x : Nat) : Prop where
  zc : Zc w wr q
  big : x ≤ 9223372036854775807
  go : numGo T 0 0 = numGo (T.drop j) x j

set_option maxRecDepth 10000 in
set_option maxHeartbeats 4000000 in
theorem rone_name {w : World} (T : List UInt8) (hl : T.length ≤ 16384) {b : UInt8} {r : List UInt8} (hT : T = b :: r) (hL : letter b.toNat = true) :
    Calls Tryd.prog 39 #[.string (bs T)] w fun e w' => e = .returned (gotV (one T)) ∧ Up w w' := by
  have hsz := bs_size T
  obtain ⟨G, hG⟩ : ∃ G, G = one T := ⟨_, rfl⟩
  rw [← hG]
  have HG := Lib.hid hG
  have hTl : 1 ≤ T.length := by rw [hT]; simp
  have hb0 : T[0]? = some b := by rw [hT]; rfl
  have h0 : 0 < (bs T).size := by omega
  have g0 := get_bs h0 hb0
  have V0 := Lib.hid (show NmInv w (w.alloc zeroTok) w.heap.size T 1 from ⟨Zc.start, fun j c hj hc => by
    obtain rfl : j = 0 := by omega
    rw [hb0] at hc; cases hc; simp [inName, hL]⟩)
  have LT := Lib.hid (show ∀ w, Calls Tryd.prog 27 #[.int .u8 b.toNat] w fun e w' => e = .returned (.bool true) ∧ w = w' from fun w => by rw [← hL]; exact rletter_any _ (UInt8.toNat_lt b))
  have hT' := Lib.hid hT
  have hL' := Lib.hid hL
  have h0i : (0 : Int) < ((bs T).size : Int) := by omega
  clear hG hb0 hT hL
  go_enter Tryd.func39, Tryd.ntmps39
  go_wp2_with fail
  refine (LT.out _).mono ?_
  rintro e w' ⟨rfl, rfl⟩
  go_wp2_with fail
  change Code.wp _ _ _ _ (w.alloc zeroTok)
  generalize w.heap.size = q at V0 ⊢
  generalize w.alloc zeroTok = w1 at V0 ⊢
  clear g0 LT
  go_loopw [6] (fun i wr => ∃ k : Nat, 1 ≤ k ∧ k ≤ T.length ∧ i = .int .i64 k ∧ Hid (NmInv w wr q T k)) (fun i _ => T.length + 1 - (intOf i).toNat)
  case atStart => exact ⟨1, Nat.le_refl _, hTl, rfl, V0⟩
  case round =>
    obtain ⟨k, hk1, hkT, rfl, hm⟩ := hrel
    obtain ⟨wo, rfl⟩ : ∃ wo : World, wo = wr := ⟨_, rfl⟩
    by_cases hlt : k < T.length
    · obtain ⟨c, hc⟩ : ∃ c, T[k]? = some c := ⟨_, List.getElem?_eq_getElem hlt⟩
      have hjs : k < (bs T).size := by rw [hsz]; exact hlt
      have gk := get_bs hjs hc
      have C := Lib.hid hc
      clear hc
      have d0 : ((k : Int) < ((bs T).size : Int)) := by omega
      obtain ⟨m, hm1⟩ : ∃ m, m = k + 1 := ⟨_, rfl⟩
      have hw : (k : Int) + 1 = (m : Int) := by omega
      have hw2 : IntKind.i64.wrap (m : Int) = (m : Int) := IntWalk.i64_in _ (by omega)
      have Hm := Lib.hid hm1
      clear hm1
      cases hLc : letter c.toNat
      · have L0 := Lib.hid (show ∀ w, Calls Tryd.prog 27 #[.int .u8 c.toNat] w fun e w' => e = .returned (.bool false) ∧ w = w' from fun w => by rw [← hLc]; exact rletter_any _ (UInt8.toNat_lt c))
        cases hDc : digit c.toNat
        · have D0 := Lib.hid (show ∀ w, Calls Tryd.prog 28 #[.int .u8 c.toNat] w fun e w' => e = .returned (.bool false) ∧ w = w' from fun w => by rw [← hDc]; exact rdigit_any _ (UInt8.toNat_lt c))
          have STOP := Lib.hid (show ∀ c', T[k]? = some c' → inName c' = false from fun c' h => by rw [C.out] at h; cases h; simp [inName, hLc, hDc])
          clear hLc hDc
          have tk : T.takeWhile inName = T.take k := by
            have := takeWhile_len (p := inName) (l := T) (k := k) hm.out.all (by omega) STOP.out
            rw [← take_while_take, this]
          have TK := Lib.hid tk
          have RW := Lib.hid (show ∀ w, Calls Tryd.prog 20 #[.string (bs (T.take k))] w fun e w' => e = .returned (.bool (isWord (T.take k))) ∧ w = w' from fun w => risWord_any _)
          have E : (bs T).extract 0 k = bs (T.take k) := by rw [bs_extract]; simp
          have hk0 : (0 : Int) ≤ (k : Int) := by omega
          have hkS : (k : Int) ≤ ((bs T).size : Int) := by omega
          have hkS' : k ≤ (bs T).size := by omega
          have hkl : (T.take k).length = k := by rw [List.length_take]; omega
          have GO := Lib.hid (show G = .tok (if isWord (T.take k) then 3 else 2) (T.take k) 0 k by rw [HG.out, one_name hT'.out hL'.out, TK.out, hkl])
          generalize T.take k = t at E RW GO
          generalize isWord t = bw at RW GO
          clear tk TK hkl
          cases bw
          · have e := GO.out
            simp only [Bool.false_eq_true, if_false] at e
            subst e
            clear HG GO
            go_wp2_with fail
            refine (L0.out _).mono ?_
            rintro e w' ⟨rfl, rfl⟩
            go_wp2_with fail
            refine (D0.out _).mono ?_
            rintro e w' ⟨rfl, rfl⟩
            go_wp2_with fail
            refine (RW.out _).mono ?_
            rintro e w' ⟨rfl, rfl⟩
            obtain ⟨r0, r1, r2, r3, r4⟩ := hm.out.zc.cells
            have z0 := hm.out.zc.frz 0
            have z1 := hm.out.zc.frz 1
            have z2 := hm.out.zc.frz 2
            have z3 := hm.out.zc.frz 3
            have z4 := hm.out.zc.frz 4
            go_wp2_with fail
            obtain ⟨f2, b2⟩ := hm.out.zc.set (.int .i64 2) (.string (bs t)) (.int .i64 0) (.int .i64 0) (.int .i64 0)
            exact bodyPost_ret (res_tok3 (c := 2) (t := 3) (u := 4) (by kernel_rfl) rfl rfl rfl b2 rfl) rfl ⟨rfl, f2⟩
          · have e := GO.out
            simp only [if_true] at e
            subst e
            clear HG GO
            go_wp2_with fail
            refine (L0.out _).mono ?_
            rintro e w' ⟨rfl, rfl⟩
            go_wp2_with fail
            refine (D0.out _).mono ?_
            rintro e w' ⟨rfl, rfl⟩
            go_wp2_with fail
            refine (RW.out _).mono ?_
            rintro e w' ⟨rfl, rfl⟩
            obtain ⟨r0, r1, r2, r3, r4⟩ := hm.out.zc.cells
            have z0 := hm.out.zc.frz 0
            have z1 := hm.out.zc.frz 1
            have z2 := hm.out.zc.frz 2
            have z3 := hm.out.zc.frz 3
            have z4 := hm.out.zc.frz 4
            go_wp2_with fail
            obtain ⟨f2, b2⟩ := hm.out.zc.set (.int .i64 3) (.string (bs t)) (.int .i64 0) (.int .i64 0) (.int .i64 0)
            exact bodyPost_ret (res_tok3 (c := 2) (t := 3) (u := 4) (by kernel_rfl) rfl rfl rfl b2 rfl) rfl ⟨rfl, f2⟩

        · have D0 := Lib.hid (show ∀ w, Calls Tryd.prog 28 #[.int .u8 c.toNat] w fun e w' => e = .returned (.bool true) ∧ w = w' from fun w => by rw [← hDc]; exact rdigit_any _ (UInt8.toNat_lt c))
          have hin : inName c = true := by simp [inName, hDc]
          clear hLc hDc
          go_wp2_with fail
          refine (L0.out _).mono ?_
          rintro e w' ⟨rfl, rfl⟩
          go_wp2_with fail
          refine (D0.out _).mono ?_
          rintro e w' ⟨rfl, rfl⟩
          go_wp2_with fail
          go_roundw
          case rel => exact ⟨m, by have := Hm.out; omega, by have := Hm.out; omega, rfl, Lib.hid ⟨hm.out.zc, fun j y hj hy => by
            by_cases hjk : j = k
            · subst hjk; rw [C.out] at hy; cases hy; exact hin
            · exact hm.out.all j y (by have := Hm.out; omega) hy⟩⟩
          case measure => have := Hm.out; simp [intOf]; omega
      · have L0 := Lib.hid (show ∀ w, Calls Tryd.prog 27 #[.int .u8 c.toNat] w fun e w' => e = .returned (.bool true) ∧ w = w' from fun w => by rw [← hLc]; exact rletter_any _ (UInt8.toNat_lt c))
        have hin : inName c = true := by simp [inName, hLc]
        clear hLc
        go_wp2_with fail
        refine (L0.out _).mono ?_
        rintro e w' ⟨rfl, rfl⟩
        go_wp2_with fail
        go_roundw
        case rel => exact ⟨m, by have := Hm.out; omega, by have := Hm.out; omega, rfl, Lib.hid ⟨hm.out.zc, fun j y hj hy => by
          by_cases hjk : j = k
          · subst hjk; rw [C.out] at hy; cases hy; exact hin
          · exact hm.out.all j y (by have := Hm.out; omega) hy⟩⟩
        case measure => have := Hm.out; simp [intOf]; omega
    · have d0 : ¬ ((k : Int) < ((bs T).size : Int)) := by omega
      have STOP := Lib.hid (show ∀ c', T[k]? = some c' → inName c' = false from fun c' h => by have := (List.getElem?_eq_some_iff.1 h).1; omega)
      have tk : T.takeWhile inName = T.take k := by
        have := takeWhile_len (p := inName) (l := T) (k := k) hm.out.all (by omega) STOP.out
        rw [← take_while_take, this]
      have TK := Lib.hid tk
      have RW := Lib.hid (show ∀ w, Calls Tryd.prog 20 #[.string (bs (T.take k))] w fun e w' => e = .returned (.bool (isWord (T.take k))) ∧ w = w' from fun w => risWord_any _)
      have E : (bs T).extract 0 k = bs (T.take k) := by rw [bs_extract]; simp
      have hk0 : (0 : Int) ≤ (k : Int) := by omega
      have hkS : (k : Int) ≤ ((bs T).size : Int) := by omega
      have hkS' : k ≤ (bs T).size := by omega
      have hkl : (T.take k).length = k := by rw [List.length_take]; omega
      have GO := Lib.hid (show G = .tok (if isWord (T.take k) then 3 else 2) (T.take k) 0 k by rw [HG.out, one_name hT'.out hL'.out, TK.out, hkl])
      generalize T.take k = t at E RW GO
      generalize isWord t = bw at RW GO
      clear tk TK hkl
      cases bw
      · have e := GO.out
        simp only [Bool.false_eq_true, if_false] at e
        subst e
        clear HG GO
        go_wp2_with fail
        refine (RW.out _).mono ?_
        rintro e w' ⟨rfl, rfl⟩
        obtain ⟨r0, r1, r2, r3, r4⟩ := hm.out.zc.cells
        have z0 := hm.out.zc.frz 0
        have z1 := hm.out.zc.frz 1
        have z2 := hm.out.zc.frz 2
        have z3 := hm.out.zc.frz 3
        have z4 := hm.out.zc.frz 4
        go_wp2_with fail
        obtain ⟨f2, b2⟩ := hm.out.zc.set (.int .i64 2) (.string (bs t)) (.int .i64 0) (.int .i64 0) (.int .i64 0)
        exact bodyPost_ret (res_tok3 (c := 2) (t := 3) (u := 4) (by kernel_rfl) rfl rfl rfl b2 rfl) rfl ⟨rfl, f2⟩
      · have e := GO.out
        simp only [if_true] at e
        subst e
        clear HG GO
        go_wp2_with fail
        refine (RW.out _).mono ?_
        rintro e w' ⟨rfl, rfl⟩
        obtain ⟨r0, r1, r2, r3, r4⟩ := hm.out.zc.cells
        have z0 := hm.out.zc.frz 0
        have z1 := hm.out.zc.frz 1
        have z2 := hm.out.zc.frz 2
        have z3 := hm.out.zc.frz 3
        have z4 := hm.out.zc.frz 4
        go_wp2_with fail
        obtain ⟨f2, b2⟩ := hm.out.zc.set (.int .i64 3) (.string (bs t)) (.int .i64 0) (.int .i64 0) (.int .i64 0)
        exact bodyPost_ret (res_tok3 (c := 2) (t := 3) (u := 4) (by kernel_rfl) rfl rfl rfl b2 rfl) rfl ⟨rfl, f2⟩
end Go.Proofs.YtjkpimohgbkjoaaDoor
