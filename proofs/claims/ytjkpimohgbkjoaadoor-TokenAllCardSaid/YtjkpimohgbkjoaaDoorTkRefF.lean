/-
  The reference's 'one': a number.
-/
import Derived.Test.YtjkpimohgbkjoaaDoorTkRefE
import Derived.Deep.DeepCutAuto
import Derived.Deep.CutBlock
namespace Go.Proofs.YtjkpimohgbkjoaaDoor
open Go.RowKit

theorem num_meas {j m n : Nat} (h1 : m = j + 1) (h2 : j < n) : n + 1 - (intOf (.int .i64 m)).toNat < n + 1 - (intOf (.int .i64 j)).toNat := by
  simp [intOf]; omega
set_option maxRecDepth 10000 in
set_option maxHeartbeats 4000000 in
theorem rone_num {w : World} (T : List UInt8) (hl : T.length ≤ 16384) {b : UInt8} {r : List UInt8} (hT : T = b :: r) (hL : letter b.toNat = false) (hD : digit b.toNat = true) :
    Calls Tryd.prog 39 #[.string (bs T)] w fun e w' => e = .returned (gotV (one T)) ∧ Up w w' := by
  have hsz := bs_size T
  obtain ⟨G, hG⟩ : ∃ G, G = one T := ⟨_, rfl⟩
  rw [← hG]
  have HG := Lib.hid hG
  have hTl : 1 ≤ T.length := by rw [hT]; simp
  have hb0 : T[0]? = some b := by rw [hT]; rfl
  have h0 : 0 < (bs T).size := by omega
  have g0 := get_bs h0 hb0
  have V0 := Lib.hid (show NbInv w (w.alloc zeroTok) w.heap.size T 0 0 from ⟨Zc.start, by decide, rfl⟩)
  have LT := Lib.hid (show ∀ w, Calls Tryd.prog 27 #[.int .u8 b.toNat] w fun e w' => e = .returned (.bool false) ∧ w = w' from fun w => by rw [← hL]; exact rletter_any _ (UInt8.toNat_lt b))
  have DG := Lib.hid (show ∀ w, Calls Tryd.prog 28 #[.int .u8 b.toNat] w fun e w' => e = .returned (.bool true) ∧ w = w' from fun w => by rw [← hD]; exact rdigit_any _ (UInt8.toNat_lt b))
  have HO := Lib.hid (one_num hT hL hD)
  have h0i : (0 : Int) < ((bs T).size : Int) := by omega
  clear hG hb0 hT hL hD
  go_enter Tryd.func39, Tryd.ntmps39
  go_wp2_with fail
  refine (LT.out _).mono ?_
  rintro e w' ⟨rfl, rfl⟩
  go_wp2_with fail
  refine (DG.out _).mono ?_
  rintro e w' ⟨rfl, rfl⟩
  go_wp2_with fail
  change Code.wp _ _ _ _ (w.alloc zeroTok)
  generalize w.heap.size = q at V0 ⊢
  generalize w.alloc zeroTok = w1 at V0 ⊢
  clear g0 LT DG h0 h0i
  go_loopw [7, 8] (fun i y wr => ∃ j x : Nat, j ≤ T.length ∧ i = .int .i64 j ∧ y = .int .i64 x ∧ Hid (NbInv w wr q T j x)) (fun i _ _ => T.length + 1 - (intOf i).toNat)
  case atStart => exact ⟨0, 0, Nat.zero_le _, rfl, rfl, V0⟩
  case round =>
    obtain ⟨j, x, hjT, rfl, rfl, hm⟩ := hrel
    obtain ⟨wo, rfl⟩ : ∃ wo : World, wo = wr := ⟨_, rfl⟩
    have hx := hm.out.big
    by_cases hlt : j < T.length
    · obtain ⟨c, hc⟩ : ∃ c, T[j]? = some c := ⟨_, List.getElem?_eq_getElem hlt⟩
      have hjs : j < (bs T).size := by rw [hsz]; exact hlt
      have gj := get_bs hjs hc
      have C := Lib.hid hc
      clear hc
      have d0 : ((j : Int) < ((bs T).size : Int)) := by omega
      cases hD : digit c.toNat
      · have ID := Lib.hid (show ∀ w, Calls Tryd.prog 28 #[.int .u8 c.toNat] w fun e w' => e = .returned (.bool false) ∧ w = w' from fun w => by rw [← hD]; exact rdigit_any _ (UInt8.toNat_lt c))
        have E : (bs T).extract 0 j = bs (T.take j) := by rw [bs_extract]; simp
        have hk0 : (0 : Int) ≤ (j : Int) := by omega
        have hkS : (j : Int) ≤ ((bs T).size : Int) := by omega
        have hkS' : j ≤ (bs T).size := by omega
        have e : G = .tok 4 (T.take j) x j := by rw [HG.out, HO.out, hm.out.go, numGo_stop (fun c' hc' => by rw [C.out] at hc'; cases hc'; exact hD)]
        subst e
        clear HG hD
        go_wp2_with fail
        refine (ID.out _).mono ?_
        rintro e w' ⟨rfl, rfl⟩
        obtain ⟨r0, r1, r2, r3, r4⟩ := hm.out.zc.cells
        have z0 := hm.out.zc.frz 0
        have z1 := hm.out.zc.frz 1
        have z2 := hm.out.zc.frz 2
        have z3 := hm.out.zc.frz 3
        have z4 := hm.out.zc.frz 4
        go_wp2_with fail
        obtain ⟨f2, b2⟩ := hm.out.zc.set (.int .i64 4) (.string (bs (T.take j))) (.int .i64 x) (.int .i64 0) (.int .i64 0)
        exact bodyPost_ret (res_tok3 (c := 2) (t := 3) (u := 4) (by kernel_rfl) rfl rfl rfl b2 rfl) rfl ⟨rfl, f2⟩
      · have ID := Lib.hid (show ∀ w, Calls Tryd.prog 28 #[.int .u8 c.toNat] w fun e w' => e = .returned (.bool true) ∧ w = w' from fun w => by rw [← hD]; exact rdigit_any _ (UInt8.toNat_lt c))
        obtain ⟨d, hd⟩ : ∃ d, d = c.toNat - 48 := ⟨_, rfl⟩
        have hd9 : d ≤ 9 := by
          simp only [digit, Bool.and_eq_true, decide_eq_true_eq] at hD
          omega
        have hcd : (c.toNat : Int) - 48 = (d : Int) := by
          simp only [digit, Bool.and_eq_true, decide_eq_true_eq] at hD
          omega
        have hu8 : IntKind.u8.wrap (d : Int) = (d : Int) := IntWalk.u8_in _ (by omega)
        have hi64 : IntKind.i64.wrap (d : Int) = (d : Int) := IntWalk.i64_in _ (by omega)
        have Hd := Lib.hid hd
        have HD := Lib.hid hD
        clear hd hD
        go_wp2_with fail
        refine (ID.out _).mono ?_
        rintro e w' ⟨rfl, rfl⟩
        obtain ⟨r0, r1, r2, r3, r4⟩ := hm.out.zc.cells
        have z0 := hm.out.zc.frz 0
        have z1 := hm.out.zc.frz 1
        have z2 := hm.out.zc.frz 2
        have z3 := hm.out.zc.frz 3
        have z4 := hm.out.zc.frz 4
        go_upto_region 14 with fail
        obtain ⟨m, hm'⟩ : ∃ m, m = j + 1 := ⟨_, rfl⟩
        have hw : (j : Int) + 1 = (m : Int) := by rw [hm']; rfl
        have hw2 : IntKind.i64.wrap (m : Int) = (m : Int) := IntWalk.i64_in _ (by omega)
        have Hm := Lib.hid hm'
        have Hjl := Lib.hid (And.intro hlt hjT)
        clear hm' hlt hjT hl hTl
        obtain ⟨D, M, hD0, hDw, q1, q2, hM, q4, q5⟩ := num_facts d x hd9 hx
        have Stp := Lib.hid (show numGo (T.drop j) x j = if x > M then none else numGo (T.drop (j + 1)) (x * 10 + d) (j + 1) by rw [numGo_step C.out HD.out, ← Hd.out, hM])
        have Q5 := Lib.hid q5
        clear hM q5
        clear gj hjs d0 hsz hu8 hi64 hcd
        by_cases hxM : x > M
        all_goals clear hd9
        · have a1 : (x : Int) > (M : Int) := Int.ofNat_lt.2 hxM
          have e : G = .err 12 := by rw [HG.out, HO.out, hm.out.go, Stp.out, if_pos hxM]
          subst e
          clear HG
          go_wp2_with fail
          obtain ⟨f2, b2⟩ := hm.out.zc.set (.int .i64 0) (.string (bs [])) (.int .i64 0) (.int .i64 0) (.int .i64 0)
          exact bodyPost_ret (res_tok3 (c := 2) (t := 3) (u := 4) (by kernel_rfl) rfl rfl rfl b2 rfl) rfl ⟨rfl, f2⟩
        · have a1 : ¬ (x : Int) > (M : Int) := fun h => hxM (Int.ofNat_lt.1 h)
          obtain ⟨q3, hyb, hyw⟩ := Q5.out (Nat.le_of_not_lt hxM)
          obtain ⟨y, hy⟩ : ∃ y, y = x * 10 + d := ⟨_, rfl⟩
          have hyi : (x : Int) * 10 + (d : Int) = (y : Int) := by rw [hy]; rfl
          rw [hyi] at hyb hyw
          rw [Int.mul_comm] at q3 hyi
          have N := Lib.hid (show NbInv w wo q T m y from
            ⟨hm.out.zc, Int.ofNat_le.1 hyb, by
              rw [hm.out.go, Stp.out, if_neg hxM, ← hy, ← Hm.out]⟩)
          clear hy
          go_wp2_with fail
          go_roundw
          case rel => exact ⟨m, y, (by rw [Hm.out]; exact Hjl.out.1), rfl, rfl, N⟩
          case measure => exact num_meas Hm.out Hjl.out.1
    · have d0 : ¬ ((j : Int) < ((bs T).size : Int)) := by omega
      have E : (bs T).extract 0 j = bs (T.take j) := by rw [bs_extract]; simp
      have hk0 : (0 : Int) ≤ (j : Int) := by omega
      have hkS : (j : Int) ≤ ((bs T).size : Int) := by omega
      have hkS' : j ≤ (bs T).size := by omega
      have e : G = .tok 4 (T.take j) x j := by rw [HG.out, HO.out, hm.out.go, numGo_stop (fun c' hc' => by have := (List.getElem?_eq_some_iff.1 hc').1; omega)]
      subst e
      clear HG
      obtain ⟨r0, r1, r2, r3, r4⟩ := hm.out.zc.cells
      have z0 := hm.out.zc.frz 0
      have z1 := hm.out.zc.frz 1
      have z2 := hm.out.zc.frz 2
      have z3 := hm.out.zc.frz 3
      have z4 := hm.out.zc.frz 4
      go_wp2_with fail
      obtain ⟨f2, b2⟩ := hm.out.zc.set (.int .i64 4) (.string (bs (T.take j))) (.int .i64 x) (.int .i64 0) (.int .i64 0)
      exact bodyPost_ret (res_tok3 (c := 2) (t := 3) (u := 4) (by kernel_rfl) rfl rfl rfl b2 rfl) rfl ⟨rfl, f2⟩
end Go.Proofs.YtjkpimohgbkjoaaDoor
