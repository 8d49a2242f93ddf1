/-
  The reference's 'one', whole; how many bytes a token has.
-/
import Derived.Test.YtjkpimohgbkjoaaDoorTkRefG
import Derived.Test.YtjkpimohgbkjoaaDoorTkPure
import Derived.Test.YtjkpimohgbkjoaaDoorTkT
namespace Go.Proofs.YtjkpimohgbkjoaaDoor
open Go.RowKit

set_option maxRecDepth 10000 in
set_option maxHeartbeats 4000000 in
theorem rone_txt {w : World} (T : List UInt8) (hl : T.length ≤ 16384) {b : UInt8} {r : List UInt8} (hT : T = b :: r) (hL : letter b.toNat = false) (hD : digit b.toNat = false) (h34 : b = 34) :
    Calls Tryd.prog 39 #[.string (bs T)] w fun e w' => e = .returned (gotV (one T)) ∧ Up w w' := by
  have hsz := bs_size T
  have hTl : 1 ≤ T.length := by rw [hT]; simp
  have hb0 : T[0]? = some b := by rw [hT]; rfl
  have h0 : 0 < (bs T).size := by omega
  have g0 := get_bs h0 hb0
  have LT := Lib.hid (show ∀ w, Calls Tryd.prog 27 #[.int .u8 b.toNat] w fun e w' => e = .returned (.bool false) ∧ w = w' from fun w => by rw [← hL]; exact rletter_any _ (UInt8.toNat_lt b))
  have DG := Lib.hid (show ∀ w, Calls Tryd.prog 28 #[.int .u8 b.toNat] w fun e w' => e = .returned (.bool false) ∧ w = w' from fun w => by rw [← hD]; exact rdigit_any _ (UInt8.toNat_lt b))
  have q34 : ((b.toNat : Int) == 34) = true := by subst h34; rfl
  rw [one_txt hT hL hD h34]
  have h0i : (0 : Int) < ((bs T).size : Int) := by omega
  have TX := Lib.hid (fun w => rtext_any (w := w) T hl hTl)
  clear hb0 hT hL hD h34 hl hTl
  generalize txtGot T = G at TX ⊢
  cases G with
  | err c =>
    go_enter Tryd.func39, Tryd.ntmps39
    go_wp2_with fail
    refine (LT.out _).mono ?_
    rintro e w' ⟨rfl, rfl⟩
    go_wp2_with fail
    refine (DG.out _).mono ?_
    rintro e w' ⟨rfl, rfl⟩
    go_wp2_with fail
    change Calls _ _ _ (w.alloc zeroTok) _
    refine (TX.out _).mono ?_
    rintro e w2 ⟨rfl, u2⟩
    have ZC := Lib.hid (Zc.start.up u2)
    clear u2 g0
    generalize w.heap.size = q at ZC ⊢
    obtain ⟨r0, r1, r2, r3, r4⟩ := ZC.out.cells
    have z0 := ZC.out.frz 0
    have z1 := ZC.out.frz 1
    have z2 := ZC.out.frz 2
    have z3 := ZC.out.frz 3
    have z4 := ZC.out.frz 4
    unfold gotV tokV
    go_wp2_with fail
    obtain ⟨f2, b2⟩ := ZC.out.set (.int .i64 0) (.string (bs [])) (.int .i64 0) (.int .i64 0) (.int .i64 0)
    exact bodyPost_ret (res_tok3 (c := 2) (t := 3) (u := 4) (by kernel_rfl) rfl rfl rfl b2 rfl) rfl ⟨rfl, f2⟩
  | tok kind text n used =>
    go_enter Tryd.func39, Tryd.ntmps39
    go_wp2_with fail
    refine (LT.out _).mono ?_
    rintro e w' ⟨rfl, rfl⟩
    go_wp2_with fail
    refine (DG.out _).mono ?_
    rintro e w' ⟨rfl, rfl⟩
    go_wp2_with fail
    change Calls _ _ _ (w.alloc zeroTok) _
    refine (TX.out _).mono ?_
    rintro e w2 ⟨rfl, u2⟩
    have ZC := Lib.hid (Zc.start.up u2)
    clear u2 g0
    generalize w.heap.size = q at ZC ⊢
    obtain ⟨r0, r1, r2, r3, r4⟩ := ZC.out.cells
    have z0 := ZC.out.frz 0
    have z1 := ZC.out.frz 1
    have z2 := ZC.out.frz 2
    have z3 := ZC.out.frz 3
    have z4 := ZC.out.frz 4
    unfold gotV tokV
    go_wp2_with fail
    obtain ⟨f2, b2⟩ := ZC.out.set (.int .i64 kind) (.string (bs text)) (.int .i64 n) (.int .i64 0) (.int .i64 0)
    exact bodyPost_ret (res_tok3 (c := 2) (t := 3) (u := 4) (by kernel_rfl) rfl rfl rfl b2 rfl) rfl ⟨rfl, f2⟩

theorem rone_any {w : World} (T : List UInt8) (hl : T.length ≤ 16384) (hT : 0 < T.length) :
    Calls Tryd.prog 39 #[.string (bs T)] w fun e w' => e = .returned (gotV (one T)) ∧ Up w w' := by
  obtain ⟨b, r, hT⟩ : ∃ b r, T = b :: r := by
    cases T with
    | nil => simp at hT
    | cons b r => exact ⟨b, r, rfl⟩
  cases hL : letter b.toNat
  · cases hD : digit b.toNat
    · by_cases h34 : b = 34
      · exact rone_txt T hl hT hL hD h34
      · exact rone_sign T hl hT hL hD h34
    · exact rone_num T hl hT hL hD
  · exact rone_name T hl hT hL

theorem numGo_used : ∀ (l : List UInt8) (x k y m : Nat), numGo l x k = some (y, m) → k ≤ m ∧ m ≤ k + l.length
  | [], x, k, y, m, h => by simp [numGo] at h; simp; omega
  | b :: l, x, k, y, m, h => by
    unfold numGo at h
    split at h
    · split at h
      · cases h
      · have := numGo_used l _ _ y m h
        simp only [List.length_cons]
        omega
    · simp only [Option.some.injEq, Prod.mk.injEq] at h
      simp only [List.length_cons]
      omega
theorem txtGo_used : ∀ (f : Nat) (l acc : List UInt8) (k : Nat) (t : List UInt8) (m : Nat), txtGo f l acc k = some (t, m) → k < m ∧ m ≤ k + l.length
  | 0, _, _, _, _, _, h => by simp [txtGo] at h
  | f + 1, [], _, _, _, _, h => by simp [txtGo] at h
  | f + 1, b :: l, acc, k, t, m, h => by
    rw [txtGo_step rfl] at h
    split at h
    · split at h
      · cases h
      · simp only [Option.some.injEq, Prod.mk.injEq] at h
        simp only [List.length_cons]
        omega
    · cases hd : denoted (b :: l) with
      | none => rw [hd] at h; cases h
      | some cn =>
        obtain ⟨c, n⟩ := cn
        rw [hd] at h
        have h1 := den_len hd
        have h2 := txtGo_used f _ _ _ t m h
        rw [List.length_drop] at h2
        omega
theorem one_used {l : List UInt8} {kind : Nat} {text : List UInt8} {n used : Nat} (h : one l = .tok kind text n used) : 0 < used ∧ used ≤ l.length := by
  cases l with
  | nil => simp [one] at h
  | cons b r =>
    simp only [one] at h
    split at h
    · simp only [Got.tok.injEq] at h
      simp; omega
    split at h
    · next hL =>
      simp only [Got.tok.injEq] at h
      have h1 := (List.takeWhile_sublist inName (l := b :: r)).length_le
      have h2 : inName b = true := by simp [inName, hL]
      have h3 : ((b :: r).takeWhile inName).length = (r.takeWhile inName).length + 1 := by rw [List.takeWhile_cons, if_pos h2]; rfl
      omega
    split at h
    · next hD =>
      split at h
      · cases h
      · next x k hn =>
        simp only [Got.tok.injEq] at h
        have h1 := numGo_used _ _ _ _ _ hn
        unfold numGo at hn
        rw [if_pos hD] at hn
        split at hn
        · cases hn
        · have h2 := numGo_used _ _ _ _ _ hn
          omega
    split at h
    · split at h
      · cases h
      · next t k hn =>
        simp only [Got.tok.injEq] at h
        have h1 := txtGo_used _ _ _ _ _ _ hn
        simp only [List.length_cons]
        omega
    · split at h
      · cases h
      · next g hg =>
        simp only [Got.tok.injEq] at h
        have h1 := List.mem_of_find?_eq_some hg
        have h2 := (signs25_len g (List.mem_append_left _ h1)).2
        have h3 := prefix_le (x := g) (T := b :: r) (by simpa using List.find?_some hg)
        omega
end Go.Proofs.YtjkpimohgbkjoaaDoor
