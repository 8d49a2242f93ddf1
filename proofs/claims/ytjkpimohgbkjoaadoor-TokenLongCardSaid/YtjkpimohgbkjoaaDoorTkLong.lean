/-
  The law TokenLong: the walk.
-/
import Derived.Test.YtjkpimohgbkjoaaDoorTkMore
import Derived.Lib.AppendStr
import Derived.Laws.MakeOwn
namespace Go.Proofs.YtjkpimohgbkjoaaDoor
open Go.RowKit

def longL : List (List UInt8) := [[44], [97, 32], [59]]
def longV : List Value := longL.map (fun x => .string (bs x))
theorem long_idx : ArrIs 39 (.agg longV.toArray) longL := by
  intro j x h
  have hj : j < 3 := (List.getElem?_eq_some_iff.1 h).1
  match j, hj with
  | 0, _ => simp only [longL, List.getElem?_cons_zero, Option.some.injEq] at h; subst h; exact fun _ => by kernel_rfl
  | 1, _ => simp only [longL, List.getElem?_cons_zero, List.getElem?_cons_succ, Option.some.injEq] at h; subst h; exact fun _ => by kernel_rfl
  | 2, _ => simp only [longL, List.getElem?_cons_zero, List.getElem?_cons_succ, Option.some.injEq] at h; subst h; exact fun _ => by kernel_rfl
theorem strCells_bs (l : List UInt8) : Lib.strCells (bs l) = cellsB l := by
  simp [Lib.strCells, cellsB, bs]
theorem own_form {w : World} {base : Nat} {e : TypeId} {v : Value} {n : Nat} {xs : List Value} (h : w.ownsRow base e 1 v n xs) : ∃ A c, v = .slice A n c := by
  rcases h.2 with ⟨rfl, rfl⟩ | ⟨g, cap, cur, rfl, _⟩
  · exact ⟨none, 0, rfl⟩
  · exact ⟨_, cap, rfl⟩

structure LongR (w wr : World) (v : Value) (acc : List UInt8) (n : Nat) : Prop where
  own : wr.ownsRow w.heap.size 5 1 v n (cellsB acc)
  len : acc.length = n
  up : Up w wr
theorem LongR.app {w wr : World} {v : Value} {acc : List UInt8} {n : Nat} (h : LongR w wr v acc n) (c : List UInt8) (hn : n + c.length ≤ 100000) :
    ∃ v' w', (Builtin.append_ #[28, 9] 28 #[v, .string (bs c)]).run Tryd.prog wr = .ok v' w' ∧ LongR w w' v' (acc ++ c) (n + c.length) := by
  obtain ⟨i, hi, hz, hz1, hz2⟩ := info_u8
  have hs := bs_size c
  obtain ⟨v', w', h1, h2, h3, _⟩ := Lib.run_append_own_string (P := Tryd.prog) wr w.heap.size 28 9 28 5 i Tryd.underlying28 Tryd.underlying9 hi hz hz1 hz2 v n _ h.own (bs c)
    (by rw [hs]; unfold maxLen; omega) (by rw [hs]; omega) h.up.size
  refine ⟨v', w', h1, ?_, by rw [List.length_append, h.len], Fr.trans h.up (fr_grown h3) (fun i hi e => by have := (h.own.lt i e).1; omega)⟩
  rw [hs, strCells_bs] at h2
  rwa [cellsB, List.map_append]
theorem LongR.one {w wr : World} {v : Value} {acc : List UInt8} {n : Nat} (h : LongR w wr v acc n) (b : UInt8) (hn : n + 1 ≤ 100000) :
    ∃ v' w', (Builtin.append_ #[28, 28] 28 #[v, .slice (some ⟨wr.heap.size, 0, none⟩) 1 1]).run Tryd.prog (wr.alloc (.cells #[.int .u8 b.toNat] 5)) = .ok v' w' ∧ LongR w w' v' (acc ++ [b]) (n + 1) := by
  obtain ⟨i, hi, hz, hz1, hz2⟩ := info_u8
  obtain ⟨g, cap, w', h1, h2, h3, h4⟩ := run_append_one (P := Tryd.prog) wr w.heap.size 28 28 5 i _ 1 Tryd.underlying28 hi hz hz1 hz2 rfl v n (cellsB acc) h.own (.int .u8 b.toNat) rfl (by unfold maxLen; omega) (by omega) h.up.size
  exact ⟨_, w', h1, by rw [cellsB, List.map_append]; exact h2, by rw [List.length_append, h.len]; rfl, Fr.trans h.up (fr_grown h3) (fun i hi e => by have := (h.own.lt i e).1; omega)⟩

set_option maxRecDepth 20000 in
set_option maxHeartbeats 4000000 in
theorem tokenLong_any {w : World} (L : Laid w) (hw : 3 ≤ w.heap.size) (n sign : Int) (fin : Bool) :
    Calls Tryd.prog 8 #[.int .i64 n, .int .i64 sign, .bool fin] w fun e w' => e = .returned (.bool true) ∧ Up w w' := by
  have LL := Lib.hid L
  clear L
  obtain ⟨j, hj, p1, _⟩ := pick_nat n 7 (by decide) (by decide)
  obtain ⟨j2, hj2, p2, _⟩ := pick_nat sign 3 (by decide) (by decide)
  have P1 := Lib.hid p1
  have P2 := Lib.hid p2
  obtain ⟨M, hM⟩ : ∃ M : Nat, (3996 : Int) + (j : Int) = (M : Int) := ⟨3996 + j, by omega⟩
  have hM2 : IntKind.i64.wrap (M : Int) = (M : Int) := IntWalk.i64_in _ (by omega)
  obtain ⟨M2, hm2⟩ : ∃ M2 : Nat, (2 : Int) * (M : Int) = (M2 : Int) := ⟨2 * M, by omega⟩
  have hm3 : IntKind.i64.wrap (M2 : Int) = (M2 : Int) := IntWalk.i64_in _ (by omega)
  obtain ⟨c, hc⟩ : ∃ c, longL[j2]? = some c := ⟨_, List.getElem?_eq_getElem (show j2 < longL.length from hj2)⟩
  have ix : ∀ w, (Instr.index 39 (.agg #[.string { data := #[44] }, .string { data := #[97, 32] }, .string { data := #[59] }]) (.int .i64 j2)).run Tryd.prog w = .ok (.string (bs c)) w := long_idx j2 c hc
  have hcl : c.length ≤ 2 := by
    have : ∀ x ∈ longL, x.length ≤ 2 := by decide
    exact this c (List.mem_of_getElem? hc)
  have hMb : M ≤ 4002 := by omega
  obtain ⟨i0, hi0, hz0, hs0, hb0⟩ := info_u8
  obtain ⟨w1, hmk, ho, hg⟩ := run_make_own (P := Tryd.prog) w w.heap.size 28 5 i0 _ 1 Tryd.underlying28 hi0 hz0 hs0 .i64 .i64 M2 (by rw [hb0]; omega) (by unfold maxLen; omega) (Nat.le_refl _)
  have V0 := Lib.hid (show LongR w w1 (.slice (some ⟨w.heap.size, 0, none⟩) 0 M2) [] 0 from ⟨ho, rfl, Fr.mono (fr_grown hg) (fun _ _ e => by cases e)⟩)
  have HC := Lib.hid hcl
  clear p1 p2 hc hi0 hz0 hs0 hb0 ho hg hj hj2 hcl
  go_enter Tryd.func8, Tryd.ntmps8
  go_wp2_with fail
  refine (P1.out _).mono ?_
  rintro e w' ⟨rfl, hq⟩
  obtain rfl := hq.symm
  go_wp2_with fail
  refine (P2.out _).mono ?_
  rintro e w' ⟨rfl, hq⟩
  obtain rfl := hq.symm
  go_wp2_with fail
  clear hmk ix
  go_loopw [8, 9] (fun v i wr => ∃ (k m : Nat) (acc : List UInt8), k ≤ M ∧ m ≤ 2 * k ∧ i = .int .i64 k ∧ Hid (LongR w wr v acc m)) (fun _ i _ => M - (intOf i).toNat)
  case atStart => exact ⟨0, 0, [], Nat.zero_le _, Nat.le_refl _, rfl, V0⟩
  case round =>
    obtain ⟨k, m, acc, hk, hmk, rfl, hr⟩ := hrel
    obtain ⟨wo, rfl⟩ : ∃ wo : World, wo = wr := ⟨_, rfl⟩
    by_cases h1 : k < M
    · have i1 : ((k : Int) < (M : Int)) := by omega
      obtain ⟨v', w2, hrun, hR⟩ := hr.out.app c (by have := HC.out; omega)
      have HA := Lib.hid hrun
      have HR := Lib.hid hR
      clear hrun hR hr
      go_wp2_with (at_builtin; refine Lib.wpList_append_run _ rfl (.tmp 25) (.tmp 26) 28 9 rfl _ _ rfl rfl _ _ HA.out ?_)
      go_roundw
      case rel => exact ⟨k + 1, m + c.length, acc ++ c, by omega, by have := HC.out; omega, by go_num, HR⟩
      case measure => simp [intOf]; omega
    · have i1 : ¬ ((k : Int) < (M : Int)) := by omega
      clear h1
      cases fin
      · obtain ⟨A, cc, rfl⟩ := own_form hr.out.own
        have L1 := Lib.hid (LL.out.kept hr.out.up (fun h => h) (fun h => h))
        have hw1 : 3 ≤ wo.heap.size := Nat.le_trans hw hr.out.up.size
        go_wp2_with fail
        refine (known_any L1.out hw1).mono ?_
        rintro e w3 ⟨rfl, hu3⟩
        have cv := quo_conv (w := w3) (w0 := w) (hu3.owns hr.out.own (fun _ _ e => e)) hr.out.len
        have L3 := Lib.hid (L1.out.kept hu3 (fun h => h) (fun h => h))
        have hw3 : 3 ≤ w3.heap.size := Nat.le_trans hw1 hu3.size
        have U3 := Lib.hid (show Up w w3 from Fr.trans hr.out.up hu3 (fun _ _ e => e))
        clear hu3
        go_wp2_with fail
        refine (lawall_any _ L3.out hw3).mono ?_
        rintro e w4 ⟨rfl, hu4⟩
        have U4 := Lib.hid (show Up w w4 from Fr.trans U3.out hu4 (fun _ _ e => e))
        clear hu4
        go_wp2_with fail
        go_ret
        exact ⟨rfl, U4.out⟩
      · obtain ⟨v', w2, hrun, hR⟩ := hr.out.one 64 (by omega)
        have HA := Lib.hid hrun
        have HR := Lib.hid hR
        clear hrun hR
        obtain ⟨A, cc, rfl⟩ := own_form HR.out.own
        have L1 := Lib.hid (LL.out.kept HR.out.up (fun h => h) (fun h => h))
        have hw1 : 3 ≤ w2.heap.size := Nat.le_trans hw HR.out.up.size
        go_wp2_with (at_builtin; refine Lib.wpList_append_run _ rfl (.tmp 29) (.tmp 30) 28 28 rfl _ _ rfl rfl _ _ HA.out ?_)
        refine (known_any L1.out hw1).mono ?_
        rintro e w3 ⟨rfl, hu3⟩
        have cv := quo_conv (w := w3) (w0 := w) (hu3.owns HR.out.own (fun _ _ e => e)) HR.out.len
        have L3 := Lib.hid (L1.out.kept hu3 (fun h => h) (fun h => h))
        have hw3 : 3 ≤ w3.heap.size := Nat.le_trans hw1 hu3.size
        have U3 := Lib.hid (show Up w w3 from Fr.trans HR.out.up hu3 (fun _ _ e => e))
        clear hu3
        go_wp2_with fail
        refine (lawall_any _ L3.out hw3).mono ?_
        rintro e w4 ⟨rfl, hu4⟩
        have U4 := Lib.hid (show Up w w4 from Fr.trans U3.out hu4 (fun _ _ e => e))
        clear hu4
        go_wp2_with fail
        go_ret
        exact ⟨rfl, U4.out⟩
end Go.Proofs.YtjkpimohgbkjoaaDoor
