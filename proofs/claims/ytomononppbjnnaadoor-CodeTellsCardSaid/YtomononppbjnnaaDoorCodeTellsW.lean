/-
  CodeTells: its walk.
-/
import Derived.Test.YtomononppbjnnaaDoorCdL
import Derived.Test.YtomononppbjnnaaDoorCdK
import Derived.Test.YtomononppbjnnaaDoorPickT
import Derived.BigQuiet
namespace Go.Proofs.YtomononppbjnnaaDoor
open Go.RowKit

theorem moves_shape (op : Int) : ∃ x y z, movesV op = .tuple #[.int .i64 x, .int .i64 y, .bool z] := ⟨_, _, _, rfl⟩
theorem cells3 {w w1 : World} {x y z : Value} {t : TypeId} (u : Up (w.alloc (.cells #[x, y, z] t)) w1) : w1.cell? ⟨w.heap.size, 0, none⟩ = some x ∧ w1.cell? ⟨w.heap.size, 1, none⟩ = some y ∧ w1.cell? ⟨w.heap.size, 2, none⟩ = some z := by
  have h : w1.heap[w.heap.size]? = some (.cells #[x, y, z] t) := (u.block _ (by simp) (fun h => h)).trans (heap_alloc_new _ _)
  exact ⟨by rw [cell_of_row _ _ _ _ _ _ h]; rfl, by rw [cell_of_row _ _ _ _ _ _ h]; rfl, by rw [cell_of_row _ _ _ _ _ _ h]; rfl⟩
set_option maxRecDepth 20000 in
set_option maxHeartbeats 4000000 in
theorem codetells_any (op a b pc : Int) (near : Bool) (w : World) (hL : w.rangeAt 0 0 namesV) :
    Calls Tryd.prog 4 #[.int .i64 op, .int .i64 a, .int .i64 b, .int .i64 pc, .bool near] w fun e w' => e = .returned (.bool true) ∧ Up w w' := by
  have HL := Lib.hid hL
  clear hL
  go_enter Tryd.func4, Tryd.ntmps4
  cases near
  · go_wp2_with fail
    obtain ⟨x, y, z, hm⟩ := moves_shape op
    refine (moves_any _ _).mono ?_
    rintro e w' ⟨rfl, rfl⟩
    rw [hm]
    go_wp2_with fail
    refine (rmoves_any _ _).mono ?_
    rintro e w' ⟨rfl, rfl⟩
    rw [hm]
    clear hm
    go_wp2_with fail
    refine (targets_any _ _ _ _ _).mono ?_
    rintro e w1 ⟨u1, A, rfl, n1⟩
    have hl := targets_le op a pc
    obtain ⟨l, hE⟩ : ∃ l, l = targetsOf op a pc := ⟨_, rfl⟩
    rw [← hE] at n1 hl
    have HE := Lib.hid hE
    simp only [← hE, sl3]
    clear hE
    obtain ⟨c0, c1, c2⟩ := cells3 u1
    have hw1 : w.heap.size + 1 ≤ w1.heap.size := by have := u1.size; simpa using this
    go_wp2_with fail
    refine (rtargets_any _ _ _ _ _).mono ?_
    rintro e w2 ⟨u2, B, rfl, n2⟩
    have hE := HE.out
    rw [← hE] at n2
    simp only [← hE, sl3]
    clear hE c0 c1 c2
    have n1' := n1.kept u2
    have U : Up w w2 := ((Fr.refl _ _).alloc _ |>.trans u1 (fun _ _ h => h)).trans u2 (fun _ _ h => h)
    have HU := Lib.hid U
    have N1 := Lib.hid n1'
    have N2 := Lib.hid n2
    have HW := Lib.hid hw1
    clear U n1 n1' n2 u1 u2 hw1
    obtain ⟨n, hn⟩ : ∃ n, n = l.length := ⟨_, rfl⟩
    rw [← hn] at hl
    simp only [← hn]
    have HN := Lib.hid hn
    clear hn
    go_wp2_with fail
    go_loopw [20] (fun i wr => ∃ k : Nat, k ≤ n ∧ i = .int .i64 k ∧ Hid (Up w2 wr)) (fun i _ => n - natOf i)
    case atStart => exact ⟨0, Nat.zero_le _, rfl, Lib.hid (Fr.refl _ _)⟩
    case round =>
      obtain ⟨wo, rfl⟩ : ∃ wo : World, wo = wr := ⟨_, rfl⟩
      obtain ⟨k, hk, rfl, hm⟩ := hrel
      by_cases hlt : k < n
      · obtain ⟨v, hv⟩ : ∃ v, l[k]? = some v := ⟨_, List.getElem?_eq_getElem (by rw [← HN.out]; exact hlt)⟩
        obtain ⟨g1, rfl, q1⟩ := (N1.out.kept hm.out).at_ k v hv
        obtain ⟨g2, rfl, q2⟩ := (N2.out.kept hm.out).at_ k v hv
        have k1 : (k : Int) < (n : Int) := by omega
        clear hv
        go_wp2_with fail
        go_quiet (fail)
        go_wp2_with fail
        rename Nat => n0
        refine ⟨⟨k + 1, by omega, by go_num, Lib.hid (Fr.drewN hm.out n0)⟩, by simp [natOf]; omega⟩
      · have hk' : k = n := by omega
        subst hk'
        go_wp2_with fail
        refine (known_any _).mono ?_
        rintro e w3 ⟨rfl, u3⟩
        have R := range_kept HL.out ((HU.out.trans hm.out (fun _ _ h => h)).trans u3 (fun _ _ h => h)) (fun h => h)
        go_wp2_with fail
        refine (name_any _ _).mono ?_
        rintro e w' ⟨rfl, rfl⟩
        go_wp2_with fail
        refine (rname_any _ _ R).mono ?_
        rintro e w' ⟨rfl, rfl⟩
        go_wp2_with fail
        refine (leaves_any _ _).mono ?_
        rintro e w' ⟨rfl, rfl⟩
        go_wp2_with fail
        refine (rleaves_any _ _).mono ?_
        rintro e w' ⟨rfl, rfl⟩
        go_wp2_with fail
        go_ret
        exact ⟨rfl, (HU.out.trans hm.out (fun _ _ h => h)).trans u3 (fun _ _ h => h)⟩
  · go_wp2_with fail
    refine (pick_any _ 45 _ (by decide) (by decide)).mono ?_
    rintro e w' ⟨rfl, rfl⟩
    obtain ⟨op1, hop⟩ : ∃ z, z = op % 45 := ⟨_, rfl⟩
    have op0 : 0 ≤ op1 ∧ op1 < 45 := by omega
    rw [← hop]
    clear hop
    go_wp2_with fail
    obtain ⟨x, y, z, hm⟩ := moves_shape (op1 - 1)
    refine (moves_any _ _).mono ?_
    rintro e w' ⟨rfl, rfl⟩
    rw [hm]
    go_wp2_with fail
    refine (rmoves_any _ _).mono ?_
    rintro e w' ⟨rfl, rfl⟩
    rw [hm]
    clear hm
    go_wp2_with fail
    refine (targets_any _ _ _ _ _).mono ?_
    rintro e w1 ⟨u1, A, rfl, n1⟩
    have hl := targets_le (op1 - 1) a pc
    obtain ⟨l, hE⟩ : ∃ l, l = targetsOf (op1 - 1) a pc := ⟨_, rfl⟩
    rw [← hE] at n1 hl
    have HE := Lib.hid hE
    simp only [← hE, sl3]
    clear hE
    obtain ⟨c0, c1, c2⟩ := cells3 u1
    have hw1 : w.heap.size + 1 ≤ w1.heap.size := by have := u1.size; simpa using this
    go_wp2_with fail
    refine (rtargets_any _ _ _ _ _).mono ?_
    rintro e w2 ⟨u2, B, rfl, n2⟩
    have hE := HE.out
    rw [← hE] at n2
    simp only [← hE, sl3]
    clear hE c0 c1 c2
    have n1' := n1.kept u2
    have U : Up w w2 := ((Fr.refl _ _).alloc _ |>.trans u1 (fun _ _ h => h)).trans u2 (fun _ _ h => h)
    have HU := Lib.hid U
    have N1 := Lib.hid n1'
    have N2 := Lib.hid n2
    have HW := Lib.hid hw1
    clear U n1 n1' n2 u1 u2 hw1
    obtain ⟨n, hn⟩ : ∃ n, n = l.length := ⟨_, rfl⟩
    rw [← hn] at hl
    simp only [← hn]
    have HN := Lib.hid hn
    clear hn
    go_wp2_with fail
    go_loopw [20] (fun i wr => ∃ k : Nat, k ≤ n ∧ i = .int .i64 k ∧ Hid (Up w2 wr)) (fun i _ => n - natOf i)
    case atStart => exact ⟨0, Nat.zero_le _, rfl, Lib.hid (Fr.refl _ _)⟩
    case round =>
      obtain ⟨wo, rfl⟩ : ∃ wo : World, wo = wr := ⟨_, rfl⟩
      obtain ⟨k, hk, rfl, hm⟩ := hrel
      by_cases hlt : k < n
      · obtain ⟨v, hv⟩ : ∃ v, l[k]? = some v := ⟨_, List.getElem?_eq_getElem (by rw [← HN.out]; exact hlt)⟩
        obtain ⟨g1, rfl, q1⟩ := (N1.out.kept hm.out).at_ k v hv
        obtain ⟨g2, rfl, q2⟩ := (N2.out.kept hm.out).at_ k v hv
        have k1 : (k : Int) < (n : Int) := by omega
        clear hv
        go_wp2_with fail
        go_quiet (fail)
        go_wp2_with fail
        rename Nat => n0
        refine ⟨⟨k + 1, by omega, by go_num, Lib.hid (Fr.drewN hm.out n0)⟩, by simp [natOf]; omega⟩
      · have hk' : k = n := by omega
        subst hk'
        go_wp2_with fail
        refine (known_any _).mono ?_
        rintro e w3 ⟨rfl, u3⟩
        have R := range_kept HL.out ((HU.out.trans hm.out (fun _ _ h => h)).trans u3 (fun _ _ h => h)) (fun h => h)
        go_wp2_with fail
        refine (name_any _ _).mono ?_
        rintro e w' ⟨rfl, rfl⟩
        go_wp2_with fail
        refine (rname_any _ _ R).mono ?_
        rintro e w' ⟨rfl, rfl⟩
        go_wp2_with fail
        refine (leaves_any _ _).mono ?_
        rintro e w' ⟨rfl, rfl⟩
        go_wp2_with fail
        refine (rleaves_any _ _).mono ?_
        rintro e w' ⟨rfl, rfl⟩
        go_wp2_with fail
        go_ret
        exact ⟨rfl, (HU.out.trans hm.out (fun _ _ h => h)).trans u3 (fun _ _ h => h)⟩
end Go.Proofs.YtomononppbjnnaaDoor
