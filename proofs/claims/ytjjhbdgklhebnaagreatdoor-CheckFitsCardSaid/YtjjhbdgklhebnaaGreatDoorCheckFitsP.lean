/-
  Proved: CheckFits returns true for every input. Conditions: the package variables that the row lists hold what the program's text lays into them (the card ties them to it).
-/
import Derived.Test.YtjjhbdgklhebnaaGreatDoorRows
import Derived.Test.YtjjhbdgklhebnaaGreatDoorCards
import Derived.Test.YtjjhbdgklhebnaaGreatDoorTie
import Derived.Test.YtjjhbdgklhebnaaGreatDoorCheckFitsE0x0
import Derived.Test.YtjjhbdgklhebnaaGreatDoorCheckFitsE0x1
import Derived.Test.YtjjhbdgklhebnaaGreatDoorCheckFitsE1x0
import Derived.Test.YtjjhbdgklhebnaaGreatDoorCheckFitsE1x1
import Derived.Test.YtjjhbdgklhebnaaGreatDoorCheckFitsE2x0
import Derived.Test.YtjjhbdgklhebnaaGreatDoorCheckFitsE2x1
import Derived.Test.YtjjhbdgklhebnaaGreatDoorCheckFitsE3x0
import Derived.Test.YtjjhbdgklhebnaaGreatDoorCheckFitsE3x1
import Derived.Test.YtjjhbdgklhebnaaGreatDoorCheckFitsE4x0
import Derived.Test.YtjjhbdgklhebnaaGreatDoorCheckFitsE4x1
import Derived.Test.YtjjhbdgklhebnaaGreatDoorCheckFitsE5x0
import Derived.Test.YtjjhbdgklhebnaaGreatDoorCheckFitsE5x1
import Derived.Test.YtjjhbdgklhebnaaGreatDoorCheckFitsE6x0
import Derived.Test.YtjjhbdgklhebnaaGreatDoorCheckFitsE6x1
import Derived.Test.YtjjhbdgklhebnaaGreatDoorCheckFitsE7x0
import Derived.Test.YtjjhbdgklhebnaaGreatDoorCheckFitsE7x1
import Derived.WalkKit
import Derived.ProofKit
import Derived.OpenShut
import Derived.ShutString
import Derived.ChangeOld
import Derived.ChangeVars
import Derived.Below
import Derived.ChangeMaps5
import Derived.ChangeSlices
import Derived.Lay
import Derived.LaidLaws
import Derived.MakeChecks
import Derived.SevenTiedAt
namespace Go.Proofs.YtjjhbdgklhebnaaGreatDoor
namespace checkFitsE
open Go.RowKit
theorem allB_app {α : Type} {p : α → Bool} : ∀ {l m : List α}, allB p l = true → allB p m = true → allB p (l ++ m) = true
  | [], _, _, h => h
  | x :: l, m, h, k => by
    have h : Bool.rec (motive := fun _ => Bool) false (allB p l) (p x) = true := h
    show Bool.rec (motive := fun _ => Bool) false (allB p (l ++ m)) (p x) = true
    cases hp : p x with
    | false => rw [hp] at h; cases h
    | true => rw [hp] at h; exact allB_app h k
theorem run0 : allB (fun i1 => case 0 i1) [0, 1, 2, 3, 4, 5, 6] = true := (allB_app (l := [0, 1, 2, 3]) (m := [4, 5, 6]) run0x0 run0x1)
theorem run1 : allB (fun i1 => case 1 i1) [0, 1, 2, 3, 4, 5, 6] = true := (allB_app (l := [0, 1, 2, 3]) (m := [4, 5, 6]) run1x0 run1x1)
theorem run2 : allB (fun i1 => case 2 i1) [0, 1, 2, 3, 4, 5, 6] = true := (allB_app (l := [0, 1, 2, 3]) (m := [4, 5, 6]) run2x0 run2x1)
theorem run3 : allB (fun i1 => case 3 i1) [0, 1, 2, 3, 4, 5, 6] = true := (allB_app (l := [0, 1, 2, 3]) (m := [4, 5, 6]) run3x0 run3x1)
theorem run4 : allB (fun i1 => case 4 i1) [0, 1, 2, 3, 4, 5, 6] = true := (allB_app (l := [0, 1, 2, 3]) (m := [4, 5, 6]) run4x0 run4x1)
theorem run5 : allB (fun i1 => case 5 i1) [0, 1, 2, 3, 4, 5, 6] = true := (allB_app (l := [0, 1, 2, 3]) (m := [4, 5, 6]) run5x0 run5x1)
theorem run6 : allB (fun i1 => case 6 i1) [0, 1, 2, 3, 4, 5, 6] = true := (allB_app (l := [0, 1, 2, 3]) (m := [4, 5, 6]) run6x0 run6x1)
theorem run7 : allB (fun i1 => case 7 i1) [0, 1, 2, 3, 4, 5, 6] = true := (allB_app (l := [0, 1, 2, 3]) (m := [4, 5, 6]) run7x0 run7x1)
theorem mem7 : ∀ {i : Nat}, i < 7 → i ∈ [0, 1, 2, 3, 4, 5, 6] := by
  intro i h
  rcases i with _ | _ | _ | _ | _ | _ | _ | i
  · decide
  · decide
  · decide
  · decide
  · decide
  · decide
  · decide
  · omega
theorem runs : ∀ i0, i0 < 8 → ∀ i1 ∈ [0, 1, 2, 3, 4, 5, 6], case i0 i1 = true := by
  intro i0 h
  rcases i0 with _ | _ | _ | _ | _ | _ | _ | _ | i0
  · exact fun i1 hi1 => allB_spec (run0) i1 hi1
  · exact fun i1 hi1 => allB_spec (run1) i1 hi1
  · exact fun i1 hi1 => allB_spec (run2) i1 hi1
  · exact fun i1 hi1 => allB_spec (run3) i1 hi1
  · exact fun i1 hi1 => allB_spec (run4) i1 hi1
  · exact fun i1 hi1 => allB_spec (run5) i1 hi1
  · exact fun i1 hi1 => allB_spec (run6) i1 hi1
  · exact fun i1 hi1 => allB_spec (run7) i1 hi1
  · omega
theorem any (z0 : Int) (z1 : Int) {w : World} (hw : ∀ x ∈ ks, w.rangeAt x.1 0 x.2) : Calls Tryz.prog 10 #[.int .i64 z0, .int .i64 z1] w fun e w' => e = .returned (.bool true) ∧ Up w w' := by
  obtain ⟨i0, e0, l0⟩ : ∃ i : Nat, z0 % 8 = i ∧ i < 8 := ⟨(z0 % 8).toNat, by omega, by omega⟩
  obtain ⟨i1, e1, l1⟩ : ∃ i : Nat, z1 % 7 = i ∧ i < 7 := ⟨(z1 % 7).toNat, by omega, by omega⟩
  refine evu_run (ng := 4) (m := 2) (zs := [z0, z1]) (hs := [12]) (tb := tb i0 i1) rtab_ok names_ok (by kernel_rfl) rfl (by decide) (ksB_spec (by decide +kernel)) (fun g hg w hw => ?_) (fun e he => ?_) hw (VL.cons (.num _ z0 (rhoN_num (ng := 4) (i := 0) rfl)) (VL.cons (.num _ z1 (rhoN_num (ng := 4) (i := 1) rfl)) VL.nil)) (runs i0 l0 _ (mem7 l1))
  · obtain rfl := List.mem_singleton.1 hg
    exact known hw
  · simp only [tb, List.mem_cons, List.not_mem_nil, or_false] at he
    rcases he with rfl | rfl
    · refine ⟨rfl, fun ρ w l' h hl => ?_⟩
      have := pick_hook (w := w) (i := 0) (z := z0) (m := 8) h rfl hl (by omega) (by omega)
      rw [e0] at this
      exact this
    · refine ⟨rfl, fun ρ w l' h hl => ?_⟩
      have := pick_hook (w := w) (i := 1) (z := z1) (m := 7) h rfl hl (by omega) (by omega)
      rw [e1] at this
      exact this
end checkFitsE
namespace checkFitsP
open Go.ChangeShapes Go.WideShapes Go.ChangeAt Go.RowKit
set_option linter.unusedVariables false

theorem own : ownKnob Tryz.prog.godebug = none := by kernel_rfl

abbrev laid : List (String × DataW Unit) := Rows.checkFitsRow.laid

set_option maxRecDepth 100000 in
theorem lifted (os : Os) (started : os.Started) (H : Type) (enc : TypeId × Value → H) :
    ReturnsInHanded {} Tryz.checked os 10 .any (fun w args => (Rows.checkFitsSpec.pre enc Tryz.prog Tryz.f10 [] false w args ∧ laidMetH Tryz.prog laid w) ∧ sizedMet enc Tryz.prog Tryz.f10 (OpenSpec.ofChange Rows.checkFitsSpec) false w args)
      (Rows.checkFitsSpec.post enc Tryz.prog Tryz.f10 false true false false) := by
  refine returnsInHanded_of_change_and (C := Tryz.checked) (X := fun w _ => laidMetH Tryz.prog laid w) (fun _ _ _ hh h => h.of_heap hh) own started (by kernel_rfl) Tryz.func10
    (ChangeSpec.witness_shaped (enc := enc) (C := Tryz.checked) (os := os) (X := fun w _ => laidMetH Tryz.prog laid w) false (World.laidAll Tryz.prog os laid) #[.int .i64 0, .int .i64 0] 8 (World.laidAll_os _ _ _)
      (World.shaped_of_ZipB (by kernel_rfl) (by kernel_rfl)) (by kernel_rfl) (by kernel_rfl) (by kernel_rfl)
      (by rw [MakeChecks.laidMetH_plain _ _ _ (by kernel_rfl)]; exact laidMet_laidAll _ (by kernel_rfl) (by kernel_rfl))) ?_
  intro W base args ds gs before hval0 hW _ _ hL _
  have hW' := hW
  obtain ⟨p, q, hA0, hV, rfl, hfz, hnd⟩ := hW
  have hA : DataW.TrodAll enc Tryz.prog W 0 (fun _ => true) true Tryz.f10.params.toList args.toList ds p := hA0
  have hval : ∀ (j : Nat) t v, Tryz.f10.params[j]? = some t → args[j]? = some v → Value.okWide Tryz.prog W .any base t v := hval0
  rw [Tryz.params10] at hA hval
  obtain ⟨v0, vs0, d0, ds0, p0, q0, hargs, rfl, rfl, h0, r0⟩ := trodAll_cons hA
  obtain ⟨v1, vs1, d1, ds1, p1, q1, rfl, rfl, rfl, h1, r1⟩ := trodAll_cons r0
  obtain ⟨rfl, rfl, rfl⟩ := trodAll_nil r1
  obtain rfl : args = #[v0, v1] := by cases args; simp_all
  obtain ⟨rfl, rfl⟩ := trodVars_none hV
  obtain ⟨a0, rfl, rfl, rfl, w0⟩ := open_int Tryz.underlying3 (hval 0 3 v0 rfl rfl) h0
  obtain ⟨a1, rfl, rfl, rfl, w1⟩ := open_int Tryz.underlying3 (hval 1 3 v1 rfl rfl) h1
  clear hA0 hval0
  rw [MakeChecks.laidMetH_plain _ _ _ (by kernel_rfl)] at hL
  have L := checkFitsE.laid_ks hL (List.Mem.head _) (List.Mem.tail _ (List.Mem.head _))
  refine (checkFitsE.any a0 a1 L).mono fun e W' ⟨he, hf⟩ => ?_
  subst he
  have bel : Below W.heap.size W W' := hf.below (Nat.le_refl _) (fun _ _ h => h)
  exact ⟨_, rfl, _, _, _, [], _, [], hW', trodAll_mk1 (shut_bool Tryz.underlying4 _), (trodAll_cons_mk (shut_int Tryz.underlying3 w0) (trodAll_cons_mk (shut_int Tryz.underlying3 w1) trodAll_mk0)), rfl, bel.frame _, fun h => by cases h⟩

theorem over : Rows.checkFitsRow.holds Tryz.pinned (OpenSpec.ofChange Rows.checkFitsSpec) :=
  OpenClaim.holds_of_wide 10 Tryz.f10 rfl rfl rfl rfl rfl rfl rfl ⟨rfl, rfl, rfl, rfl, rfl⟩ rfl rfl rfl rfl rfl (by kernel_rfl) Tryz.func10 (by kernel_rfl)
    (of_decide_eq_true (by kernel_rfl)) (by unfold Func.isWrapper; first | (rw [if_pos (by decide +kernel)]; kernel_rfl) | (rw [if_neg (by decide +kernel)]; exact ⟨rfl, rfl⟩))
    (fun os started H enc _ => lifted os started H enc)
end checkFitsP

theorem checkFits_holds : Rows.CheckFitsCardSaid :=
  Claim7.holds_tied_plain_at .later [] [.data, .data] true (true, "40b3021599fd10d2641ff9e268bd9860c84e4800d04ba49268d6c9db1887a6b0") false
    checkFitsP.over (fun _ h => by cases h) (by kernel_rfl) (fun _ h => by cases h) checkFits_row_tie rfl ⟨rfl, rfl⟩ (by kernel_rfl) rfl
    (fun f fn hf hfn => by
      obtain rfl : f = 10 := Option.some.inj ((show Tryz.prog.funcNamed Rows.checkFitsRow.func = some 10 by kernel_rfl).symm.trans hf) |>.symm
      obtain rfl : fn = Tryz.f10 := (Option.some.inj (Tryz.func10.symm.trans hfn)).symm
      exact ⟨by kernel_rfl, fun j t ht => by
        rw [Tryz.params10] at ht
        rcases j with _ | _ | j
        · obtain rfl : t = 3 := by simpa using ht.symm
          exact (show Tryz.prog.wantsStandIn 3 = false by kernel_rfl)
        · obtain rfl : t = 3 := by simpa using ht.symm
          exact (show Tryz.prog.wantsStandIn 3 = false by kernel_rfl)
        · simp at ht⟩)
    (by kernel_rfl)
#print axioms checkFits_holds
end Go.Proofs.YtjjhbdgklhebnaaGreatDoor
