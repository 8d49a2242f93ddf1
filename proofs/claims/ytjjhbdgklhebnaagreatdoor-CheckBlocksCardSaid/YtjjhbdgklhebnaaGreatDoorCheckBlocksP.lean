/-
  Proved: CheckBlocks returns true for every input. Conditions: the package variables that the row lists hold what the program's text lays into them (the card ties them to it).
-/
import Derived.Test.YtjjhbdgklhebnaaGreatDoorRows
import Derived.Test.YtjjhbdgklhebnaaGreatDoorCards
import Derived.Test.YtjjhbdgklhebnaaGreatDoorTie
import Derived.Test.YtjjhbdgklhebnaaGreatDoorCheckBlocksE0
import Derived.Test.YtjjhbdgklhebnaaGreatDoorCheckBlocksE1
import Derived.Test.YtjjhbdgklhebnaaGreatDoorCheckBlocksE2
import Derived.Test.YtjjhbdgklhebnaaGreatDoorCheckBlocksE3
import Derived.Test.YtjjhbdgklhebnaaGreatDoorCheckBlocksE4
import Derived.Test.YtjjhbdgklhebnaaGreatDoorCheckBlocksE5
import Derived.Test.YtjjhbdgklhebnaaGreatDoorCheckBlocksE6
import Derived.Test.YtjjhbdgklhebnaaGreatDoorCheckBlocksE7
import Derived.WalkKit
import Derived.ProofKit
import Derived.OpenShut
import Derived.ShutString
import Derived.ChangeOld
import Derived.ChangeVars
import Derived.Below
import Derived.ChangeMaps5
import Derived.ChangeSlices
import Derived.Lay
import Derived.LaidLaws
import Derived.MakeChecks
import Derived.SevenTiedAt
namespace Go.Proofs.YtjjhbdgklhebnaaGreatDoor
namespace checkBlocksE
open Go.RowKit
theorem runs : ∀ i0, i0 < 8 → ∀ b0 ∈ [true, false], ∀ b1 ∈ [true, false], case i0 b0 b1 = true := by
  intro i0 h
  rcases i0 with _ | _ | _ | _ | _ | _ | _ | _ | i0
  · exact fun b0 hb0 => fun b1 hb1 => allB_spec (allB_spec (run0) b0 hb0) b1 hb1
  · exact fun b0 hb0 => fun b1 hb1 => allB_spec (allB_spec (run1) b0 hb0) b1 hb1
  · exact fun b0 hb0 => fun b1 hb1 => allB_spec (allB_spec (run2) b0 hb0) b1 hb1
  · exact fun b0 hb0 => fun b1 hb1 => allB_spec (allB_spec (run3) b0 hb0) b1 hb1
  · exact fun b0 hb0 => fun b1 hb1 => allB_spec (allB_spec (run4) b0 hb0) b1 hb1
  · exact fun b0 hb0 => fun b1 hb1 => allB_spec (allB_spec (run5) b0 hb0) b1 hb1
  · exact fun b0 hb0 => fun b1 hb1 => allB_spec (allB_spec (run6) b0 hb0) b1 hb1
  · exact fun b0 hb0 => fun b1 hb1 => allB_spec (allB_spec (run7) b0 hb0) b1 hb1
  · omega
theorem any (z0 : Int) (b0 : Bool) (b1 : Bool) {w : World} (hw : ∀ x ∈ ks, w.rangeAt x.1 0 x.2) : Calls Tryz.prog 8 #[.int .i64 z0, .bool b0, .bool b1] w fun e w' => e = .returned (.bool true) ∧ Up w w' := by
  obtain ⟨i0, e0, l0⟩ : ∃ i : Nat, z0 % 8 = i ∧ i < 8 := ⟨(z0 % 8).toNat, by omega, by omega⟩
  refine evu_run (ng := 4) (m := 1) (zs := [z0]) (hs := [12]) (tb := tb i0) rtab_ok names_ok (by kernel_rfl) rfl (by decide) (ksB_spec (by decide +kernel)) (fun g hg w hw => ?_) (fun e he => ?_) hw (VL.cons (.num _ z0 (rhoN_num (ng := 4) (i := 0) rfl)) (VL.cons (.bool b0) (VL.cons (.bool b1) VL.nil))) (runs i0 l0 _ (by cases b0 <;> decide) _ (by cases b1 <;> decide))
  · obtain rfl := List.mem_singleton.1 hg
    exact known hw
  · simp only [tb, List.mem_cons, List.not_mem_nil, or_false] at he
    rcases he with rfl
    · refine ⟨rfl, fun ρ w l' h hl => ?_⟩
      have := pick_hook (w := w) (i := 0) (z := z0) (m := 8) h rfl hl (by omega) (by omega)
      rw [e0] at this
      exact this
end checkBlocksE
namespace checkBlocksP
open Go.ChangeShapes Go.WideShapes Go.ChangeAt Go.RowKit
set_option linter.unusedVariables false

theorem own : ownKnob Tryz.prog.godebug = none := by kernel_rfl

abbrev laid : List (String × DataW Unit) := Rows.checkBlocksRow.laid

set_option maxRecDepth 100000 in
theorem lifted (os : Os) (started : os.Started) (H : Type) (enc : TypeId × Value → H) :
    ReturnsInHanded {} Tryz.checked os 8 .any (fun w args => (Rows.checkBlocksSpec.pre enc Tryz.prog Tryz.f8 [] false w args ∧ laidMetH Tryz.prog laid w) ∧ sizedMet enc Tryz.prog Tryz.f8 (OpenSpec.ofChange Rows.checkBlocksSpec) false w args)
      (Rows.checkBlocksSpec.post enc Tryz.prog Tryz.f8 false true false false) := by
  refine returnsInHanded_of_change_and (C := Tryz.checked) (X := fun w _ => laidMetH Tryz.prog laid w) (fun _ _ _ hh h => h.of_heap hh) own started (by kernel_rfl) Tryz.func8
    (ChangeSpec.witness_shaped (enc := enc) (C := Tryz.checked) (os := os) (X := fun w _ => laidMetH Tryz.prog laid w) false (World.laidAll Tryz.prog os laid) #[.int .i64 0, .bool false, .bool false] 8 (World.laidAll_os _ _ _)
      (World.shaped_of_ZipB (by kernel_rfl) (by kernel_rfl)) (by kernel_rfl) (by kernel_rfl) (by kernel_rfl)
      (by rw [MakeChecks.laidMetH_plain _ _ _ (by kernel_rfl)]; exact laidMet_laidAll _ (by kernel_rfl) (by kernel_rfl))) ?_
  intro W base args ds gs before hval0 hW _ _ hL _
  have hW' := hW
  obtain ⟨p, q, hA0, hV, rfl, hfz, hnd⟩ := hW
  have hA : DataW.TrodAll enc Tryz.prog W 0 (fun _ => true) true Tryz.f8.params.toList args.toList ds p := hA0
  have hval : ∀ (j : Nat) t v, Tryz.f8.params[j]? = some t → args[j]? = some v → Value.okWide Tryz.prog W .any base t v := hval0
  rw [Tryz.params8] at hA hval
  obtain ⟨v0, vs0, d0, ds0, p0, q0, hargs, rfl, rfl, h0, r0⟩ := trodAll_cons hA
  obtain ⟨v1, vs1, d1, ds1, p1, q1, rfl, rfl, rfl, h1, r1⟩ := trodAll_cons r0
  obtain ⟨v2, vs2, d2, ds2, p2, q2, rfl, rfl, rfl, h2, r2⟩ := trodAll_cons r1
  obtain ⟨rfl, rfl, rfl⟩ := trodAll_nil r2
  obtain rfl : args = #[v0, v1, v2] := by cases args; simp_all
  obtain ⟨rfl, rfl⟩ := trodVars_none hV
  obtain ⟨a0, rfl, rfl, rfl, w0⟩ := open_int Tryz.underlying3 (hval 0 3 v0 rfl rfl) h0
  obtain ⟨b1, rfl, rfl, rfl⟩ := open_bool Tryz.underlying4 (hval 1 4 v1 rfl rfl) h1
  obtain ⟨b2, rfl, rfl, rfl⟩ := open_bool Tryz.underlying4 (hval 2 4 v2 rfl rfl) h2
  clear hA0 hval0
  rw [MakeChecks.laidMetH_plain _ _ _ (by kernel_rfl)] at hL
  have L := checkBlocksE.laid_ks hL (List.Mem.head _) (List.Mem.tail _ (List.Mem.head _))
  refine (checkBlocksE.any a0 b1 b2 L).mono fun e W' ⟨he, hf⟩ => ?_
  subst he
  have bel : Below W.heap.size W W' := hf.below (Nat.le_refl _) (fun _ _ h => h)
  exact ⟨_, rfl, _, _, _, [], _, [], hW', trodAll_mk1 (shut_bool Tryz.underlying4 _), (trodAll_cons_mk (shut_int Tryz.underlying3 w0) (trodAll_cons_mk (shut_bool Tryz.underlying4 b1) (trodAll_cons_mk (shut_bool Tryz.underlying4 b2) trodAll_mk0))), rfl, bel.frame _, fun h => by cases h⟩

theorem over : Rows.checkBlocksRow.holds Tryz.pinned (OpenSpec.ofChange Rows.checkBlocksSpec) :=
  OpenClaim.holds_of_wide 8 Tryz.f8 rfl rfl rfl rfl rfl rfl rfl ⟨rfl, rfl, rfl, rfl, rfl⟩ rfl rfl rfl rfl rfl (by kernel_rfl) Tryz.func8 (by kernel_rfl)
    (of_decide_eq_true (by kernel_rfl)) (by unfold Func.isWrapper; first | (rw [if_pos (by decide +kernel)]; kernel_rfl) | (rw [if_neg (by decide +kernel)]; exact ⟨rfl, rfl⟩))
    (fun os started H enc _ => lifted os started H enc)
end checkBlocksP

theorem checkBlocks_holds : Rows.CheckBlocksCardSaid :=
  Claim7.holds_tied_plain_at .later [] [.data, .data] true (true, "40b3021599fd10d2641ff9e268bd9860c84e4800d04ba49268d6c9db1887a6b0") false
    checkBlocksP.over (fun _ h => by cases h) (by kernel_rfl) (fun _ h => by cases h) checkBlocks_row_tie rfl ⟨rfl, rfl⟩ (by kernel_rfl) rfl
    (fun f fn hf hfn => by
      obtain rfl : f = 8 := Option.some.inj ((show Tryz.prog.funcNamed Rows.checkBlocksRow.func = some 8 by kernel_rfl).symm.trans hf) |>.symm
      obtain rfl : fn = Tryz.f8 := (Option.some.inj (Tryz.func8.symm.trans hfn)).symm
      exact ⟨by kernel_rfl, fun j t ht => by
        rw [Tryz.params8] at ht
        rcases j with _ | _ | _ | j
        · obtain rfl : t = 3 := by simpa using ht.symm
          exact (show Tryz.prog.wantsStandIn 3 = false by kernel_rfl)
        · obtain rfl : t = 4 := by simpa using ht.symm
          exact (show Tryz.prog.wantsStandIn 4 = false by kernel_rfl)
        · obtain rfl : t = 4 := by simpa using ht.symm
          exact (show Tryz.prog.wantsStandIn 4 = false by kernel_rfl)
        · simp at ht⟩)
    (by kernel_rfl)
#print axioms checkBlocks_holds
end Go.Proofs.YtjjhbdgklhebnaaGreatDoor
