/-
  Proved: CheckLimits returns true for every input. Conditions: the package variables that the row lists hold what the program's text lays into them (the card ties them to it).
-/
import Derived.Test.YtmphiefdoaihhaaGreatDoorRows
import Derived.Test.YtmphiefdoaihhaaGreatDoorCards
import Derived.Test.YtmphiefdoaihhaaGreatDoorTie
import Derived.Test.YtmphiefdoaihhaaGreatDoorCheckLimitsE0x0
import Derived.Test.YtmphiefdoaihhaaGreatDoorCheckLimitsE0x1
import Derived.Test.YtmphiefdoaihhaaGreatDoorCheckLimitsE0x2
import Derived.Test.YtmphiefdoaihhaaGreatDoorCheckLimitsE0x3
import Derived.Test.YtmphiefdoaihhaaGreatDoorCheckLimitsE1x0
import Derived.Test.YtmphiefdoaihhaaGreatDoorCheckLimitsE1x1
import Derived.Test.YtmphiefdoaihhaaGreatDoorCheckLimitsE1x2
import Derived.Test.YtmphiefdoaihhaaGreatDoorCheckLimitsE1x3
import Derived.Test.YtmphiefdoaihhaaGreatDoorCheckLimitsE2x0
import Derived.Test.YtmphiefdoaihhaaGreatDoorCheckLimitsE2x1
import Derived.Test.YtmphiefdoaihhaaGreatDoorCheckLimitsE2x2
import Derived.Test.YtmphiefdoaihhaaGreatDoorCheckLimitsE2x3
import Derived.Test.YtmphiefdoaihhaaGreatDoorCheckLimitsE3x0
import Derived.Test.YtmphiefdoaihhaaGreatDoorCheckLimitsE3x1
import Derived.Test.YtmphiefdoaihhaaGreatDoorCheckLimitsE3x2
import Derived.Test.YtmphiefdoaihhaaGreatDoorCheckLimitsE3x3
import Derived.WalkKit
import Derived.ProofKit
import Derived.OpenShut
import Derived.ShutString
import Derived.ChangeOld
import Derived.ChangeVars
import Derived.Below
import Derived.ChangeMaps5
import Derived.ChangeSlices
import Derived.Lay
import Derived.LaidLaws
import Derived.MakeChecks
import Derived.SevenTiedAt
namespace Go.Proofs.YtmphiefdoaihhaaGreatDoor
namespace checkLimitsE
open Go.RowKit
theorem runs : ∀ i0, i0 < 4 → ∀ i1, i1 < 4 → ∃ sns : List Sn, (∀ s ∈ sns, SnOk Tryz.prog ks s) ∧ case sns i0 i1 = true := by
  intro i0 hi0 i1 hi1 
  rcases i0 with _ | _ | _ | _ | i0
  · skip
    rcases i1 with _ | _ | _ | _ | i1
    · skip
      exact ⟨_, pic0x0, run0x0⟩
    · skip
      exact ⟨_, pic0x1, run0x1⟩
    · skip
      exact ⟨_, pic0x2, run0x2⟩
    · skip
      exact ⟨_, pic0x3, run0x3⟩
    · omega
  · skip
    rcases i1 with _ | _ | _ | _ | i1
    · skip
      exact ⟨_, pic1x0, run1x0⟩
    · skip
      exact ⟨_, pic1x1, run1x1⟩
    · skip
      exact ⟨_, pic1x2, run1x2⟩
    · skip
      exact ⟨_, pic1x3, run1x3⟩
    · omega
  · skip
    rcases i1 with _ | _ | _ | _ | i1
    · skip
      exact ⟨_, pic2x0, run2x0⟩
    · skip
      exact ⟨_, pic2x1, run2x1⟩
    · skip
      exact ⟨_, pic2x2, run2x2⟩
    · skip
      exact ⟨_, pic2x3, run2x3⟩
    · omega
  · skip
    rcases i1 with _ | _ | _ | _ | i1
    · skip
      exact ⟨_, pic3x0, run3x0⟩
    · skip
      exact ⟨_, pic3x1, run3x1⟩
    · skip
      exact ⟨_, pic3x2, run3x2⟩
    · skip
      exact ⟨_, pic3x3, run3x3⟩
    · omega
  · omega
theorem any (z0 : Int) (z1 : Int) {w : World} (hw : ∀ x ∈ ks, w.rangeAt x.1 0 x.2) : Calls Tryz.prog 3 #[.int .i64 z0, .int .i64 z1] w fun e w' => e = .returned (.bool true) ∧ Up w w' := by
  obtain ⟨i0, e0, l0⟩ : ∃ i : Nat, z0 % 4 = i ∧ i < 4 := ⟨(z0 % 4).toNat, by omega, by omega⟩
  obtain ⟨i1, e1, l1⟩ : ∃ i : Nat, z1 % 4 = i ∧ i < 4 := ⟨(z1 % 4).toNat, by omega, by omega⟩
  obtain ⟨sns, hsn, hrun⟩ := runs i0 l0 i1 l1
  refine evn_run (ng := 2) (m := 2) (zs := [z0, z1]) (hs := [7]) (tb := tb i0 i1) (sns := sns) rtab_ok names_ok (by kernel_rfl) rfl (by decide) ks_ok (fun g hg w hw => ?_) (fun e he => ?_) hsn hw (VL.cons (.num _ z0 (rhoN_num (ng := 2) (i := 0) rfl)) (VL.cons (.num _ z1 (rhoN_num (ng := 2) (i := 1) rfl)) VL.nil)) hrun
  · obtain rfl := List.mem_singleton.1 hg
    exact known hw
  · simp only [tb, List.mem_cons, List.not_mem_nil, or_false] at he
    rcases he with rfl | rfl
    · refine ⟨rfl, fun ρ w l' h hl => ?_⟩
      have := pick_hook (w := w) (i := 0) (z := z0) (m := 4) h rfl hl (by omega) (by omega)
      rw [e0] at this
      exact this
    · refine ⟨rfl, fun ρ w l' h hl => ?_⟩
      have := pick_hook (w := w) (i := 1) (z := z1) (m := 4) h rfl hl (by omega) (by omega)
      rw [e1] at this
      exact this
end checkLimitsE
namespace checkLimitsP
open Go.ChangeShapes Go.WideShapes Go.ChangeAt Go.RowKit
set_option linter.unusedVariables false

theorem own : ownKnob Tryz.prog.godebug = none := by kernel_rfl

abbrev laid : List (String × DataW Unit) := Rows.checkLimitsRow.laid

set_option maxRecDepth 100000 in
theorem lifted (os : Os) (started : os.Started) (H : Type) (enc : TypeId × Value → H) :
    ReturnsInHanded {} Tryz.checked os 3 .any (fun w args => (Rows.checkLimitsSpec.pre enc Tryz.prog Tryz.f3 [] false w args ∧ laidMetH Tryz.prog laid w) ∧ sizedMet enc Tryz.prog Tryz.f3 (OpenSpec.ofChange Rows.checkLimitsSpec) false w args)
      (Rows.checkLimitsSpec.post enc Tryz.prog Tryz.f3 false true false false) := by
  refine returnsInHanded_of_change_and (C := Tryz.checked) (X := fun w _ => laidMetH Tryz.prog laid w) (fun _ _ _ hh h => h.of_heap hh) own started (by kernel_rfl) Tryz.func3
    (ChangeSpec.witness_shaped (enc := enc) (C := Tryz.checked) (os := os) (X := fun w _ => laidMetH Tryz.prog laid w) false (World.laidAll Tryz.prog os laid) #[.int .i64 0, .int .i64 0] 8 (World.laidAll_os _ _ _)
      (World.shaped_of_ZipB (by kernel_rfl) (by kernel_rfl)) (by kernel_rfl) (by kernel_rfl) (by kernel_rfl)
      (by rw [MakeChecks.laidMetH_plain _ _ _ (by kernel_rfl)]; exact laidMet_laidAll _ (by kernel_rfl) (by kernel_rfl))) ?_
  intro W base args ds gs before hval0 hW _ _ hL _
  have hW' := hW
  obtain ⟨p, q, hA0, hV, rfl, hfz, hnd⟩ := hW
  have hA : DataW.TrodAll enc Tryz.prog W 0 (fun _ => true) true Tryz.f3.params.toList args.toList ds p := hA0
  have hval : ∀ (j : Nat) t v, Tryz.f3.params[j]? = some t → args[j]? = some v → Value.okWide Tryz.prog W .any base t v := hval0
  rw [Tryz.params3] at hA hval
  obtain ⟨v0, vs0, d0, ds0, p0, q0, hargs, rfl, rfl, h0, r0⟩ := trodAll_cons hA
  obtain ⟨v1, vs1, d1, ds1, p1, q1, rfl, rfl, rfl, h1, r1⟩ := trodAll_cons r0
  obtain ⟨rfl, rfl, rfl⟩ := trodAll_nil r1
  obtain rfl : args = #[v0, v1] := by cases args; simp_all
  obtain ⟨rfl, rfl⟩ := trodVars_none hV
  obtain ⟨a0, rfl, rfl, rfl, w0⟩ := open_int Tryz.underlying3 (hval 0 3 v0 rfl rfl) h0
  obtain ⟨a1, rfl, rfl, rfl, w1⟩ := open_int Tryz.underlying3 (hval 1 3 v1 rfl rfl) h1
  clear hA0 hval0
  rw [MakeChecks.laidMetH_plain _ _ _ (by kernel_rfl)] at hL
  have L := checkLimitsE.laid_ks hL (List.Mem.head _) (List.Mem.tail _ (List.Mem.head _))
  refine (checkLimitsE.any a0 a1 L).mono fun e W' ⟨he, hf⟩ => ?_
  subst he
  have bel : Below W.heap.size W W' := hf.below (Nat.le_refl _) (fun _ _ h => h)
  exact ⟨_, rfl, _, _, _, [], _, [], hW', trodAll_mk1 (shut_bool Tryz.underlying4 _), (trodAll_cons_mk (shut_int Tryz.underlying3 w0) (trodAll_cons_mk (shut_int Tryz.underlying3 w1) trodAll_mk0)), rfl, bel.frame _, fun h => by cases h⟩

theorem andI {a b : Bool} (h1 : a = true) (h2 : b = true) : (a && b) = true := by rw [h1, h2]; rfl
set_option maxHeartbeats 16000000 in
set_option maxRecDepth 100000 in
theorem joined : joinedFacts Tryz.prog 3 Tryz.f3 Rows.checkLimitsSpec Rows.checkLimitsRow = true := by
  unfold joinedFacts
  repeat' with_reducible refine andI ?_ ?_
  all_goals as_aux_lemma => kernel_rfl
theorem over : Rows.checkLimitsRow.holds Tryz.pinned (OpenSpec.ofChange Rows.checkLimitsSpec) :=
  OpenClaim.holds_of_wide 3 Tryz.f3 rfl rfl rfl rfl rfl rfl rfl ⟨rfl, rfl, rfl, rfl, rfl⟩ rfl rfl rfl rfl rfl (by as_aux_lemma => kernel_rfl) Tryz.func3 joined
    (of_decide_eq_true (by as_aux_lemma => kernel_rfl)) (by unfold Func.isWrapper; first | (rw [if_pos (by decide +kernel)]; as_aux_lemma => kernel_rfl) | (rw [if_neg (by decide +kernel)]; exact ⟨rfl, rfl⟩))
    (fun os started H enc _ => lifted os started H enc)
end checkLimitsP

theorem checkLimits_holds : Rows.CheckLimitsCardSaid :=
  Claim7.holds_tied_plain_at .later [] [.data, .data] true (true, "1225cc20789e62159be9e5e81ae22fa05fcc836237764292bb13ce83f6746b76") false
    checkLimitsP.over (fun _ h => by cases h) (by as_aux_lemma => kernel_rfl) (fun _ h => by cases h) checkLimits_row_tie rfl ⟨rfl, rfl⟩ (by as_aux_lemma => kernel_rfl) rfl
    (fun f fn hf hfn => by
      obtain rfl : f = 3 := Option.some.inj ((show Tryz.prog.funcNamed Rows.checkLimitsRow.func = some 3 by as_aux_lemma => kernel_rfl).symm.trans hf) |>.symm
      obtain rfl : fn = Tryz.f3 := (Option.some.inj (Tryz.func3.symm.trans hfn)).symm
      exact ⟨by as_aux_lemma => kernel_rfl, fun j t ht => by
        rw [Tryz.params3] at ht
        rcases j with _ | _ | j
        · obtain rfl : t = 3 := by simpa using ht.symm
          exact (show Tryz.prog.wantsStandIn 3 = false by kernel_rfl)
        · obtain rfl : t = 3 := by simpa using ht.symm
          exact (show Tryz.prog.wantsStandIn 3 = false by kernel_rfl)
        · simp at ht⟩)
    (by as_aux_lemma => kernel_rfl)
#print axioms checkLimits_holds
end Go.Proofs.YtmphiefdoaihhaaGreatDoor
