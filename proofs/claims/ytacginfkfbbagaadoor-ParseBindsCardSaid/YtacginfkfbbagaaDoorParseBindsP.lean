/-
  Proved: ParseBinds returns true for every input. Conditions: the package variables that the row lists hold what the program's text lays into them (the card ties them to it).
-/
import Derived.Test.YtacginfkfbbagaaDoorRows
import Derived.Test.YtacginfkfbbagaaDoorCards
import Derived.Test.YtacginfkfbbagaaDoorTie
import Derived.Test.YtacginfkfbbagaaDoorParseBindsE0
import Derived.Test.YtacginfkfbbagaaDoorParseBindsE1
import Derived.Test.YtacginfkfbbagaaDoorParseBindsE2
import Derived.Test.YtacginfkfbbagaaDoorParseBindsE3
import Derived.Test.YtacginfkfbbagaaDoorParseBindsE4
import Derived.Test.YtacginfkfbbagaaDoorParseBindsE5
import Derived.Test.YtacginfkfbbagaaDoorParseBindsE6
import Derived.WalkKit
import Derived.ProofKit
import Derived.OpenShut
import Derived.ShutString
import Derived.ChangeOld
import Derived.ChangeVars
import Derived.Below
import Derived.ChangeMaps5
import Derived.ChangeSlices
import Derived.Lay
import Derived.LaidLaws
import Derived.MakeChecks
import Derived.SevenTiedAt
namespace Go.Proofs.YtacginfkfbbagaaDoor
namespace parseBindsE
open Go.RowKit
theorem mem7 : ∀ {i : Nat}, i < 7 → i ∈ [0, 1, 2, 3, 4, 5, 6] := by
  intro i h
  rcases i with _ | _ | _ | _ | _ | _ | _ | i
  · decide
  · decide
  · decide
  · decide
  · decide
  · decide
  · decide
  · omega
theorem runs : ∀ i0, i0 < 7 → ∀ i1 ∈ [0, 1, 2, 3, 4, 5, 6], case i0 i1 = true := by
  intro i0 h
  rcases i0 with _ | _ | _ | _ | _ | _ | _ | i0
  · exact fun i1 hi1 => allB_spec (run0) i1 hi1
  · exact fun i1 hi1 => allB_spec (run1) i1 hi1
  · exact fun i1 hi1 => allB_spec (run2) i1 hi1
  · exact fun i1 hi1 => allB_spec (run3) i1 hi1
  · exact fun i1 hi1 => allB_spec (run4) i1 hi1
  · exact fun i1 hi1 => allB_spec (run5) i1 hi1
  · exact fun i1 hi1 => allB_spec (run6) i1 hi1
  · omega
theorem any (z0 : Int) (z1 : Int) {w : World} (hw : ∀ x ∈ ks, w.rangeAt x.1 0 x.2) : Calls Tryd.prog 4 #[.int .i64 z0, .int .i64 z1] w fun e w' => e = .returned (.bool true) ∧ Up w w' := by
  obtain ⟨i0, e0, l0⟩ : ∃ i : Nat, z0 % 7 = i ∧ i < 7 := ⟨(z0 % 7).toNat, by omega, by omega⟩
  obtain ⟨i1, e1, l1⟩ : ∃ i : Nat, z1 % 7 = i ∧ i < 7 := ⟨(z1 % 7).toNat, by omega, by omega⟩
  refine evu_run (ng := 3) (m := 2) (zs := [z0, z1]) (hs := [8]) (tb := tb i0 i1) rtab_ok names_ok (by kernel_rfl) rfl (by decide) (ksB_spec (by decide +kernel)) (fun g hg w hw => ?_) (fun e he => ?_) hw (VL.cons (.num _ z0 (rhoN_num (ng := 3) (i := 0) rfl)) (VL.cons (.num _ z1 (rhoN_num (ng := 3) (i := 1) rfl)) VL.nil)) (runs i0 l0 _ (mem7 l1))
  · obtain rfl := List.mem_singleton.1 hg
    exact known hw
  · simp only [tb, List.mem_cons, List.not_mem_nil, or_false] at he
    rcases he with rfl | rfl
    · refine ⟨rfl, fun ρ w l' h hl => ?_⟩
      have := pick_hook (w := w) (i := 0) (z := z0) (m := 7) h rfl hl (by omega) (by omega)
      rw [e0] at this
      exact this
    · refine ⟨rfl, fun ρ w l' h hl => ?_⟩
      have := pick_hook (w := w) (i := 1) (z := z1) (m := 7) h rfl hl (by omega) (by omega)
      rw [e1] at this
      exact this
end parseBindsE
namespace parseBindsP
open Go.ChangeShapes Go.WideShapes Go.ChangeAt Go.RowKit
set_option linter.unusedVariables false

theorem own : ownKnob Tryd.prog.godebug = none := by kernel_rfl

abbrev laid : List (String × DataW Unit) := Rows.parseBindsRow.laid

set_option maxRecDepth 100000 in
theorem lifted (os : Os) (started : os.Started) (H : Type) (enc : TypeId × Value → H) :
    ReturnsInHanded {} Tryd.checked os 4 .any (fun w args => (Rows.parseBindsSpec.pre enc Tryd.prog Tryd.f4 [] false w args ∧ laidMetH Tryd.prog laid w) ∧ sizedMet enc Tryd.prog Tryd.f4 (OpenSpec.ofChange Rows.parseBindsSpec) false w args)
      (Rows.parseBindsSpec.post enc Tryd.prog Tryd.f4 false true false false) := by
  refine returnsInHanded_of_change_and (C := Tryd.checked) (X := fun w _ => laidMetH Tryd.prog laid w) (fun _ _ _ hh h => h.of_heap hh) own started (by kernel_rfl) Tryd.func4
    (ChangeSpec.witness_shaped (enc := enc) (C := Tryd.checked) (os := os) (X := fun w _ => laidMetH Tryd.prog laid w) false (World.laidAll Tryd.prog os laid) #[.int .i64 0, .int .i64 0] 8 (World.laidAll_os _ _ _)
      (World.shaped_of_ZipB (by kernel_rfl) (by kernel_rfl)) (by kernel_rfl) (by kernel_rfl) (by kernel_rfl)
      (by rw [MakeChecks.laidMetH_plain _ _ _ (by kernel_rfl)]; exact laidMet_laidAll _ (by kernel_rfl) (by kernel_rfl))) ?_
  intro W base args ds gs before hval0 hW _ _ hL _
  have hW' := hW
  obtain ⟨p, q, hA0, hV, rfl, hfz, hnd⟩ := hW
  have hA : DataW.TrodAll enc Tryd.prog W 0 (fun _ => true) true Tryd.f4.params.toList args.toList ds p := hA0
  have hval : ∀ (j : Nat) t v, Tryd.f4.params[j]? = some t → args[j]? = some v → Value.okWide Tryd.prog W .any base t v := hval0
  rw [Tryd.params4] at hA hval
  obtain ⟨v0, vs0, d0, ds0, p0, q0, hargs, rfl, rfl, h0, r0⟩ := trodAll_cons hA
  obtain ⟨v1, vs1, d1, ds1, p1, q1, rfl, rfl, rfl, h1, r1⟩ := trodAll_cons r0
  obtain ⟨rfl, rfl, rfl⟩ := trodAll_nil r1
  obtain rfl : args = #[v0, v1] := by cases args; simp_all
  obtain ⟨rfl, rfl⟩ := trodVars_none hV
  obtain ⟨a0, rfl, rfl, rfl, w0⟩ := open_int Tryd.underlying3 (hval 0 3 v0 rfl rfl) h0
  obtain ⟨a1, rfl, rfl, rfl, w1⟩ := open_int Tryd.underlying3 (hval 1 3 v1 rfl rfl) h1
  clear hA0 hval0
  rw [MakeChecks.laidMetH_plain _ _ _ (by kernel_rfl)] at hL
  have L := parseBindsE.laid_ks hL (List.Mem.head _) (List.Mem.tail _ (List.Mem.head _))
  refine (parseBindsE.any a0 a1 L).mono fun e W' ⟨he, hf⟩ => ?_
  subst he
  have bel : Below W.heap.size W W' := hf.below (Nat.le_refl _) (fun _ _ h => h)
  exact ⟨_, rfl, _, _, _, [], _, [], hW', trodAll_mk1 (shut_bool Tryd.underlying4 _), (trodAll_cons_mk (shut_int Tryd.underlying3 w0) (trodAll_cons_mk (shut_int Tryd.underlying3 w1) trodAll_mk0)), rfl, bel.frame _, fun h => by cases h⟩

theorem over : Rows.parseBindsRow.holds Tryd.pinned (OpenSpec.ofChange Rows.parseBindsSpec) :=
  OpenClaim.holds_of_wide 4 Tryd.f4 rfl rfl rfl rfl rfl rfl rfl ⟨rfl, rfl, rfl, rfl, rfl⟩ rfl rfl rfl rfl rfl (by kernel_rfl) Tryd.func4 (by kernel_rfl)
    (of_decide_eq_true (by kernel_rfl)) (by unfold Func.isWrapper; first | (rw [if_pos (by decide +kernel)]; kernel_rfl) | (rw [if_neg (by decide +kernel)]; exact ⟨rfl, rfl⟩))
    (fun os started H enc _ => lifted os started H enc)
end parseBindsP

theorem parseBinds_holds : Rows.ParseBindsCardSaid :=
  Claim7.holds_tied_plain_at .later [] [.data, .data] true (true, "c6216b9078c6b20585aef719fdef23c5e0a54979d2337b4088e6edd2a561adf3") false
    parseBindsP.over (fun _ h => by cases h) (by kernel_rfl) (fun _ h => by cases h) parseBinds_row_tie rfl ⟨rfl, rfl⟩ (by kernel_rfl) rfl
    (fun f fn hf hfn => by
      obtain rfl : f = 4 := Option.some.inj ((show Tryd.prog.funcNamed Rows.parseBindsRow.func = some 4 by kernel_rfl).symm.trans hf) |>.symm
      obtain rfl : fn = Tryd.f4 := (Option.some.inj (Tryd.func4.symm.trans hfn)).symm
      exact ⟨by kernel_rfl, fun j t ht => by
        rw [Tryd.params4] at ht
        rcases j with _ | _ | j
        · obtain rfl : t = 3 := by simpa using ht.symm
          exact (show Tryd.prog.wantsStandIn 3 = false by kernel_rfl)
        · obtain rfl : t = 3 := by simpa using ht.symm
          exact (show Tryd.prog.wantsStandIn 3 = false by kernel_rfl)
        · simp at ht⟩)
    (by kernel_rfl)
#print axioms parseBinds_holds
end Go.Proofs.YtacginfkfbbagaaDoor
