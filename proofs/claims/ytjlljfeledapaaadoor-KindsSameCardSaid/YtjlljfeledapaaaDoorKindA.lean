/-
  The small functions of package kinds.
-/
import Derived.Test.YtjlljfeledapaaaDoorRows
import Derived.Test.YtjlljfeledapaaaDoorKindP
namespace Go.Proofs.YtjlljfeledapaaaDoor
open Go.RowKit

theorem found_some {o : Option Nat} {k : Nat} (h : o = some k) : found o = .tuple #[.int .i64 k, .bool true] := by subst h; rfl
theorem found_none {o : Option Nat} (h : o = none) : found o = .tuple #[.int .i64 0, .bool false] := by subst h; rfl

set_option maxHeartbeats 400000 in
theorem fieldnamed_any {w : World} {G : Nat → Prop} {A : Option Addr} {c : Nat} {fs : List Fld} (h : FldsP w G A c fs) (nm : ByteArray) :
    Calls Tryd.prog 29 #[.slice A fs.length c, .string nm] w fun e w' => Up w w' ∧ e = .returned (found (fldIdx fs nm)) := by
  have H := Lib.hid h
  have hl := h.le
  have hb := h.big
  clear h
  go_enter Tryd.func29, Tryd.ntmps29
  go_wp2_with fail
  go_loopw [10] (fun i wr => ∃ k : Nat, k ≤ fs.length ∧ i = .int .i64 k ∧ Hid (Up w wr ∧ ∀ j, j < k → ∀ hj : j < fs.length, sB fs[j].name nm = false)) (fun i _ => fs.length - (intOf i).toNat)
  case atStart => exact ⟨0, Nat.zero_le _, rfl, Lib.hid ⟨Fr.refl _ _, fun _ h => absurd h (Nat.not_lt_zero _)⟩⟩
  case round =>
    obtain ⟨k, hk, rfl, hm⟩ := hrel
    by_cases hlt : k < fs.length
    · obtain ⟨b, o, rfl, _, c0, c1⟩ := (FldsP.kept H.out hm.out.1 (fun _ _ h => h) (fun _ h => h)).fld hlt
      obtain ⟨x, hx⟩ : ∃ x, x = fs[k].name := ⟨_, rfl⟩
      rw [← hx] at c0
      have Hx := Lib.hid hx
      clear hx
      go_wp2_with fail
      · have hs : (x.toList == nm.toList) = true := by assumption
        go_ret2
        exact ⟨hm.out.1.alloc _, congrArg Ending.returned (found_some (fldIdx_some hlt (fun j hj => hm.out.2 j hj (by omega)) (by rw [← Hx.out]; exact sB_of hs))).symm⟩
      · have hs : (x.toList == nm.toList) = false := by assumption
        have hn := Lib.hid (And.intro (hm.out.1.alloc (.cells #[.string x, .int .i64 fs[k].type] 49)) (below_next hm.out.2 (fun _ => by rw [← Hx.out]; exact sB_of hs)))
        clear hs
        go_roundw
        case rel => exact ⟨k + 1, by omega, by go_num, hn⟩
        case measure => simp [intOf]; omega
    · obtain rfl : k = fs.length := by omega
      go_wp2_with fail
      go_ret2
      exact ⟨hm.out.1, congrArg Ending.returned (found_none (fldIdx_none (fun j hj => hm.out.2 j hj hj))).symm⟩
set_option maxHeartbeats 400000 in
theorem methodnamed_any {w : World} {G : Nat → Prop} {A : Option Addr} {c : Nat} {fs : List Mth} (h : MthsP w G A c fs) (nm : ByteArray) :
    Calls Tryd.prog 25 #[.slice A fs.length c, .string nm] w fun e w' => Up w w' ∧ e = .returned (found (mthIdx fs nm)) := by
  have H := Lib.hid h
  have hl := h.le
  have hb := h.big
  clear h
  go_enter Tryd.func25, Tryd.ntmps25
  go_wp2_with fail
  go_loopw [10] (fun i wr => ∃ k : Nat, k ≤ fs.length ∧ i = .int .i64 k ∧ Hid (Up w wr ∧ ∀ j, j < k → ∀ hj : j < fs.length, sB fs[j].name nm = false)) (fun i _ => fs.length - (intOf i).toNat)
  case atStart => exact ⟨0, Nat.zero_le _, rfl, Lib.hid ⟨Fr.refl _ _, fun _ h => absurd h (Nat.not_lt_zero _)⟩⟩
  case round =>
    obtain ⟨k, hk, rfl, hm⟩ := hrel
    by_cases hlt : k < fs.length
    · obtain ⟨b, o, Ap, cp, rfl, _, _, c0, c1, c2, c3⟩ := (MthsP.kept H.out hm.out.1 (fun _ _ h => h) (fun _ h => h)).mth hlt
      obtain ⟨x, hx⟩ : ∃ x, x = fs[k].name := ⟨_, rfl⟩
      rw [← hx] at c0
      have Hx := Lib.hid hx
      clear hx
      go_wp2_with fail
      · have hs : (x.toList == nm.toList) = true := by assumption
        go_ret2
        exact ⟨hm.out.1.alloc _, congrArg Ending.returned (found_some (mthIdx_some hlt (fun j hj => hm.out.2 j hj (by omega)) (by rw [← Hx.out]; exact sB_of hs))).symm⟩
      · have hs : (x.toList == nm.toList) = false := by assumption
        have hn := Lib.hid (And.intro (hm.out.1.alloc (.cells #[.string x, .slice Ap fs[k].params.length cp, .int .i64 fs[k].result, .int .i64 fs[k].func] 38)) (below_next hm.out.2 (fun _ => by rw [← Hx.out]; exact sB_of hs)))
        clear hs
        go_roundw
        case rel => exact ⟨k + 1, by omega, by go_num, hn⟩
        case measure => simp [intOf]; omega
    · obtain rfl : k = fs.length := by omega
      go_wp2_with fail
      go_ret2
      exact ⟨hm.out.1, congrArg Ending.returned (found_none (mthIdx_none (fun j hj => hm.out.2 j hj hj))).symm⟩

theorem istype_any {w : World} (A : Option Addr) (n c : Nat) (t : Int) (hn : n ≤ 9223372036854775807) (b : Bool) (hb : isTypeB n t = b) :
    Calls Tryd.prog 26 #[.slice A n c, .int .i64 t] w fun e w' => w = w' ∧ e = .returned (.bool b) := by
  cases b
  · rcases isType_off hb with h | h
    · clear hb
      go_enter Tryd.func26, Tryd.ntmps26
      go_wp2_with fail
      go_ret
      exact ⟨rfl, rfl⟩
    · have hd : decide (t < (n : Int)) = false := by simpa using h
      clear hb
      go_enter Tryd.func26, Tryd.ntmps26
      go_wp2_with fail
      all_goals go_ret
      all_goals exact ⟨rfl, rfl⟩
  · obtain ⟨k, hk, rfl⟩ := isType_out hb
    clear hb
    go_enter Tryd.func26, Tryd.ntmps26
    go_wp2_with fail
    go_ret
    exact ⟨rfl, rfl⟩

set_option maxHeartbeats 400000 in
theorem iskind_any {w : World} {G : Nat → Prop} {A : Option Addr} {c : Nat} {ts : List Typ} (h : TypsP w G A c ts) (t k : Int) (b : Bool) (hb : isKindB ts t k = b) :
    Calls Tryd.prog 24 #[.slice A ts.length c, .int .i64 t, .int .i64 k] w fun e w' => w = w' ∧ e = .returned (.bool b) := by
  have hl := h.le
  have hc := h.big
  cases ht : isTypeB ts.length t
  · have e : b = false := by rw [← hb]; unfold isKindB; rw [ht]; rfl
    subst e
    have H := Lib.hid h
    have Ht := Lib.hid ht
    clear h ht hb
    go_enter Tryd.func24, Tryd.ntmps24
    go_wp2_with (go_at_call 26; refine (istype_any _ _ _ t (by omega) false Ht.out).mono ?_; rintro e w' ⟨rfl, rfl⟩)
    go_ret
    exact ⟨rfl, rfl⟩
  · obtain ⟨j, hj, rfl⟩ := isType_out ht
    obtain ⟨bb, o, Af, cf, Am, cm, rfl, _, _, _, c0, _⟩ := h.typ hj
    have e : (ts[j].kind == k) = b := by rw [← hb]; unfold isKindB; rw [ht, typ_at hj]; rfl
    have E := Lib.hid e
    have Ht := Lib.hid ht
    have H := Lib.hid h
    clear h ht hb e
    go_enter Tryd.func24, Tryd.ntmps24
    go_wp2_with (go_at_call 26; refine (istype_any _ _ _ _ (by omega) true Ht.out).mono ?_; rintro e w' ⟨rfl, rfl⟩)
    go_ret
    exact ⟨rfl, by rw [← E.out]; rfl⟩

theorem maybenil_any {w : World} (k : Int) : Calls Tryd.prog 27 #[.int .i64 k] w fun e w' => w = w' ∧ e = .returned (.bool (nilableB k)) := by
  by_cases h5 : k = 5
  · subst h5
    go_enter Tryd.func27, Tryd.ntmps27
    go_wp2_with fail
    go_ret
    exact ⟨rfl, rfl⟩
  · by_cases h6 : k = 6
    · subst h6
      go_enter Tryd.func27, Tryd.ntmps27
      go_wp2_with fail
      go_ret
      exact ⟨rfl, rfl⟩
    · have e : nilableB k = (k == 7) := by simp [nilableB, h5, h6]
      rw [e]
      have b5 : (k == 5) = false := by simpa using h5
      have b6 : (k == 6) = false := by simpa using h6
      clear e h5 h6
      go_enter Tryd.func27, Tryd.ntmps27
      go_wp2_with fail
      go_ret
      exact ⟨rfl, rfl⟩

theorem isvalue_any {w : World} (A : Option Addr) (n c : Nat) (t : Int) (hn : n ≤ 9223372036854775807) :
    Calls Tryd.prog 36 #[.slice A n c, .int .i64 t] w fun e w' => w = w' ∧ e = .returned (.bool (isValueB n t)) := by
  cases ht : isTypeB n t
  · have e : isValueB n t = false := by unfold isValueB; rw [ht]; rfl
    rw [e]
    have Ht := Lib.hid ht
    clear ht e
    go_enter Tryd.func36, Tryd.ntmps36
    go_wp2_with (go_at_call 26; refine (istype_any _ _ _ t hn false Ht.out).mono ?_; rintro e w' ⟨rfl, rfl⟩)
    go_ret
    exact ⟨rfl, rfl⟩
  · have e : isValueB n t = (t != 0 && t != 4) := by unfold isValueB; rw [ht]; rfl
    rw [e]
    have Ht := Lib.hid ht
    clear ht e
    by_cases h0 : t = 0
    · subst h0
      go_enter Tryd.func36, Tryd.ntmps36
      go_wp2_with (go_at_call 26; refine (istype_any _ _ _ _ hn true Ht.out).mono ?_; rintro e w' ⟨rfl, rfl⟩)
      go_ret
      exact ⟨rfl, rfl⟩
    · have b0 : (t != 0) = true := by simpa using h0
      have b1 : (t == 0) = false := by simpa using h0
      have e : (t != 0 && t != 4) = (t != 4) := by rw [b0]; rfl
      rw [e]
      clear h0 e
      go_enter Tryd.func36, Tryd.ntmps36
      go_wp2_with (go_at_call 26; refine (istype_any _ _ _ _ hn true Ht.out).mono ?_; rintro e w' ⟨rfl, rfl⟩)
      go_ret
      exact ⟨rfl, rfl⟩

theorem rightfunc_any {w : World} (k f : Int) : Calls Tryd.prog 46 #[.int .i64 k, .int .i64 f] w fun e w' => w = w' ∧ e = .returned (.bool (rightFuncB k f)) := by
  by_cases h : k = 7
  · have e : rightFuncB k f = (f == -1) := by unfold rightFuncB; rw [if_pos h]
    rw [e]
    subst h
    clear e
    go_enter Tryd.func46, Tryd.ntmps46
    go_wp2_with fail
    go_ret
    exact ⟨rfl, rfl⟩
  · have e : rightFuncB k f = decide (0 ≤ f) := by unfold rightFuncB; rw [if_neg h]
    rw [e]
    have b0 : (k == 7) = false := by simpa using h
    clear e h
    go_enter Tryd.func46, Tryd.ntmps46
    go_wp2_with fail
    go_ret
    exact ⟨rfl, rfl⟩
end Go.Proofs.YtjlljfeledapaaaDoor
