/-
  Has, Fits, IsRef's kin, Field, Method, plainName.
-/
import Derived.Test.YtjlljfeledapaaaDoorKindB
import Derived.StillTailTactics
import Derived.Deep.RegionHeld3
namespace Go.Proofs.YtjlljfeledapaaaDoor
open Go.RowKit

/-- The cells of a block that the call has just made. -/
theorem new_cells {w wr : World} {t : TypeId} {cs : Array Value} (h : Up (w.alloc (.cells cs t)) wr) (i : Nat) (u : Value) (hi : cs[i]? = some u) : wr.cell? ⟨w.heap.size, i, none⟩ = some u := by
  rw [h.cell (p := ⟨w.heap.size, i, none⟩) (by simp) (fun h => h), cell_of_row _ _ _ _ _ _ (heap_alloc_new w _)]
  exact hi

/-- A new block, under a name of its own. -/
theorem name_new (w : World) (t : TypeId) (cs : Array Value) : ∃ w1, w1 = w.alloc (.cells cs t) ∧ Up w w1 ∧ ∀ i u, cs[i]? = some u → w1.cell? ⟨w.heap.size, i, none⟩ = some u :=
  ⟨_, rfl, up_.alloc _, fun i u hi => new_cells up_ i u hi⟩

set_option maxHeartbeats 1000000 in
theorem has_any {w : World} {G : Nat → Prop} {A : Option Addr} {c : Nat} {ts : List Typ} (h : TypsP w G A c ts) (s f : Int) :
    Calls Tryd.prog 28 #[.slice A ts.length c, .int .i64 s, .int .i64 f] w fun e w' => Up w w' ∧ e = .returned (.bool (hasB ts s f)) := by
  have hl := h.le
  have hc := h.big
  cases hs : isKindB ts s 5
  · have e : hasB ts s f = false := by unfold hasB; rw [hs]; rfl
    rw [e]
    have H := Lib.hid h
    have Hs := Lib.hid hs
    clear h hs e
    go_enter Tryd.func28, Tryd.ntmps28
    go_wp2_with (go_at_call 24; refine (iskind_any H.out s 5 false Hs.out).mono ?_; rintro e w' ⟨rfl, rfl⟩)
    go_ret
    exact ⟨up_, rfl⟩
  · cases hf : isKindB ts f 7
    · have e : hasB ts s f = false := by unfold hasB; rw [hs, hf]; rfl
      rw [e]
      have H := Lib.hid h
      have Hs := Lib.hid hs
      have Hf := Lib.hid hf
      clear h hs hf e
      go_enter Tryd.func28, Tryd.ntmps28
      go_wp2_with fail
      refine (iskind_any H.out s 5 true Hs.out).mono ?_
      rintro e w' ⟨rfl, rfl⟩
      go_wp2_with fail
      refine (iskind_any H.out f 7 false Hf.out).mono ?_
      rintro e w' ⟨rfl, rfl⟩
      go_wp2_with fail
      go_ret
      exact ⟨up_, rfl⟩
    · have e : hasB ts s f = (typ ts f).methods.all (offersB (typ ts s).methods) := by unfold hasB; rw [hs, hf]; rfl
      rw [e]
      have hs' : isTypeB ts.length s = true := isKind_type hs
      have hf' : isTypeB ts.length f = true := isKind_type hf
      obtain ⟨i, hi, rfl⟩ := isType_out hs'
      obtain ⟨j, hj, rfl⟩ := isType_out hf'
      rw [typ_at hi, typ_at hj]
      obtain ⟨b, o, Af, cf, Am, cm, rfl, _, _, hm1, _, _, _, _, p4⟩ := h.typ hi
      obtain ⟨b', o', Af', cf', Am', cm', he, _, _, hm2, _, _, _, _, q4⟩ := h.typ hj
      simp only [Option.some.injEq, Addr.mk.injEq, and_true] at he
      obtain ⟨rfl, rfl⟩ := he
      have hml := hm2.le
      have hmb := hm2.big
      have M1 := Lib.hid hm1
      have M2 := Lib.hid hm2
      have H := Lib.hid h
      have Hs := Lib.hid hs
      have Hf := Lib.hid hf
      clear h hs hf e hm1 hm2 hs' hf'
      obtain ⟨ms, hms⟩ : ∃ ms, ms = ts[j].methods := ⟨_, rfl⟩
      obtain ⟨xs, hxs⟩ : ∃ xs, xs = ts[i].methods := ⟨_, rfl⟩
      rw [← hms] at q4 M2 hml ⊢
      rw [← hxs] at p4 M1 ⊢
      clear hms hxs
      go_enter Tryd.func28, Tryd.ntmps28
      go_wp2_with fail
      refine (iskind_any H.out _ 5 true Hs.out).mono ?_
      rintro e w' ⟨rfl, rfl⟩
      go_wp2_with fail
      refine (iskind_any H.out _ 7 true Hf.out).mono ?_
      rintro e w' ⟨rfl, rfl⟩
      go_wp2_with fail
      go_loopw [25] (fun i wr => ∃ k : Nat, k ≤ ms.length ∧ i = .int .i64 k ∧ Hid (Up w wr ∧ ∀ j, j < k → ∀ (ha : j < ms.length), offersB xs ms[j] = true)) (fun i _ => ms.length - (intOf i).toNat)
      case atStart => exact ⟨0, Nat.zero_le _, rfl, Lib.hid ⟨Fr.refl _ _, fun _ h => absurd h (Nat.not_lt_zero _)⟩⟩
      case round =>
        obtain ⟨k, hk, rfl, hm⟩ := hrel
        by_cases hlt : k < ms.length
        · obtain ⟨b2, o2, Ap, cp, rfl, _, hp, c0, c1, c2, c3⟩ := (MthsP.kept M2.out hm.out.1 (fun _ _ h => h) (fun _ h => h)).mth hlt
          obtain ⟨x, hx⟩ : ∃ x, x = ms[k] := ⟨_, rfl⟩
          rw [← hx] at c0 c1 c2 c3 hp
          have Hx := Lib.hid hx
          have P := Lib.hid hp
          clear hx hp
          have r4 : wr.cell? ⟨b, o + i * 5 + 4, none⟩ = some (.slice Am xs.length cm) := (hm.out.1.cell (p := ⟨b, o + i * 5 + 4, none⟩) (World.block_lt_of_cell? w _ p4) (fun h => h)).trans p4
          clear p4 q4
          go_wp2_with fail
          obtain ⟨w1, hw1, u1, n⟩ := name_new wr 38 #[.string x.name, .slice Ap x.params.length cp, .int .i64 x.result, .int .i64 x.func]
          rw [← hw1]
          have n0 := n 0 _ rfl
          have n1 := n 1 _ rfl
          have n2 := n 2 _ rfl
          have n3 := n 3 _ rfl
          have s4 := (u1.cell (p := ⟨b, o + i * 5 + 4, none⟩) (World.block_lt_of_cell? wr _ r4) (fun h => h)).trans r4
          have U1 := Lib.hid u1
          clear n u1 hw1 r4 c0 c1 c2 c3
          go_still_tail 6, (by kernel_rfl)
          change wpList _ _ _ _ _ w1.drew
          have uD : Up w1 w1.drew := Fr.drew up_
          generalize w1.drew = w2 at uD
          have UD := Lib.hid uD
          clear uD
          go_wp2_with fail
          have UW := Lib.hid (Up.trans hm.out.1 (Up.trans U1.out UD.out))
          refine (offers_any (y := x) (MthsP.kept M1.out UW.out (fun _ _ h => h) (fun _ h => h)) (IntsP.kept P.out (Up.trans U1.out UD.out) (fun _ _ h => h) (fun _ h => h))).mono ?_
          rintro e w' ⟨hv, rfl⟩
          have Hv := Lib.hid (Up.trans UW.out hv)
          clear hv
          cases hb : offersB xs x
          · have Hb := Lib.hid hb
            clear hb
            go_wp2_with fail
            go_ret
            exact ⟨Hv.out, congrArg (fun b => Ending.returned (.bool b)) (all_no hlt (by rw [← Hx.out]; exact Hb.out)).symm⟩
          · have hn := Lib.hid (show ∀ j, j < k + 1 → ∀ (ha : j < ms.length), offersB xs ms[j] = true from below_next hm.out.2 (fun _ => by rw [← Hx.out]; exact hb))
            clear hb
            go_wp2_with fail
            go_roundw
            case rel => exact ⟨k + 1, by omega, by go_num, Lib.hid ⟨Hv.out, hn.out⟩⟩
            case measure => simp [intOf]; omega
        · obtain rfl : k = ms.length := by omega
          go_wp2_with fail
          go_ret
          exact ⟨hm.out.1, congrArg (fun b => Ending.returned (.bool b)) (all_yes (fun j hj => hm.out.2 j hj hj)).symm⟩

set_option maxHeartbeats 400000 in
theorem fits_any {w : World} {G : Nat → Prop} {A : Option Addr} {c : Nat} {ts : List Typ} (h : TypsP w G A c ts) (a b : Int) :
    Calls Tryd.prog 12 #[.slice A ts.length c, .int .i64 a, .int .i64 b] w fun e w' => Up w w' ∧ e = .returned (.bool (fitsB ts a b)) := by
  have hl := h.le
  have hc := h.big
  obtain ⟨r, hr⟩ : ∃ r, r = fitsB ts a b := ⟨_, rfl⟩
  rw [← hr]
  unfold fitsB at hr
  cases ha : isTypeB ts.length a
  · rw [ha] at hr
    simp only [Bool.false_and] at hr
    subst hr
    have Ha := Lib.hid ha
    clear h ha
    go_enter Tryd.func12, Tryd.ntmps12
    go_wp2_with fail
    refine (istype_any _ _ _ a (by omega) false Ha.out).mono ?_
    rintro e w' ⟨rfl, rfl⟩
    go_wp2_with fail
    go_ret
    exact ⟨up_, rfl⟩
  · cases hb : isTypeB ts.length b
    · rw [ha, hb] at hr
      simp only [Bool.false_and, Bool.and_false] at hr
      subst hr
      have Ha := Lib.hid ha
      have Hb := Lib.hid hb
      clear h ha hb
      go_enter Tryd.func12, Tryd.ntmps12
      go_wp2_with fail
      refine (istype_any _ _ _ a (by omega) true Ha.out).mono ?_
      rintro e w' ⟨rfl, rfl⟩
      go_wp2_with fail
      refine (istype_any _ _ _ b (by omega) false Hb.out).mono ?_
      rintro e w' ⟨rfl, rfl⟩
      go_wp2_with fail
      go_ret
      exact ⟨up_, rfl⟩
    · rw [ha, hb] at hr
      simp only [Bool.true_and] at hr
      obtain ⟨i, hi, rfl⟩ := isType_out ha
      obtain ⟨j, hj, rfl⟩ := isType_out hb
      rw [typ_at hi, typ_at hj] at hr
      obtain ⟨bb, o, Af, cf, Am, cm, rfl, _, _, _, p0, _, _, _, _⟩ := h.typ hi
      obtain ⟨b', o', Af', cf', Am', cm', he, _, _, _, q0, _, _, _, _⟩ := h.typ hj
      simp only [Option.some.injEq, Addr.mk.injEq, and_true] at he
      obtain ⟨rfl, rfl⟩ := he
      have Ha := Lib.hid ha
      have Hb := Lib.hid hb
      have H := Lib.hid h
      clear h ha hb
      obtain ⟨ki, hki⟩ : ∃ ki, ki = ts[i].kind := ⟨_, rfl⟩
      obtain ⟨kj, hkj⟩ : ∃ kj, kj = ts[j].kind := ⟨_, rfl⟩
      rw [← hki] at hr p0
      rw [← hkj] at hr q0
      clear hki hkj
      by_cases h4 : ki = 4
      · rw [if_pos h4] at hr
        have R := Lib.hid hr
        clear hr
        subst h4
        go_enter Tryd.func12, Tryd.ntmps12
        go_wp2_with fail
        refine (istype_any _ _ _ _ (by omega) true Ha.out).mono ?_
        rintro e w' ⟨rfl, rfl⟩
        go_wp2_with fail
        refine (istype_any _ _ _ _ (by omega) true Hb.out).mono ?_
        rintro e w' ⟨rfl, rfl⟩
        go_wp2_with fail
        refine (maybenil_any kj).mono ?_
        rintro e w' ⟨rfl, rfl⟩
        go_wp2_with fail
        go_ret
        exact ⟨up_, by rw [R.out]; rfl⟩
      · rw [if_neg h4] at hr
        have b4 : (ki == 4) = false := by simpa using h4
        clear h4
        by_cases hij : i = j
        · subst hij
          rw [if_pos rfl] at hr
          have R := Lib.hid hr
          clear hr q0
          go_enter Tryd.func12, Tryd.ntmps12
          go_wp2_with fail
          refine (istype_any _ _ _ _ (by omega) true Ha.out).mono ?_
          rintro e w' ⟨rfl, rfl⟩
          go_wp2_with fail
          refine (istype_any _ _ _ _ (by omega) true Hb.out).mono ?_
          rintro e w' ⟨rfl, rfl⟩
          go_wp2_with fail
          go_ret
          exact ⟨up_, by rw [R.out]; rfl⟩
        · have bij : ((i : Int) == (j : Int)) = false := beq_eq_false_iff_ne.2 (by omega)
          rw [if_neg (by omega)] at hr
          have R := Lib.hid hr
          clear hr hij
          go_enter Tryd.func12, Tryd.ntmps12
          go_wp2_with fail
          refine (istype_any _ _ _ _ (by omega) true Ha.out).mono ?_
          rintro e w' ⟨rfl, rfl⟩
          go_wp2_with fail
          refine (istype_any _ _ _ _ (by omega) true Hb.out).mono ?_
          rintro e w' ⟨rfl, rfl⟩
          go_wp2_with fail
          refine (has_any H.out _ _).mono ?_
          rintro e w' ⟨hu, rfl⟩
          have Hu := Lib.hid hu
          clear hu
          go_wp2_with fail
          go_ret
          exact ⟨Hu.out, by rw [R.out]; rfl⟩

def fieldOf (ts : List Typ) (t : Int) (nm : ByteArray) : Option Nat := if isKindB ts t 5 then fldIdx (typ ts t).fields nm else none
def methodOf (ts : List Typ) (t : Int) (nm : ByteArray) : Option Nat := if isKindB ts t 5 || isKindB ts t 7 then mthIdx (typ ts t).methods nm else none

set_option maxHeartbeats 400000 in
theorem field_any {w : World} {G : Nat → Prop} {A : Option Addr} {c : Nat} {ts : List Typ} (h : TypsP w G A c ts) (t : Int) (nm : ByteArray) :
    Calls Tryd.prog 16 #[.slice A ts.length c, .int .i64 t, .string nm] w fun e w' => Up w w' ∧ e = .returned (found (fieldOf ts t nm)) := by
  have hl := h.le
  have hc := h.big
  cases hs : isKindB ts t 5
  · have e : fieldOf ts t nm = none := by unfold fieldOf; rw [hs]; rfl
    rw [e]
    have H := Lib.hid h
    have Hs := Lib.hid hs
    clear h hs e
    go_enter Tryd.func16, Tryd.ntmps16
    go_wp2_with fail
    refine (iskind_any H.out t 5 false Hs.out).mono ?_
    rintro e w' ⟨rfl, rfl⟩
    go_wp2_with fail
    go_ret2
    exact ⟨up_, rfl⟩
  · obtain ⟨j, hj, rfl⟩ := isType_out (isKind_type hs)
    have e : fieldOf ts j nm = fldIdx ts[j].fields nm := by unfold fieldOf; rw [hs, typ_at hj]; rfl
    rw [e]
    obtain ⟨b, o, Af, cf, Am, cm, rfl, _, hf, _, _, _, _, p3, _⟩ := h.typ hj
    have F := Lib.hid hf
    have H := Lib.hid h
    have Hs := Lib.hid hs
    clear h hs e hf
    obtain ⟨fs, hfs⟩ : ∃ fs, fs = ts[j].fields := ⟨_, rfl⟩
    rw [← hfs] at p3 F ⊢
    clear hfs
    go_enter Tryd.func16, Tryd.ntmps16
    go_wp2_with fail
    refine (iskind_any H.out _ 5 true Hs.out).mono ?_
    rintro e w' ⟨rfl, rfl⟩
    go_wp2_with fail
    refine (fieldnamed_any F.out nm).mono ?_
    rintro e w' ⟨hu, rfl⟩
    have Hu := Lib.hid hu
    clear hu
    unfold found
    go_wp2_with fail
    go_ret2
    exact ⟨Hu.out, rfl⟩

set_option maxHeartbeats 400000 in
theorem method_any {w : World} {G : Nat → Prop} {A : Option Addr} {c : Nat} {ts : List Typ} (h : TypsP w G A c ts) (t : Int) (nm : ByteArray) :
    Calls Tryd.prog 11 #[.slice A ts.length c, .int .i64 t, .string nm] w fun e w' => Up w w' ∧ e = .returned (found (methodOf ts t nm)) := by
  have hl := h.le
  have hc := h.big
  have fin : ∀ j (hj : j < ts.length) (_ : (isKindB ts j 5 || isKindB ts j 7) = true), methodOf ts j nm = mthIdx ts[j].methods nm := by
    intro j hj hs
    unfold methodOf; rw [hs, typ_at hj]; rfl
  cases hs : isKindB ts t 5
  · cases h7 : isKindB ts t 7
    · have e : methodOf ts t nm = none := by unfold methodOf; rw [hs, h7]; rfl
      rw [e]
      have H := Lib.hid h
      have Hs := Lib.hid hs
      have H7 := Lib.hid h7
      clear h hs h7 e fin
      go_enter Tryd.func11, Tryd.ntmps11
      go_wp2_with fail
      refine (iskind_any H.out t 5 false Hs.out).mono ?_
      rintro e w' ⟨rfl, rfl⟩
      go_wp2_with fail
      refine (iskind_any H.out t 7 false H7.out).mono ?_
      rintro e w' ⟨rfl, rfl⟩
      go_wp2_with fail
      go_ret2
      exact ⟨up_, rfl⟩
    · obtain ⟨j, hj, rfl⟩ := isType_out (isKind_type h7)
      rw [fin j hj (by rw [h7, Bool.or_true])]
      obtain ⟨b, o, Af, cf, Am, cm, rfl, _, _, hf, _, _, _, _, p3⟩ := h.typ hj
      have F := Lib.hid hf
      have H := Lib.hid h
      have Hs := Lib.hid hs
      have H7 := Lib.hid h7
      clear h hs h7 hf fin
      obtain ⟨fs, hfs⟩ : ∃ fs, fs = ts[j].methods := ⟨_, rfl⟩
      rw [← hfs] at p3 F ⊢
      clear hfs
      go_enter Tryd.func11, Tryd.ntmps11
      go_wp2_with fail
      refine (iskind_any H.out _ 5 false Hs.out).mono ?_
      rintro e w' ⟨rfl, rfl⟩
      go_wp2_with fail
      refine (iskind_any H.out _ 7 true H7.out).mono ?_
      rintro e w' ⟨rfl, rfl⟩
      go_wp2_with fail
      refine (methodnamed_any F.out nm).mono ?_
      rintro e w' ⟨hu, rfl⟩
      have Hu := Lib.hid hu
      clear hu
      unfold found
      go_wp2_with fail
      go_ret2
      exact ⟨Hu.out, rfl⟩
  · obtain ⟨j, hj, rfl⟩ := isType_out (isKind_type hs)
    rw [fin j hj (by rw [hs, Bool.true_or])]
    obtain ⟨b, o, Af, cf, Am, cm, rfl, _, _, hf, _, _, _, _, p3⟩ := h.typ hj
    have F := Lib.hid hf
    have H := Lib.hid h
    have Hs := Lib.hid hs
    clear h hs hf fin
    obtain ⟨fs, hfs⟩ : ∃ fs, fs = ts[j].methods := ⟨_, rfl⟩
    rw [← hfs] at p3 F ⊢
    clear hfs
    go_enter Tryd.func11, Tryd.ntmps11
    go_wp2_with fail
    refine (iskind_any H.out _ 5 true Hs.out).mono ?_
    rintro e w' ⟨rfl, rfl⟩
    go_wp2_with fail
    refine (methodnamed_any F.out nm).mono ?_
    rintro e w' ⟨hu, rfl⟩
    have Hu := Lib.hid hu
    clear hu
    unfold found
    go_wp2_with fail
    go_ret2
    exact ⟨Hu.out, rfl⟩

set_option maxHeartbeats 400000 in
theorem plain_any {w : World} {G : Nat → Prop} {A : Option Addr} {c : Nat} {ts : List Typ} (h : TypsP w G A c ts) (t : Int) :
    Calls Tryd.prog 31 #[.slice A ts.length c, .int .i64 t] w fun e w' => w = w' ∧ e = .returned (.string (plainOf ts t)) := by
  have hl := h.le
  have hc := h.big
  obtain ⟨r, hr⟩ : ∃ r, r = plainOf ts t := ⟨_, rfl⟩
  rw [← hr]
  unfold plainOf at hr
  cases ha : isTypeB ts.length t
  · rw [ha] at hr
    simp only [Bool.false_and] at hr
    subst hr
    have Ha := Lib.hid ha
    clear h ha
    go_enter Tryd.func31, Tryd.ntmps31
    go_wp2_with fail
    refine (istype_any _ _ _ t (by omega) false Ha.out).mono ?_
    rintro e w' ⟨rfl, rfl⟩
    go_wp2_with fail
    go_ret
    exact ⟨rfl, rfl⟩
  · obtain ⟨i, hi, rfl⟩ := isType_out ha
    rw [ha, typ_at hi] at hr
    obtain ⟨bb, o, Af, cf, Am, cm, rfl, _, _, _, p0, p1, _, _, _⟩ := h.typ hi
    have Ha := Lib.hid ha
    clear h ha
    by_cases h6 : ts[i].kind = 6
    · have b6 : (ts[i].kind == 6) = true := by simpa using h6
      rw [h6] at hr
      simp at hr
      subst hr
      rw [h6] at p0
      clear h6 b6
      go_enter Tryd.func31, Tryd.ntmps31
      go_wp2_with fail
      refine (istype_any _ _ _ _ (by omega) true Ha.out).mono ?_
      rintro e w' ⟨rfl, rfl⟩
      go_wp2_with fail
      go_ret
      exact ⟨rfl, rfl⟩
    · have b6 : (ts[i].kind == 6) = false := by simpa using h6
      have c6 : (ts[i].kind != 6) = true := by simpa using h6
      rw [c6] at hr
      have R := Lib.hid (show r = ts[i].name by rw [hr]; rfl)
      clear hr h6 c6
      go_enter Tryd.func31, Tryd.ntmps31
      go_wp2_with fail
      refine (istype_any _ _ _ _ (by omega) true Ha.out).mono ?_
      rintro e w' ⟨rfl, rfl⟩
      go_wp2_with fail
      go_ret
      exact ⟨rfl, by rw [R.out]; rfl⟩
end Go.Proofs.YtjlljfeledapaaaDoor
