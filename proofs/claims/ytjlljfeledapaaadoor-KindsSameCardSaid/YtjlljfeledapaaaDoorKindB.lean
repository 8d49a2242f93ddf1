/-
  Methods, what has what, what fits.
-/
import Derived.Test.YtjlljfeledapaaaDoorKindA
namespace Go.Proofs.YtjlljfeledapaaaDoor
open Go.RowKit

theorem Fr.drewN {S : Nat → Prop} {a b : World} (h : Fr S a b) (n : Nat) : Fr S a (b.drewN n) := ⟨h.os, h.tape, h.output, h.size, h.block⟩
theorem up_ {w : World} : Up w w := Fr.refl _ _
theorem Up.trans {a b c : World} (h : Up a b) (k : Up b c) : Up a c := Fr.trans h k (fun _ _ h => h)

set_option maxHeartbeats 400000 in
theorem samenumbers_any {w : World} {G G' : Nat → Prop} {A A' : Option Addr} {c c' : Nat} {xs ys : List Int} (h : IntsP w G A c xs) (h' : IntsP w G' A' c' ys) :
    Calls Tryd.prog 44 #[.slice A xs.length c, .slice A' ys.length c'] w fun e w' => Up w w' ∧ e = .returned (.bool (sameIntsB xs ys)) := by
  have hl := h.le
  have hb := h.big
  have hl' := h'.le
  have hb' := h'.big
  by_cases he : xs.length = ys.length
  · have hq := Lib.hid (sameInts_same2 xs ys)
    rw [← he]
    have H := Lib.hid h
    have H' := Lib.hid h'
    have He := Lib.hid he
    clear h h' he hl' hb'
    go_enter Tryd.func44, Tryd.ntmps44
    go_wp2_with fail
    go_loopw [13] (fun i wr => ∃ k : Nat, k ≤ xs.length ∧ i = .int .i64 k ∧ Hid (Up w wr ∧ ∀ j, j < k → ∀ (ha : j < xs.length) (hb : j < ys.length), (xs[j] == ys[j]) = true)) (fun i _ => xs.length - (intOf i).toNat)
    case atStart => exact ⟨0, Nat.zero_le _, rfl, Lib.hid ⟨Fr.refl _ _, fun _ h => absurd h (Nat.not_lt_zero _)⟩⟩
    case round =>
      obtain ⟨k, hk, rfl, hm⟩ := hrel
      by_cases hlt : k < xs.length
      · have hlt' : k < ys.length := by have := He.out; omega
        obtain ⟨b, o, rfl, _, c0⟩ := (IntsP.kept H.out hm.out.1 (fun _ _ h => h) (fun _ h => h)).int hlt
        obtain ⟨b', o', rfl, _, c1⟩ := (IntsP.kept H'.out hm.out.1 (fun _ _ h => h) (fun _ h => h)).int hlt'
        obtain ⟨x, hx⟩ : ∃ x, x = xs[k] := ⟨_, rfl⟩
        obtain ⟨y, hy⟩ : ∃ y, y = ys[k] := ⟨_, rfl⟩
        rw [← hx] at c0
        rw [← hy] at c1
        have Hx := Lib.hid hx
        have Hy := Lib.hid hy
        clear hx hy
        by_cases hxy : x = y
        · have hn := Lib.hid (show ∀ j, j < k + 1 → ∀ (ha : j < xs.length) (hb : j < ys.length), (xs[j] == ys[j]) = true from below_next hm.out.2 (fun _ _ => by rw [← Hx.out, ← Hy.out]; simpa using hxy))
          subst hxy
          go_wp2_with fail
          go_quiet (fail)
          go_wp2_with fail
          go_roundw
          case rel => exact ⟨k + 1, by omega, by go_num, Lib.hid ⟨Fr.drewN hm.out.1 _, hn.out⟩⟩
          case measure => simp [intOf]; omega
        · have b1 : (x == y) = false := by simpa using hxy
          have b2 : (x != y) = true := by simpa using hxy
          clear hxy
          have B1 := Lib.hid b1
          go_wp2_with fail
          go_quiet (fail)
          go_wp2_with fail
          go_ret
          exact ⟨Fr.drewN hm.out.1 _, congrArg (fun b => Ending.returned (.bool b)) (by rw [hq.out]; exact (same2_no hlt hlt' (by rw [← Hx.out, ← Hy.out]; exact B1.out)).symm)⟩
      · go_wp2_with fail
        go_ret
        exact ⟨hm.out.1, congrArg (fun b => Ending.returned (.bool b)) (by rw [hq.out]; exact (same2_yes He.out (fun j ha hb => hm.out.2 j (by omega) ha hb)).symm)⟩
  · have e : sameIntsB xs ys = false := by rw [sameInts_same2]; exact same2_no_len he
    rw [e]
    have hn : ((xs.length : Int) != (ys.length : Int)) = true := by simp; omega
    have hn2 : ((xs.length : Int) == (ys.length : Int)) = false := by simp; omega
    clear e he h h'
    go_enter Tryd.func44, Tryd.ntmps44
    go_wp2_with fail
    go_ret
    exact ⟨up_, rfl⟩

set_option maxHeartbeats 400000 in
theorem samecall_any {w : World} {G G' : Nat → Prop} {A A' : Option Addr} {c c' : Nat} {x y : Mth} (h : IntsP w G A c x.params) (h' : IntsP w G' A' c' y.params) :
    Calls Tryd.prog 32 #[.agg #[.string x.name, .slice A x.params.length c, .int .i64 x.result, .int .i64 x.func], .agg #[.string y.name, .slice A' y.params.length c', .int .i64 y.result, .int .i64 y.func]] w
      fun e w' => Up w w' ∧ e = .returned (.bool (callB x y)) := by
  have H := Lib.hid h
  have H' := Lib.hid h'
  obtain ⟨xn, xp, xr, xf⟩ := x
  obtain ⟨yn, yp, yr, yf⟩ := y
  obtain ⟨r, hr⟩ : ∃ r, r = callB ⟨xn, xp, xr, xf⟩ ⟨yn, yp, yr, yf⟩ := ⟨_, rfl⟩
  rw [← hr]
  have e : r = (sB xn yn && xr == yr && sameIntsB xp yp) := hr
  cases hs : sB xn yn
  · have hn : (xn.toList == yn.toList) = false := by rw [sB_eq]; exact hs
    have E : r = false := by rw [e, hs]; rfl
    subst E
    clear h h' hr e hs
    go_enter Tryd.func32, Tryd.ntmps32
    go_wp2_with fail
    go_ret
    exact ⟨(up_.alloc _).alloc _, rfl⟩
  · have hn : (xn.toList == yn.toList) = true := by rw [sB_eq]; exact hs
    by_cases hxy : xr = yr
    · have E := Lib.hid (show r = sameIntsB xp yp by rw [e, hs, hxy]; simp)
      subst hxy
      clear h h' hr e hs
      go_enter Tryd.func32, Tryd.ntmps32
      go_wp2_with fail
      refine (samenumbers_any (IntsP.kept H.out ((up_.alloc _).alloc _) (fun _ _ h => h) (fun _ h => h)) (IntsP.kept H'.out ((up_.alloc _).alloc _) (fun _ _ h => h) (fun _ h => h))).mono ?_
      rintro e w' ⟨hu, rfl⟩
      have Hu := Lib.hid hu
      clear hu
      go_wp2_with fail
      go_ret
      exact ⟨Up.trans ((up_.alloc _).alloc _) Hu.out, by rw [E.out]; rfl⟩
    · have b1 : (xr == yr) = false := by simpa using hxy
      have E : r = false := by rw [e, hs, b1]; rfl
      subst E
      clear h h' hr e hs hxy
      go_enter Tryd.func32, Tryd.ntmps32
      go_wp2_with fail
      go_ret
      exact ⟨(up_.alloc _).alloc _, rfl⟩

set_option maxHeartbeats 400000 in
theorem offers_any {w : World} {G G' : Nat → Prop} {A A' : Option Addr} {c c' : Nat} {ms : List Mth} {y : Mth} (h : MthsP w G A c ms) (h' : IntsP w G' A' c' y.params) :
    Calls Tryd.prog 37 #[.slice A ms.length c, .agg #[.string y.name, .slice A' y.params.length c', .int .i64 y.result, .int .i64 y.func]] w
      fun e w' => Up w w' ∧ e = .returned (.bool (offersB ms y)) := by
  have hl := h.le
  have hb := h.big
  have H := Lib.hid h
  have H' := Lib.hid h'
  clear h h'
  go_enter Tryd.func37, Tryd.ntmps37
  go_wp2_with fail
  go_loopw [9] (fun i wr => ∃ k : Nat, k ≤ ms.length ∧ i = .int .i64 k ∧ Hid (Up (w.alloc (.cells #[.string y.name, .slice A' y.params.length c', .int .i64 y.result, .int .i64 y.func] 38)) wr ∧ ∀ j, j < k → ∀ (ha : j < ms.length), callB ms[j] y = false)) (fun i _ => ms.length - (intOf i).toNat)
  case atStart => exact ⟨0, Nat.zero_le _, rfl, Lib.hid ⟨Fr.refl _ _, fun _ h => absurd h (Nat.not_lt_zero _)⟩⟩
  case round =>
    obtain ⟨k, hk, rfl, hm⟩ := hrel
    have hu := Up.trans (up_.alloc _) hm.out.1
    have Hu := Lib.hid hu
    by_cases hlt : k < ms.length
    · obtain ⟨b, o, Ap, cp, rfl, _, hp, c0, c1, c2, c3⟩ := (MthsP.kept H.out hu (fun _ _ h => h) (fun _ h => h)).mth hlt
      have hb0 : w.heap.size < wr.heap.size := by have := hm.out.1.size; simp at this; omega
      have d : ∀ i u, (#[Value.string y.name, .slice A' y.params.length c', .int .i64 y.result, .int .i64 y.func] : Array Value)[i]? = some u → wr.cell? ⟨w.heap.size, i, none⟩ = some u := by
        intro i u hi
        rw [hm.out.1.cell (p := ⟨w.heap.size, i, none⟩) (by simp) (fun h => h), cell_of_row _ _ _ _ _ _ (heap_alloc_new w _)]
        exact hi
      have d0 := d 0 _ rfl
      have d1 := d 1 _ rfl
      have d2 := d 2 _ rfl
      have d3 := d 3 _ rfl
      clear d
      have P := Lib.hid hp
      clear hp hu
      obtain ⟨x, hx⟩ : ∃ x, x = ms[k] := ⟨_, rfl⟩
      rw [← hx] at c0 c1 c2 c3 P
      have Hx := Lib.hid hx
      clear hx
      go_wp2_with fail
      refine (samecall_any (x := x) (y := y) (IntsP.kept P.out (up_.alloc _) (fun _ _ h => h) (fun _ h => h)) (IntsP.kept H'.out (Up.trans Hu.out (up_.alloc _)) (fun _ _ h => h) (fun _ h => h))).mono ?_
      rintro e w' ⟨hv, rfl⟩
      have Hv := Lib.hid (Up.trans (up_.alloc _) hv)
      clear hv
      cases hc : callB x y
      · have hn := Lib.hid (show ∀ j, j < k + 1 → ∀ (ha : j < ms.length), callB ms[j] y = false from below_next hm.out.2 (fun _ => by rw [← Hx.out]; exact hc))
        clear hc
        go_wp2_with fail
        go_roundw
        case rel => exact ⟨k + 1, by omega, by go_num, Lib.hid ⟨Up.trans hm.out.1 Hv.out, hn.out⟩⟩
        case measure => simp [intOf]; omega
      · have Hc := Lib.hid hc
        clear hc
        go_wp2_with fail
        go_ret
        exact ⟨Up.trans Hu.out Hv.out, congrArg (fun b => Ending.returned (.bool b)) (any_yes hlt (by rw [← Hx.out]; exact Hc.out)).symm⟩
    · obtain rfl : k = ms.length := by omega
      go_wp2_with fail
      go_ret
      exact ⟨Hu.out, congrArg (fun b => Ending.returned (.bool b)) (any_no (fun j hj => hm.out.2 j hj hj)).symm⟩
end Go.Proofs.YtjlljfeledapaaaDoor
