/-
  The document's own Same: package turnstoneref1.
-/
import Derived.Test.YtjlljfeledapaaaDoorKindG
namespace Go.Proofs.YtjlljfeledapaaaDoor
open Go.RowKit

set_option maxHeartbeats 400000 in
theorem sameints_any {w : World} {G G' : Nat → Prop} {A A' : Option Addr} {c c' : Nat} {xs ys : List Int} (h : IntsP w G A c xs) (h' : IntsP w G' A' c' ys) :
    Calls Tryd.prog 20 #[.slice A xs.length c, .slice A' ys.length c'] w fun e w' => Up w w' ∧ e = .returned (.bool (sameIntsB xs ys)) := by
  have hl := h.le
  have hb := h.big
  have hl' := h'.le
  have hb' := h'.big
  by_cases he : xs.length = ys.length
  · have hq := Lib.hid (sameInts_same2 xs ys)
    rw [← he]
    have H := Lib.hid h
    have H' := Lib.hid h'
    have He := Lib.hid he
    clear h h' he hl' hb'
    go_enter Tryd.func20, Tryd.ntmps20
    go_wp2_with fail
    go_loopw [5] (fun i wr => ∃ k : Nat, k ≤ xs.length ∧ i = .int .i64 k ∧ Hid (Up w wr ∧ ∀ j, j < k → ∀ (ha : j < xs.length) (hb : j < ys.length), (xs[j] == ys[j]) = true)) (fun i _ => xs.length - (intOf i).toNat)
    case atStart => exact ⟨0, Nat.zero_le _, rfl, Lib.hid ⟨Fr.refl _ _, fun _ h => absurd h (Nat.not_lt_zero _)⟩⟩
    case round =>
      obtain ⟨k, hk, rfl, hm⟩ := hrel
      by_cases hlt : k < xs.length
      · have hlt' : k < ys.length := by have := He.out; omega
        obtain ⟨b, o, rfl, _, c0⟩ := (IntsP.kept H.out hm.out.1 (fun _ _ h => h) (fun _ h => h)).int hlt
        obtain ⟨b', o', rfl, _, c1⟩ := (IntsP.kept H'.out hm.out.1 (fun _ _ h => h) (fun _ h => h)).int hlt'
        obtain ⟨x, hx⟩ : ∃ x, x = xs[k] := ⟨_, rfl⟩
        obtain ⟨y, hy⟩ : ∃ y, y = ys[k] := ⟨_, rfl⟩
        rw [← hx] at c0
        rw [← hy] at c1
        have Hx := Lib.hid hx
        have Hy := Lib.hid hy
        clear hx hy
        by_cases hxy : x = y
        · have hn := Lib.hid (show ∀ j, j < k + 1 → ∀ (ha : j < xs.length) (hb : j < ys.length), (xs[j] == ys[j]) = true from below_next hm.out.2 (fun _ _ => by rw [← Hx.out, ← Hy.out]; simpa using hxy))
          subst hxy
          go_wp2_with fail
          go_quiet (fail)
          go_wp2_with fail
          go_roundw
          case rel => exact ⟨k + 1, by omega, by go_num, Lib.hid ⟨Fr.drewN hm.out.1 _, hn.out⟩⟩
          case measure => simp [intOf]; omega
        · have b1 : (x == y) = false := by simpa using hxy
          have b2 : (x != y) = true := by simpa using hxy
          clear hxy
          have B1 := Lib.hid b1
          go_wp2_with fail
          go_quiet (fail)
          go_wp2_with fail
          go_ret
          exact ⟨Fr.drewN hm.out.1 _, congrArg (fun b => Ending.returned (.bool b)) (by rw [hq.out]; exact (same2_no hlt hlt' (by rw [← Hx.out, ← Hy.out]; exact B1.out)).symm)⟩
      · go_wp2_with fail
        go_ret
        exact ⟨hm.out.1, congrArg (fun b => Ending.returned (.bool b)) (by rw [hq.out]; exact (same2_yes He.out (fun j ha hb => hm.out.2 j (by omega) ha hb)).symm)⟩
  · have e : sameIntsB xs ys = false := by rw [sameInts_same2]; exact same2_no_len he
    rw [e]
    have hn : ((xs.length : Int) != (ys.length : Int)) = true := by simp; omega
    have hn2 : ((xs.length : Int) == (ys.length : Int)) = false := by simp; omega
    clear e he h h'
    go_enter Tryd.func20, Tryd.ntmps20
    go_wp2_with fail
    go_ret
    exact ⟨up_, rfl⟩

/-- Where the document's Same parts. -/
theorem same_first (x y : Typ) : sameB x y = (if x.kind = y.kind ∧ sB x.name y.name = true ∧ x.elem = y.elem ∧ x.fields.length = y.fields.length ∧ x.methods.length = y.methods.length then same2 fldB x.fields y.fields && same2 mthB x.methods y.methods else false) := by
  rw [same_cut]
  by_cases h1 : x.kind = y.kind
  · by_cases h2 : sB x.name y.name = true
    · by_cases h3 : x.elem = y.elem
      · rw [if_pos h1, if_pos h2, if_pos h3]
        by_cases h4 : x.fields.length = y.fields.length
        · by_cases h5 : x.methods.length = y.methods.length
          · rw [if_pos ⟨h1, h2, h3, h4, h5⟩]
          · rw [if_neg (fun h => h5 h.2.2.2.2), same2_no_len (p := mthB) h5, Bool.and_false]
        · rw [if_neg (fun h => h4 h.2.2.2.1), same2_no_len (p := fldB) h4, Bool.false_and]
      · rw [if_pos h1, if_pos h2, if_neg h3, if_neg (fun h => h3 h.2.2.1)]
    · rw [if_pos h1, if_neg h2, if_neg (fun h => h2 h.2.1)]
  · rw [if_neg h1, if_neg (fun h => h1 h.1)]

set_option maxHeartbeats 4000000 in
theorem rsame_any {w : World} {G G' : Nat → Prop} {x y : Typ} {Af Am Af' Am' : Option Addr} {cf cm cf' cm' : Nat} (hf : FldsP w G Af cf x.fields) (hm : MthsP w G Am cm x.methods) (hf' : FldsP w G' Af' cf' y.fields) (hm' : MthsP w G' Am' cm' y.methods) :
    Calls Tryd.prog 9 #[.agg #[.int .i64 x.kind, .string x.name, .int .i64 x.elem, .slice Af x.fields.length cf, .slice Am x.methods.length cm], .agg #[.int .i64 y.kind, .string y.name, .int .i64 y.elem, .slice Af' y.fields.length cf', .slice Am' y.methods.length cm']] w
      fun e w' => Up w w' ∧ e = .returned (.bool (sameB x y)) := by
  have hfl := hf.le
  have hfb := hf.big
  have hml := hm.le
  have hmb := hm.big
  have F := Lib.hid hf
  have M := Lib.hid hm
  have F' := Lib.hid hf'
  have M' := Lib.hid hm'
  clear hf hm hf' hm'
  obtain ⟨r, hr⟩ : ∃ r, r = sameB x y := ⟨_, rfl⟩
  rw [← hr]
  rw [same_first] at hr
  obtain ⟨xk, xn, xe, xf, xm⟩ := x
  obtain ⟨yk, yn, ye, yf, ym⟩ := y
  simp only at hr F M F' M' hfl hml ⊢
  by_cases h1 : xk = yk
  · have b1 : (xk == yk) = true := by simpa using h1
    have b1' : (xk != yk) = false := by simpa using h1
    cases h2 : sB xn yn
    · have b2 : (xn.toList == yn.toList) = false := by rw [sB_eq]; exact h2
      rw [if_neg (fun h => by rw [h2] at h; exact absurd h.2.1 (by decide))] at hr
      subst hr
      clear h1 h2
      go_enter Tryd.func9, Tryd.ntmps9
      go_wp2_with fail
      go_ret
      exact ⟨(up_.alloc _).alloc _, rfl⟩
    · have b2 : (xn.toList == yn.toList) = true := by rw [sB_eq]; exact h2
      by_cases h3 : xe = ye
      · have b3 : (xe == ye) = true := by simpa using h3
        have b3' : (xe != ye) = false := by simpa using h3
        by_cases h4 : xf.length = yf.length
        · by_cases h5 : xm.length = ym.length
          · rw [if_pos ⟨h1, h2, h3, h4, h5⟩] at hr
            have R := Lib.hid hr
            have b4 : ((xf.length : Int) != (yf.length : Int)) = false := by simp; omega
            have b5 : ((xm.length : Int) != (ym.length : Int)) = false := by simp; omega
            have L4 := Lib.hid h4
            have L5 := Lib.hid h5
            clear hr h1 h2 h3 h4 h5
            go_enter Tryd.func9, Tryd.ntmps9
            go_wp2_with fail
            have u2 : Up w ((w.alloc (.cells #[.int .i64 xk, .string xn, .int .i64 xe, .slice Af xf.length cf, .slice Am xm.length cm] 25)).alloc (.cells #[.int .i64 yk, .string yn, .int .i64 ye, .slice Af' yf.length cf', .slice Am' ym.length cm'] 25)) := (up_.alloc _).alloc _
            have ka : ∀ i u, (#[Value.int .i64 xk, .string xn, .int .i64 xe, .slice Af xf.length cf, .slice Am xm.length cm] : Array Value)[i]? = some u → ((w.alloc (.cells #[.int .i64 xk, .string xn, .int .i64 xe, .slice Af xf.length cf, .slice Am xm.length cm] 25)).alloc (.cells #[.int .i64 yk, .string yn, .int .i64 ye, .slice Af' yf.length cf', .slice Am' ym.length cm'] 25)).cell? ⟨w.heap.size, i, none⟩ = some u := new_cells (up_.alloc _)
            have kb : ∀ i u, (#[Value.int .i64 yk, .string yn, .int .i64 ye, .slice Af' yf.length cf', .slice Am' ym.length cm'] : Array Value)[i]? = some u → ((w.alloc (.cells #[.int .i64 xk, .string xn, .int .i64 xe, .slice Af xf.length cf, .slice Am xm.length cm] 25)).alloc (.cells #[.int .i64 yk, .string yn, .int .i64 ye, .slice Af' yf.length cf', .slice Am' ym.length cm'] 25)).cell? ⟨w.heap.size + 1, i, none⟩ = some u := by
              intro i u hi
              have := new_cells (w := w.alloc (.cells #[.int .i64 xk, .string xn, .int .i64 xe, .slice Af xf.length cf, .slice Am xm.length cm] 25)) (t := 25) (up_ (w := _)) i u hi
              simpa using this
            have a3 := ka 3 _ rfl
            have a4 := ka 4 _ rfl
            have d3 := kb 3 _ rfl
            have d4 := kb 4 _ rfl
            clear ka kb
            generalize (w.alloc (.cells #[.int .i64 xk, .string xn, .int .i64 xe, .slice Af xf.length cf, .slice Am xm.length cm] 25)).alloc (.cells #[.int .i64 yk, .string yn, .int .i64 ye, .slice Af' yf.length cf', .slice Am' ym.length cm'] 25) = w2 at u2 a3 a4 d3 d4 ⊢
            have U2 := Lib.hid u2
            have Ks := Lib.hid (And.intro a3 (And.intro a4 (And.intro d3 d4)))
            have l3 := World.block_lt_of_cell? w2 _ a3
            have l4 := World.block_lt_of_cell? w2 _ d3
            clear u2 a3 a4 d3 d4 b1 b1' b2 b3 b3' b4 b5
            go_loopw [5] (fun i wr => ∃ k : Nat, k ≤ xf.length ∧ i = .int .i64 k ∧ Hid (Up w2 wr ∧ ∀ j, j < k → ∀ (ha : j < xf.length) (hb : j < yf.length), fldB xf[j] yf[j] = true)) (fun i _ => xf.length - (intOf i).toNat)
            case atStart => exact ⟨0, Nat.zero_le _, rfl, Lib.hid ⟨Fr.refl _ _, fun _ h => absurd h (Nat.not_lt_zero _)⟩⟩
            case round =>
              obtain ⟨k, hk, rfl, hm⟩ := hrel
              have Hu := Lib.hid (Up.trans U2.out hm.out.1)
              have a3 := (hm.out.1.cell (p := ⟨w.heap.size, 3, none⟩) l3 (fun h => h)).trans Ks.out.1
              have d3 := (hm.out.1.cell (p := ⟨w.heap.size + 1, 3, none⟩) l4 (fun h => h)).trans Ks.out.2.2.1
              by_cases hlt : k < xf.length
              · have hlt' : k < yf.length := by have := L4.out; omega
                obtain ⟨b, o, rfl, _, c0, c1⟩ := (FldsP.kept F.out Hu.out (fun _ _ h => h) (fun _ h => h)).fld hlt
                obtain ⟨b', o', rfl, _, e0, e1⟩ := (FldsP.kept F'.out Hu.out (fun _ _ h => h) (fun _ h => h)).fld hlt'
                obtain ⟨x, hx⟩ : ∃ x, x = xf[k] := ⟨_, rfl⟩
                obtain ⟨y, hy⟩ : ∃ y, y = yf[k] := ⟨_, rfl⟩
                rw [← hx] at c0 c1
                rw [← hy] at e0 e1
                have Hx := Lib.hid hx
                have Hy := Lib.hid hy
                have hylen : (k : Int) < (yf.length : Int) := by omega
                clear hx hy
                cases hxy : fldB x y
                · have hne := fun w => (run_neq_fld x.name y.name x.type y.type w).trans (by rw [show (sB x.name y.name && x.type == y.type) = false from hxy]; rfl : _ = Result.ok (Value.bool true) w)
                  have E : r = false := by rw [R.out, same2_no hlt hlt' (by rw [← Hx.out, ← Hy.out]; exact hxy)]; rfl
                  subst E
                  clear hxy
                  go_wp2_with fail
                  go_quiet (fail)
                  go_wp2_with fail
                  go_ret
                  exact ⟨Fr.drewN Hu.out _, rfl⟩
                · have hne := fun w => (run_neq_fld x.name y.name x.type y.type w).trans (by rw [show (sB x.name y.name && x.type == y.type) = true from hxy]; rfl : _ = Result.ok (Value.bool false) w)
                  have hn := Lib.hid (show ∀ j, j < k + 1 → ∀ (ha : j < xf.length) (hb : j < yf.length), fldB xf[j] yf[j] = true from below_next hm.out.2 (fun _ _ => by rw [← Hx.out, ← Hy.out]; exact hxy))
                  clear hxy
                  go_wp2_with fail
                  go_quiet (fail)
                  go_wp2_with fail
                  go_roundw
                  case rel => exact ⟨k + 1, by omega, by go_num, Lib.hid ⟨Fr.drewN hm.out.1 _, hn.out⟩⟩
                  case measure => simp [intOf]; omega
              · have R2 := Lib.hid (show r = same2 mthB xm ym by rw [R.out, same2_yes L4.out (fun j ha hb => hm.out.2 j (by omega) ha hb)]; rfl)
                obtain ⟨wo, rfl⟩ : ∃ wo : World, wo = wr := ⟨_, rfl⟩
                have a4 := (hm.out.1.cell (p := ⟨w.heap.size, 4, none⟩) l3 (fun h => h)).trans Ks.out.2.1
                have d4 := (hm.out.1.cell (p := ⟨w.heap.size + 1, 4, none⟩) l4 (fun h => h)).trans Ks.out.2.2.2
                have Kt := Lib.hid (And.intro a4 d4)
                have l5 := World.block_lt_of_cell? wo _ a4
                have l6 := World.block_lt_of_cell? wo _ d4
                clear a4 d4 hm
                go_wp2_with fail
                go_loopw [6] (fun i wr => ∃ k : Nat, k ≤ xm.length ∧ i = .int .i64 k ∧ Hid (Up wo wr ∧ ∀ j, j < k → ∀ (ha : j < xm.length) (hb : j < ym.length), mthB xm[j] ym[j] = true)) (fun i _ => xm.length - (intOf i).toNat)
                case atStart => exact ⟨0, Nat.zero_le _, rfl, Lib.hid ⟨Fr.refl _ _, fun _ h => absurd h (Nat.not_lt_zero _)⟩⟩
                case round =>
                  obtain ⟨q, hq, rfl, hm⟩ := hrel
                  have Hv := Lib.hid (Up.trans Hu.out hm.out.1)
                  have a4 := (hm.out.1.cell (p := ⟨w.heap.size, 4, none⟩) l5 (fun h => h)).trans Kt.out.1
                  have d4 := (hm.out.1.cell (p := ⟨w.heap.size + 1, 4, none⟩) l6 (fun h => h)).trans Kt.out.2
                  clear a3 d3
                  by_cases hlt2 : q < xm.length
                  · have hlt' : q < ym.length := by have := L5.out; omega
                    obtain ⟨b, o, Ap, cp, rfl, _, hp, c0, c1, c2, c3⟩ := (MthsP.kept M.out Hv.out (fun _ _ h => h) (fun _ h => h)).mth hlt2
                    obtain ⟨b', o', Ap', cp', rfl, _, hp', e0, e1, e2, e3⟩ := (MthsP.kept M'.out Hv.out (fun _ _ h => h) (fun _ h => h)).mth hlt'
                    obtain ⟨x, hx⟩ : ∃ x, x = xm[q] := ⟨_, rfl⟩
                    obtain ⟨y, hy⟩ : ∃ y, y = ym[q] := ⟨_, rfl⟩
                    rw [← hx] at c0 c1 c2 c3 hp
                    rw [← hy] at e0 e1 e2 e3 hp'
                    have P := Lib.hid hp
                    have P' := Lib.hid hp'
                    have al : ∀ (p : Addr) (v : Value), wr.cell? p = some v → (wr.alloc (.cells #[.string x.name, .slice Ap x.params.length cp, .int .i64 x.result, .int .i64 x.func] 38)).cell? p = some v := fun p v hc => (World.cell?_alloc_lt _ _ _ (World.block_lt_of_cell? wr _ hc)).trans hc
                    have d4a := al _ _ d4
                    have e0a := al _ _ e0
                    have e1a := al _ _ e1
                    have e2a := al _ _ e2
                    have e3a := al _ _ e3
                    clear al
                    have hnx := Lib.hid (show ∀ j, j < q + 1 → mthB x y = true → ∀ (ha : j < xm.length) (hb : j < ym.length), mthB xm[j] ym[j] = true from fun j hj hxy => below_next (P := fun j => ∀ (ha : j < xm.length) (hb : j < ym.length), mthB xm[j] ym[j] = true) hm.out.2 (fun _ _ => by rw [← hx, ← hy]; exact hxy) j hj)
                    have hno := Lib.hid (show mthB x y = false → r = false from fun hxy => by rw [R2.out]; exact same2_no hlt2 hlt' (by rw [← hx, ← hy]; exact hxy))
                    clear hx hy hp hp'
                    cases g1 : sB x.name y.name
                    · have n1 : (x.name.toList == y.name.toList) = false := by rw [sB_eq]; exact g1
                      have E := hno.out (by unfold mthB callB; rw [g1]; simp)
                      subst E
                      clear g1
                      go_wp2_with fail
                      go_ret
                      exact ⟨(Hv.out.alloc _).alloc _, rfl⟩
                    · have n1 : (x.name.toList == y.name.toList) = true := by rw [sB_eq]; exact g1
                      by_cases g2 : x.result = y.result
                      · have n2 : (x.result != y.result) = false := by simpa using g2
                        have n2' : (x.result == y.result) = true := by simpa using g2
                        by_cases g3 : x.func = y.func
                        · have n3 : (x.func != y.func) = false := by simpa using g3
                          have n3' : (x.func == y.func) = true := by simpa using g3
                          have E := Lib.hid (show mthB x y = sameIntsB x.params y.params by unfold mthB callB; rw [g1, n2', n3']; rfl)
                          clear g1 g2 g3
                          go_wp2_with fail
                          refine (sameints_any (xs := x.params) (ys := y.params) (IntsP.kept P.out ((up_.alloc _).alloc _) (fun _ _ h => h) (fun _ h => h)) (IntsP.kept P'.out ((up_.alloc _).alloc _) (fun _ _ h => h) (fun _ h => h))).mono ?_
                          rintro e w' ⟨hv, rfl⟩
                          have Hw := Lib.hid (Up.trans ((up_.alloc _).alloc _) hv)
                          clear hv
                          cases hc : sameIntsB x.params y.params
                          · have E2 := hno.out (E.out.trans hc)
                            subst E2
                            clear hc
                            go_wp2_with fail
                            go_ret
                            exact ⟨Up.trans Hv.out Hw.out, rfl⟩
                          · have hn := Lib.hid (fun j hj => hnx.out j hj (E.out.trans hc))
                            clear hc
                            go_wp2_with fail
                            go_roundw
                            case rel => exact ⟨q + 1, by omega, by go_num, Lib.hid ⟨Up.trans hm.out.1 Hw.out, hn.out⟩⟩
                            case measure => simp [intOf]; omega
                        · have n3 : (x.func != y.func) = true := by simpa using g3
                          have n3' : (x.func == y.func) = false := by simpa using g3
                          have E := hno.out (by unfold mthB; rw [n3']; simp)
                          subst E
                          clear g1 g2 g3
                          go_wp2_with fail
                          go_ret
                          exact ⟨(Hv.out.alloc _).alloc _, rfl⟩
                      · have n2 : (x.result != y.result) = true := by simpa using g2
                        have n2' : (x.result == y.result) = false := by simpa using g2
                        have E := hno.out (by unfold mthB callB; rw [n2']; simp)
                        subst E
                        clear g1 g2
                        go_wp2_with fail
                        go_ret
                        exact ⟨(Hv.out.alloc _).alloc _, rfl⟩
                  · have E : r = true := by rw [R2.out]; exact same2_yes L5.out (fun j ha hb => hm.out.2 j (by omega) ha hb)
                    subst E
                    go_wp2_with fail
                    go_ret
                    exact ⟨Hv.out, rfl⟩
          · have b5 : ((xm.length : Int) != (ym.length : Int)) = true := by simp; omega
            have b4 : ((xf.length : Int) != (yf.length : Int)) = false := by simp; omega
            rw [if_neg (fun h => h5 h.2.2.2.2)] at hr
            subst hr
            clear h1 h2 h3 h4 h5
            go_enter Tryd.func9, Tryd.ntmps9
            go_wp2_with fail
            go_ret
            exact ⟨(up_.alloc _).alloc _, rfl⟩
        · have b4 : ((xf.length : Int) != (yf.length : Int)) = true := by simp; omega
          rw [if_neg (fun h => h4 h.2.2.2.1)] at hr
          subst hr
          clear h1 h2 h3 h4
          go_enter Tryd.func9, Tryd.ntmps9
          go_wp2_with fail
          go_ret
          exact ⟨(up_.alloc _).alloc _, rfl⟩
      · have b3 : (xe == ye) = false := by simpa using h3
        have b3' : (xe != ye) = true := by simpa using h3
        rw [if_neg (fun h => h3 h.2.2.1)] at hr
        subst hr
        clear h1 h2 h3
        go_enter Tryd.func9, Tryd.ntmps9
        go_wp2_with fail
        go_ret
        exact ⟨(up_.alloc _).alloc _, rfl⟩
  · have b1 : (xk == yk) = false := by simpa using h1
    have b1' : (xk != yk) = true := by simpa using h1
    rw [if_neg (fun h => h1 h.1)] at hr
    subst hr
    clear h1
    go_enter Tryd.func9, Tryd.ntmps9
    go_wp2_with fail
    go_ret
    exact ⟨(up_.alloc _).alloc _, rfl⟩
end Go.Proofs.YtjlljfeledapaaaDoor
