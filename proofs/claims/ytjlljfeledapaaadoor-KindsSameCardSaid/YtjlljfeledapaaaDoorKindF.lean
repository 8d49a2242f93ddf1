/-
  Which types are right: methods, types, clashes, lists.
-/
import Derived.Test.YtjlljfeledapaaaDoorKindE
import Derived.Deep.DeepCutAuto
import Derived.Deep.CutBlock
namespace Go.Proofs.YtjlljfeledapaaaDoor
open Go.RowKit

set_option maxHeartbeats 2000000 in
theorem rightmethods_any {w : World} {G : Nat → Prop} {A Af Am : Option Addr} {n c cf cm : Nat} {x : Typ} (hn : n ≤ 9223372036854775807) (hf : FldsP w G Af cf x.fields) (hm : MthsP w G Am cm x.methods) :
    Calls Tryd.prog 35 #[.slice A n c, .agg #[.int .i64 x.kind, .string x.name, .int .i64 x.elem, .slice Af x.fields.length cf, .slice Am x.methods.length cm]] w fun e w' => Up w w' ∧ e = .returned (.bool (rightMethodsB n x)) := by
  have hl := hm.le
  have hb := hm.big
  by_cases h12 : x.methods.length ≤ 12
  · have e : rightMethodsB n x = (List.range x.methods.length).all (methodOkB n x) := by unfold rightMethodsB; rw [decide_eq_true h12]; rfl
    rw [e]
    have F := Lib.hid hf
    have M := Lib.hid hm
    clear e hf hm
    obtain ⟨ms, hms⟩ : ∃ ms, ms = x.methods := ⟨_, rfl⟩
    obtain ⟨fs, hfs⟩ : ∃ fs, fs = x.fields := ⟨_, rfl⟩
    have Hms := Lib.hid hms
    have Hfs := Lib.hid hfs
    rw [← hms] at h12 hl M ⊢
    rw [← hfs] at F ⊢
    clear hms hfs
    go_enter Tryd.func35, Tryd.ntmps35
    go_wp2_with fail
    obtain ⟨w0, hw0, u0, nc⟩ := name_new w 25 #[.int .i64 x.kind, .string x.name, .int .i64 x.elem, .slice Af fs.length cf, .slice Am ms.length cm]
    rw [← hw0]
    have s0 := nc 0 _ rfl
    have s3 := nc 3 _ rfl
    have s4 := nc 4 _ rfl
    have S0 := Lib.hid (And.intro s0 (And.intro s3 s4))
    have z0 := World.block_lt_of_cell? w0 _ s0
    have U0 := Lib.hid u0
    clear nc u0 hw0 s0 s3 s4
    go_loopw [18] (fun i wr => ∃ k : Nat, k ≤ ms.length ∧ i = .int .i64 k ∧ Hid (Up w0 wr ∧ ∀ j, j < k → methodOkB n x j = true)) (fun i _ => ms.length - (intOf i).toNat)
    case atStart => exact ⟨0, Nat.zero_le _, rfl, Lib.hid ⟨Fr.refl _ _, fun _ h => absurd h (Nat.not_lt_zero _)⟩⟩
    case round =>
      obtain ⟨k, hk, rfl, hm⟩ := hrel
      by_cases hlt : k < ms.length
      · have Hu := Lib.hid (Up.trans U0.out hm.out.1)
        obtain ⟨b, o, Ap, cp, rfl, _, hp, c0, c1, c2, c3⟩ := (MthsP.kept M.out Hu.out (fun _ _ h => h) (fun _ h => h)).mth hlt
        obtain ⟨y, hy⟩ : ∃ y, y = ms[k] := ⟨_, rfl⟩
        rw [← hy] at c0 c1 c2 c3 hp
        have P := Lib.hid hp
        have ok : methodOkB n x k = ((mthIdx (ms.take k) y.name).isNone && (fldIdx fs y.name).isNone && rightCallB n y && rightFuncB x.kind y.func) := by
          unfold methodOkB; rw [← Hms.out, ← Hfs.out, List.getElem?_eq_getElem hlt, hy]
        have Ok := Lib.hid ok
        clear hy ok hp
        have s0 := (hm.out.1.cell (p := ⟨w.heap.size, 0, none⟩) z0 (fun h => h)).trans S0.out.1
        have s3 := (hm.out.1.cell (p := ⟨w.heap.size, 3, none⟩) z0 (fun h => h)).trans S0.out.2.1
        have s4 := (hm.out.1.cell (p := ⟨w.heap.size, 4, none⟩) z0 (fun h => h)).trans S0.out.2.2
        have zr := World.block_lt_of_cell? wr _ s0
        go_wp2_with fail
        obtain ⟨w1, hw1, u1, nc⟩ := name_new wr 38 #[.string y.name, .slice Ap y.params.length cp, .int .i64 y.result, .int .i64 y.func]
        rw [← hw1]
        have n0 := nc 0 _ rfl
        have n1 := nc 1 _ rfl
        have n2 := nc 2 _ rfl
        have n3 := nc 3 _ rfl
        have N := Lib.hid (And.intro n0 (And.intro n1 (And.intro n2 n3)))
        have q4 := (u1.cell (p := ⟨w.heap.size, 4, none⟩) zr (fun h => h)).trans s4
        have Q := Lib.hid (And.intro ((u1.cell (p := ⟨w.heap.size, 0, none⟩) zr (fun h => h)).trans s0) (And.intro ((u1.cell (p := ⟨w.heap.size, 3, none⟩) zr (fun h => h)).trans s3) q4))
        have U1 := Lib.hid (Up.trans Hu.out u1)
        have V1 := Lib.hid (Up.trans hm.out.1 u1)
        have P1 := Lib.hid (IntsP.kept P.out u1 (fun _ _ h => h) (fun _ h => h))
        have l1 := World.block_lt_of_cell? w1 _ n0
        have l0 := World.block_lt_of_cell? w1 _ q4
        clear nc u1 hw1 c0 c1 c2 c3 s0 s3 s4 n1 n2 n3
        have kc : k ≤ cm := by omega
        have hc := methodnamed_any (w := w1.drewN 1) ((MthsP.kept M.out (Fr.drewN U1.out 1) (fun _ _ h => h) (fun _ h => h)).front k hk) y.name
        rw [show (ms.take k).length = k by rw [List.length_take]; omega] at hc
        -- the first test
        obtain ⟨i1, hi1⟩ : ∃ i1, mthIdx (ms.take k) y.name = i1 := ⟨_, rfl⟩
        rw [hi1] at hc
        have Hi1 := Lib.hid hi1
        have Hc := Lib.hid (show Calls _ _ _ _ fun e w' => Up (w1.drewN 1) w' ∧ e = .returned (.tuple #[.int .i64 (i1.getD 0 : Nat), .bool i1.isSome]) from hc)
        clear hc hi1
        go_region_held3 (fun W' => W'.cell? ⟨wr.heap.size, 0, none⟩ = some (.string y.name) ∧ W'.cell? ⟨w.heap.size, 4, none⟩ = some (.slice (some ⟨b, o, none⟩) ms.length cm)) (first | exact ⟨k0, k4⟩ | exact ⟨n0, q4⟩)
          (first | (go_at_call 25; refine Hc.out.mono ?_; rintro e w3 ⟨hv, rfl⟩; have k0 := (hv.cell (p := ⟨wr.heap.size, 0, none⟩) l1 (fun h => h)).trans n0; have k4 := (hv.cell (p := ⟨w.heap.size, 4, none⟩) l0 (fun h => h)).trans q4; have Hv := Lib.hid (Up.trans (Fr.drewN up_ 1) hv); clear hv))
        have k3 := (Hv.out.cell (p := ⟨w.heap.size, 3, none⟩) l0 (fun h => h)).trans Q.out.2.1
        clear n0 q4 k4
        go_wp2_with fail
        have hc2 := fieldnamed_any (FldsP.kept F.out (Up.trans U1.out Hv.out) (fun _ _ h => h) (fun _ h => h)) y.name
        obtain ⟨i2, hi2⟩ : ∃ i2, fldIdx fs y.name = i2 := ⟨_, rfl⟩
        rw [hi2] at hc2
        have Hi2 := Lib.hid hi2
        have Hc2 := Lib.hid (show Calls _ _ _ _ fun e w' => Up w3 w' ∧ e = .returned (.tuple #[.int .i64 (i2.getD 0 : Nat), .bool i2.isSome]) from hc2)
        clear hc2 hi2
        refine Hc2.out.mono ?_
        rintro e w4 ⟨hv, rfl⟩
        have Hv4 := Lib.hid (Up.trans Hv.out hv)
        have V4 := Lib.hid (Up.trans V1.out Hv4.out)
        have r0 := (Hv4.out.cell (p := ⟨wr.heap.size, 0, none⟩) l1 (fun h => h)).trans N.out.1
        have r1 := (Hv4.out.cell (p := ⟨wr.heap.size, 1, none⟩) l1 (fun h => h)).trans N.out.2.1
        have r2 := (Hv4.out.cell (p := ⟨wr.heap.size, 2, none⟩) l1 (fun h => h)).trans N.out.2.2.1
        have r3 := (Hv4.out.cell (p := ⟨wr.heap.size, 3, none⟩) l1 (fun h => h)).trans N.out.2.2.2
        have t0 := (Hv4.out.cell (p := ⟨w.heap.size, 0, none⟩) l0 (fun h => h)).trans Q.out.1
        have l4 := World.block_lt_of_cell? w4 _ r0
        have l40 := World.block_lt_of_cell? w4 _ t0
        clear hv k0 k3
        cases i1 with
        | some q =>
          have No := Lib.hid (show methodOkB n x k = false by rw [Ok.out, Hi1.out]; rfl)
          have t1 : (some q : Option Nat).isSome = true := rfl
          go_wp2_with fail
          go_ret
          exact ⟨Up.trans U0.out V4.out, congrArg (fun b => Ending.returned (.bool b)) (range_no hlt No.out).symm⟩
        | none =>
        cases i2 with
        | some q =>
          have No := Lib.hid (show methodOkB n x k = false by rw [Ok.out, Hi1.out, Hi2.out]; rfl)
          have t1 : (some q : Option Nat).isSome = true := rfl
          have t2 : (none : Option Nat).isSome = false := rfl
          go_wp2_with fail
          go_ret
          exact ⟨Up.trans U0.out V4.out, congrArg (fun b => Ending.returned (.bool b)) (range_no hlt No.out).symm⟩
        | none =>
          have Ok2 := Lib.hid (show methodOkB n x k = (rightCallB n y && rightFuncB x.kind y.func) by rw [Ok.out, Hi1.out, Hi2.out]; rfl)
          have t2 : (none : Option Nat).isSome = false := rfl
          go_wp2_with fail
          refine (rightcall_any (m := y) hn (IntsP.kept P1.out Hv4.out (fun _ _ h => h) (fun _ h => h))).mono ?_
          rintro e w5 ⟨hv, rfl⟩
          have V5 := Lib.hid (Up.trans V4.out hv)
          have x0 := (hv.cell (p := ⟨w.heap.size, 0, none⟩) l40 (fun h => h)).trans t0
          have y3 := (hv.cell (p := ⟨wr.heap.size, 3, none⟩) l4 (fun h => h)).trans r3
          clear hv r0 r1 r2 r3 t0
          cases hq : rightCallB n y
          · have No := Lib.hid (show methodOkB n x k = false by rw [Ok2.out, hq]; rfl)
            clear hq
            go_wp2_with fail
            go_ret
            exact ⟨Up.trans U0.out V5.out, congrArg (fun b => Ending.returned (.bool b)) (range_no hlt No.out).symm⟩
          · have Ok3 := Lib.hid (show methodOkB n x k = rightFuncB x.kind y.func by rw [Ok2.out, hq]; rfl)
            clear hq
            go_wp2_with fail
            refine (rightfunc_any x.kind y.func).mono ?_
            rintro e w6 ⟨rfl, rfl⟩
            cases hq : rightFuncB x.kind y.func
            · have No := Lib.hid (Ok3.out.trans hq)
              clear hq
              go_wp2_with fail
              go_ret
              exact ⟨Up.trans U0.out V5.out, congrArg (fun b => Ending.returned (.bool b)) (range_no hlt No.out).symm⟩
            · have hn := Lib.hid (below_next (P := fun j => methodOkB n x j = true) hm.out.2 (Ok3.out.trans hq))
              clear hq
              go_wp2_with fail
              go_roundw
              case rel => exact ⟨k + 1, by omega, by go_num, Lib.hid ⟨V5.out, hn.out⟩⟩
              case measure => simp [intOf]; omega
      · obtain rfl : k = ms.length := by omega
        go_wp2_with fail
        go_ret
        exact ⟨Up.trans U0.out hm.out.1, congrArg (fun b => Ending.returned (.bool b)) (range_all hm.out.2).symm⟩
  · have e : rightMethodsB n x = false := by unfold rightMethodsB; rw [decide_eq_false h12]; rfl
    rw [e]
    have h13 : 12 < x.methods.length := by omega
    clear e hf hm h12
    go_enter Tryd.func35, Tryd.ntmps35
    go_wp2_with fail
    go_ret
    exact ⟨up_.alloc _, rfl⟩

theorem nat_beq0 (n : Nat) : ((n : Int) == 0) = (n == 0) := by
  by_cases h : n = 0
  · subst h; rfl
  · rw [beq_eq_false_iff_ne.2 h, beq_eq_false_iff_ne.2 (by omega : ¬ (n : Int) = 0)]

set_option maxHeartbeats 2000000 in
theorem righttype_any {w : World} {G : Nat → Prop} {A Af Am : Option Addr} {n c cf cm : Nat} {x : Typ} (hn : n ≤ 9223372036854775807) (hf : FldsP w G Af cf x.fields) (hm : MthsP w G Am cm x.methods) :
    Calls Tryd.prog 22 #[.slice A n c, .agg #[.int .i64 x.kind, .string x.name, .int .i64 x.elem, .slice Af x.fields.length cf, .slice Am x.methods.length cm]] w fun e w' => Up w w' ∧ e = .returned (.bool (rightTypeB n x)) := by
  have F := Lib.hid hf
  have M := Lib.hid hm
  have hfl := hf.le
  have hml := hm.le
  have hfb := hf.big
  have hmb := hm.big
  obtain ⟨r, hr⟩ : ∃ r, r = rightTypeB n x := ⟨_, rfl⟩
  rw [← hr]
  unfold rightTypeB at hr
  clear hf hm
  by_cases h5 : x.kind = 5
  · rw [if_pos h5] at hr
    have R := Lib.hid hr
    obtain ⟨k, hk⟩ : ∃ k, k = x.kind := ⟨_, rfl⟩
    rw [← hk] at h5
    have k5 : (k == 5) = true := by simpa using h5
    have k5' := Lib.hid h5
    have Hk := Lib.hid hk
    rw [← hk]
    clear hr h5 hk
    go_enter Tryd.func22, Tryd.ntmps22
    go_wp2_with fail
    obtain ⟨w0, hw0, u0, nc⟩ := name_new w 25 #[.int .i64 k, .string x.name, .int .i64 x.elem, .slice Af x.fields.length cf, .slice Am x.methods.length cm]
    rw [← hw0]
    have s0 := nc 0 _ rfl
    have N := Lib.hid (And.intro s0 (And.intro (nc 1 _ rfl) (And.intro (nc 2 _ rfl) (And.intro (nc 3 _ rfl) (nc 4 _ rfl)))))
    have z0 := World.block_lt_of_cell? w0 _ s0
    have U0 := Lib.hid u0
    have hc := isnamed_any (w := w0) (x := x) (Af := Af) (cf := cf) (Am := Am) (cm := cm)
    rw [← Hk.out] at hc
    have Hc := Lib.hid hc
    clear nc u0 hw0 s0 hc
    refine Hc.out.mono ?_
    rintro e w1 ⟨hv, rfl⟩
    have c3 := (hv.cell (p := ⟨w.heap.size, 3, none⟩) z0 (fun h => h)).trans N.out.2.2.2.1
    have V1 := Lib.hid hv
    clear hv
    cases hq : namedB x
    · have E : r = false := by rw [R.out, hq]; rfl
      subst E
      clear hq
      go_wp2_with fail
      go_ret
      exact ⟨Up.trans U0.out V1.out, rfl⟩
    · have R2 := Lib.hid (show r = (rightFieldsB n x.fields && rightMethodsB n x) by rw [R.out, hq]; rfl)
      clear hq
      go_wp2_with fail
      refine (rightfields_any hn (FldsP.kept F.out (Up.trans U0.out V1.out) (fun _ _ h => h) (fun _ h => h))).mono ?_
      rintro e w2 ⟨hv, rfl⟩
      have V2 := Lib.hid (Up.trans V1.out hv)
      have d0 := (V2.out.cell (p := ⟨w.heap.size, 0, none⟩) z0 (fun h => h)).trans N.out.1
      have d1 := (V2.out.cell (p := ⟨w.heap.size, 1, none⟩) z0 (fun h => h)).trans N.out.2.1
      have d2 := (V2.out.cell (p := ⟨w.heap.size, 2, none⟩) z0 (fun h => h)).trans N.out.2.2.1
      have d3 := (V2.out.cell (p := ⟨w.heap.size, 3, none⟩) z0 (fun h => h)).trans N.out.2.2.2.1
      have d4 := (V2.out.cell (p := ⟨w.heap.size, 4, none⟩) z0 (fun h => h)).trans N.out.2.2.2.2
      clear hv c3
      cases hq : rightFieldsB n x.fields
      · have E : r = false := by rw [R2.out, hq]; rfl
        subst E
        clear hq
        go_wp2_with fail
        go_ret
        exact ⟨Up.trans U0.out V2.out, rfl⟩
      · have R3 := Lib.hid (show r = rightMethodsB n x by rw [R2.out, hq]; rfl)
        have hc := rightmethods_any (w := w2) (A := A) (c := c) (x := x) hn (FldsP.kept F.out (Up.trans U0.out V2.out) (fun _ _ h => h) (fun _ h => h)) (MthsP.kept M.out (Up.trans U0.out V2.out) (fun _ _ h => h) (fun _ h => h))
        rw [← Hk.out] at hc
        have Hc2 := Lib.hid hc
        clear hq hc
        go_wp2_with fail
        refine Hc2.out.mono ?_
        rintro e w3 ⟨hv, rfl⟩
        have V3 := Lib.hid (Up.trans V2.out hv)
        clear hv
        go_wp2_with fail
        go_ret
        exact ⟨Up.trans U0.out V3.out, by rw [R3.out]; rfl⟩
  · rw [if_neg h5] at hr
    by_cases h6 : x.kind = 6
    · rw [if_pos h6] at hr
      obtain ⟨k, hk⟩ : ∃ k, k = x.kind := ⟨_, rfl⟩
      rw [← hk] at h5 h6
      have k5 : (k == 5) = false := beq_eq_false_iff_ne.2 h5
      have k6 : (k == 6) = true := by simpa using h6
      rw [← hk]
      clear h5 h6 hk
      cases hs : sB x.name ⟨#[]⟩
      · have hn1 : x.name.toList.isEmpty = false := by rw [sB_empty]; exact hs
        have E : r = false := by rw [hr, hs]; rfl
        subst E
        clear hr hs
        go_enter Tryd.func22, Tryd.ntmps22
        go_wp2_with fail
        go_ret
        exact ⟨up_.alloc _, rfl⟩
      · have hn1 : x.name.toList.isEmpty = true := by rw [sB_empty]; exact hs
        rw [hs] at hr
        have R := Lib.hid (show r = (isValueB n x.elem && x.fields.length == 0 && x.methods.length == 0) by rw [hr]; rfl)
        clear hr hs
        go_enter Tryd.func22, Tryd.ntmps22
        go_wp2_with fail
        refine (isvalue_any A n c x.elem hn).mono ?_
        rintro e w4 ⟨rfl, rfl⟩
        cases hq : isValueB n x.elem
        · have E : r = false := by rw [R.out, hq]; rfl
          subst E
          clear hq
          go_wp2_with fail
          go_ret
          exact ⟨up_.alloc _, rfl⟩
        · have R2 := Lib.hid (show r = (x.fields.length == 0 && x.methods.length == 0) by rw [R.out, hq]; rfl)
          clear hq
          by_cases hf0 : x.fields.length = 0
          · have f0 : ((x.fields.length : Int) == 0) = true := by rw [hf0]; rfl
            have R3 := Lib.hid (show r = ((x.methods.length : Int) == 0) by rw [R2.out, hf0, nat_beq0]; rfl)
            clear hf0
            go_wp2_with fail
            go_ret
            exact ⟨up_.alloc _, by rw [R3.out]; rfl⟩
          · have f0 : ((x.fields.length : Int) == 0) = false := beq_eq_false_iff_ne.2 (by omega)
            have E : r = false := by rw [R2.out, beq_eq_false_iff_ne.2 hf0]; rfl
            subst E
            clear hf0
            go_wp2_with fail
            go_ret
            exact ⟨up_.alloc _, rfl⟩
    · rw [if_neg h6] at hr
      by_cases h7 : x.kind = 7
      · rw [if_pos h7] at hr
        have R := Lib.hid hr
        obtain ⟨k, hk⟩ : ∃ k, k = x.kind := ⟨_, rfl⟩
        rw [← hk] at h5 h6 h7
        have k5 : (k == 5) = false := beq_eq_false_iff_ne.2 h5
        have k6 : (k == 6) = false := beq_eq_false_iff_ne.2 h6
        have k7 : (k == 7) = true := by simpa using h7
        have Hk := Lib.hid hk
        rw [← hk]
        clear hr h5 h6 h7 hk
        go_enter Tryd.func22, Tryd.ntmps22
        go_wp2_with fail
        obtain ⟨w0, hw0, u0, nc⟩ := name_new w 25 #[.int .i64 k, .string x.name, .int .i64 x.elem, .slice Af x.fields.length cf, .slice Am x.methods.length cm]
        rw [← hw0]
        have s0 := nc 0 _ rfl
        have N := Lib.hid (And.intro s0 (And.intro (nc 1 _ rfl) (And.intro (nc 2 _ rfl) (And.intro (nc 3 _ rfl) (nc 4 _ rfl)))))
        have z0 := World.block_lt_of_cell? w0 _ s0
        have U0 := Lib.hid u0
        have hc := isnamed_any (w := w0) (x := x) (Af := Af) (cf := cf) (Am := Am) (cm := cm)
        rw [← Hk.out] at hc
        have Hc := Lib.hid hc
        clear nc u0 hw0 s0 hc
        refine Hc.out.mono ?_
        rintro e w1 ⟨hv, rfl⟩
        have V1 := Lib.hid hv
        have d0 := (V1.out.cell (p := ⟨w.heap.size, 0, none⟩) z0 (fun h => h)).trans N.out.1
        have d1 := (V1.out.cell (p := ⟨w.heap.size, 1, none⟩) z0 (fun h => h)).trans N.out.2.1
        have d2 := (V1.out.cell (p := ⟨w.heap.size, 2, none⟩) z0 (fun h => h)).trans N.out.2.2.1
        have d3 := (V1.out.cell (p := ⟨w.heap.size, 3, none⟩) z0 (fun h => h)).trans N.out.2.2.2.1
        have d4 := (V1.out.cell (p := ⟨w.heap.size, 4, none⟩) z0 (fun h => h)).trans N.out.2.2.2.2
        clear hv
        cases hq : namedB x
        · have E : r = false := by rw [R.out, hq]; rfl
          subst E
          clear hq
          go_wp2_with fail
          go_ret
          exact ⟨Up.trans U0.out V1.out, rfl⟩
        · have R2 := Lib.hid (show r = (x.fields.length == 0 && rightMethodsB n x) by rw [R.out, hq]; rfl)
          clear hq
          by_cases hf0 : x.fields.length = 0
          · have f0 : ((x.fields.length : Int) == 0) = true := by rw [hf0]; rfl
            have R3 := Lib.hid (show r = rightMethodsB n x by rw [R2.out, hf0]; rfl)
            have hc := rightmethods_any (w := w1) (A := A) (c := c) (x := x) hn (FldsP.kept F.out (Up.trans U0.out V1.out) (fun _ _ h => h) (fun _ h => h)) (MthsP.kept M.out (Up.trans U0.out V1.out) (fun _ _ h => h) (fun _ h => h))
            rw [← Hk.out] at hc
            have Hc2 := Lib.hid hc
            clear hf0 hc
            go_wp2_with fail
            refine Hc2.out.mono ?_
            rintro e w3 ⟨hv, rfl⟩
            have V3 := Lib.hid (Up.trans V1.out hv)
            clear hv
            go_wp2_with fail
            go_ret
            exact ⟨Up.trans U0.out V3.out, by rw [R3.out]; rfl⟩
          · have f0 : ((x.fields.length : Int) == 0) = false := beq_eq_false_iff_ne.2 (by omega)
            have E : r = false := by rw [R2.out, beq_eq_false_iff_ne.2 hf0]; rfl
            subst E
            clear hf0
            go_wp2_with fail
            go_ret
            exact ⟨Up.trans U0.out V1.out, rfl⟩
      · rw [if_neg h7] at hr
        subst hr
        obtain ⟨k, hk⟩ : ∃ k, k = x.kind := ⟨_, rfl⟩
        rw [← hk] at h5 h6 h7
        have k5 : (k == 5) = false := beq_eq_false_iff_ne.2 h5
        have k6 : (k == 6) = false := beq_eq_false_iff_ne.2 h6
        have k7 : (k == 7) = false := beq_eq_false_iff_ne.2 h7
        rw [← hk]
        clear h5 h6 h7 hk
        go_enter Tryd.func22, Tryd.ntmps22
        go_wp2_with fail
        go_ret
        exact ⟨up_.alloc _, rfl⟩

theorem clash_66 {b x : Typ} (hb : b.kind = 6) (hx : x.kind = 6) : clashB b x = (b.elem == x.elem) := by simp [clashB, hb, hx]
theorem clash_nn {b x : Typ} (hb : b.kind ≠ 6) (hx : x.kind ≠ 6) : clashB b x = sB b.name x.name := by
  have b1 : (b.kind == 6) = false := by simpa using hb
  have b2 : (b.kind != 6) = true := by simpa using hb
  have x2 : (x.kind != 6) = true := by simpa using hx
  unfold clashB; rw [b1, b2, x2]; simp
theorem clash_6n {b x : Typ} (hb : b.kind = 6) (hx : x.kind ≠ 6) : clashB b x = false := by simp [clashB, hb, hx]
theorem clash_n6 {b x : Typ} (hb : b.kind ≠ 6) (hx : x.kind = 6) : clashB b x = false := by simp [clashB, hb, hx]

set_option maxHeartbeats 2000000 in
theorem clashes_any {w : World} {G : Nat → Prop} {A Af Am : Option Addr} {c cf cm : Nat} {ts : List Typ} {x : Typ} (h : TypsP w G A c ts) :
    Calls Tryd.prog 23 #[.slice A ts.length c, .agg #[.int .i64 x.kind, .string x.name, .int .i64 x.elem, .slice Af x.fields.length cf, .slice Am x.methods.length cm]] w fun e w' => Up w w' ∧ e = .returned (.bool (ts.any (fun b => clashB b x))) := by
  have hl := h.le
  have hb := h.big
  have H := Lib.hid h
  clear h
  go_enter Tryd.func23, Tryd.ntmps23
  go_wp2_with fail
  obtain ⟨w0, hw0, u0, nc⟩ := name_new w 25 #[.int .i64 x.kind, .string x.name, .int .i64 x.elem, .slice Af x.fields.length cf, .slice Am x.methods.length cm]
  rw [← hw0]
  have s0 := nc 0 _ rfl
  have N := Lib.hid (And.intro s0 (And.intro (nc 1 _ rfl) (nc 2 _ rfl)))
  have z0 := World.block_lt_of_cell? w0 _ s0
  have U0 := Lib.hid u0
  clear nc u0 hw0 s0
  go_loopw [9] (fun i wr => ∃ k : Nat, k ≤ ts.length ∧ i = .int .i64 k ∧ Hid (Up w0 wr ∧ ∀ j, j < k → ∀ hj : j < ts.length, clashB ts[j] x = false)) (fun i _ => ts.length - (intOf i).toNat)
  case atStart => exact ⟨0, Nat.zero_le _, rfl, Lib.hid ⟨Fr.refl _ _, fun _ h => absurd h (Nat.not_lt_zero _)⟩⟩
  case round =>
    obtain ⟨k, hk, rfl, hm⟩ := hrel
    by_cases hlt : k < ts.length
    · obtain ⟨b, o, Af', cf', Am', cm', rfl, _, _, _, p0, p1, p2, p3, p4⟩ := (TypsP.kept H.out (Up.trans U0.out hm.out.1) (fun _ _ h => h) (fun _ h => h)).typ hlt
      have s0 := (hm.out.1.cell (p := ⟨w.heap.size, 0, none⟩) z0 (fun h => h)).trans N.out.1
      have s1 := (hm.out.1.cell (p := ⟨w.heap.size, 1, none⟩) z0 (fun h => h)).trans N.out.2.1
      have s2 := (hm.out.1.cell (p := ⟨w.heap.size, 2, none⟩) z0 (fun h => h)).trans N.out.2.2
      have zr : w.heap.size < wr.heap.size := Nat.lt_of_lt_of_le z0 hm.out.1.size
      obtain ⟨y, hy⟩ : ∃ y, y = ts[k] := ⟨_, rfl⟩
      rw [← hy] at p0 p1 p2 p3 p4
      have Hy := Lib.hid hy
      clear hy
      have hu := Lib.hid (hm.out.1.alloc (.cells #[.int .i64 y.kind, .string y.name, .int .i64 y.elem, .slice Af' y.fields.length cf', .slice Am' y.methods.length cm'] 25))
      have no (hc : clashB y x = false) := Lib.hid (show ∀ j, j < k + 1 → ∀ hj : j < ts.length, clashB ts[j] x = false from below_next hm.out.2 (fun _ => by rw [← Hy.out]; exact hc))
      have yes (hc : clashB y x = true) := Lib.hid (show ts.any (fun b => clashB b x) = true from any_yes hlt (by rw [← Hy.out]; exact hc))
      by_cases hb6 : y.kind = 6
      · have b1 : (y.kind == 6) = true := by simpa using hb6
        have b2 : (y.kind != 6) = false := by simpa using hb6
        by_cases hx6 : x.kind = 6
        · have x1 : (x.kind == 6) = true := by simpa using hx6
          have x2 : (x.kind != 6) = false := by simpa using hx6
          have hc := clash_66 hb6 hx6
          by_cases he : y.elem = x.elem
          · have e1 : (y.elem == x.elem) = true := by simpa using he
            have Y := yes (hc.trans e1)
            clear no yes hc hb6 hx6 he
            go_wp2_with fail
            go_ret
            exact ⟨Up.trans U0.out hu.out, by rw [Y.out]; rfl⟩
          · have e1 : (y.elem == x.elem) = false := by simpa using he
            have Y := no (hc.trans e1)
            clear no yes hc hb6 hx6 he
            go_wp2_with fail
            go_roundw
            case rel => exact ⟨k + 1, by omega, by go_num, Lib.hid ⟨hu.out, Y.out⟩⟩
            case measure => simp [intOf]; omega
        · have x1 : (x.kind == 6) = false := by simpa using hx6
          have x2 : (x.kind != 6) = true := by simpa using hx6
          have Y := no (clash_6n hb6 hx6)
          clear no yes hb6 hx6
          go_wp2_with fail
          go_roundw
          case rel => exact ⟨k + 1, by omega, by go_num, Lib.hid ⟨hu.out, Y.out⟩⟩
          case measure => simp [intOf]; omega
      · have b1 : (y.kind == 6) = false := by simpa using hb6
        have b2 : (y.kind != 6) = true := by simpa using hb6
        by_cases hx6 : x.kind = 6
        · have x1 : (x.kind == 6) = true := by simpa using hx6
          have x2 : (x.kind != 6) = false := by simpa using hx6
          have Y := no (clash_n6 hb6 hx6)
          clear no yes hb6 hx6
          go_wp2_with fail
          go_roundw
          case rel => exact ⟨k + 1, by omega, by go_num, Lib.hid ⟨hu.out, Y.out⟩⟩
          case measure => simp [intOf]; omega
        · have x1 : (x.kind == 6) = false := by simpa using hx6
          have x2 : (x.kind != 6) = true := by simpa using hx6
          have hc := clash_nn hb6 hx6
          cases he : sB y.name x.name
          · have e1 : (y.name.toList == x.name.toList) = false := by rw [sB_eq]; exact he
            have Y := no (hc.trans he)
            clear no yes hc hb6 hx6 he
            go_wp2_with fail
            go_roundw
            case rel => exact ⟨k + 1, by omega, by go_num, Lib.hid ⟨hu.out, Y.out⟩⟩
            case measure => simp [intOf]; omega
          · have e1 : (y.name.toList == x.name.toList) = true := by rw [sB_eq]; exact he
            have Y := yes (hc.trans he)
            clear no yes hc hb6 hx6 he
            go_wp2_with fail
            go_ret
            exact ⟨Up.trans U0.out hu.out, by rw [Y.out]; rfl⟩
    · obtain rfl : k = ts.length := by omega
      go_wp2_with fail
      go_ret
      exact ⟨Up.trans U0.out hm.out.1, congrArg (fun b => Ending.returned (.bool b)) (any_no (fun j hj => hm.out.2 j hj hj)).symm⟩
end Go.Proofs.YtjlljfeledapaaaDoor
