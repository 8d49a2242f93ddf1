/-
  Which types are right.
-/
import Derived.Test.YtjlljfeledapaaaDoorKindD
namespace Go.Proofs.YtjlljfeledapaaaDoor
open Go.RowKit

theorem range_all {n : Nat} {p : Nat → Bool} (h : ∀ j, j < n → p j = true) : (List.range n).all p = true := by
  rw [List.all_eq_true]; intro x hx; exact h x (List.mem_range.1 hx)
theorem range_no {n k : Nat} {p : Nat → Bool} (hk : k < n) (h : p k = false) : (List.range n).all p = false := by
  rw [List.all_eq_false]; exact ⟨k, List.mem_range.2 hk, by rw [h]; decide⟩

set_option maxHeartbeats 400000 in
theorem isnamed_any {w : World} {x : Typ} {Af Am : Option Addr} {cf cm : Nat} :
    Calls Tryd.prog 33 #[.agg #[.int .i64 x.kind, .string x.name, .int .i64 x.elem, .slice Af x.fields.length cf, .slice Am x.methods.length cm]] w fun e w' => Up w w' ∧ e = .returned (.bool (namedB x)) := by
  obtain ⟨r, hr⟩ : ∃ r, r = namedB x := ⟨_, rfl⟩
  rw [← hr]
  unfold namedB at hr
  obtain ⟨xk, xn, xe, xf, xm⟩ := x
  simp only at hr ⊢
  cases hs : sB xn ⟨#[]⟩
  · have hn1 : xn.toList.isEmpty = false := by rw [sB_empty]; exact hs
    have R := Lib.hid (show r = (xe == 0) by rw [hr, hs]; rfl)
    clear hr hs
    go_enter Tryd.func33, Tryd.ntmps33
    go_wp2_with fail
    go_ret
    exact ⟨up_.alloc _, by rw [R.out]; rfl⟩
  · have hn1 : xn.toList.isEmpty = true := by rw [sB_empty]; exact hs
    have E : r = false := by rw [hr, hs]; rfl
    subst E
    clear hr hs
    go_enter Tryd.func33, Tryd.ntmps33
    go_wp2_with fail
    go_ret
    exact ⟨up_.alloc _, rfl⟩

set_option maxHeartbeats 1000000 in
theorem rightfields_any {w : World} {G : Nat → Prop} {A A' : Option Addr} {n c c' : Nat} {fs : List Fld} (hn : n ≤ 9223372036854775807) (h : FldsP w G A' c' fs) :
    Calls Tryd.prog 34 #[.slice A n c, .slice A' fs.length c'] w fun e w' => Up w w' ∧ e = .returned (.bool (rightFieldsB n fs)) := by
  have hl := h.le
  have hb := h.big
  by_cases h12 : fs.length ≤ 12
  · have e : rightFieldsB n fs = (List.range fs.length).all (fieldOkB n fs) := by unfold rightFieldsB; rw [decide_eq_true h12]; rfl
    rw [e]
    have H := Lib.hid h
    clear e h
    go_enter Tryd.func34, Tryd.ntmps34
    go_wp2_with fail
    go_loopw [14] (fun i wr => ∃ k : Nat, k ≤ fs.length ∧ i = .int .i64 k ∧ Hid (Up w wr ∧ ∀ j, j < k → fieldOkB n fs j = true)) (fun i _ => fs.length - (intOf i).toNat)
    case atStart => exact ⟨0, Nat.zero_le _, rfl, Lib.hid ⟨Fr.refl _ _, fun _ h => absurd h (Nat.not_lt_zero _)⟩⟩
    case round =>
      obtain ⟨k, hk, rfl, hm⟩ := hrel
      by_cases hlt : k < fs.length
      · obtain ⟨b, o, rfl, _, c0, c1⟩ := (FldsP.kept H.out hm.out.1 (fun _ _ h => h) (fun _ h => h)).fld hlt
        obtain ⟨x, hx⟩ : ∃ x, x = fs[k] := ⟨_, rfl⟩
        rw [← hx] at c0 c1
        have ok : fieldOkB n fs k = ((fldIdx (fs.take k) x.name).isNone && isValueB n x.type) := by unfold fieldOkB; rw [List.getElem?_eq_getElem hlt, hx]
        have Ok := Lib.hid ok
        clear hx ok
        go_wp2_with fail
        obtain ⟨w1, hw1, u1, nc⟩ := name_new wr 49 #[.string x.name, .int .i64 x.type]
        rw [← hw1]
        have n0 := nc 0 _ rfl
        have n1 := nc 1 _ rfl
        have U1 := Lib.hid (Up.trans hm.out.1 u1)
        have kc : k ≤ c' := by omega
        have hc := fieldnamed_any (w := w1.drewN 1) ((FldsP.kept H.out (Fr.drewN U1.out 1) (fun _ _ h => h) (fun _ h => h)).front k hk) x.name
        rw [show (fs.take k).length = k by rw [List.length_take]; omega] at hc
        have l1 := World.block_lt_of_cell? w1 _ n1
        clear nc u1 hw1 c0 c1
        cases hi : fldIdx (fs.take k) x.name with
        | some q =>
          have No := Lib.hid (show fieldOkB n fs k = false by rw [Ok.out, hi]; rfl)
          rw [hi, found_some rfl] at hc
          have Hc := Lib.hid hc
          clear hi hc
          go_region_held3 (fun W' => W'.cell? ⟨wr.heap.size, 0, none⟩ = some (.string x.name)) (first | exact k0 | exact n0)
            (first | (go_at_call 29; refine Hc.out.mono ?_; rintro e w3 ⟨hv, rfl⟩; have k0 := (hv.cell (p := ⟨wr.heap.size, 0, none⟩) l1 (fun h => h)).trans n0; have Hv := Lib.hid (Up.trans (Fr.drewN U1.out 1) hv); clear hv))
          go_wp2_with fail
          go_ret
          exact ⟨Hv.out, congrArg (fun b => Ending.returned (.bool b)) (range_no hlt No.out).symm⟩
        | none =>
          rw [hi, found_none rfl] at hc
          have Hc := Lib.hid hc
          have Ok2 := Lib.hid (show fieldOkB n fs k = isValueB n x.type by rw [Ok.out, hi]; rfl)
          clear hi hc
          go_region_held3 (fun W' => W'.cell? ⟨wr.heap.size, 0, none⟩ = some (.string x.name)) (first | exact k0 | exact n0)
            (first | (go_at_call 29; refine Hc.out.mono ?_; rintro e w3 ⟨hv, rfl⟩; have k0 := (hv.cell (p := ⟨wr.heap.size, 0, none⟩) l1 (fun h => h)).trans n0; have m3 := (hv.cell (p := ⟨wr.heap.size, 1, none⟩) l1 (fun h => h)).trans n1; have Hv := Lib.hid (Up.trans (Fr.drewN U1.out 1) hv); clear hv))
          go_wp2_with fail
          refine (isvalue_any A n c x.type hn).mono ?_
          rintro e w4 ⟨rfl, rfl⟩
          cases hiv : isValueB n x.type
          · have No := Lib.hid (Ok2.out.trans hiv)
            clear hiv
            go_wp2_with fail
            go_ret
            exact ⟨Hv.out, congrArg (fun b => Ending.returned (.bool b)) (range_no hlt No.out).symm⟩
          · have hn := Lib.hid (below_next (P := fun j => fieldOkB n fs j = true) hm.out.2 (Ok2.out.trans hiv))
            clear hiv
            go_wp2_with fail
            go_roundw
            case rel => exact ⟨k + 1, by omega, by go_num, Lib.hid ⟨Hv.out, hn.out⟩⟩
            case measure => simp [intOf]; omega
      · obtain rfl : k = fs.length := by omega
        go_wp2_with fail
        go_ret
        exact ⟨hm.out.1, congrArg (fun b => Ending.returned (.bool b)) (range_all hm.out.2).symm⟩
  · have e : rightFieldsB n fs = false := by unfold rightFieldsB; rw [decide_eq_false h12]; rfl
    rw [e]
    have h13 : 12 < fs.length := by omega
    clear e h h12
    go_enter Tryd.func34, Tryd.ntmps34
    go_wp2_with fail
    go_ret
    exact ⟨up_, rfl⟩

set_option maxHeartbeats 1000000 in
theorem rightcall_any {w : World} {G : Nat → Prop} {A A' : Option Addr} {n c c' : Nat} {m : Mth} (hn : n ≤ 9223372036854775807) (h : IntsP w G A' c' m.params) :
    Calls Tryd.prog 45 #[.slice A n c, .agg #[.string m.name, .slice A' m.params.length c', .int .i64 m.result, .int .i64 m.func]] w fun e w' => Up w w' ∧ e = .returned (.bool (rightCallB n m)) := by
  have hl := h.le
  have hb := h.big
  obtain ⟨r, hr⟩ : ∃ r, r = rightCallB n m := ⟨_, rfl⟩
  rw [← hr]
  unfold rightCallB at hr
  obtain ⟨mn, ps, mr, mf⟩ := m
  simp only at h hl hr ⊢
  by_cases h8 : ps.length ≤ 8
  · rw [decide_eq_true h8] at hr
    have R := Lib.hid hr
    have H := Lib.hid h
    clear h hr
    go_enter Tryd.func45, Tryd.ntmps45
    go_wp2_with fail
    obtain ⟨w1, hw1, u1, nc⟩ := name_new w 38 #[.string mn, .slice A' ps.length c', .int .i64 mr, .int .i64 mf]
    rw [← hw1]
    have n2 := nc 2 _ rfl
    have U1 := Lib.hid u1
    clear nc u1 hw1
    go_loop [14] (fun i => ∃ k : Nat, k ≤ ps.length ∧ i = .int .i64 k ∧ Hid (∀ j, j < k → ∀ hj : j < ps.length, isValueB n ps[j] = true)) (fun i => ps.length - (intOf i).toNat)
    case atStart => exact ⟨0, Nat.zero_le _, rfl, Lib.hid (fun _ h => absurd h (Nat.not_lt_zero _))⟩
    case round =>
      obtain ⟨k, hk, rfl, hm⟩ := hrel
      by_cases hlt : k < ps.length
      · obtain ⟨b, o, rfl, _, c0⟩ := (IntsP.kept H.out U1.out (fun _ _ h => h) (fun _ h => h)).int hlt
        obtain ⟨x, hx⟩ : ∃ x, x = ps[k] := ⟨_, rfl⟩
        rw [← hx] at c0
        have Hx := Lib.hid hx
        clear hx
        go_wp2_with fail
        refine (isvalue_any A n c x hn).mono ?_
        rintro e w4 ⟨rfl, rfl⟩
        cases hiv : isValueB n x
        · have E : r = false := by rw [R.out, all_no hlt (by rw [← Hx.out]; exact hiv)]; rfl
          subst E
          clear hiv
          go_wp2_with fail
          go_ret
          exact ⟨U1.out, rfl⟩
        · have hn := Lib.hid (show ∀ j, j < k + 1 → ∀ hj : j < ps.length, isValueB n ps[j] = true from below_next hm.out (fun _ => by rw [← Hx.out]; exact hiv))
          clear hiv
          go_wp2_with fail
          go_round
          case rel => exact ⟨k + 1, by omega, by go_num, hn⟩
          case measure => simp [intOf]; omega
      · obtain rfl : k = ps.length := by omega
        have R2 := Lib.hid (show r = (mr == 0 || isValueB n mr) by rw [R.out, all_yes (fun j hj => hm.out j hj hj)]; rfl)
        by_cases h0 : mr = 0
        · subst h0
          have E : r = true := by rw [R2.out]; rfl
          subst E
          go_wp2_with fail
          go_ret
          exact ⟨U1.out, rfl⟩
        · have b0 : (mr == 0) = false := beq_eq_false_iff_ne.2 h0
          have R3 := Lib.hid (show r = isValueB n mr by rw [R2.out, b0]; rfl)
          clear h0
          go_wp2_with fail
          refine (isvalue_any A n c mr hn).mono ?_
          rintro e w4 ⟨rfl, rfl⟩
          go_wp2_with fail
          go_ret
          exact ⟨U1.out, by rw [R3.out]; rfl⟩
  · have E : r = false := by rw [hr, decide_eq_false h8]; rfl
    subst E
    have h9 : 8 < ps.length := by omega
    clear hr h8 h
    go_enter Tryd.func45, Tryd.ntmps45
    go_wp2_with fail
    go_ret
    exact ⟨up_.alloc _, rfl⟩
end Go.Proofs.YtjlljfeledapaaaDoor
