/-
  Base of package kinds, and Right.
-/
import Derived.Test.YtjlljfeledapaaaDoorKindF
import Derived.Test.YtjlljfeledapaaaDoorOwn
import Derived.Test.YtjlljfeledapaaaDoorHeld
import Derived.LoopN
namespace Go.Proofs.YtjlljfeledapaaaDoor
open Go.RowKit

def plainCells (x : Typ) : List Value := [.int .i64 x.kind, .string x.name, .int .i64 x.elem, .slice none 0 0, .slice none 0 0]
theorem nil_at {α : Type} {w : World} {G : Nat → Prop} {sz : Nat} {C : α → List Value → Prop} : SlAt w G sz C (.slice none 0 0) ([] : List α) := ⟨none, 0, rfl, Nat.le_refl _, by decide, fun h => absurd rfl h⟩
theorem plain_rows {w : World} {G : Nat → Prop} (ts : List Typ) (h : ∀ x ∈ ts, x.fields = [] ∧ x.methods = [] ∧ x.name.size ≤ 9223372036854775807) : Rows_ 5 (TypC w G) ts (ts.map plainCells) := by
  refine ⟨by simp, ?_, ?_⟩
  · intro cs hcs
    obtain ⟨x, _, rfl⟩ := List.mem_map.1 hcs
    rfl
  · intro j x cs hj hcs
    rw [List.getElem?_map, hj] at hcs
    simp only [Option.map_some, Option.some.injEq] at hcs
    subst hcs
    obtain ⟨h1, h2, h3⟩ := h x (List.mem_of_getElem? hj)
    exact ⟨_, _, rfl, by rw [h1]; exact nil_at, by rw [h2]; exact nil_at, h3⟩
theorem base_plain : ∀ x ∈ baseT, x.fields = [] ∧ x.methods = [] ∧ x.name.size ≤ 9223372036854775807 := by
  intro x hx
  simp only [baseT, List.mem_cons, List.not_mem_nil, or_false] at hx
  rcases hx with rfl | rfl | rfl | rfl | rfl <;> exact ⟨rfl, rfl, by decide⟩

/-- A list of types that the call has made. -/
def Made (w : World) (ts : List Typ) (n : Nat) (e : Ending) (w' : World) : Prop :=
  ∃ g c, e = .returned (.slice (some ⟨g, 0, none⟩) n c) ∧ ts.length = n ∧ w.heap.size ≤ g ∧ OwnSl w' w.heap.size 25 5 (TypC w' (fun b => w.heap.size ≤ b)) (.slice (some ⟨g, 0, none⟩) n c) ts ∧ Up w w'
theorem Made.reads {w w' : World} {ts : List Typ} {n g c : Nat} (h : OwnSl w' w.heap.size 25 5 (TypC w' (fun b => w.heap.size ≤ b)) (.slice (some ⟨g, 0, none⟩) n c) ts) : TypsP w' (fun b => w.heap.size ≤ b) (some ⟨g, 0, none⟩) c ts := by
  obtain ⟨A, c', e, hp⟩ := (h.reads.wide (G' := fun b => w.heap.size ≤ b) (fun b hb => hb.1) (fun _ _ _ h => h)).parts
  simp only [Value.slice.injEq] at e
  obtain ⟨rfl, _, rfl⟩ := e
  exact hp

theorem made_second (w : World) (o : Obj) (cs : Array Value) (hcs : cs.toList = (baseT.map plainCells).flatten) :
    Made w baseT 5 (.returned (.slice (some ⟨w.heap.size + 1, 0, none⟩) 5 5)) ((w.alloc o).alloc (.cells cs 25)) := by
  refine ⟨w.heap.size + 1, 5, rfl, rfl, by omega, ?_, (up_.alloc _).alloc _⟩
  have := own_lit (w := w.alloc o) (base := w.heap.size) (e := 25) (C := TypC ((w.alloc o).alloc (.cells cs 25)) (fun b => w.heap.size ≤ b)) baseT _ (plain_rows baseT base_plain) cs hcs 5 rfl (by simp) (by decide)
  simpa using this
theorem made_first (w : World) (cs : Array Value) (hcs : cs.toList = (baseT.map plainCells).flatten) :
    Made w baseT 5 (.returned (.slice (some ⟨w.heap.size, 0, none⟩) 5 5)) (w.alloc (.cells cs 25)) :=
  ⟨w.heap.size, 5, rfl, rfl, Nat.le_refl _, own_lit (w := w) baseT _ (plain_rows baseT base_plain) cs hcs 5 rfl (Nat.le_refl _) (by decide), up_.alloc _⟩

set_option maxHeartbeats 2000000 in
theorem base_any {w : World} : Calls Tryd.prog 21 #[] w (Made w baseT 5) := by
  have hmk : ∀ w, (Instr.makeSlice 27 (.int .i64 5) (.int .i64 5)).run Tryd.prog w = .ok (.slice (some ⟨w.heap.size, 0, none⟩) 5 5) (w.alloc (.cells #[.int .i64 0, .string ⟨#[]⟩, .int .i64 0, .slice none 0 0, .slice none 0 0, .int .i64 0, .string ⟨#[]⟩, .int .i64 0, .slice none 0 0, .slice none 0 0, .int .i64 0, .string ⟨#[]⟩, .int .i64 0, .slice none 0 0, .slice none 0 0, .int .i64 0, .string ⟨#[]⟩, .int .i64 0, .slice none 0 0, .slice none 0 0, .int .i64 0, .string ⟨#[]⟩, .int .i64 0, .slice none 0 0, .slice none 0 0] 25)) := fun _ => by kernel_rfl
  have i0 : ∀ w, (Instr.index 62 (.agg #[.string ⟨#[]⟩, .string ⟨#[105, 110, 116]⟩, .string ⟨#[98, 111, 111, 108]⟩, .string ⟨#[115, 116, 114, 105, 110, 103]⟩, .string ⟨#[110, 105, 108]⟩]) (.int .i64 0)).run Tryd.prog w = .ok (.string ⟨#[]⟩) w := fun _ => by kernel_rfl
  have i1 : ∀ w, (Instr.index 62 (.agg #[.string ⟨#[]⟩, .string ⟨#[105, 110, 116]⟩, .string ⟨#[98, 111, 111, 108]⟩, .string ⟨#[115, 116, 114, 105, 110, 103]⟩, .string ⟨#[110, 105, 108]⟩]) (.int .i64 1)).run Tryd.prog w = .ok (.string ⟨#[105, 110, 116]⟩) w := fun _ => by kernel_rfl
  have i2 : ∀ w, (Instr.index 62 (.agg #[.string ⟨#[]⟩, .string ⟨#[105, 110, 116]⟩, .string ⟨#[98, 111, 111, 108]⟩, .string ⟨#[115, 116, 114, 105, 110, 103]⟩, .string ⟨#[110, 105, 108]⟩]) (.int .i64 2)).run Tryd.prog w = .ok (.string ⟨#[98, 111, 111, 108]⟩) w := fun _ => by kernel_rfl
  have i3 : ∀ w, (Instr.index 62 (.agg #[.string ⟨#[]⟩, .string ⟨#[105, 110, 116]⟩, .string ⟨#[98, 111, 111, 108]⟩, .string ⟨#[115, 116, 114, 105, 110, 103]⟩, .string ⟨#[110, 105, 108]⟩]) (.int .i64 3)).run Tryd.prog w = .ok (.string ⟨#[115, 116, 114, 105, 110, 103]⟩) w := fun _ => by kernel_rfl
  have i4 : ∀ w, (Instr.index 62 (.agg #[.string ⟨#[]⟩, .string ⟨#[105, 110, 116]⟩, .string ⟨#[98, 111, 111, 108]⟩, .string ⟨#[115, 116, 114, 105, 110, 103]⟩, .string ⟨#[110, 105, 108]⟩]) (.int .i64 4)).run Tryd.prog w = .ok (.string ⟨#[110, 105, 108]⟩) w := fun _ => by kernel_rfl
  go_enter Tryd.func21, Tryd.ntmps21
  go_wp2_with fail
  refine wp_loop_rounds 6 ?_
  rw [rounds_succ]; go_wp2_with fail
  rw [rounds_succ]; go_wp2_with fail
  rw [rounds_succ]; go_wp2_with fail
  rw [rounds_succ]; go_wp2_with fail
  rw [rounds_succ]; go_wp2_with fail
  rw [rounds_succ]; go_wp2_with fail
  go_ret
  exact made_second _ _ _ rfl

set_option maxHeartbeats 1000000 in
theorem rbase_any {w : World} : Calls Tryd.prog 13 #[] w (Made w baseT 5) := by
  go_enter Tryd.func13, Tryd.ntmps13
  go_wp2_with fail
  go_ret
  exact made_first _ _ rfl

theorem typ_nat {l : List Typ} {k : Nat} (h : k < l.length) : typ l (k : Nat) = l[k] := typ_at h
def okB (l : List Typ) (i : Nat) : Bool := rightTypeB l.length (typ l (i + 5 : Nat)) && !(l.take (i + 5)).any (fun b => clashB b (typ l (i + 5 : Nat)))
def baseB (l : List Typ) (i : Nat) : Bool := sameB (typ l i) (typ baseT i)

set_option maxHeartbeats 4000000 in
theorem right_any {w : World} {G : Nat → Prop} {A : Option Addr} {c : Nat} {ts : List Typ} (h : TypsP w G A c ts) :
    Calls Tryd.prog 10 #[.slice A ts.length c] w fun e w' => Up w w' ∧ e = .returned (.bool (rightB ts)) := by
  have hl := h.le
  have hb := h.big
  obtain ⟨r, hr⟩ : ∃ r, r = rightB ts := ⟨_, rfl⟩
  rw [← hr]
  have hr' : r = (decide (5 ≤ ts.length) && decide (ts.length ≤ 60) && (List.range 5).all (baseB ts) && (List.range (ts.length - 5)).all (okB ts)) := hr
  have H := Lib.hid h
  clear h hr
  by_cases h5 : 5 ≤ ts.length
  · rw [decide_eq_true h5] at hr'
    by_cases h60 : ts.length ≤ 60
    · rw [decide_eq_true h60] at hr'
      have R := Lib.hid hr'
      clear hr'
      go_enter Tryd.func10, Tryd.ntmps10
      go_wp2_with fail
      refine base_any.mono ?_
      rintro e w1 ⟨g, cb, rfl, _, _, hown, u1⟩
      have U1 := Lib.hid u1
      have B := Lib.hid (Made.reads hown)
      have cbl := (Made.reads hown).le
      clear u1 hown
      go_wp2_with fail
      go_loopw [19] (fun i wr => ∃ k : Nat, k ≤ 5 ∧ i = .int .i64 k ∧ Hid (Up w1 wr ∧ ∀ j, j < k → baseB ts j = true)) (fun i _ => 5 - (intOf i).toNat)
      case atStart => exact ⟨0, Nat.zero_le _, rfl, Lib.hid ⟨Fr.refl _ _, fun _ h => absurd h (Nat.not_lt_zero _)⟩⟩
      case round =>
        obtain ⟨k, hk, rfl, hm⟩ := hrel
        have Hu := Lib.hid (Up.trans U1.out hm.out.1)
        by_cases hlt : k < 5
        · have hlt' : k < ts.length := by omega
          have hlb : k < baseT.length := hlt
          obtain ⟨b, o, Af, cf, Am, cm, rfl, _, hf, hmm, p0, p1, p2, p3, p4⟩ := (TypsP.kept H.out Hu.out (fun _ _ h => h) (fun _ h => h)).typ hlt'
          obtain ⟨b', o', Af', cf', Am', cm', hA, _, hf', hmm', q0, q1, q2, q3, q4⟩ := (TypsP.kept B.out hm.out.1 (fun _ _ h => h) (fun _ h => h)).typ hlb
          simp only [Option.some.injEq, Addr.mk.injEq, and_true] at hA
          obtain ⟨rfl, rfl⟩ := hA
          simp only [Nat.zero_add] at q0 q1 q2 q3 q4
          obtain ⟨x, hx⟩ : ∃ x, x = ts[k] := ⟨_, rfl⟩
          obtain ⟨y, hy⟩ : ∃ y, y = baseT[k] := ⟨_, rfl⟩
          rw [← hx] at p0 p1 p2 p3 p4 hf hmm
          rw [← hy] at q0 q1 q2 q3 q4 hf' hmm'
          have bb : baseB ts k = sameB x y := by unfold baseB; rw [typ_nat hlt', typ_nat hlb, hx, hy]
          have BB := Lib.hid bb
          have F := Lib.hid hf
          have M := Lib.hid hmm
          have F' := Lib.hid hf'
          have M' := Lib.hid hmm'
          clear hx hy hf hmm hf' hmm' bb
          go_wp2_with fail
          go_still_tail 8, (by kernel_rfl)
          change wpList _ _ _ _ _ wr.drew
          have uD : Up wr wr.drew := Fr.drew up_
          generalize wr.drew = w2 at uD
          have UD := Lib.hid uD
          clear uD
          go_wp2_with fail
          refine (same_any (x := x) (y := y) (FldsP.kept F.out UD.out (fun _ _ h => h) (fun _ h => h)) (MthsP.kept M.out UD.out (fun _ _ h => h) (fun _ h => h)) (FldsP.kept F'.out UD.out (fun _ _ h => h) (fun _ h => h)) (MthsP.kept M'.out UD.out (fun _ _ h => h) (fun _ h => h))).mono ?_
          rintro e w3 ⟨hv, rfl⟩
          have Hv := Lib.hid (Up.trans hm.out.1 (Up.trans UD.out hv))
          clear hv p0 p1 p2 p3 p4 q0 q1 q2 q3 q4
          cases hq : sameB x y
          · have No := Lib.hid (BB.out.trans hq)
            have E : r = false := by rw [R.out, range_no hlt No.out]; simp
            subst E
            clear hq
            go_wp2_with fail
            go_ret
            exact ⟨Up.trans U1.out Hv.out, rfl⟩
          · have hn := Lib.hid (below_next (P := fun j => baseB ts j = true) hm.out.2 (BB.out.trans hq))
            clear hq
            go_wp2_with fail
            go_roundw
            case rel => exact ⟨k + 1, by omega, by go_num, Lib.hid ⟨Hv.out, hn.out⟩⟩
            case measure => simp [intOf]; omega
        · obtain rfl : k = 5 := by omega
          have R2 := Lib.hid (show r = (List.range (ts.length - 5)).all (okB ts) by rw [R.out, range_all hm.out.2]; simp)
          obtain ⟨wo, hwo⟩ : ∃ wo : World, wo = wr := ⟨_, rfl⟩
          subst hwo
          clear hm
          go_wp2_with fail
          go_loopw [5] (fun i wr => ∃ k : Nat, 5 ≤ k ∧ k ≤ ts.length ∧ i = .int .i64 k ∧ Hid (Up w wr ∧ ∀ j, j < k - 5 → okB ts j = true)) (fun i _ => ts.length - (intOf i).toNat)
          case atStart => exact ⟨5, Nat.le_refl _, h5, rfl, Lib.hid ⟨Hu.out, fun _ h => absurd h (Nat.not_lt_zero _)⟩⟩
          case round =>
            obtain ⟨k, hk5, hk, rfl, hm⟩ := hrel
            by_cases hlt : k < ts.length
            · obtain ⟨b, o, Af, cf, Am, cm, rfl, _, hf, hmm, p0, p1, p2, p3, p4⟩ := (TypsP.kept H.out hm.out.1 (fun _ _ h => h) (fun _ h => h)).typ hlt
              obtain ⟨x, hx⟩ : ∃ x, x = ts[k] := ⟨_, rfl⟩
              rw [← hx] at p0 p1 p2 p3 p4 hf hmm
              have ok : okB ts (k - 5) = (rightTypeB ts.length x && !(ts.take k).any (fun b => clashB b x)) := by
                unfold okB; rw [show k - 5 + 5 = k by omega, typ_nat hlt, hx]
              have Ok := Lib.hid ok
              have F := Lib.hid hf
              have M := Lib.hid hmm
              clear hx ok hf hmm
              have kc : k ≤ c := by omega
              have lb := World.block_lt_of_cell? wr _ p0
              have hc := righttype_any (w := wr.drewN 1) (A := some ⟨b, o, none⟩) (n := ts.length) (c := c) (x := x) (by omega) (FldsP.kept F.out (Fr.drewN up_ 1) (fun _ _ h => h) (fun _ h => h)) (MthsP.kept M.out (Fr.drewN up_ 1) (fun _ _ h => h) (fun _ h => h))
              cases hq : rightTypeB ts.length x
              · have No := Lib.hid (show okB ts (k - 5) = false by rw [Ok.out, hq]; rfl)
                have E : r = false := by rw [R2.out]; exact range_no (by omega) No.out
                rw [hq] at hc
                have Hc := Lib.hid hc
                subst E
                clear hq hc
                go_wp2_with fail
                refine wp_region_held_drew (S := (fun W' => W'.cell? ⟨b, o + k * 5, none⟩ = some (.int .i64 x.kind) ∧ W'.cell? ⟨b, o + k * 5 + 1, none⟩ = some (.string x.name) ∧ W'.cell? ⟨b, o + k * 5 + 2, none⟩ = some (.int .i64 x.elem) ∧ W'.cell? ⟨b, o + k * 5 + 3, none⟩ = some (.slice Af x.fields.length cf) ∧ W'.cell? ⟨b, o + k * 5 + 4, none⟩ = some (.slice Am x.methods.length cm))) (by kernel_rfl) (by exact ⟨p0, p1, p2, p3, p4⟩) (fun hHeld => ?_)
                refine held_take (i := 0) (d := some 41) (v := ?_) rfl rfl (by kernel_rfl) (by kernel_rfl) (by kernel_rfl) (fun _ _ _ h => h) (by rfl) ?_ (by assumption) ?_
                rotate_left 1
                focus (intro w hSw; (try dsimp only at hSw); go_simp; first | done | with_reducible rfl)
                simp only [Act.put, List.setIfInBounds_toArray, List.set_cons_zero, List.set_cons_succ]
                refine held_take (i := 1) (d := some 42) (v := ?_) rfl rfl (by kernel_rfl) (by kernel_rfl) (by kernel_rfl) (fun _ _ _ h => h) (by rfl) ?_ (by assumption) ?_
                rotate_left 1
                focus (intro w hSw; (try dsimp only at hSw); go_simp; first | done | with_reducible rfl)
                simp only [Act.put, List.setIfInBounds_toArray, List.set_cons_zero, List.set_cons_succ]
                refine held_take (i := 2) (d := some 43) (v := ?_) rfl rfl (by kernel_rfl) (by kernel_rfl) (by kernel_rfl) (fun _ _ _ h => h) (by rfl) ?_ (by assumption) ?_
                rotate_left 1
                focus (intro w hSw; (try dsimp only at hSw); go_simp; first | done | with_reducible rfl)
                simp only [Act.put, List.setIfInBounds_toArray, List.set_cons_zero, List.set_cons_succ]
                refine held_take (i := 3) (d := some 44) (v := ?_) rfl rfl (by kernel_rfl) (by kernel_rfl) (by kernel_rfl) (fun _ _ _ h => h) (by rfl) ?_ (by assumption) ?_
                rotate_left 1
                focus (intro w hSw; (try dsimp only at hSw); go_simp; first | done | with_reducible rfl)
                simp only [Act.put, List.setIfInBounds_toArray, List.set_cons_zero, List.set_cons_succ]
                refine held_take (i := 4) (d := some 45) (v := ?_) rfl rfl (by kernel_rfl) (by kernel_rfl) (by kernel_rfl) (fun _ _ _ h => h) (by rfl) ?_ (by assumption) ?_
                rotate_left 1
                focus (intro w hSw; (try dsimp only at hSw); go_simp; first | done | with_reducible rfl)
                simp only [Act.put, List.setIfInBounds_toArray, List.set_cons_zero, List.set_cons_succ]
                refine wpAnyH_ready (rs := [5]) (by kernel_rfl) (by simp) ?_
                refine AllReadyH.cons (o := _) rfl (fun K hK => ?_) AllReadyH.nil
                go_simp
                refine Hc.out.mono ?_
                rintro e w3 ⟨hv, rfl⟩
                have k0 := (hv.cell (p := ⟨b, o + k * 5, none⟩) lb (fun h => h)).trans p0
                have k1 := (hv.cell (p := ⟨b, o + k * 5 + 1, none⟩) lb (fun h => h)).trans p1
                have k2 := (hv.cell (p := ⟨b, o + k * 5 + 2, none⟩) lb (fun h => h)).trans p2
                have k3 := (hv.cell (p := ⟨b, o + k * 5 + 3, none⟩) lb (fun h => h)).trans p3
                have k4 := (hv.cell (p := ⟨b, o + k * 5 + 4, none⟩) lb (fun h => h)).trans p4
                have Hv := Lib.hid (Up.trans (Fr.drewN up_ 1) hv)
                clear hv
                go_simp
                refine hK.out _ _ (by exact ⟨k0, k1, k2, k3, k4⟩) (fun hHeld => ?_)
                clear hK K
                refine held_take (i := 6) (d := some 47) (v := ?_) rfl rfl (by kernel_rfl) (by kernel_rfl) (by kernel_rfl) (fun _ _ _ h => h) (by rfl) ?_ (by assumption) ?_
                rotate_left 1
                focus (intro w hSw; (try dsimp only at hSw); go_simp; first | done | with_reducible rfl)
                simp only [Act.put, List.setIfInBounds_toArray, List.set_cons_zero, List.set_cons_succ]
                refine held_take (i := 7) (d := some 48) (v := ?_) rfl rfl (by kernel_rfl) (by kernel_rfl) (by kernel_rfl) (fun _ _ _ h => h) (by rfl) ?_ (by assumption) ?_
                rotate_left 1
                focus (intro w hSw; (try dsimp only at hSw); go_simp; first | done | with_reducible rfl)
                simp only [Act.put, List.setIfInBounds_toArray, List.set_cons_zero, List.set_cons_succ]
                refine held_skip (i := 8) (d := some 49) rfl rfl (by kernel_rfl) (by kernel_rfl) (by kernel_rfl) (fun _ _ _ h => h) (by rfl) (by assumption) ?_
                simp only [Act.put, List.setIfInBounds_toArray, List.set_cons_zero, List.set_cons_succ]
                refine held_skip (i := 9) (d := some 50) rfl rfl (by kernel_rfl) (by kernel_rfl) (by kernel_rfl) (fun _ _ _ h => h) (by rfl) (by assumption) ?_
                simp only [Act.put, List.setIfInBounds_toArray, List.set_cons_zero, List.set_cons_succ]
                refine held_skip (i := 10) (d := some 51) rfl rfl (by kernel_rfl) (by kernel_rfl) (by kernel_rfl) (fun _ _ _ h => h) (by rfl) (by assumption) ?_
                simp only [Act.put, List.setIfInBounds_toArray, List.set_cons_zero, List.set_cons_succ]
                refine held_skip (i := 11) (d := some 52) rfl rfl (by kernel_rfl) (by kernel_rfl) (by kernel_rfl) (fun _ _ _ h => h) (by rfl) (by assumption) ?_
                simp only [Act.put, List.setIfInBounds_toArray, List.set_cons_zero, List.set_cons_succ]
                refine held_skip (i := 12) (d := some 53) rfl rfl (by kernel_rfl) (by kernel_rfl) (by kernel_rfl) (fun _ _ _ h => h) (by rfl) (by assumption) ?_
                simp only [Act.put, List.setIfInBounds_toArray, List.set_cons_zero, List.set_cons_succ]
                refine held_skip (i := 13) (d := some 54) rfl rfl (by kernel_rfl) (by kernel_rfl) (by kernel_rfl) (fun _ _ _ h => h) (by rfl) (by assumption) ?_
                simp only [Act.put, List.setIfInBounds_toArray, List.set_cons_zero, List.set_cons_succ]
                refine held_skip (i := 14) (d := some 55) rfl rfl (by kernel_rfl) (by kernel_rfl) (by kernel_rfl) (fun _ _ _ h => h) (by rfl) (by assumption) ?_
                simp only [Act.put, List.setIfInBounds_toArray, List.set_cons_zero, List.set_cons_succ]
                refine held_skip (i := 15) (d := some 56) rfl rfl (by kernel_rfl) (by kernel_rfl) (by kernel_rfl) (fun _ _ _ h => h) (by rfl) (by assumption) ?_
                simp only [Act.put, List.setIfInBounds_toArray, List.set_cons_zero, List.set_cons_succ]
                refine held_take (i := 16) (d := some 57) (v := ?_) rfl rfl (by kernel_rfl) (by kernel_rfl) (by kernel_rfl) (fun _ _ _ h => h) (by rfl) ?_ (by assumption) ?_
                rotate_left 1
                focus (intro w hSw; (try dsimp only at hSw); go_simp; first | done | with_reducible rfl)
                simp only [Act.put, List.setIfInBounds_toArray, List.set_cons_zero, List.set_cons_succ]
                refine wpAnyH_done (by kernel_rfl) ?_ _
                go_wp2_with fail
                go_ret
                exact ⟨Up.trans hm.out.1 Hv.out, rfl⟩
              · have Ok2 := Lib.hid (show okB ts (k - 5) = !(ts.take k).any (fun b => clashB b x) by rw [Ok.out, hq]; rfl)
                rw [hq] at hc
                have Hc := Lib.hid hc
                clear hq hc
                obtain ⟨q, hq⟩ : ∃ q, (ts.take k).any (fun b => clashB b x) = q := ⟨_, rfl⟩
                have Hq := Lib.hid hq
                clear hq
                have htl : (ts.take k).length = k := by rw [List.length_take]; omega
                have Htl := Lib.hid htl
                clear htl
                cases q
                all_goals
                  go_wp2_with fail
                  refine wp_region_held_drew (S := (fun W' => W'.cell? ⟨b, o + k * 5, none⟩ = some (.int .i64 x.kind) ∧ W'.cell? ⟨b, o + k * 5 + 1, none⟩ = some (.string x.name) ∧ W'.cell? ⟨b, o + k * 5 + 2, none⟩ = some (.int .i64 x.elem) ∧ W'.cell? ⟨b, o + k * 5 + 3, none⟩ = some (.slice Af x.fields.length cf) ∧ W'.cell? ⟨b, o + k * 5 + 4, none⟩ = some (.slice Am x.methods.length cm))) (by kernel_rfl) (by exact ⟨p0, p1, p2, p3, p4⟩) (fun hHeld => ?_)
                  refine held_take (i := 0) (d := some 41) (v := ?_) rfl rfl (by kernel_rfl) (by kernel_rfl) (by kernel_rfl) (fun _ _ _ h => h) (by rfl) ?_ (by assumption) ?_
                  rotate_left 1
                  focus (intro w hSw; (try dsimp only at hSw); go_simp; first | done | with_reducible rfl)
                  simp only [Act.put, List.setIfInBounds_toArray, List.set_cons_zero, List.set_cons_succ]
                  refine held_take (i := 1) (d := some 42) (v := ?_) rfl rfl (by kernel_rfl) (by kernel_rfl) (by kernel_rfl) (fun _ _ _ h => h) (by rfl) ?_ (by assumption) ?_
                  rotate_left 1
                  focus (intro w hSw; (try dsimp only at hSw); go_simp; first | done | with_reducible rfl)
                  simp only [Act.put, List.setIfInBounds_toArray, List.set_cons_zero, List.set_cons_succ]
                  refine held_take (i := 2) (d := some 43) (v := ?_) rfl rfl (by kernel_rfl) (by kernel_rfl) (by kernel_rfl) (fun _ _ _ h => h) (by rfl) ?_ (by assumption) ?_
                  rotate_left 1
                  focus (intro w hSw; (try dsimp only at hSw); go_simp; first | done | with_reducible rfl)
                  simp only [Act.put, List.setIfInBounds_toArray, List.set_cons_zero, List.set_cons_succ]
                  refine held_take (i := 3) (d := some 44) (v := ?_) rfl rfl (by kernel_rfl) (by kernel_rfl) (by kernel_rfl) (fun _ _ _ h => h) (by rfl) ?_ (by assumption) ?_
                  rotate_left 1
                  focus (intro w hSw; (try dsimp only at hSw); go_simp; first | done | with_reducible rfl)
                  simp only [Act.put, List.setIfInBounds_toArray, List.set_cons_zero, List.set_cons_succ]
                  refine held_take (i := 4) (d := some 45) (v := ?_) rfl rfl (by kernel_rfl) (by kernel_rfl) (by kernel_rfl) (fun _ _ _ h => h) (by rfl) ?_ (by assumption) ?_
                  rotate_left 1
                  focus (intro w hSw; (try dsimp only at hSw); go_simp; first | done | with_reducible rfl)
                  simp only [Act.put, List.setIfInBounds_toArray, List.set_cons_zero, List.set_cons_succ]
                  refine wpAnyH_ready (rs := [5]) (by kernel_rfl) (by simp) ?_
                  refine AllReadyH.cons (o := _) rfl (fun K hK => ?_) AllReadyH.nil
                  go_simp
                  refine Hc.out.mono ?_
                  rintro e w3 ⟨hv, rfl⟩
                  have k0 := (hv.cell (p := ⟨b, o + k * 5, none⟩) lb (fun h => h)).trans p0
                  have k1 := (hv.cell (p := ⟨b, o + k * 5 + 1, none⟩) lb (fun h => h)).trans p1
                  have k2 := (hv.cell (p := ⟨b, o + k * 5 + 2, none⟩) lb (fun h => h)).trans p2
                  have k3 := (hv.cell (p := ⟨b, o + k * 5 + 3, none⟩) lb (fun h => h)).trans p3
                  have k4 := (hv.cell (p := ⟨b, o + k * 5 + 4, none⟩) lb (fun h => h)).trans p4
                  have lq := World.block_lt_of_cell? w3 _ k0
                  have Hv := Lib.hid (Up.trans (Fr.drewN up_ 1) hv)
                  have h2 := clashes_any (x := x) (Af := Af) (cf := cf) (Am := Am) (cm := cm) ((TypsP.kept H.out (Up.trans hm.out.1 Hv.out) (fun _ _ h => h) (fun _ h => h)).front k hk)
                  rw [Htl.out, Hq.out] at h2
                  have H2 := Lib.hid h2
                  clear hv h2
                  go_simp
                  refine hK.out _ _ (by exact ⟨k0, k1, k2, k3, k4⟩) (fun hHeld => ?_)
                  clear hK K
                  refine held_take (i := 6) (d := some 47) (v := ?_) rfl rfl (by kernel_rfl) (by kernel_rfl) (by kernel_rfl) (fun _ _ _ h => h) (by rfl) ?_ (by assumption) ?_
                  rotate_left 1
                  focus (intro w hSw; (try dsimp only at hSw); go_simp; first | done | with_reducible rfl)
                  simp only [Act.put, List.setIfInBounds_toArray, List.set_cons_zero, List.set_cons_succ]
                  refine held_take (i := 7) (d := some 48) (v := ?_) rfl rfl (by kernel_rfl) (by kernel_rfl) (by kernel_rfl) (fun _ _ _ h => h) (by rfl) ?_ (by assumption) ?_
                  rotate_left 1
                  focus (intro w hSw; (try dsimp only at hSw); go_simp; first | done | with_reducible rfl)
                  simp only [Act.put, List.setIfInBounds_toArray, List.set_cons_zero, List.set_cons_succ]
                  refine held_take (i := 8) (d := some 49) (v := ?_) rfl rfl (by kernel_rfl) (by kernel_rfl) (by kernel_rfl) (fun _ _ _ h => h) (by rfl) ?_ (by assumption) ?_
                  rotate_left 1
                  focus (intro w hSw; (try dsimp only at hSw); go_simp; first | done | with_reducible rfl)
                  simp only [Act.put, List.setIfInBounds_toArray, List.set_cons_zero, List.set_cons_succ]
                  refine held_take (i := 9) (d := some 50) (v := ?_) rfl rfl (by kernel_rfl) (by kernel_rfl) (by kernel_rfl) (fun _ _ _ h => h) (by rfl) ?_ (by assumption) ?_
                  rotate_left 1
                  focus (intro w hSw; (try dsimp only at hSw); go_simp; first | done | with_reducible rfl)
                  simp only [Act.put, List.setIfInBounds_toArray, List.set_cons_zero, List.set_cons_succ]
                  refine held_take (i := 10) (d := some 51) (v := ?_) rfl rfl (by kernel_rfl) (by kernel_rfl) (by kernel_rfl) (fun _ _ _ h => h) (by rfl) ?_ (by assumption) ?_
                  rotate_left 1
                  focus (intro w hSw; (try dsimp only at hSw); go_simp; first | done | with_reducible rfl)
                  simp only [Act.put, List.setIfInBounds_toArray, List.set_cons_zero, List.set_cons_succ]
                  refine held_take (i := 11) (d := some 52) (v := ?_) rfl rfl (by kernel_rfl) (by kernel_rfl) (by kernel_rfl) (fun _ _ _ h => h) (by rfl) ?_ (by assumption) ?_
                  rotate_left 1
                  focus (intro w hSw; (try dsimp only at hSw); go_simp; first | done | with_reducible rfl)
                  simp only [Act.put, List.setIfInBounds_toArray, List.set_cons_zero, List.set_cons_succ]
                  refine held_take (i := 12) (d := some 53) (v := ?_) rfl rfl (by kernel_rfl) (by kernel_rfl) (by kernel_rfl) (fun _ _ _ h => h) (by rfl) ?_ (by assumption) ?_
                  rotate_left 1
                  focus (intro w hSw; (try dsimp only at hSw); go_simp; first | done | with_reducible rfl)
                  simp only [Act.put, List.setIfInBounds_toArray, List.set_cons_zero, List.set_cons_succ]
                  refine held_take (i := 13) (d := some 54) (v := ?_) rfl rfl (by kernel_rfl) (by kernel_rfl) (by kernel_rfl) (fun _ _ _ h => h) (by rfl) ?_ (by assumption) ?_
                  rotate_left 1
                  focus (intro w hSw; (try dsimp only at hSw); go_simp; first | done | with_reducible rfl)
                  simp only [Act.put, List.setIfInBounds_toArray, List.set_cons_zero, List.set_cons_succ]
                  refine held_take (i := 14) (d := some 55) (v := ?_) rfl rfl (by kernel_rfl) (by kernel_rfl) (by kernel_rfl) (fun _ _ _ h => h) (by rfl) ?_ (by assumption) ?_
                  rotate_left 1
                  focus (intro w hSw; (try dsimp only at hSw); go_simp; first | done | with_reducible rfl)
                  simp only [Act.put, List.setIfInBounds_toArray, List.set_cons_zero, List.set_cons_succ]
                  refine wpAnyH_ready (rs := [15]) (by kernel_rfl) (by simp) ?_
                  refine AllReadyH.cons (o := _) rfl (fun K hK => ?_) AllReadyH.nil
                  go_simp
                  refine H2.out.mono ?_
                  rintro e w4 ⟨hv, rfl⟩
                  have l0 := (hv.cell (p := ⟨b, o + k * 5, none⟩) lq (fun h => h)).trans k0
                  have l1 := (hv.cell (p := ⟨b, o + k * 5 + 1, none⟩) lq (fun h => h)).trans k1
                  have l2 := (hv.cell (p := ⟨b, o + k * 5 + 2, none⟩) lq (fun h => h)).trans k2
                  have l3 := (hv.cell (p := ⟨b, o + k * 5 + 3, none⟩) lq (fun h => h)).trans k3
                  have l4 := (hv.cell (p := ⟨b, o + k * 5 + 4, none⟩) lq (fun h => h)).trans k4
                  have Hw := Lib.hid (Up.trans Hv.out hv)
                  clear hv
                  go_simp
                  refine hK.out _ _ (by exact ⟨l0, l1, l2, l3, l4⟩) (fun hHeld => ?_)
                  clear hK K
                  refine held_take (i := 16) (d := some 57) (v := ?_) rfl rfl (by kernel_rfl) (by kernel_rfl) (by kernel_rfl) (fun _ _ _ h => h) (by rfl) ?_ (by assumption) ?_
                  rotate_left 1
                  focus (intro w hSw; (try dsimp only at hSw); go_simp; first | done | with_reducible rfl)
                  simp only [Act.put, List.setIfInBounds_toArray, List.set_cons_zero, List.set_cons_succ]
                  refine wpAnyH_done (by kernel_rfl) ?_ _
                  go_wp2_with fail
                · have hn := Lib.hid (below_next (P := fun j => okB ts j = true) hm.out.2 (by rw [Ok2.out, Hq.out]; rfl))
                  go_roundw
                  case rel => exact ⟨k + 1, by omega, by omega, by go_num, Lib.hid ⟨Up.trans hm.out.1 Hw.out, by rw [show k + 1 - 5 = k - 5 + 1 by omega]; exact hn.out⟩⟩
                  case measure => simp [intOf]; omega
                · have E : r = false := by rw [R2.out]; exact range_no (k := k - 5) (by omega) (by rw [Ok2.out, Hq.out]; rfl)
                  subst E
                  go_ret
                  exact ⟨Up.trans hm.out.1 Hw.out, rfl⟩
            · obtain rfl : k = ts.length := by omega
              have E : r = true := by rw [R2.out]; exact range_all hm.out.2
              subst E
              go_wp2_with fail
              go_ret
              exact ⟨hm.out.1, rfl⟩
    · have E : r = false := by rw [hr', decide_eq_false h60]; simp
      subst E
      have h61 : 60 < ts.length := by omega
      clear hr' h60
      go_enter Tryd.func10, Tryd.ntmps10
      go_wp2_with fail
      refine base_any.mono ?_
      rintro e w1 ⟨g, cb, rfl, _, _, hown, u1⟩
      have U1 := Lib.hid u1
      clear u1 hown
      go_wp2_with fail
      go_ret
      exact ⟨U1.out, rfl⟩
  · have E : r = false := by rw [hr', decide_eq_false h5]; simp
    subst E
    have h61 : ts.length < 5 := by omega
    clear hr' h5
    go_enter Tryd.func10, Tryd.ntmps10
    go_wp2_with fail
    refine base_any.mono ?_
    rintro e w1 ⟨g, cb, rfl, _, _, hown, u1⟩
    have U1 := Lib.hid u1
    clear u1 hown
    go_wp2_with fail
    go_ret
    exact ⟨U1.out, rfl⟩
end Go.Proofs.YtjlljfeledapaaaDoor
