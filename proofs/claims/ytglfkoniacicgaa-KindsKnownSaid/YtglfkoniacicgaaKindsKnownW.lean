/-
  KindsKnown: the walk.
-/
import Derived.Test.YtglfkoniacicgaaKindH
namespace Go.Proofs.Ytglfkoniacicgaa
open Go.RowKit

set_option maxHeartbeats 400000 in
theorem isref_any {w : World} {G : Nat → Prop} {A : Option Addr} {c : Nat} {ts : List Typ} (h : TypsP w G A c ts) (t : Int) (b : Bool) (hb : isRefB ts t = b) :
    Calls Try.prog 10 #[.slice A ts.length c, .int .i64 t] w fun e w' => w = w' ∧ e = .returned (.bool b) := by
  have hl := h.le
  have hc := h.big
  unfold isRefB at hb
  cases ht : isTypeB ts.length t
  · have e : b = false := by rw [← hb, ht]; rfl
    subst e
    have Ht := Lib.hid ht
    clear h ht hb
    go_enter Try.func10, Try.ntmps10
    go_wp2_with fail
    refine (istype_any _ _ _ t (by omega) false Ht.out).mono ?_
    rintro e w' ⟨rfl, rfl⟩
    go_wp2_with fail
    go_ret
    exact ⟨rfl, rfl⟩
  · obtain ⟨j, hj, rfl⟩ := isType_out ht
    obtain ⟨bb, o, Af, cf, Am, cm, rfl, _, _, _, c0, _⟩ := h.typ hj
    rw [ht, typ_at hj] at hb
    simp only [Bool.true_and] at hb
    have Ht := Lib.hid ht
    clear h ht
    obtain ⟨k, hk⟩ : ∃ k, k = ts[j].kind := ⟨_, rfl⟩
    rw [← hk] at hb c0
    clear hk
    by_cases h3 : k = 3
    · have e : b = true := by rw [← hb, h3]; rfl
      subst e h3
      clear hb
      go_enter Try.func10, Try.ntmps10
      go_wp2_with fail
      refine (istype_any _ _ _ _ (by omega) true Ht.out).mono ?_
      rintro e w' ⟨rfl, rfl⟩
      go_wp2_with fail
      go_ret
      exact ⟨rfl, rfl⟩
    · have b3 : (k == 3) = false := beq_eq_false_iff_ne.2 h3
      have R := Lib.hid (show nilableB k = b by rw [← hb, b3]; rfl)
      clear hb h3
      go_enter Try.func10, Try.ntmps10
      go_wp2_with fail
      refine (istype_any _ _ _ _ (by omega) true Ht.out).mono ?_
      rintro e w' ⟨rfl, rfl⟩
      go_wp2_with fail
      refine (maybenil_any k).mono ?_
      rintro e w' ⟨rfl, rfl⟩
      go_wp2_with fail
      go_ret
      exact ⟨rfl, by rw [← R.out]; rfl⟩

theorem m_table : methodOf tableT 5 ⟨#[109]⟩ = none := by decide
theorem has_57 : hasB tableT 5 7 = true := by decide
theorem fit_57 : fitsB tableT 5 7 = true := by decide
theorem fit_75 : fitsB tableT 7 5 = false := by decide
theorem ref_3 : isRefB tableT 3 = true := by decide
theorem ref_1 : isRefB tableT 1 = false := by decide
theorem n_99 : nameOf tableT 99 = ⟨#[]⟩ := by decide
theorem r_4 : rightB (tableT.take 4) = false := by decide

/-- The cells of the k-th of a list, laid for a walk. -/
structure Cells5 (w : World) (g o : Nat) (x : Typ) (Af : Option Addr) (cf : Nat) (Am : Option Addr) (cm : Nat) : Prop where
  c0 : w.cell? ⟨g, o, none⟩ = some (.int .i64 x.kind)
  c1 : w.cell? ⟨g, o + 1, none⟩ = some (.string x.name)
  c2 : w.cell? ⟨g, o + 2, none⟩ = some (.int .i64 x.elem)
  c3 : w.cell? ⟨g, o + 3, none⟩ = some (.slice Af x.fields.length cf)
  c4 : w.cell? ⟨g, o + 4, none⟩ = some (.slice Am x.methods.length cm)
theorem cells5 {w : World} {G : Nat → Prop} {g c : Nat} {ts : List Typ} (h : TypsP w G (some ⟨g, 0, none⟩) c ts) {k : Nat} (hk : k < ts.length) :
    ∃ Af cf Am cm, FldsP w G Af cf ts[k].fields ∧ MthsP w G Am cm ts[k].methods ∧ Cells5 w g (k * 5) ts[k] Af cf Am cm := by
  obtain ⟨b, o, Af, cf, Am, cm, e, _, hf, hm, p0, p1, p2, p3, p4⟩ := h.typ hk
  simp only [Option.some.injEq, Addr.mk.injEq, and_true] at e
  obtain ⟨rfl, rfl⟩ := e
  simp only [Nat.zero_add] at p0 p1 p2 p3 p4
  exact ⟨Af, cf, Am, cm, hf, hm, p0, p1, p2, p3, p4⟩

set_option maxHeartbeats 2000000 in
theorem kindsknown_any {w : World} : Calls Try.prog 3 #[] w fun e w' => Up w w' ∧ e = .returned (.bool true) := by
  go_enter Try.func3, Try.ntmps3
  go_wp2_with fail
  refine table_any.mono ?_
  rintro e w1 ⟨g, c, rfl, _, _, hown, u1⟩
  have U1 := Lib.hid u1
  have T := Lib.hid (Made.reads hown)
  clear u1 hown
  go_wp2_with fail
  refine base_any.mono ?_
  rintro e w2 ⟨gb, cb, rfl, _, _, hown, u2⟩
  have U2 := Lib.hid u2
  have B := Lib.hid (Made.reads hown)
  clear u2 hown
  go_wp2_with fail
  refine (method_any (ts := tableT) (TypsP.kept T.out U2.out (fun _ _ h => h) (fun _ h => h)) 5 ⟨#[109]⟩).mono ?_
  rintro e w3 ⟨hv, rfl⟩
  have V3 := Lib.hid hv
  clear hv
  rw [m_table, found_none rfl]
  go_wp2_with fail
  have hcl := T.out.le
  have hcl2 : 8 ≤ c := hcl
  have hcl4 : (4 : Int) ≤ (c : Int) := by omega
  clear hcl
  have T3 := Lib.hid (TypsP.kept T.out (Up.trans U2.out V3.out) (fun _ _ h => h) (fun _ h => h))
  obtain ⟨_, _, _, _, _, _, hb3⟩ := cells5 (TypsP.kept B.out V3.out (fun _ _ h => h) (fun _ h => h)) (k := 3) (by decide)
  obtain ⟨_, _, _, _, _, _, hb4⟩ := cells5 (TypsP.kept B.out V3.out (fun _ _ h => h) (fun _ h => h)) (k := 4) (by decide)
  obtain ⟨Af, cf, Am, cm, hf, hm, h5⟩ := cells5 T3.out (k := 5) (by decide)
  obtain ⟨Af', cf', Am', cm', hf', hm', h6⟩ := cells5 T3.out (k := 6) (by decide)
  have F := Lib.hid (show FldsP w3 (fun b => w.heap.size ≤ b) Af cf [⟨⟨#[120]⟩, 1⟩] from hf)
  have M := Lib.hid (show MthsP w3 (fun b => w.heap.size ≤ b) Am cm [] from hm)
  have F' := Lib.hid (show FldsP w3 (fun b => w.heap.size ≤ b) Af' cf' [] from hf')
  have M' := Lib.hid (show MthsP w3 (fun b => w.heap.size ≤ b) Am' cm' [] from hm')
  have a0 : w3.cell? ⟨g, 25, none⟩ = some (.int .i64 5) := h5.c0
  have a1 : w3.cell? ⟨g, 26, none⟩ = some (.string ⟨#[80]⟩) := h5.c1
  have a2 : w3.cell? ⟨g, 27, none⟩ = some (.int .i64 0) := h5.c2
  have a3 : w3.cell? ⟨g, 28, none⟩ = some (.slice Af 1 cf) := h5.c3
  have a4 : w3.cell? ⟨g, 29, none⟩ = some (.slice Am 0 cm) := h5.c4
  have b0 : w3.cell? ⟨g, 30, none⟩ = some (.int .i64 6) := h6.c0
  have b1 : w3.cell? ⟨g, 31, none⟩ = some (.string ⟨#[]⟩) := h6.c1
  have b2 : w3.cell? ⟨g, 32, none⟩ = some (.int .i64 5) := h6.c2
  have b3 : w3.cell? ⟨g, 33, none⟩ = some (.slice Af' 0 cf') := h6.c3
  have b4 : w3.cell? ⟨g, 34, none⟩ = some (.slice Am' 0 cm') := h6.c4
  have q1 : w3.cell? ⟨gb, 16, none⟩ = some (.string ⟨#[115, 116, 114, 105, 110, 103]⟩) := hb3.c1
  have q2 : w3.cell? ⟨gb, 20, none⟩ = some (.int .i64 4) := hb4.c0
  have la := World.block_lt_of_cell? w3 _ a0
  have lq := World.block_lt_of_cell? w3 _ q1
  have Aa := Lib.hid (show ∀ w', Up w3 w' → w'.cell? ⟨g, 25, none⟩ = some (.int .i64 5) ∧ w'.cell? ⟨g, 26, none⟩ = some (.string ⟨#[80]⟩) ∧ w'.cell? ⟨g, 27, none⟩ = some (.int .i64 0) ∧ w'.cell? ⟨g, 28, none⟩ = some (.slice Af 1 cf) ∧ w'.cell? ⟨g, 29, none⟩ = some (.slice Am 0 cm) from
    fun w' h => ⟨(h.cell (p := ⟨g, 25, none⟩) la (fun h => h)).trans a0, (h.cell (p := ⟨g, 26, none⟩) la (fun h => h)).trans a1, (h.cell (p := ⟨g, 27, none⟩) la (fun h => h)).trans a2, (h.cell (p := ⟨g, 28, none⟩) la (fun h => h)).trans a3, (h.cell (p := ⟨g, 29, none⟩) la (fun h => h)).trans a4⟩)
  have Bb := Lib.hid (show ∀ w', Up w3 w' → w'.cell? ⟨g, 30, none⟩ = some (.int .i64 6) ∧ w'.cell? ⟨g, 31, none⟩ = some (.string ⟨#[]⟩) ∧ w'.cell? ⟨g, 32, none⟩ = some (.int .i64 5) ∧ w'.cell? ⟨g, 33, none⟩ = some (.slice Af' 0 cf') ∧ w'.cell? ⟨g, 34, none⟩ = some (.slice Am' 0 cm') from
    fun w' h => ⟨(h.cell (p := ⟨g, 30, none⟩) la (fun h => h)).trans b0, (h.cell (p := ⟨g, 31, none⟩) la (fun h => h)).trans b1, (h.cell (p := ⟨g, 32, none⟩) la (fun h => h)).trans b2, (h.cell (p := ⟨g, 33, none⟩) la (fun h => h)).trans b3, (h.cell (p := ⟨g, 34, none⟩) la (fun h => h)).trans b4⟩)
  have Qq := Lib.hid (show ∀ w', Up w3 w' → w'.cell? ⟨gb, 16, none⟩ = some (.string ⟨#[115, 116, 114, 105, 110, 103]⟩) ∧ w'.cell? ⟨gb, 20, none⟩ = some (.int .i64 4) from
    fun w' h => ⟨(h.cell (p := ⟨gb, 16, none⟩) lq (fun h => h)).trans q1, (h.cell (p := ⟨gb, 20, none⟩) lq (fun h => h)).trans q2⟩)
  clear hb3 hb4 hf hm h5 hf' hm' h6 a0 a1 a2 a3 a4 b0 b1 b2 b3 b4 q1 q2 la lq
  refine wp_region_held_drew (S := (fun W' => Up w3 W')) (by kernel_rfl) (by exact Fr.drew up_) (fun hHeld => ?_)
  refine wpAnyH_ready (rs := [0]) (by kernel_rfl) (by simp) ?_
  refine AllReadyH.cons (o := _) rfl (fun K hK => ?_) AllReadyH.nil
  go_simp
  refine (lknown_any).mono ?_
  rintro e w' ⟨hv, rfl⟩
  have V := Up.trans hHeld hv
  go_simp
  refine hK.out _ _ (by exact V) (fun hHeld => ?_)
  clear hK K
  refine held_take (i := 1) (d := some 13) (v := ?_) rfl rfl (by kernel_rfl) (by kernel_rfl) (by kernel_rfl) (fun _ _ _ h => h) (by rfl) ?_ (by assumption) ?_
  rotate_left 1
  focus (intro w hSw; (try dsimp only at hSw); go_simp; first | done | with_reducible rfl)
  simp only [Act.put, List.setIfInBounds_toArray, List.set_cons_zero, List.set_cons_succ]
  refine held_take (i := 2) (d := some 14) (v := ?_) rfl rfl (by kernel_rfl) (by kernel_rfl) (by kernel_rfl) (fun _ _ _ h => h) (by rfl) ?_ (by assumption) ?_
  rotate_left 1
  focus (intro w hSw; (try dsimp only at hSw); go_simp; first | done | with_reducible rfl)
  simp only [Act.put, List.setIfInBounds_toArray, List.set_cons_zero, List.set_cons_succ]
  refine held_take (i := 3) (d := some 15) (v := ?_) rfl rfl (by kernel_rfl) (by kernel_rfl) (by kernel_rfl) (fun _ _ _ h => h) (by rfl) ?_ (by assumption) ?_
  rotate_left 1
  focus (intro w hSw; (try dsimp only at hSw); go_simp; first | done | with_reducible rfl)
  simp only [Act.put, List.setIfInBounds_toArray, List.set_cons_zero, List.set_cons_succ]
  refine held_take (i := 4) (d := some 16) (v := ?_) rfl rfl (by kernel_rfl) (by kernel_rfl) (by kernel_rfl) (fun _ _ _ h => h) (by rfl) ?_ (by assumption) ?_
  rotate_left 1
  focus (intro w hSw; (try dsimp only at hSw); go_simp; first | done | with_reducible rfl)
  simp only [Act.put, List.setIfInBounds_toArray, List.set_cons_zero, List.set_cons_succ]
  refine held_take (i := 5) (d := some 17) (v := ?_) rfl rfl (by kernel_rfl) (by kernel_rfl) (by kernel_rfl) (fun _ _ _ h => h) (by rfl) ?_ (by assumption) ?_
  rotate_left 1
  focus (intro w hSw; (try dsimp only at hSw); go_simp; first | done | with_reducible rfl)
  simp only [Act.put, List.setIfInBounds_toArray, List.set_cons_zero, List.set_cons_succ]
  refine held_take (i := 6) (d := some 18) (v := ?_) rfl rfl (by kernel_rfl) (by kernel_rfl) (by kernel_rfl) (fun _ _ _ h => h) (by rfl) ?_ (by assumption) ?_
  rotate_left 1
  focus (intro w hSw; (try dsimp only at hSw); go_simp; first | done | with_reducible rfl)
  simp only [Act.put, List.setIfInBounds_toArray, List.set_cons_zero, List.set_cons_succ]
  refine held_take (i := 7) (d := some 19) (v := ?_) rfl rfl (by kernel_rfl) (by kernel_rfl) (by kernel_rfl) (fun _ _ _ h => h) (by rfl) ?_ (by assumption) ?_
  rotate_left 1
  focus (intro w hSw; (try dsimp only at hSw); go_simp; first | done | with_reducible rfl)
  simp only [Act.put, List.setIfInBounds_toArray, List.set_cons_zero, List.set_cons_succ]
  refine held_take (i := 8) (d := some 20) (v := ?_) rfl rfl (by kernel_rfl) (by kernel_rfl) (by kernel_rfl) (fun _ _ _ h => h) (by rfl) ?_ (by assumption) ?_
  rotate_left 1
  focus (intro w hSw; (try dsimp only at hSw); go_simp; first | done | with_reducible rfl)
  simp only [Act.put, List.setIfInBounds_toArray, List.set_cons_zero, List.set_cons_succ]
  refine held_take (i := 9) (d := some 21) (v := ?_) rfl rfl (by kernel_rfl) (by kernel_rfl) (by kernel_rfl) (fun _ _ _ h => h) (by rfl) ?_ (by assumption) ?_
  rotate_left 1
  focus (intro w hSw; (try dsimp only at hSw); go_simp; first | done | with_reducible rfl)
  simp only [Act.put, List.setIfInBounds_toArray, List.set_cons_zero, List.set_cons_succ]
  refine held_take (i := 10) (d := some 22) (v := ?_) rfl rfl (by kernel_rfl) (by kernel_rfl) (by kernel_rfl) (fun _ _ _ h => h) (by rfl) ?_ (by assumption) ?_
  rotate_left 1
  focus (intro w hSw; obtain ⟨q1, q2⟩ := Qq.out w hSw; (try dsimp only at hSw); go_simp; first | done | with_reducible rfl)
  simp only [Act.put, List.setIfInBounds_toArray, List.set_cons_zero, List.set_cons_succ]
  refine held_take (i := 11) (d := some 23) (v := ?_) rfl rfl (by kernel_rfl) (by kernel_rfl) (by kernel_rfl) (fun _ _ _ h => h) (by rfl) ?_ (by assumption) ?_
  rotate_left 1
  focus (intro w hSw; (try dsimp only at hSw); go_simp; first | done | with_reducible rfl)
  simp only [Act.put, List.setIfInBounds_toArray, List.set_cons_zero, List.set_cons_succ]
  refine held_take (i := 12) (d := some 24) (v := ?_) rfl rfl (by kernel_rfl) (by kernel_rfl) (by kernel_rfl) (fun _ _ _ h => h) (by rfl) ?_ (by assumption) ?_
  rotate_left 1
  focus (intro w hSw; (try dsimp only at hSw); go_simp; first | done | with_reducible rfl)
  simp only [Act.put, List.setIfInBounds_toArray, List.set_cons_zero, List.set_cons_succ]
  refine held_take (i := 13) (d := some 25) (v := ?_) rfl rfl (by kernel_rfl) (by kernel_rfl) (by kernel_rfl) (fun _ _ _ h => h) (by rfl) ?_ (by assumption) ?_
  rotate_left 1
  focus (intro w hSw; (try dsimp only at hSw); go_simp; first | done | with_reducible rfl)
  simp only [Act.put, List.setIfInBounds_toArray, List.set_cons_zero, List.set_cons_succ]
  refine held_take (i := 14) (d := some 26) (v := ?_) rfl rfl (by kernel_rfl) (by kernel_rfl) (by kernel_rfl) (fun _ _ _ h => h) (by rfl) ?_ (by assumption) ?_
  rotate_left 1
  focus (intro w hSw; (try dsimp only at hSw); go_simp; first | done | with_reducible rfl)
  simp only [Act.put, List.setIfInBounds_toArray, List.set_cons_zero, List.set_cons_succ]
  refine held_take (i := 15) (d := some 27) (v := ?_) rfl rfl (by kernel_rfl) (by kernel_rfl) (by kernel_rfl) (fun _ _ _ h => h) (by rfl) ?_ (by assumption) ?_
  rotate_left 1
  focus (intro w hSw; (try dsimp only at hSw); go_simp; first | done | with_reducible rfl)
  simp only [Act.put, List.setIfInBounds_toArray, List.set_cons_zero, List.set_cons_succ]
  refine held_take (i := 16) (d := some 28) (v := ?_) rfl rfl (by kernel_rfl) (by kernel_rfl) (by kernel_rfl) (fun _ _ _ h => h) (by rfl) ?_ (by assumption) ?_
  rotate_left 1
  focus (intro w hSw; (try dsimp only at hSw); go_simp; first | done | with_reducible rfl)
  simp only [Act.put, List.setIfInBounds_toArray, List.set_cons_zero, List.set_cons_succ]
  refine held_take (i := 17) (d := some 29) (v := ?_) rfl rfl (by kernel_rfl) (by kernel_rfl) (by kernel_rfl) (fun _ _ _ h => h) (by rfl) ?_ (by assumption) ?_
  rotate_left 1
  focus (intro w hSw; obtain ⟨q1, q2⟩ := Qq.out w hSw; (try dsimp only at hSw); go_simp; first | done | with_reducible rfl)
  simp only [Act.put, List.setIfInBounds_toArray, List.set_cons_zero, List.set_cons_succ]
  refine held_take (i := 18) (d := some 30) (v := ?_) rfl rfl (by kernel_rfl) (by kernel_rfl) (by kernel_rfl) (fun _ _ _ h => h) (by rfl) ?_ (by assumption) ?_
  rotate_left 1
  focus (intro w hSw; (try dsimp only at hSw); go_simp; first | done | with_reducible rfl)
  simp only [Act.put, List.setIfInBounds_toArray, List.set_cons_zero, List.set_cons_succ]
  refine held_take (i := 19) (d := some 31) (v := ?_) rfl rfl (by kernel_rfl) (by kernel_rfl) (by kernel_rfl) (fun _ _ _ h => h) (by rfl) ?_ (by assumption) ?_
  rotate_left 1
  focus (intro w hSw; (try dsimp only at hSw); go_simp; first | done | with_reducible rfl)
  simp only [Act.put, List.setIfInBounds_toArray, List.set_cons_zero, List.set_cons_succ]
  refine held_take (i := 20) (d := some 32) (v := ?_) rfl rfl (by kernel_rfl) (by kernel_rfl) (by kernel_rfl) (fun _ _ _ h => h) (by rfl) ?_ (by assumption) ?_
  rotate_left 1
  focus (intro w hSw; (try dsimp only at hSw); go_simp; first | done | with_reducible rfl)
  simp only [Act.put, List.setIfInBounds_toArray, List.set_cons_zero, List.set_cons_succ]
  refine held_take (i := 21) (d := some 33) (v := ?_) rfl rfl (by kernel_rfl) (by kernel_rfl) (by kernel_rfl) (fun _ _ _ h => h) (by rfl) ?_ (by assumption) ?_
  rotate_left 1
  focus (intro w hSw; (try dsimp only at hSw); go_simp; first | done | with_reducible rfl)
  simp only [Act.put, List.setIfInBounds_toArray, List.set_cons_zero, List.set_cons_succ]
  refine held_take (i := 22) (d := some 34) (v := ?_) rfl rfl (by kernel_rfl) (by kernel_rfl) (by kernel_rfl) (fun _ _ _ h => h) (by rfl) ?_ (by assumption) ?_
  rotate_left 1
  focus (intro w hSw; (try dsimp only at hSw); go_simp; first | done | with_reducible rfl)
  simp only [Act.put, List.setIfInBounds_toArray, List.set_cons_zero, List.set_cons_succ]
  refine held_take (i := 23) (d := some 35) (v := ?_) rfl rfl (by kernel_rfl) (by kernel_rfl) (by kernel_rfl) (fun _ _ _ h => h) (by rfl) ?_ (by assumption) ?_
  rotate_left 1
  focus (intro w hSw; (try dsimp only at hSw); go_simp; first | done | with_reducible rfl)
  simp only [Act.put, List.setIfInBounds_toArray, List.set_cons_zero, List.set_cons_succ]
  refine held_take (i := 24) (d := some 36) (v := ?_) rfl rfl (by kernel_rfl) (by kernel_rfl) (by kernel_rfl) (fun _ _ _ h => h) (by rfl) ?_ (by assumption) ?_
  rotate_left 1
  focus (intro w hSw; (try dsimp only at hSw); go_simp; first | done | with_reducible rfl)
  simp only [Act.put, List.setIfInBounds_toArray, List.set_cons_zero, List.set_cons_succ]
  refine held_take (i := 25) (d := some 37) (v := ?_) rfl rfl (by kernel_rfl) (by kernel_rfl) (by kernel_rfl) (fun _ _ _ h => h) (by rfl) ?_ (by assumption) ?_
  rotate_left 1
  focus (intro w hSw; (try dsimp only at hSw); go_simp; first | done | with_reducible rfl)
  simp only [Act.put, List.setIfInBounds_toArray, List.set_cons_zero, List.set_cons_succ]
  refine wpAnyH_ready (rs := [26]) (by kernel_rfl) (by simp) ?_
  refine AllReadyH.cons (o := _) rfl (fun K hK => ?_) AllReadyH.nil
  go_simp
  refine (has_any (ts := tableT) (TypsP.kept T3.out hHeld (fun _ _ h => h) (fun _ h => h)) 5 7).mono ?_
  rintro e w' ⟨hv, rfl⟩
  have V := Up.trans hHeld hv
  rw [has_57]
  go_simp
  refine hK.out _ _ (by exact V) (fun hHeld => ?_)
  clear hK K
  refine held_take (i := 27) (d := some 39) (v := ?_) rfl rfl (by kernel_rfl) (by kernel_rfl) (by kernel_rfl) (fun _ _ _ h => h) (by rfl) ?_ (by assumption) ?_
  rotate_left 1
  focus (intro w hSw; (try dsimp only at hSw); go_simp; first | done | with_reducible rfl)
  simp only [Act.put, List.setIfInBounds_toArray, List.set_cons_zero, List.set_cons_succ]
  refine held_take (i := 28) (d := some 40) (v := ?_) rfl rfl (by kernel_rfl) (by kernel_rfl) (by kernel_rfl) (fun _ _ _ h => h) (by rfl) ?_ (by assumption) ?_
  rotate_left 1
  focus (intro w hSw; (try dsimp only at hSw); go_simp; first | done | with_reducible rfl)
  simp only [Act.put, List.setIfInBounds_toArray, List.set_cons_zero, List.set_cons_succ]
  refine held_take (i := 29) (d := some 41) (v := ?_) rfl rfl (by kernel_rfl) (by kernel_rfl) (by kernel_rfl) (fun _ _ _ h => h) (by rfl) ?_ (by assumption) ?_
  rotate_left 1
  focus (intro w hSw; (try dsimp only at hSw); go_simp; first | done | with_reducible rfl)
  simp only [Act.put, List.setIfInBounds_toArray, List.set_cons_zero, List.set_cons_succ]
  refine wpAnyH_ready (rs := [30]) (by kernel_rfl) (by simp) ?_
  refine AllReadyH.cons (o := _) rfl (fun K hK => ?_) AllReadyH.nil
  go_simp
  refine (fits_any (ts := tableT) (TypsP.kept T3.out hHeld (fun _ _ h => h) (fun _ h => h)) 5 7).mono ?_
  rintro e w' ⟨hv, rfl⟩
  have V := Up.trans hHeld hv
  rw [fit_57]
  go_simp
  refine hK.out _ _ (by exact V) (fun hHeld => ?_)
  clear hK K
  refine held_take (i := 31) (d := some 43) (v := ?_) rfl rfl (by kernel_rfl) (by kernel_rfl) (by kernel_rfl) (fun _ _ _ h => h) (by rfl) ?_ (by assumption) ?_
  rotate_left 1
  focus (intro w hSw; (try dsimp only at hSw); go_simp; first | done | with_reducible rfl)
  simp only [Act.put, List.setIfInBounds_toArray, List.set_cons_zero, List.set_cons_succ]
  refine held_take (i := 32) (d := some 44) (v := ?_) rfl rfl (by kernel_rfl) (by kernel_rfl) (by kernel_rfl) (fun _ _ _ h => h) (by rfl) ?_ (by assumption) ?_
  rotate_left 1
  focus (intro w hSw; (try dsimp only at hSw); go_simp; first | done | with_reducible rfl)
  simp only [Act.put, List.setIfInBounds_toArray, List.set_cons_zero, List.set_cons_succ]
  refine held_take (i := 33) (d := some 45) (v := ?_) rfl rfl (by kernel_rfl) (by kernel_rfl) (by kernel_rfl) (fun _ _ _ h => h) (by rfl) ?_ (by assumption) ?_
  rotate_left 1
  focus (intro w hSw; (try dsimp only at hSw); go_simp; first | done | with_reducible rfl)
  simp only [Act.put, List.setIfInBounds_toArray, List.set_cons_zero, List.set_cons_succ]
  refine wpAnyH_ready (rs := [34]) (by kernel_rfl) (by simp) ?_
  refine AllReadyH.cons (o := _) rfl (fun K hK => ?_) AllReadyH.nil
  go_simp
  refine (fits_any (ts := tableT) (TypsP.kept T3.out hHeld (fun _ _ h => h) (fun _ h => h)) 7 5).mono ?_
  rintro e w' ⟨hv, rfl⟩
  have V := Up.trans hHeld hv
  rw [fit_75]
  go_simp
  refine hK.out _ _ (by exact V) (fun hHeld => ?_)
  clear hK K
  refine held_take (i := 35) (d := some 47) (v := ?_) rfl rfl (by kernel_rfl) (by kernel_rfl) (by kernel_rfl) (fun _ _ _ h => h) (by rfl) ?_ (by assumption) ?_
  rotate_left 1
  focus (intro w hSw; (try dsimp only at hSw); go_simp; first | done | with_reducible rfl)
  simp only [Act.put, List.setIfInBounds_toArray, List.set_cons_zero, List.set_cons_succ]
  refine held_take (i := 36) (d := some 48) (v := ?_) rfl rfl (by kernel_rfl) (by kernel_rfl) (by kernel_rfl) (fun _ _ _ h => h) (by rfl) ?_ (by assumption) ?_
  rotate_left 1
  focus (intro w hSw; (try dsimp only at hSw); go_simp; first | done | with_reducible rfl)
  simp only [Act.put, List.setIfInBounds_toArray, List.set_cons_zero, List.set_cons_succ]
  refine held_take (i := 37) (d := some 49) (v := ?_) rfl rfl (by kernel_rfl) (by kernel_rfl) (by kernel_rfl) (fun _ _ _ h => h) (by rfl) ?_ (by assumption) ?_
  rotate_left 1
  focus (intro w hSw; (try dsimp only at hSw); go_simp; first | done | with_reducible rfl)
  simp only [Act.put, List.setIfInBounds_toArray, List.set_cons_zero, List.set_cons_succ]
  refine held_take (i := 38) (d := some 50) (v := ?_) rfl rfl (by kernel_rfl) (by kernel_rfl) (by kernel_rfl) (fun _ _ _ h => h) (by rfl) ?_ (by assumption) ?_
  rotate_left 1
  focus (intro w hSw; (try dsimp only at hSw); go_simp; first | done | with_reducible rfl)
  simp only [Act.put, List.setIfInBounds_toArray, List.set_cons_zero, List.set_cons_succ]
  refine wpAnyH_ready (rs := [39]) (by kernel_rfl) (by simp) ?_
  refine AllReadyH.cons (o := _) rfl (fun K hK => ?_) AllReadyH.nil
  go_simp
  refine (isref_any (ts := tableT) (TypsP.kept T3.out hHeld (fun _ _ h => h) (fun _ h => h)) 3 true ref_3).mono ?_
  rintro e w' ⟨rfl, rfl⟩
  have V := hHeld
  go_simp
  refine hK.out _ _ (by exact V) (fun hHeld => ?_)
  clear hK K
  refine held_take (i := 40) (d := some 52) (v := ?_) rfl rfl (by kernel_rfl) (by kernel_rfl) (by kernel_rfl) (fun _ _ _ h => h) (by rfl) ?_ (by assumption) ?_
  rotate_left 1
  focus (intro w hSw; (try dsimp only at hSw); go_simp; first | done | with_reducible rfl)
  simp only [Act.put, List.setIfInBounds_toArray, List.set_cons_zero, List.set_cons_succ]
  refine held_take (i := 41) (d := some 53) (v := ?_) rfl rfl (by kernel_rfl) (by kernel_rfl) (by kernel_rfl) (fun _ _ _ h => h) (by rfl) ?_ (by assumption) ?_
  rotate_left 1
  focus (intro w hSw; (try dsimp only at hSw); go_simp; first | done | with_reducible rfl)
  simp only [Act.put, List.setIfInBounds_toArray, List.set_cons_zero, List.set_cons_succ]
  refine held_take (i := 42) (d := some 54) (v := ?_) rfl rfl (by kernel_rfl) (by kernel_rfl) (by kernel_rfl) (fun _ _ _ h => h) (by rfl) ?_ (by assumption) ?_
  rotate_left 1
  focus (intro w hSw; (try dsimp only at hSw); go_simp; first | done | with_reducible rfl)
  simp only [Act.put, List.setIfInBounds_toArray, List.set_cons_zero, List.set_cons_succ]
  refine wpAnyH_ready (rs := [43]) (by kernel_rfl) (by simp) ?_
  refine AllReadyH.cons (o := _) rfl (fun K hK => ?_) AllReadyH.nil
  go_simp
  refine (isref_any (ts := tableT) (TypsP.kept T3.out hHeld (fun _ _ h => h) (fun _ h => h)) 1 false ref_1).mono ?_
  rintro e w' ⟨rfl, rfl⟩
  have V := hHeld
  go_simp
  refine hK.out _ _ (by exact V) (fun hHeld => ?_)
  clear hK K
  refine held_take (i := 44) (d := some 56) (v := ?_) rfl rfl (by kernel_rfl) (by kernel_rfl) (by kernel_rfl) (fun _ _ _ h => h) (by rfl) ?_ (by assumption) ?_
  rotate_left 1
  focus (intro w hSw; (try dsimp only at hSw); go_simp; first | done | with_reducible rfl)
  simp only [Act.put, List.setIfInBounds_toArray, List.set_cons_zero, List.set_cons_succ]
  refine held_take (i := 45) (d := some 57) (v := ?_) rfl rfl (by kernel_rfl) (by kernel_rfl) (by kernel_rfl) (fun _ _ _ h => h) (by rfl) ?_ (by assumption) ?_
  rotate_left 1
  focus (intro w hSw; (try dsimp only at hSw); go_simp; first | done | with_reducible rfl)
  simp only [Act.put, List.setIfInBounds_toArray, List.set_cons_zero, List.set_cons_succ]
  refine held_take (i := 46) (d := some 58) (v := ?_) rfl rfl (by kernel_rfl) (by kernel_rfl) (by kernel_rfl) (fun _ _ _ h => h) (by rfl) ?_ (by assumption) ?_
  rotate_left 1
  focus (intro w hSw; (try dsimp only at hSw); go_simp; first | done | with_reducible rfl)
  simp only [Act.put, List.setIfInBounds_toArray, List.set_cons_zero, List.set_cons_succ]
  refine held_take (i := 47) (d := some 59) (v := ?_) rfl rfl (by kernel_rfl) (by kernel_rfl) (by kernel_rfl) (fun _ _ _ h => h) (by rfl) ?_ (by assumption) ?_
  rotate_left 1
  focus (intro w hSw; (try dsimp only at hSw); go_simp; first | done | with_reducible rfl)
  simp only [Act.put, List.setIfInBounds_toArray, List.set_cons_zero, List.set_cons_succ]
  refine wpAnyH_ready (rs := [48]) (by kernel_rfl) (by simp) ?_
  refine AllReadyH.cons (o := _) rfl (fun K hK => ?_) AllReadyH.nil
  go_simp
  refine (name_any (ts := tableT) (TypsP.kept T3.out hHeld (fun _ _ h => h) (fun _ h => h)) 99 sz_table).mono ?_
  rintro e w' ⟨hv, rfl⟩
  have V := Up.trans hHeld hv
  rw [n_99]
  go_simp
  refine hK.out _ _ (by exact V) (fun hHeld => ?_)
  clear hK K
  refine held_take (i := 49) (d := some 61) (v := ?_) rfl rfl (by kernel_rfl) (by kernel_rfl) (by kernel_rfl) (fun _ _ _ h => h) (by rfl) ?_ (by assumption) ?_
  rotate_left 1
  focus (intro w hSw; (try dsimp only at hSw); go_simp; first | done | with_reducible rfl)
  simp only [Act.put, List.setIfInBounds_toArray, List.set_cons_zero, List.set_cons_succ]
  refine held_take (i := 50) (d := some 62) (v := ?_) rfl rfl (by kernel_rfl) (by kernel_rfl) (by kernel_rfl) (fun _ _ _ h => h) (by rfl) ?_ (by assumption) ?_
  rotate_left 1
  focus (intro w hSw; (try dsimp only at hSw); go_simp; first | done | with_reducible rfl)
  simp only [Act.put, List.setIfInBounds_toArray, List.set_cons_zero, List.set_cons_succ]
  refine held_take (i := 51) (d := some 63) (v := ?_) rfl rfl (by kernel_rfl) (by kernel_rfl) (by kernel_rfl) (fun _ _ _ h => h) (by rfl) ?_ (by assumption) ?_
  rotate_left 1
  focus (intro w hSw; (try dsimp only at hSw); go_simp; first | done | with_reducible rfl)
  simp only [Act.put, List.setIfInBounds_toArray, List.set_cons_zero, List.set_cons_succ]
  refine held_take (i := 52) (d := some 64) (v := ?_) rfl rfl (by kernel_rfl) (by kernel_rfl) (by kernel_rfl) (fun _ _ _ h => h) (by rfl) ?_ (by assumption) ?_
  rotate_left 1
  focus (intro w hSw; (try dsimp only at hSw); go_simp; first | done | with_reducible rfl)
  simp only [Act.put, List.setIfInBounds_toArray, List.set_cons_zero, List.set_cons_succ]
  refine held_take (i := 53) (d := some 65) (v := ?_) rfl rfl (by kernel_rfl) (by kernel_rfl) (by kernel_rfl) (fun _ _ _ h => h) (by rfl) ?_ (by assumption) ?_
  rotate_left 1
  focus (intro w hSw; (try dsimp only at hSw); go_simp; first | done | with_reducible rfl)
  simp only [Act.put, List.setIfInBounds_toArray, List.set_cons_zero, List.set_cons_succ]
  refine wpAnyH_ready (rs := [54]) (by kernel_rfl) (by simp) ?_
  refine AllReadyH.cons (o := _) rfl (fun K hK => ?_) AllReadyH.nil
  go_simp
  refine (right_any (ts := tableT.take 4) ((TypsP.kept T3.out hHeld (fun _ _ h => h) (fun _ h => h)).front 4 (by decide))).mono ?_
  rintro e w' ⟨hv, rfl⟩
  have V := Up.trans hHeld hv
  rw [r_4]
  go_simp
  refine hK.out _ _ (by exact V) (fun hHeld => ?_)
  clear hK K
  refine held_take (i := 55) (d := some 67) (v := ?_) rfl rfl (by kernel_rfl) (by kernel_rfl) (by kernel_rfl) (fun _ _ _ h => h) (by rfl) ?_ (by assumption) ?_
  rotate_left 1
  focus (intro w hSw; (try dsimp only at hSw); go_simp; first | done | with_reducible rfl)
  simp only [Act.put, List.setIfInBounds_toArray, List.set_cons_zero, List.set_cons_succ]
  refine held_take (i := 56) (d := some 68) (v := ?_) rfl rfl (by kernel_rfl) (by kernel_rfl) (by kernel_rfl) (fun _ _ _ h => h) (by rfl) ?_ (by assumption) ?_
  rotate_left 1
  focus (intro w hSw; (try dsimp only at hSw); go_simp; first | done | with_reducible rfl)
  simp only [Act.put, List.setIfInBounds_toArray, List.set_cons_zero, List.set_cons_succ]
  refine held_take (i := 57) (d := some 69) (v := ?_) rfl rfl (by kernel_rfl) (by kernel_rfl) (by kernel_rfl) (fun _ _ _ h => h) (by rfl) ?_ (by assumption) ?_
  rotate_left 1
  focus (intro w hSw; (try dsimp only at hSw); go_simp; first | done | with_reducible rfl)
  simp only [Act.put, List.setIfInBounds_toArray, List.set_cons_zero, List.set_cons_succ]
  refine held_take (i := 58) (d := some 70) (v := ?_) rfl rfl (by kernel_rfl) (by kernel_rfl) (by kernel_rfl) (fun _ _ _ h => h) (by rfl) ?_ (by assumption) ?_
  rotate_left 1
  focus (intro w hSw; (try dsimp only at hSw); go_simp; first | done | with_reducible rfl)
  simp only [Act.put, List.setIfInBounds_toArray, List.set_cons_zero, List.set_cons_succ]
  refine held_take (i := 59) (d := some 71) (v := ?_) rfl rfl (by kernel_rfl) (by kernel_rfl) (by kernel_rfl) (fun _ _ _ h => h) (by rfl) ?_ (by assumption) ?_
  rotate_left 1
  focus (intro w hSw; (try dsimp only at hSw); go_simp; first | done | with_reducible rfl)
  simp only [Act.put, List.setIfInBounds_toArray, List.set_cons_zero, List.set_cons_succ]
  refine held_take (i := 60) (d := some 72) (v := ?_) rfl rfl (by kernel_rfl) (by kernel_rfl) (by kernel_rfl) (fun _ _ _ h => h) (by rfl) ?_ (by assumption) ?_
  rotate_left 1
  focus (intro w hSw; obtain ⟨a0, a1, a2, a3, a4⟩ := Aa.out w hSw; (try dsimp only at hSw); go_simp; first | done | with_reducible rfl)
  simp only [Act.put, List.setIfInBounds_toArray, List.set_cons_zero, List.set_cons_succ]
  refine held_take (i := 61) (d := some 73) (v := ?_) rfl rfl (by kernel_rfl) (by kernel_rfl) (by kernel_rfl) (fun _ _ _ h => h) (by rfl) ?_ (by assumption) ?_
  rotate_left 1
  focus (intro w hSw; (try dsimp only at hSw); go_simp; first | done | with_reducible rfl)
  simp only [Act.put, List.setIfInBounds_toArray, List.set_cons_zero, List.set_cons_succ]
  refine held_take (i := 62) (d := some 74) (v := ?_) rfl rfl (by kernel_rfl) (by kernel_rfl) (by kernel_rfl) (fun _ _ _ h => h) (by rfl) ?_ (by assumption) ?_
  rotate_left 1
  focus (intro w hSw; (try dsimp only at hSw); go_simp; first | done | with_reducible rfl)
  simp only [Act.put, List.setIfInBounds_toArray, List.set_cons_zero, List.set_cons_succ]
  refine held_take (i := 63) (d := some 75) (v := ?_) rfl rfl (by kernel_rfl) (by kernel_rfl) (by kernel_rfl) (fun _ _ _ h => h) (by rfl) ?_ (by assumption) ?_
  rotate_left 1
  focus (intro w hSw; obtain ⟨a0, a1, a2, a3, a4⟩ := Aa.out w hSw; (try dsimp only at hSw); go_simp; first | done | with_reducible rfl)
  simp only [Act.put, List.setIfInBounds_toArray, List.set_cons_zero, List.set_cons_succ]
  refine wpAnyH_ready (rs := [64]) (by kernel_rfl) (by simp) ?_
  refine AllReadyH.cons (o := _) rfl (fun K hK => ?_) AllReadyH.nil
  go_simp
  refine (same_any (x := (⟨5, ⟨#[80]⟩, 0, [⟨⟨#[120]⟩, 1⟩], []⟩ : Typ)) (y := (⟨5, ⟨#[80]⟩, 0, [⟨⟨#[120]⟩, 1⟩], []⟩ : Typ)) (FldsP.kept F.out hHeld (fun _ _ h => h) (fun _ h => h)) (MthsP.kept M.out hHeld (fun _ _ h => h) (fun _ h => h)) (FldsP.kept F.out hHeld (fun _ _ h => h) (fun _ h => h)) (MthsP.kept M.out hHeld (fun _ _ h => h) (fun _ h => h))).mono ?_
  rintro e w' ⟨hv, rfl⟩
  have V := Up.trans hHeld hv
  rw [sameB_refl]
  go_simp
  refine hK.out _ _ (by exact V) (fun hHeld => ?_)
  clear hK K
  refine held_take (i := 65) (d := some 77) (v := ?_) rfl rfl (by kernel_rfl) (by kernel_rfl) (by kernel_rfl) (fun _ _ _ h => h) (by rfl) ?_ (by assumption) ?_
  rotate_left 1
  focus (intro w hSw; (try dsimp only at hSw); go_simp; first | done | with_reducible rfl)
  simp only [Act.put, List.setIfInBounds_toArray, List.set_cons_zero, List.set_cons_succ]
  refine held_take (i := 66) (d := some 78) (v := ?_) rfl rfl (by kernel_rfl) (by kernel_rfl) (by kernel_rfl) (fun _ _ _ h => h) (by rfl) ?_ (by assumption) ?_
  rotate_left 1
  focus (intro w hSw; (try dsimp only at hSw); go_simp; first | done | with_reducible rfl)
  simp only [Act.put, List.setIfInBounds_toArray, List.set_cons_zero, List.set_cons_succ]
  refine held_take (i := 67) (d := some 79) (v := ?_) rfl rfl (by kernel_rfl) (by kernel_rfl) (by kernel_rfl) (fun _ _ _ h => h) (by rfl) ?_ (by assumption) ?_
  rotate_left 1
  focus (intro w hSw; (try dsimp only at hSw); go_simp; first | done | with_reducible rfl)
  simp only [Act.put, List.setIfInBounds_toArray, List.set_cons_zero, List.set_cons_succ]
  refine held_take (i := 68) (d := some 80) (v := ?_) rfl rfl (by kernel_rfl) (by kernel_rfl) (by kernel_rfl) (fun _ _ _ h => h) (by rfl) ?_ (by assumption) ?_
  rotate_left 1
  focus (intro w hSw; (try dsimp only at hSw); go_simp; first | done | with_reducible rfl)
  simp only [Act.put, List.setIfInBounds_toArray, List.set_cons_zero, List.set_cons_succ]
  refine held_take (i := 69) (d := some 81) (v := ?_) rfl rfl (by kernel_rfl) (by kernel_rfl) (by kernel_rfl) (fun _ _ _ h => h) (by rfl) ?_ (by assumption) ?_
  rotate_left 1
  focus (intro w hSw; obtain ⟨a0, a1, a2, a3, a4⟩ := Aa.out w hSw; (try dsimp only at hSw); go_simp; first | done | with_reducible rfl)
  simp only [Act.put, List.setIfInBounds_toArray, List.set_cons_zero, List.set_cons_succ]
  refine held_take (i := 70) (d := some 82) (v := ?_) rfl rfl (by kernel_rfl) (by kernel_rfl) (by kernel_rfl) (fun _ _ _ h => h) (by rfl) ?_ (by assumption) ?_
  rotate_left 1
  focus (intro w hSw; (try dsimp only at hSw); go_simp; first | done | with_reducible rfl)
  simp only [Act.put, List.setIfInBounds_toArray, List.set_cons_zero, List.set_cons_succ]
  refine held_take (i := 71) (d := some 83) (v := ?_) rfl rfl (by kernel_rfl) (by kernel_rfl) (by kernel_rfl) (fun _ _ _ h => h) (by rfl) ?_ (by assumption) ?_
  rotate_left 1
  focus (intro w hSw; (try dsimp only at hSw); go_simp; first | done | with_reducible rfl)
  simp only [Act.put, List.setIfInBounds_toArray, List.set_cons_zero, List.set_cons_succ]
  refine held_take (i := 72) (d := some 84) (v := ?_) rfl rfl (by kernel_rfl) (by kernel_rfl) (by kernel_rfl) (fun _ _ _ h => h) (by rfl) ?_ (by assumption) ?_
  rotate_left 1
  focus (intro w hSw; obtain ⟨b0, b1, b2, b3, b4⟩ := Bb.out w hSw; (try dsimp only at hSw); go_simp; first | done | with_reducible rfl)
  simp only [Act.put, List.setIfInBounds_toArray, List.set_cons_zero, List.set_cons_succ]
  refine wpAnyH_ready (rs := [73]) (by kernel_rfl) (by simp) ?_
  refine AllReadyH.cons (o := _) rfl (fun K hK => ?_) AllReadyH.nil
  go_simp
  refine (same_any (x := (⟨5, ⟨#[80]⟩, 0, [⟨⟨#[120]⟩, 1⟩], []⟩ : Typ)) (y := (⟨6, ⟨#[]⟩, 5, [], []⟩ : Typ)) (FldsP.kept F.out hHeld (fun _ _ h => h) (fun _ h => h)) (MthsP.kept M.out hHeld (fun _ _ h => h) (fun _ h => h)) (FldsP.kept F'.out hHeld (fun _ _ h => h) (fun _ h => h)) (MthsP.kept M'.out hHeld (fun _ _ h => h) (fun _ h => h))).mono ?_
  rintro e w' ⟨hv, rfl⟩
  have V := Up.trans hHeld hv
  rw [show sameB (⟨5, ⟨#[80]⟩, 0, [⟨⟨#[120]⟩, 1⟩], []⟩ : Typ) (⟨6, ⟨#[]⟩, 5, [], []⟩ : Typ) = false by decide]
  go_simp
  refine hK.out _ _ (by exact V) (fun hHeld => ?_)
  clear hK K
  refine held_take (i := 74) (d := some 86) (v := ?_) rfl rfl (by kernel_rfl) (by kernel_rfl) (by kernel_rfl) (fun _ _ _ h => h) (by rfl) ?_ (by assumption) ?_
  rotate_left 1
  focus (intro w hSw; (try dsimp only at hSw); go_simp; first | done | with_reducible rfl)
  simp only [Act.put, List.setIfInBounds_toArray, List.set_cons_zero, List.set_cons_succ]
  refine held_take (i := 75) (d := some 87) (v := ?_) rfl rfl (by kernel_rfl) (by kernel_rfl) (by kernel_rfl) (fun _ _ _ h => h) (by rfl) ?_ (by assumption) ?_
  rotate_left 1
  focus (intro w hSw; (try dsimp only at hSw); go_simp; first | done | with_reducible rfl)
  simp only [Act.put, List.setIfInBounds_toArray, List.set_cons_zero, List.set_cons_succ]
  refine held_take (i := 76) (d := some 0) (v := ?_) rfl rfl (by kernel_rfl) (by kernel_rfl) (by kernel_rfl) (fun _ _ _ h => h) (by rfl) ?_ (by assumption) ?_
  rotate_left 1
  focus (intro w hSw; (try dsimp only at hSw); go_simp; first | done | with_reducible rfl)
  simp only [Act.put, List.setIfInBounds_toArray, List.set_cons_zero]
  refine wpAnyH_done (by kernel_rfl) ?_ _
  have Hh := Lib.hid hHeld
  clear hHeld
  go_wp2_with fail
  go_ret
  exact ⟨Up.trans U1.out (Up.trans U2.out (Up.trans V3.out Hh.out)), rfl⟩
end Go.Proofs.Ytglfkoniacicgaa
