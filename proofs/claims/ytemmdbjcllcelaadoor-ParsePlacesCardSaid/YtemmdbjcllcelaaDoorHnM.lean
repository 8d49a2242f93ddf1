/-
  The hand's maker: loop.
-/
import Derived.Test.YtemmdbjcllcelaaDoorHnL
import Derived.Test.YtemmdbjcllcelaaDoorHnF
namespace Go.Proofs.YtemmdbjcllcelaaDoor.Tk
set_option maxRecDepth 100000
open Go.RowKit

theorem Wt.row {w0 w1 : World} {base p : Nat} {A : Option Addr} {rc : Nat} {raw : List Int} {m0 : MS} {rows : List (List ByteArray)} (hm : Mk w1 base p A rc raw m0 rows) (hf : Fr (fun b => m0.vv.ownBlock = some b) w0 w1) (h25 : m0.names ≤ 25) : Wt w0 w1 base p A rc raw m0 m0 rows 0 :=
  ⟨hm, fun _ hb => .inl hb, hf.mono (fun _ _ h => .inr h), Nat.le_refl _, h25, Nat.le_add_right _ _, rfl⟩
/-- line, among statements. -/
theorem line_w {w0 w : World} {base p : Nat} {A : Option Addr} {rc : Nat} {raw : List Int} {m0 m : MS} {rows : List (List ByteArray)} {N : Nat} (K : Wt w0 w base p A rc raw m0 m rows N) (n : Nat) (hn : n ≤ 100) (s : ByteArray) (hs : s.size ≤ 2000) (ho : m0.out.size + N ≤ 900000000000) :
    Calls Tryd.prog 20 #[.pointer (some ⟨p, 0, none⟩), .int .i64 n, .string s] w fun e w' => e = .returned (.tuple #[]) ∧ ∃ m' : MS, Wt w0 w' base p A rc raw m0 m' rows (N + 2200) :=
  (line_any K.mem n hn s (by omega) (by have := K.out; omega)).mono (by
    rintro e w' ⟨o, rfl, ho', hm, hf⟩
    exact ⟨rfl, _, K.trans (Wt.same (N := 2200) hm hf rfl rfl K.hi (by show o.size ≤ _; omega) rfl) (Nat.le_refl _)⟩)
/-- expr, among statements. -/
theorem expr_w {w0 w : World} {base p : Nat} {A : Option Addr} {rc : Nat} {raw : List Int} {m0 m : MS} {rows : List (List ByteArray)} {N : Nat} (K : Wt w0 w base p A rc raw m0 m rows N) (t d : Nat) (ht : t < 7) (hd : d ≤ 3) :
    Calls Tryd.prog 35 #[.pointer (some ⟨p, 0, none⟩), .int .i64 t, .int .i64 d] w fun e w' => ∃ s : ByteArray, e = .returned (.string s) ∧ s.size ≤ 300 ∧ ∃ m' : MS, (m'.loops = m.loops ∧ m'.names = m.names) ∧ Wt w0 w' base p A rc raw m0 m' rows N :=
  (expr_any d (by omega) w base p A rc raw m rows K.mem (by have := K.hi; omega) t ht).mono (by
    rintro e w' ⟨s, a, z, rfl, hs, hm, hf⟩
    refine ⟨s, rfl, ?_, { m with at_ := a, size := z }, ⟨rfl, rfl⟩, K.trans (Wt.same (N := 0) hm hf rfl rfl K.hi (Nat.le_refl _) rfl) (Nat.le_refl _)⟩
    refine Nat.le_trans hs ?_
    match d, hd with
    | 0, _ => decide
    | 1, _ => decide
    | 2, _ => decide
    | 3, _ => decide
    | _ + 4, h => omega)
theorem next_w {w0 w : World} {base p : Nat} {A : Option Addr} {rc : Nat} {raw : List Int} {m0 m : MS} {rows : List (List ByteArray)} {N : Nat} (K : Wt w0 w base p A rc raw m0 m rows N) (M : Nat) (h1 : 1 ≤ M) (h2 : M ≤ 1000000) :
    Calls Tryd.prog 22 #[.pointer (some ⟨p, 0, none⟩), .int .i64 M] w fun e w' => ∃ j : Nat, j < M ∧ e = .returned (.int .i64 j) ∧ ∃ m' : MS, (m'.loops = m.loops ∧ m'.names = m.names) ∧ Wt w0 w' base p A rc raw m0 m' rows N :=
  (next_any K.mem M h1 h2).mono (by
    rintro e w' ⟨j, a, hj, rfl, hm, hf⟩
    exact ⟨j, hj, rfl, { m with at_ := a }, ⟨rfl, rfl⟩, K.trans (Wt.same (N := 0) hm hf rfl rfl K.hi (Nat.le_refl _) rfl) (Nat.le_refl _)⟩)
theorem leaf_w {w0 w : World} {base p : Nat} {A : Option Addr} {rc : Nat} {raw : List Int} {m0 m : MS} {rows : List (List ByteArray)} {N : Nat} (K : Wt w0 w base p A rc raw m0 m rows N) (t : Nat) (ht : t < 7) :
    Calls Tryd.prog 61 #[.pointer (some ⟨p, 0, none⟩), .int .i64 t] w fun e w' => ∃ s : ByteArray, e = .returned (.string s) ∧ s.size ≤ 19 ∧ ∃ m' : MS, (m'.loops = m.loops ∧ m'.names = m.names) ∧ Wt w0 w' base p A rc raw m0 m' rows N :=
  (leaf_any K.mem t ht (by have := K.hi; omega)).mono (by
    rintro e w' ⟨s, a, rfl, hs, hm, hf⟩
    exact ⟨s, rfl, hs, { m with at_ := a }, ⟨rfl, rfl⟩, K.trans (Wt.same (N := 0) hm hf rfl rfl K.hi (Nat.le_refl _) rfl) (Nat.le_refl _)⟩)
theorem v_w {w0 w : World} {base p : Nat} {A : Option Addr} {rc : Nat} {raw : List Int} {m0 m : MS} {rows : List (List ByteArray)} {N : Nat} (K : Wt w0 w base p A rc raw m0 m rows N) (t : Nat) (ht : t < 7) :
    Calls Tryd.prog 76 #[.pointer (some ⟨p, 0, none⟩), .int .i64 t] w fun e w' => ∃ s : ByteArray, e = .returned (.string s) ∧ s.size ≤ 6 ∧ ∃ m' : MS, (m'.loops = m.loops ∧ m'.names = m.names) ∧ Wt w0 w' base p A rc raw m0 m' rows N :=
  (v_any K.mem t ht (by have := K.hi; omega)).mono (by
    rintro e w' ⟨s, a, rfl, hs, hm, hf⟩
    exact ⟨s, rfl, hs, { m with at_ := a }, ⟨rfl, rfl⟩, K.trans (Wt.same (N := 0) hm hf rfl rfl K.hi (Nat.le_refl _) rfl) (Nat.le_refl _)⟩)
theorem declare_w {w0 w : World} {base p : Nat} {A : Option Addr} {rc : Nat} {raw : List Int} {m0 m : MS} {rows : List (List ByteArray)} {N : Nat} (K : Wt w0 w base p A rc raw m0 m rows N) (t : Nat) (ht : t < 7) (n : Nat) (hn : n ≤ 100) (s : ByteArray) (hs : s.size ≤ 2000) (hm : m.names ≤ 24) (ho : m0.out.size + N ≤ 900000000000) :
    Calls Tryd.prog 75 #[.pointer (some ⟨p, 0, none⟩), .int .i64 t, .int .i64 n, .string s] w fun e w' => e = .returned (.tuple #[]) ∧ ∃ (m' : MS) (rows' : List (List ByteArray)), Wt w0 w' base p A rc raw m0 m' rows' (N + 20000) :=
  (declare_any K.mem t ht n hn s (by omega) (by omega) (by have := K.out; omega)).mono (by
    rintro e w' ⟨o, rows', rfl, ho', hm', hf⟩
    exact ⟨rfl, _, rows', K.trans (N2 := 20000) ⟨hm', fun _ hb => .inl hb, hf, Nat.le_succ _, by show m.names + 1 ≤ 25; omega, ho', rfl⟩ (Nat.le_refl _)⟩)
theorem stmts_w {w0 w : World} {base p : Nat} {A : Option Addr} {rc : Nat} {raw : List Int} {m0 m : MS} {rows : List (List ByteArray)} {N d : Nat} (IH : StmtsOk d) (K : Wt w0 w base p A rc raw m0 m rows N) (n : Nat) (hnd : n + d ≤ 50) (h0 : -1 ≤ m0.res) (h7 : m0.res < 7) (ho : m0.out.size + N + 4 * sB d ≤ 100000000000) :
    Calls Tryd.prog 34 #[.pointer (some ⟨p, 0, none⟩), .int .i64 n, .int .i64 d] w fun e w' => e = .returned (.tuple #[]) ∧ ∃ (m' : MS) (rows' : List (List ByteArray)), Wt w0 w' base p A rc raw m0 m' rows' (N + 4 * sB d) :=
  (IH w base p A rc raw m rows n K.mem K.hi (by rw [K.res]; exact h0) (by rw [K.res]; exact h7) (by have := K.out; omega) hnd).mono (by
    rintro e w' ⟨rfl, m', rows', hw⟩
    exact ⟨rfl, m', rows', K.trans hw (Nat.le_refl _)⟩)

/-- loops, set. -/
theorem loops_w {w0 w : World} {base p : Nat} {A : Option Addr} {rc : Nat} {raw : List Int} {m0 m : MS} {rows : List (List ByteArray)} {N : Nat} (K : Wt w0 w base p A rc raw m0 m rows N) (z : Int) : Wt w0 (w.setCell ⟨p, 4, none⟩ (.int .i64 z)) base p A rc raw m0 { m with loops := z } rows N := by
  obtain ⟨hm, hf⟩ := K.mem.put 4 (.int .i64 z) { m with loops := z } rfl K.mem.atle K.mem.short (by rfl)
  exact K.trans (Wt.same (N := 0) hm hf rfl rfl K.hi (Nat.le_refl _) rfl) (Nat.le_refl _)

def LoopOk (d : Nat) : Prop := ∀ (w : World) (base p : Nat) (A : Option Addr) (rc : Nat) (raw : List Int) (m : MS) (rows : List (List ByteArray)) (n : Nat), Mk w base p A rc raw m rows → m.names ≤ 24 → -1 ≤ m.res → m.res < 7 → m.out.size + sB d ≤ 100000000000 → n + d ≤ 50 →
  Calls Tryd.prog 77 #[.pointer (some ⟨p, 0, none⟩), .int .i64 n, .int .i64 d] w fun e w' => e = .returned (.tuple #[]) ∧ ∃ (m' : MS) (rows' : List (List ByteArray)), Wt w w' base p A rc raw m m' rows' (sB d)

theorem loop_w {w0 w : World} {base p : Nat} {A : Option Addr} {rc : Nat} {raw : List Int} {m0 m : MS} {rows : List (List ByteArray)} {N d : Nat} (IH : LoopOk d) (K : Wt w0 w base p A rc raw m0 m rows N) (n : Nat) (hnd : n + d ≤ 50) (h24 : m.names ≤ 24) (h0 : -1 ≤ m0.res) (h7 : m0.res < 7) (ho : m0.out.size + N + sB d ≤ 100000000000) :
    Calls Tryd.prog 77 #[.pointer (some ⟨p, 0, none⟩), .int .i64 n, .int .i64 d] w fun e w' => e = .returned (.tuple #[]) ∧ ∃ (m' : MS) (rows' : List (List ByteArray)), Wt w0 w' base p A rc raw m0 m' rows' (N + sB d) :=
  (IH w base p A rc raw m rows n K.mem h24 (by rw [K.res]; exact h0) (by rw [K.res]; exact h7) (by have := K.out; omega) hnd).mono (by
    rintro e w' ⟨rfl, m', rows', hw⟩
    exact ⟨rfl, m', rows', K.trans hw (Nat.le_refl _)⟩)

def cntA : Array Value := #[.string { data := #[51] }, .string { data := #[49, 48] }, .string { data := #[50, 48] }, .string { data := #[52, 48] }]
theorem cntB (a : Act) : Tryd.prog.built 86 ((#[(0, .const (.string { data := #[51] })), (1, .const (.string { data := #[49, 48] })), (2, .const (.string { data := #[50, 48] })), (3, .const (.string { data := #[52, 48] }))] : Array (Nat × Operand)).map fun (i, x) => (i, a.eval x)).toList = some cntA := by kernel_rfl
theorem cntIdx : ∀ j : Nat, j < 4 → ∃ x : ByteArray, x.size ≤ 2 ∧ ∀ w, (Instr.index 86 (.agg cntA) (.int .i64 (j : Nat))).run Tryd.prog w = .ok (.string x) w
  | 0, _ => ⟨{ data := #[51] }, by decide, fun _ => by kernel_rfl⟩
  | 1, _ => ⟨{ data := #[49, 48] }, by decide, fun _ => by kernel_rfl⟩
  | 2, _ => ⟨{ data := #[50, 48] }, by decide, fun _ => by kernel_rfl⟩
  | 3, _ => ⟨{ data := #[52, 48] }, by decide, fun _ => by kernel_rfl⟩
  | _ + 4, h => by omega

theorem loop_0 : LoopOk 0 := by
  intro w base p A rc raw m rows n h h24 hr0 hr7 hout hnd
  have H := Lib.hid (Wt.refl (N := sB 0) h (by omega))
  clear h h24 hr0 hr7 hout hnd
  go_enter Tryd.func77, Tryd.ntmps77
  go_wp2_with fail
  first
    | (refine bodyPost_ret (v := .tuple #[]) ?_ ?_ ?_ <;> first | kernel_rfl | rfl | exact ⟨rfl, _, _, H.out⟩)
set_option maxRecDepth 20000 in
set_option maxHeartbeats 8000000 in
theorem loop_s {d : Nat} (IH : StmtsOk d) : LoopOk (d + 1) := by
  intro w base p A rc raw m rows n h h24 hr0 hr7 hout hnd
  obtain ⟨D, hD⟩ : ∃ D, D = d + 1 := ⟨_, rfl⟩
  have hsb : sB (d + 1) = 8 * sB d + 40000 := rfl
  rw [← hD] at hnd hsb hout ⊢
  have HSB := Lib.hid hsb
  have dp : ¬ ((D : Int) ≤ 0) := by omega
  have dpm : (D : Int) - 1 = (d : Int) := by omega
  have dw : IntKind.i64.wrap (d : Int) = (d : Int) := IntWalk.i64_in _ (by omega)
  have n1w : IntKind.i64.wrap ((n : Int) + 1) = (n : Int) + 1 := IntWalk.i64_in _ (by omega)
  have HD := Lib.hid hD
  have c3 := h.cell 3
  simp only [List.getElem?_toArray, List.getElem?_cons_zero, List.getElem?_cons_succ] at c3
  have DG := Lib.hid (digits_any w m.names (by omega))
  have H := Lib.hid h
  obtain ⟨N0, hN0⟩ : ∃ N0, N0 = m.names := ⟨_, rfl⟩
  rw [← hN0] at c3 DG
  have HN := Lib.hid hN0
  have HM := Lib.hid h24
  have k1 : IntKind.i64.wrap ((N0 : Int) + 1) = (N0 : Int) + 1 := IntWalk.i64_in _ (by omega)
  have hrl := h.nums.le
  have hrb := h.nums.big
  have HR := Lib.hid (And.intro hr0 hr7)
  have HO := Lib.hid hout
  have HND := Lib.hid hnd
  have IHH := Lib.hid IH
  clear h hN0 h24 hr0 hr7 hout hnd IH hD hsb
  go_enter Tryd.func77, Tryd.ntmps77
  go_wp2_with fail
  refine DG.out.mono ?_
  rintro e w1 ⟨dg, rfl, hdg, hu⟩
  have H1 := Lib.hid (H.out.up hu)
  have F1 := Lib.hid (Fr.mono (T := fun b => b = p) hu (fun _ _ h => h.elim))
  have q1 : 1 + dg.size ≤ 9223372036854775807 := by omega
  obtain ⟨nm, enm⟩ : ∃ nm, ({ data := #[118] } : ByteArray) ++ dg = nm := ⟨_, rfl⟩
  have hnm : nm.size ≤ 6 := Nat.le_trans (cat_le enm (Nat.le_refl _) hdg) (by decide)
  have hv6 := H1.out.put 3 (.int .i64 ((m.names : Int) + 1)) { m with names := m.names + 1 } rfl H1.out.atle (fun x hx => by have := H1.out.short x hx; show x.length ≤ m.names + 1 + 3; omega) (by rfl)
  rw [← HN.out] at hv6
  obtain ⟨hm2, hf2⟩ := hv6
  have H2 := Lib.hid hm2
  have F2 := Lib.hid (FM.trans F1.out hf2)
  have d3 := H1.out.cell 3
  have f3 := H1.out.free 3
  simp only [List.getElem?_toArray, List.getElem?_cons_zero, List.getElem?_cons_succ] at d3
  rw [← HN.out] at d3
  have SHT := Lib.hid (fun x hx => H1.out.short x hx)
  clear hu hdg hm2 hf2 DG c3 H F1 H1
  have HNM := Lib.hid hnm
  clear hnm
  go_upto_region 3 with fail
  clear d3 f3 k1 q1
  generalize w1.setCell ⟨p, 3, none⟩ (.int .i64 ((N0 : Int) + 1)) = w2 at H2 F2 ⊢
  obtain ⟨m1, hm1⟩ : ∃ m1 : MS, m1 = { m with names := N0 + 1 } := ⟨_, rfl⟩
  rw [← hm1] at H2
  have M1 := Lib.hid (show m1.names = m.names + 1 ∧ m1.out = m.out ∧ m1.res = m.res ∧ m1.vv = m.vv by rw [hm1, HN.out]; exact ⟨rfl, rfl, rfl, rfl⟩)
  clear hm1
  obtain ⟨A', N', c', wa, hrun, hup, hwas⟩ := was_any H2.out
  have HA := Lib.hid hrun
  have c2 := (H2.out.up ((Fr.refl (fun _ => False) w2).alloc (.cells #[] 66))).cell 2
  simp only [List.getElem?_toArray, List.getElem?_cons_zero, List.getElem?_cons_succ] at c2
  have K0 := Lib.hid (Wt.refl (N := 0) (H2.out.up hup) (by have := M1.out.1; have := HM.out; omega))
  have HW := Lib.hid hwas
  have HU := Lib.hid hup
  have HSH := Lib.hid H2.out.short
  have H7 := Lib.hid H2.out.seven
  have OB := Lib.hid (show m1.out.size + 8 * sB d + 40000 ≤ 100000000000 by rw [M1.out.2.1]; have := HO.out; have := HSB.out; omega)
  have hnm := HNM.out
  have q1 : nm.size + 5 ≤ 9223372036854775807 := by omega
  obtain ⟨l1, el1⟩ : ∃ c, nm ++ ({ data := #[32, 58, 61, 32, 48] } : ByteArray) = c := ⟨_, rfl⟩
  have hl1 : l1.size ≤ 6 + 5 := cat_le el1 hnm (Nat.le_refl _)
  have L1 := Lib.hid (line_w K0.out n (by have := HND.out; omega) l1 (by omega) (by have := OB.out; omega))
  clear hrun hup hwas hnm hl1
  go_wp2_with (at_builtin; refine Lib.wpList_append_run _ rfl (.tmp 23) (.tmp 27) 61 61 rfl _ _ rfl rfl _ _ HA.out ?_)
  refine L1.out.mono ?_
  rintro e w4 ⟨rfl, m4, hk4⟩
  have K4 := Lib.hid hk4
  clear hk4 L1 c2 HA q1
  go_upto_region 5 with fail
  have hu := Fr.drew (Fr.refl (fun _ => False) w4)
  have H4 := Lib.hid (K4.out.mem.up hu)
  have F4 := Lib.hid (Fr.mono (T := fun b => m4.vv.ownBlock = some b) hu (fun _ _ h => h.elim))
  obtain ⟨g, c, cr, Ar, x, hvv, hc7, cx, hx, hxl, hxr⟩ := H4.out.row (t := 0) (by decide)
  have HVV := Lib.hid hvv
  have C2 := H4.out.cell 2
  simp only [List.getElem?_toArray, List.getElem?_cons_zero, List.getElem?_cons_succ] at C2
  have C2 := Lib.hid (show w4.drew.cell? ⟨p, 2, none⟩ = some (.slice (some ⟨g, 0, none⟩) 7 c) by rw [C2]; exact congrArg some hvv)
  have CT := Lib.hid cx
  have HX := Lib.hid hx
  have HXL := Lib.hid (show x.length ≤ 500 by have := K4.out.hi; omega)
  have hx1 := SHT.out x (List.mem_of_getElem? hxr)
  have HY := Lib.hid (show (x ++ [nm]).length ≤ m4.names + 3 by rw [List.length_append]; have h1 := K4.out.lo; have h2 := M1.out.1; simp; omega)
  have HT := Lib.hid (show 0 < 7 by decide)
  have PLT := Lib.hid H4.out.plt
  have hgl := H4.out.vars.lt g (by rw [HVV.out]; rfl)
  have GLT := Lib.hid hgl.2
  have PNE := Lib.hid H4.out.vne
  have Z := Lib.hid (Rw.start w4.drew nm)
  clear hvv cx hx hxl hxr hx1 hgl hu hc7 SHT H2
  refine wp_region_held_drew (S := fun W => W.cell? ⟨p, 2, none⟩ = some (.slice (some ⟨g, 0, none⟩) 7 c)) (by kernel_rfl) (by exact C2.out) (fun hHeld => ?_)
  generalize w4.drew = wd at *
  refine held_take (i := 0) (d := some 34) (v := ?_) rfl rfl (by kernel_rfl) (by kernel_rfl) (by kernel_rfl) (fun _ _ _ h => h) (by rfl) ?_ (by assumption) ?_
  rotate_left 1
  focus (intro w hSw; (try dsimp only at hSw); go_simp; first | done | with_reducible rfl)
  simp only [Act.put, List.setIfInBounds_toArray, List.set_cons_zero, List.set_cons_succ]
  refine held_take (i := 1) (d := some 35) (v := ?_) rfl rfl (by kernel_rfl) (by kernel_rfl) (by kernel_rfl) (fun _ _ _ h => h) (by rfl) ?_ (by assumption) ?_
  rotate_left 1
  focus (intro w hSw; (try dsimp only at hSw); go_simp; first | done | with_reducible rfl)
  simp only [Act.put, List.setIfInBounds_toArray, List.set_cons_zero, List.set_cons_succ]
  refine held_take (i := 2) (d := some 36) (v := ?_) rfl rfl (by kernel_rfl) (by kernel_rfl) (by kernel_rfl) (fun _ _ _ h => h) (by rfl) ?_ (by assumption) ?_
  rotate_left 1
  focus (intro w hSw; (try dsimp only at hSw); go_simp; first | done | with_reducible rfl)
  simp only [Act.put, List.setIfInBounds_toArray, List.set_cons_zero, List.set_cons_succ]
  refine held_take (i := 3) (d := some 37) (v := ?_) rfl rfl (by kernel_rfl) (by kernel_rfl) (by kernel_rfl) (fun _ _ _ h => h) (by rfl) ?_ (by assumption) ?_
  rotate_left 1
  focus (intro w hSw; (try dsimp only at hSw); go_simp; first | done | with_reducible rfl)
  simp only [Act.put, List.setIfInBounds_toArray, List.set_cons_zero, List.set_cons_succ]
  refine held_take (i := 5) (d := some 39) (v := ?_) rfl rfl (by kernel_rfl) (by kernel_rfl) (by kernel_rfl) (fun _ _ _ h => h) (by rfl) ?_ (by assumption) ?_
  rotate_left 1
  focus (intro w hSw; (try dsimp only at hSw); go_simp; first | done | with_reducible rfl)
  simp only [Act.put, List.setIfInBounds_toArray, List.set_cons_zero, List.set_cons_succ]
  refine held_take (i := 6) (d := some 40) (v := ?_) rfl rfl (by kernel_rfl) (by kernel_rfl) (by kernel_rfl) (fun _ _ _ h => h) (by rfl) ?_ (by assumption) ?_
  rotate_left 1
  focus (intro w hSw; (try dsimp only at hSw); go_simp; first | done | with_reducible rfl)
  simp only [Act.put, List.setIfInBounds_toArray, List.set_cons_zero, List.set_cons_succ]
  refine held_take (i := 7) (d := some 41) (v := ?_) rfl rfl (by kernel_rfl) (by kernel_rfl) (by kernel_rfl) (fun _ _ _ h => h) (by rfl) ?_ (by assumption) ?_
  rotate_left 1
  focus (intro w hSw; (try dsimp only at hSw); go_simp; first | done | with_reducible rfl)
  simp only [Act.put, List.setIfInBounds_toArray, List.set_cons_zero, List.set_cons_succ]
  refine held_take (i := 8) (d := some 42) (v := ?_) rfl rfl (by kernel_rfl) (by kernel_rfl) (by kernel_rfl) (fun _ _ _ h => h) (by rfl) ?_ (by assumption) ?_
  rotate_left 1
  focus (intro w hSw; (try dsimp only at hSw); go_simp; first | done | with_reducible rfl)
  simp only [Act.put, List.setIfInBounds_toArray, List.set_cons_zero, List.set_cons_succ]
  refine held_take (i := 9) (d := some 43) (v := ?_) rfl rfl (by kernel_rfl) (by kernel_rfl) (by kernel_rfl) (fun _ _ _ h => h) (by rfl) ?_ (by assumption) ?_
  rotate_left 1
  focus (intro w hSw; (try dsimp only at hSw); go_simp; first | done | with_reducible rfl)
  simp only [Act.put, List.setIfInBounds_toArray, List.set_cons_zero, List.set_cons_succ]
  refine held_take (i := 12) (d := some 46) (v := ?_) rfl rfl (by kernel_rfl) (by kernel_rfl) (by kernel_rfl) (fun _ _ _ h => h) (by rfl) ?_ (by assumption) ?_
  rotate_left 1
  focus (intro w hSw; (try dsimp only at hSw); go_simp; first | done | with_reducible rfl)
  simp only [Act.put, List.setIfInBounds_toArray, List.set_cons_zero, List.set_cons_succ]
  refine share6 (H := fun q5 q A13 N13 c13 W => Rw wd W (some (.slice A13 N13 c13, x)) (some q) nm) (G := ?G) (fun cont => ?m1) ?m2
  case m1 =>
    refine wpAnyH_ready (rs := [4, 10, 13]) (by kernel_rfl) (by simp) ?_
    refine (AllReadyH.cons (o := _) rfl (fun K hK => ?_) (AllReadyH.cons (o := _) rfl (fun K hK => ?_) (AllReadyH.cons (o := _) rfl (fun K hK => ?_) AllReadyH.nil)))
    · go_simp
      have Z := Lib.hid (Z.out.e)
      refine hK.out _ _ (by exact (Z.out.up.cell PLT.out (fun h => h)).trans C2.out) (fun hHeld => ?_)
      clear hK K
      refine wpAnyH_ready (rs := [10, 13]) (by kernel_rfl) (by simp) ?_
      refine (AllReadyH.cons (o := _) rfl (fun K hK => ?_) (AllReadyH.cons (o := _) rfl (fun K hK => ?_) AllReadyH.nil))
      · have ct := (Z.out.up.cell GLT.out (fun h => h)).trans CT.out
        go_simp
        clear ct
        refine hK.out _ _ (by exact hHeld) (fun hHeld => ?_)
        clear hK K
        refine wpAnyH_ready (rs := [11, 13]) (by kernel_rfl) (by simp) ?_
        refine (AllReadyH.cons (o := _) rfl (fun K hK => ?_) (AllReadyH.cons (o := _) rfl (fun K hK => ?_) AllReadyH.nil))
        · obtain ⟨A13, N13, c13, w13, hr13, hz13⟩ := Z.out.a HX.out HXL.out
          (try simp only [Go.Deep.nblk_alloc] at hr13)
          have HA := Lib.hid hr13
          have Z := Lib.hid hz13
          clear hr13 hz13
          refine step_append_run rfl (.tmp 38) (.tmp 44) 66 rfl rfl rfl HA.out ?_
          go_simp
          clear HA
          refine hK.out _ _ (by exact (Z.out.up.cell PLT.out (fun h => h)).trans C2.out) (fun hHeld => ?_)
          clear hK K
          refine wpAnyH_ready (rs := [13]) (by kernel_rfl) (by simp) ?_
          refine (AllReadyH.cons (o := _) rfl (fun K hK => ?_) AllReadyH.nil)
          go_simp
          have Z := Lib.hid (Z.out.n)
          refine hK.out _ _ (by exact (Z.out.up.cell PLT.out (fun h => h)).trans C2.out) (fun hHeld => ?_)
          clear hK K
          refine listed_eq (l' := #[true, true, true, true, true, true, true, true, true, true, true, true, true, true, false, false, false]) (by kernel_rfl) ?_
          have Z := Z.out
          generalize w13.heap.size = q at Z ⊢
          generalize wd.heap.size = q5 at ⊢
          generalize w13.alloc _ = W at Z ⊢
          exact cont q5 q A13 N13 c13 W Z
        · go_simp
          have Z := Lib.hid (Z.out.n)
          refine hK.out _ _ (by exact (Z.out.up.cell PLT.out (fun h => h)).trans C2.out) (fun hHeld => ?_)
          clear hK K
          refine wpAnyH_ready (rs := [11]) (by kernel_rfl) (by simp) ?_
          refine (AllReadyH.cons (o := _) rfl (fun K hK => ?_) AllReadyH.nil)
          obtain ⟨A13, N13, c13, w13, hr13, hz13⟩ := Z.out.a HX.out HXL.out
          (try simp only [Go.Deep.nblk_alloc] at hr13)
          have HA := Lib.hid hr13
          have Z := Lib.hid hz13
          clear hr13 hz13
          refine step_append_run rfl (.tmp 38) (.tmp 44) 66 rfl rfl rfl HA.out ?_
          go_simp
          clear HA
          refine hK.out _ _ (by exact (Z.out.up.cell PLT.out (fun h => h)).trans C2.out) (fun hHeld => ?_)
          clear hK K
          refine listed_eq (l' := #[true, true, true, true, true, true, true, true, true, true, true, true, true, true, false, false, false]) (by kernel_rfl) ?_
          have Z := Z.out
          (try simp only [Go.Deep.nblk_alloc] at Z)
          exact cont _ _ _ _ _ _ Z
      · go_simp
        have Z := Lib.hid (Z.out.n)
        refine hK.out _ _ (by exact (Z.out.up.cell PLT.out (fun h => h)).trans C2.out) (fun hHeld => ?_)
        clear hK K
        refine wpAnyH_ready (rs := [10]) (by kernel_rfl) (by simp) ?_
        refine (AllReadyH.cons (o := _) rfl (fun K hK => ?_) AllReadyH.nil)
        have ct := (Z.out.up.cell GLT.out (fun h => h)).trans CT.out
        go_simp
        clear ct
        refine hK.out _ _ (by exact hHeld) (fun hHeld => ?_)
        clear hK K
        refine wpAnyH_ready (rs := [11]) (by kernel_rfl) (by simp) ?_
        refine (AllReadyH.cons (o := _) rfl (fun K hK => ?_) AllReadyH.nil)
        obtain ⟨A13, N13, c13, w13, hr13, hz13⟩ := Z.out.a HX.out HXL.out
        (try simp only [Go.Deep.nblk_alloc] at hr13)
        have HA := Lib.hid hr13
        have Z := Lib.hid hz13
        clear hr13 hz13
        refine step_append_run rfl (.tmp 38) (.tmp 44) 66 rfl rfl rfl HA.out ?_
        go_simp
        clear HA
        refine hK.out _ _ (by exact (Z.out.up.cell PLT.out (fun h => h)).trans C2.out) (fun hHeld => ?_)
        clear hK K
        refine listed_eq (l' := #[true, true, true, true, true, true, true, true, true, true, true, true, true, true, false, false, false]) (by kernel_rfl) ?_
        have Z := Z.out
        (try simp only [Go.Deep.nblk_alloc] at Z)
        exact cont _ _ _ _ _ _ Z
    · have ct := (Z.out.up.cell GLT.out (fun h => h)).trans CT.out
      go_simp
      clear ct
      refine hK.out _ _ (by exact hHeld) (fun hHeld => ?_)
      clear hK K
      refine wpAnyH_ready (rs := [4, 13]) (by kernel_rfl) (by simp) ?_
      refine (AllReadyH.cons (o := _) rfl (fun K hK => ?_) (AllReadyH.cons (o := _) rfl (fun K hK => ?_) AllReadyH.nil))
      · go_simp
        have Z := Lib.hid (Z.out.e)
        refine hK.out _ _ (by exact (Z.out.up.cell PLT.out (fun h => h)).trans C2.out) (fun hHeld => ?_)
        clear hK K
        refine wpAnyH_ready (rs := [11, 13]) (by kernel_rfl) (by simp) ?_
        refine (AllReadyH.cons (o := _) rfl (fun K hK => ?_) (AllReadyH.cons (o := _) rfl (fun K hK => ?_) AllReadyH.nil))
        · obtain ⟨A13, N13, c13, w13, hr13, hz13⟩ := Z.out.a HX.out HXL.out
          (try simp only [Go.Deep.nblk_alloc] at hr13)
          have HA := Lib.hid hr13
          have Z := Lib.hid hz13
          clear hr13 hz13
          refine step_append_run rfl (.tmp 38) (.tmp 44) 66 rfl rfl rfl HA.out ?_
          go_simp
          clear HA
          refine hK.out _ _ (by exact (Z.out.up.cell PLT.out (fun h => h)).trans C2.out) (fun hHeld => ?_)
          clear hK K
          refine wpAnyH_ready (rs := [13]) (by kernel_rfl) (by simp) ?_
          refine (AllReadyH.cons (o := _) rfl (fun K hK => ?_) AllReadyH.nil)
          go_simp
          have Z := Lib.hid (Z.out.n)
          refine hK.out _ _ (by exact (Z.out.up.cell PLT.out (fun h => h)).trans C2.out) (fun hHeld => ?_)
          clear hK K
          refine listed_eq (l' := #[true, true, true, true, true, true, true, true, true, true, true, true, true, true, false, false, false]) (by kernel_rfl) ?_
          have Z := Z.out
          (try simp only [Go.Deep.nblk_alloc] at Z)
          exact cont _ _ _ _ _ _ Z
        · go_simp
          have Z := Lib.hid (Z.out.n)
          refine hK.out _ _ (by exact (Z.out.up.cell PLT.out (fun h => h)).trans C2.out) (fun hHeld => ?_)
          clear hK K
          refine wpAnyH_ready (rs := [11]) (by kernel_rfl) (by simp) ?_
          refine (AllReadyH.cons (o := _) rfl (fun K hK => ?_) AllReadyH.nil)
          obtain ⟨A13, N13, c13, w13, hr13, hz13⟩ := Z.out.a HX.out HXL.out
          (try simp only [Go.Deep.nblk_alloc] at hr13)
          have HA := Lib.hid hr13
          have Z := Lib.hid hz13
          clear hr13 hz13
          refine step_append_run rfl (.tmp 38) (.tmp 44) 66 rfl rfl rfl HA.out ?_
          go_simp
          clear HA
          refine hK.out _ _ (by exact (Z.out.up.cell PLT.out (fun h => h)).trans C2.out) (fun hHeld => ?_)
          clear hK K
          refine listed_eq (l' := #[true, true, true, true, true, true, true, true, true, true, true, true, true, true, false, false, false]) (by kernel_rfl) ?_
          have Z := Z.out
          (try simp only [Go.Deep.nblk_alloc] at Z)
          exact cont _ _ _ _ _ _ Z
      · go_simp
        have Z := Lib.hid (Z.out.n)
        refine hK.out _ _ (by exact (Z.out.up.cell PLT.out (fun h => h)).trans C2.out) (fun hHeld => ?_)
        clear hK K
        refine wpAnyH_ready (rs := [4]) (by kernel_rfl) (by simp) ?_
        refine (AllReadyH.cons (o := _) rfl (fun K hK => ?_) AllReadyH.nil)
        go_simp
        have Z := Lib.hid (Z.out.e)
        refine hK.out _ _ (by exact (Z.out.up.cell PLT.out (fun h => h)).trans C2.out) (fun hHeld => ?_)
        clear hK K
        refine wpAnyH_ready (rs := [11]) (by kernel_rfl) (by simp) ?_
        refine (AllReadyH.cons (o := _) rfl (fun K hK => ?_) AllReadyH.nil)
        obtain ⟨A13, N13, c13, w13, hr13, hz13⟩ := Z.out.a HX.out HXL.out
        (try simp only [Go.Deep.nblk_alloc] at hr13)
        have HA := Lib.hid hr13
        have Z := Lib.hid hz13
        clear hr13 hz13
        refine step_append_run rfl (.tmp 38) (.tmp 44) 66 rfl rfl rfl HA.out ?_
        go_simp
        clear HA
        refine hK.out _ _ (by exact (Z.out.up.cell PLT.out (fun h => h)).trans C2.out) (fun hHeld => ?_)
        clear hK K
        refine listed_eq (l' := #[true, true, true, true, true, true, true, true, true, true, true, true, true, true, false, false, false]) (by kernel_rfl) ?_
        have Z := Z.out
        (try simp only [Go.Deep.nblk_alloc] at Z)
        exact cont _ _ _ _ _ _ Z
    · go_simp
      have Z := Lib.hid (Z.out.n)
      refine hK.out _ _ (by exact (Z.out.up.cell PLT.out (fun h => h)).trans C2.out) (fun hHeld => ?_)
      clear hK K
      refine wpAnyH_ready (rs := [4, 10]) (by kernel_rfl) (by simp) ?_
      refine (AllReadyH.cons (o := _) rfl (fun K hK => ?_) (AllReadyH.cons (o := _) rfl (fun K hK => ?_) AllReadyH.nil))
      · go_simp
        have Z := Lib.hid (Z.out.e)
        refine hK.out _ _ (by exact (Z.out.up.cell PLT.out (fun h => h)).trans C2.out) (fun hHeld => ?_)
        clear hK K
        refine wpAnyH_ready (rs := [10]) (by kernel_rfl) (by simp) ?_
        refine (AllReadyH.cons (o := _) rfl (fun K hK => ?_) AllReadyH.nil)
        have ct := (Z.out.up.cell GLT.out (fun h => h)).trans CT.out
        go_simp
        clear ct
        refine hK.out _ _ (by exact hHeld) (fun hHeld => ?_)
        clear hK K
        refine wpAnyH_ready (rs := [11]) (by kernel_rfl) (by simp) ?_
        refine (AllReadyH.cons (o := _) rfl (fun K hK => ?_) AllReadyH.nil)
        obtain ⟨A13, N13, c13, w13, hr13, hz13⟩ := Z.out.a HX.out HXL.out
        (try simp only [Go.Deep.nblk_alloc] at hr13)
        have HA := Lib.hid hr13
        have Z := Lib.hid hz13
        clear hr13 hz13
        refine step_append_run rfl (.tmp 38) (.tmp 44) 66 rfl rfl rfl HA.out ?_
        go_simp
        clear HA
        refine hK.out _ _ (by exact (Z.out.up.cell PLT.out (fun h => h)).trans C2.out) (fun hHeld => ?_)
        clear hK K
        refine listed_eq (l' := #[true, true, true, true, true, true, true, true, true, true, true, true, true, true, false, false, false]) (by kernel_rfl) ?_
        have Z := Z.out
        (try simp only [Go.Deep.nblk_alloc] at Z)
        exact cont _ _ _ _ _ _ Z
      · have ct := (Z.out.up.cell GLT.out (fun h => h)).trans CT.out
        go_simp
        clear ct
        refine hK.out _ _ (by exact hHeld) (fun hHeld => ?_)
        clear hK K
        refine wpAnyH_ready (rs := [4]) (by kernel_rfl) (by simp) ?_
        refine (AllReadyH.cons (o := _) rfl (fun K hK => ?_) AllReadyH.nil)
        go_simp
        have Z := Lib.hid (Z.out.e)
        refine hK.out _ _ (by exact (Z.out.up.cell PLT.out (fun h => h)).trans C2.out) (fun hHeld => ?_)
        clear hK K
        refine wpAnyH_ready (rs := [11]) (by kernel_rfl) (by simp) ?_
        refine (AllReadyH.cons (o := _) rfl (fun K hK => ?_) AllReadyH.nil)
        obtain ⟨A13, N13, c13, w13, hr13, hz13⟩ := Z.out.a HX.out HXL.out
        (try simp only [Go.Deep.nblk_alloc] at hr13)
        have HA := Lib.hid hr13
        have Z := Lib.hid hz13
        clear hr13 hz13
        refine step_append_run rfl (.tmp 38) (.tmp 44) 66 rfl rfl rfl HA.out ?_
        go_simp
        clear HA
        refine hK.out _ _ (by exact (Z.out.up.cell PLT.out (fun h => h)).trans C2.out) (fun hHeld => ?_)
        clear hK K
        refine listed_eq (l' := #[true, true, true, true, true, true, true, true, true, true, true, true, true, true, false, false, false]) (by kernel_rfl) ?_
        have Z := Z.out
        (try simp only [Go.Deep.nblk_alloc] at Z)
        exact cont _ _ _ _ _ _ Z
  case m2 =>
    intro q5 q A13 N13 c13 W Z0
    have Z := Lib.hid Z0
    clear Z0
    have hHeld : W.cell? ⟨p, 2, none⟩ = some (.slice (some ⟨g, 0, none⟩) 7 c) := (Z.out.up.cell PLT.out (fun h => h)).trans C2.out
    refine wpAnyH_ready (rs := [14]) (by kernel_rfl) (by simp) ?_
    refine (AllReadyH.cons (o := _) rfl (fun K hK => ?_) AllReadyH.nil)
    obtain ⟨A16, N16, c16, w16, hr16, hz16⟩ := Z.out.b HNM.out HXL.out
    have HA := Lib.hid hr16
    have Z := Lib.hid hz16
    clear hr16 hz16
    refine step_append_run rfl (.tmp 45) (.tmp 47) 66 rfl rfl rfl HA.out ?_
    go_simp
    clear HA
    refine hK.out _ _ (by exact (Z.out.up.cell PLT.out (fun h => h)).trans C2.out) (fun hHeld => ?_)
    clear hK K
    refine held_take (i := 15) (d := some 49) (v := ?_) rfl rfl (by kernel_rfl) (by kernel_rfl) (by kernel_rfl) (fun _ _ _ h => h) (by rfl) ?_ (by assumption) ?_
    rotate_left 1
    focus (intro w hSw; (try dsimp only at hSw); go_simp; first | done | with_reducible rfl)
    simp only [Act.put, List.setIfInBounds_toArray, List.set_cons_zero, List.set_cons_succ]
    refine wpAnyH_ready (rs := [16]) (by kernel_rfl) (by simp) ?_
    refine (AllReadyH.cons (o := _) rfl (fun K hK => ?_) AllReadyH.nil)
    have ct := (Z.out.up.cell GLT.out (fun h => h)).trans CT.out
    have ft := frozen_of_own H4.out.vars HVV.out 0 w16 Z.out.up
    have Z18 := Lib.hid (H4.out.setrow HVV.out HT.out Z.out HY.out)
    go_simp
    clear ct ft
    refine hK.out _ _ (by exact ((Z18.out.2.cell PLT.out PNE.out).trans C2.out)) (fun hHeld => ?_)
    clear hK K
    refine wpAnyH_done (by kernel_rfl) ?_ _
    have K5 := Lib.hid (K4.out.trans (Wt.row Z18.out.1 (Fr.trans F4.out Z18.out.2 (fun _ _ h => h)) K4.out.hi) (Nat.le_refl _))
    generalize w16.setCell ⟨g, 0, none⟩ (.slice A16 N16 c16) = w5 at K5 ⊢
    clear Z18 Z hHeld H4 F4 HVV C2 CT HX HXL HY HT PLT GLT PNE
    generalize rows.set 0 _ = rows5 at K5
    have NX := Lib.hid (show Calls Tryd.prog 22 #[.pointer (some ⟨p, 0, none⟩), .int .i64 9] w5 _ from next_w K5.out 9 (by decide) (by decide))
    go_wp2_with fail
    refine NX.out.mono ?_
    rintro e w6 ⟨j, hj, rfl, m6, _, hk6⟩
    have K6 := Lib.hid hk6
    have HJ := Lib.hid hj
    clear hk6 hj NX K5
    go_upto_if 52 with fail
    go_cut [] (fun wx => ∃ m' : MS, Hid (Wt wa wx base p A rc raw m1 m' rows5 4400))
    case first =>
      have hnm := HNM.out
      by_cases hj0 : j = 0
      · subst hj0
        have EX := Lib.hid (show Calls Tryd.prog 35 #[.pointer (some ⟨p, 0, none⟩), .int .i64 1, .int .i64 2] w6 _ from expr_w K6.out 1 2 (by decide) (by decide))
        clear hnm
        go_wp2_with fail
        refine EX.out.mono ?_
        rintro e w7 ⟨s7, rfl, hs7, m7, _, hk7⟩
        have K7 := Lib.hid hk7
        have q1 : 4 + s7.size ≤ 9223372036854775807 := by omega
        obtain ⟨l2, el2⟩ : ∃ c, ({ data := #[102, 111, 114, 32] } : ByteArray) ++ s7 = c := ⟨_, rfl⟩
        have hl2 : l2.size ≤ 4 + 300 := cat_le el2 (Nat.le_refl _) hs7
        have q2 : l2.size + 2 ≤ 9223372036854775807 := by omega
        obtain ⟨l3, el3⟩ : ∃ c, l2 ++ ({ data := #[32, 123] } : ByteArray) = c := ⟨_, rfl⟩
        have hl3 : l3.size ≤ 4 + 300 + 2 := cat_le el3 hl2 (Nat.le_refl _)
        have L3 := Lib.hid (line_w K7.out n (by have := HND.out; omega) l3 (by omega) (by have := OB.out; omega))
        clear hk7 hl2 hl3 EX hs7
        go_wp2_with fail
        refine L3.out.mono ?_
        rintro e w8 ⟨rfl, m8, hk8⟩
        have K8 := Lib.hid hk8
        clear hk8 L3
        go_wp2_with fail
        go_meet
        exact ⟨m8, K8⟩
      · have g0 : ((j : Int) == 0) = false := beq_eq_false_iff_ne.2 (by omega)
        have q1 : 4 + nm.size ≤ 9223372036854775807 := by omega
        obtain ⟨l2, el2⟩ : ∃ c, ({ data := #[102, 111, 114, 32] } : ByteArray) ++ nm = c := ⟨_, rfl⟩
        have hl2 : l2.size ≤ 4 + 6 := cat_le el2 (Nat.le_refl _) hnm
        have q2 : l2.size + 3 ≤ 9223372036854775807 := by omega
        obtain ⟨l3, el3⟩ : ∃ c, l2 ++ ({ data := #[32, 60, 32] } : ByteArray) = c := ⟨_, rfl⟩
        have hl3 : l3.size ≤ 4 + 6 + 3 := cat_le el3 hl2 (Nat.le_refl _)
        have NX := Lib.hid (show Calls Tryd.prog 22 #[.pointer (some ⟨p, 0, none⟩), .int .i64 4] w6 _ from next_w K6.out 4 (by decide) (by decide))
        have HL3 := Lib.hid hl3
        clear hnm hl2 hl3 hj0
        go_wp2_with fail
        clear q1 q2
        refine NX.out.mono ?_
        rintro e w7 ⟨j7, hj7, rfl, m7, _, hk7⟩
        obtain ⟨x7, hx7, gi7⟩ := cntIdx j7 hj7
        simp only [cntA] at gi7
        have hj7i : (j7 : Int) < 4 := by omega
        have K7 := Lib.hid hk7
        have hl3 := HL3.out
        have q3 : l3.size + x7.size ≤ 9223372036854775807 := by omega
        obtain ⟨l4, el4⟩ : ∃ c, l3 ++ x7 = c := ⟨_, rfl⟩
        have hl4 : l4.size ≤ 4 + 6 + 3 + 2 := cat_le el4 hl3 hx7
        have q4 : l4.size + 2 ≤ 9223372036854775807 := by omega
        obtain ⟨l5, el5⟩ : ∃ c, l4 ++ ({ data := #[32, 123] } : ByteArray) = c := ⟨_, rfl⟩
        have hl5 : l5.size ≤ 4 + 6 + 3 + 2 + 2 := cat_le el5 hl4 (Nat.le_refl _)
        have L3 := Lib.hid (line_w K7.out n (by have := HND.out; omega) l5 (by omega) (by have := OB.out; omega))
        clear hk7 hl3 hl4 hl5 hx7 hj7 NX
        go_wp2_with fail
        refine L3.out.mono ?_
        rintro e w8 ⟨rfl, m8, hk8⟩
        have K8 := Lib.hid hk8
        clear hk8 L3
        go_wp2_with fail
        go_meet
        exact ⟨m8, K8⟩
    case rest =>
      obtain ⟨m8, K8⟩ := hcut
      rename World => w8
      clear K6 HJ
      have hnm := HNM.out
      have q1 : nm.size + 3 ≤ 9223372036854775807 := by omega
      obtain ⟨l2, el2⟩ : ∃ c, nm ++ ({ data := #[32, 61, 32] } : ByteArray) = c := ⟨_, rfl⟩
      have hl2 : l2.size ≤ 6 + 3 := cat_le el2 hnm (Nat.le_refl _)
      have q2 : l2.size + nm.size ≤ 9223372036854775807 := by omega
      obtain ⟨l3, el3⟩ : ∃ c, l2 ++ nm = c := ⟨_, rfl⟩
      have hl3 : l3.size ≤ 6 + 3 + 6 := cat_le el3 hl2 hnm
      have q3 : l3.size + 4 ≤ 9223372036854775807 := by omega
      obtain ⟨l4, el4⟩ : ∃ c, l3 ++ ({ data := #[32, 43, 32, 49] } : ByteArray) = c := ⟨_, rfl⟩
      have hl4 : l4.size ≤ 6 + 3 + 6 + 4 := cat_le el4 hl3 (Nat.le_refl _)
      have L3 := Lib.hid (show Calls Tryd.prog 20 #[.pointer (some ⟨p, 0, none⟩), .int .i64 ((n : Int) + 1), .string l4] w8 _ from line_w K8.out (n + 1) (by have := HND.out; have := HD.out; omega) l4 (by omega) (by have := OB.out; omega))
      clear hnm hl2 hl3 hl4
      go_wp2_with fail
      refine L3.out.mono ?_
      rintro e w9 ⟨rfl, m9, hk9⟩
      have K9 := Lib.hid hk9
      have e4 := hk9.mem.cell 4
      have f4 := hk9.mem.free 4
      simp only [List.getElem?_toArray, List.getElem?_cons_zero, List.getElem?_cons_succ] at e4
      obtain ⟨z, hz⟩ : ∃ z, IntKind.i64.wrap (m9.loops + 1) = z := ⟨_, rfl⟩
      have K10 := Lib.hid (loops_w hk9 z)
      clear hk9 L3 q1 q2 q3 el2 el3 el4
      go_upto_region 11 with fail
      clear e4 f4 hz K9
      generalize w9.setCell ⟨p, 4, none⟩ (.int .i64 z) = w10 at K10 ⊢
      have ST := Lib.hid (show Calls Tryd.prog 34 #[.pointer (some ⟨p, 0, none⟩), .int .i64 ((n : Int) + 1), .int .i64 d] w10 _ from IHH.out w10 base p A rc raw _ rows5 (n + 1) K10.out.mem K10.out.hi (by rw [K10.out.res, M1.out.2.2.1]; exact HR.out.1) (by rw [K10.out.res, M1.out.2.2.1]; exact HR.out.2) (by have := K10.out.out; have := OB.out; omega) (by have := HND.out; have := HD.out; omega))
      go_wp2_with fail
      refine ST.out.mono ?_
      rintro e w11 ⟨rfl, m11, rows11, hk11⟩
      have K11 := Lib.hid (K10.out.trans hk11 (Nat.le_refl _))
      have e4 := hk11.mem.cell 4
      have f4 := hk11.mem.free 4
      simp only [List.getElem?_toArray, List.getElem?_cons_zero, List.getElem?_cons_succ] at e4
      obtain ⟨z2, hz2⟩ : ∃ z, IntKind.i64.wrap (m11.loops - 1) = z := ⟨_, rfl⟩
      have K12 := Lib.hid (loops_w K11.out z2)
      clear hk11 ST K10
      go_upto_region 13 with fail
      clear e4 f4 hz2 K11
      generalize w11.setCell ⟨p, 4, none⟩ (.int .i64 z2) = w12 at K12 ⊢
      have L4 := Lib.hid (line_w K12.out n (by have := HND.out; omega) { data := #[125] } (by decide) (by have := OB.out; omega))
      go_wp2_with fail
      refine L4.out.mono ?_
      rintro e w13 ⟨rfl, m13, hk13⟩
      have K13 := Lib.hid hk13
      have f2 := hk13.mem.free 2
      have c2 := hk13.mem.cell 2
      simp only [List.getElem?_toArray, List.getElem?_cons_zero, List.getElem?_cons_succ] at c2
      have BK := Lib.hid (hk13.mem.back HW.out (by have := hk13.fr; rw [M1.out.2.2.2] at this ⊢; exact this) H7.out (fun x hx => by have := HSH.out x hx; have := hk13.lo; omega))
      clear hk13 L4 K12
      go_wp2_with fail
      refine bodyPost_end (v := .tuple #[]) (by kernel_rfl) rfl ?_
      refine ⟨rfl, _, _, ⟨BK.out.1, fun b hb => .inr (Nat.le_trans F2.out.size ((HW.out.ne b hb).2.2)), ?_, ?_, K13.out.hi, ?_, K13.out.res.trans M1.out.2.2.1⟩⟩
      · have hk := K13.out.fr
        rw [M1.out.2.2.2] at hk
        exact Fr.trans (Fr.trans (Fr.trans (Fr.mono F2.out (fun _ _ h => .inl h)) (Fr.mono HU.out (fun _ _ h => h.elim)) (fun _ _ h => h)) hk (fun _ _ h => h)) BK.out.2 (fun _ _ h => .inl h)
      · have h1 := K13.out.lo
        have h2 := M1.out.1
        show m.names ≤ m13.names
        omega
      · have h1 := K13.out.out
        have h2 := M1.out.2.1
        have h3 := HSB.out
        rw [h2] at h1
        show m13.out.size ≤ m.out.size + sB D
        omega
end Go.Proofs.YtemmdbjcllcelaaDoor.Tk
