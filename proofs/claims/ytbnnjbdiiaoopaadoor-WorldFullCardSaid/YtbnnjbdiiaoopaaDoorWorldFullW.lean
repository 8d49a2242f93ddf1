/-
  WorldFull: the walk.
-/
import Derived.Test.YtbnnjbdiiaoopaaDoorWdQ
namespace Go.Proofs.YtbnnjbdiiaoopaaDoor
open Go.RowKit
set_option maxRecDepth 100000

theorem wrapu_bd (y : Int) : u64b (IntKind.u64.wrap y) := by unfold u64b; simp only [IntKind.wrap, IntKind.bits, IntKind.signed]; simp; omega

theorem wrapu_id {v : Int} (h : u64b v) : IntKind.u64.wrap v = v := by
  have e : ((2 : Int) ^ 64) = 18446744073709551616 := by decide
  exact wraps_u64 v h.1 (by rw [e]; have := h.2; omega)

/-- The loop's state: as many lines as rounds, up to the most; the first one is the first number's. -/
structure FullAt (W wr : World) (N q : Nat) (v : Int) (k : Nat) (s : WSt) : Prop where
  at_ : At W wr N s
  q : s.q = q
  len : s.lines.length = min k 4096
  first : 0 < k → s.lines[0]? = some (bsv (Lib.itoa (IntKind.i64.wrap v)))

theorem FullAt.step {W wr w' : World} {N q : Nat} {v x : Int} {k : Nat} {s : WSt} {vt : Value} (h : FullAt W wr N q v k s) (ha : At W w' N { s with vt := vt, lines := printed s 1 x }) (hx : k = 0 → x = v) :
    FullAt W w' N q v (k + 1) { s with vt := vt, lines := printed s 1 x } := by
  have hl := h.len
  by_cases hf : s.lines.length < 4096
  · have e : printed s 1 x = s.lines ++ [bsv (Lib.itoa (IntKind.i64.wrap x))] := by unfold printed lineText; rw [if_pos hf, if_pos rfl]
    rw [e] at ha ⊢
    refine ⟨ha, h.q, ?_, fun _ => ?_⟩
    · simp only [List.length_append, List.length_cons, List.length_nil]; omega
    · by_cases hk : k = 0
      · have h0 : s.lines = [] := List.eq_nil_of_length_eq_zero (by omega)
        simp only [h0, hx hk, List.nil_append, List.getElem?_cons_zero]
      · simp only []
        rw [List.getElem?_append_left (by omega)]
        exact h.first (by omega)
  · have e : printed s 1 x = s.lines := by unfold printed; rw [if_neg hf]
    rw [e] at ha ⊢
    refine ⟨ha, h.q, by simp only; omega, fun _ => h.first (by omega)⟩

set_option maxHeartbeats 4000000 in
theorem worldfull_any {W : World} (hlk : Lk W) (n v : Int) (hv : u64b v) :
    Calls Tryd.prog 5 #[.int .i64 n, .int .u64 v] W fun e W' => e = .returned (.bool true) ∧ Below W.heap.size W W' := by
  have LK := Lib.hid hlk
  have hv0 := hv.1
  have hv1 := hv.2
  clear hlk hv
  go_enter Tryd.func5, Tryd.ntmps5
  go_wp2_with fail
  refine (prog_any W 0 (Nat.zero_le _) none 0 0).mono ?_
  rintro e w1 ⟨gt, ct, rfl, hty, u1⟩
  have HTY := Lib.hid (And.intro hty u1)
  clear hty u1
  go_wp2_with fail
  refine (new_nil LK.out (below_up HTY.out.2 (Nat.le_refl _)) HTY.out.1 (by omega) (by omega)).mono ?_
  rintro e w2 ⟨q, p, g, c, vl, vs, vi, rfl, ha⟩
  have HA := Lib.hid ha
  clear ha HTY
  generalize w1.heap.size = N at *
  go_wp2_with fail
  refine (known_any HA.out.lk).mono ?_
  rintro e w3 ⟨rfl, u3⟩
  have H3 := Lib.hid (HA.out.up u3)
  clear u3 HA
  go_wp2_with fail
  refine (pick_any n 7 _ (by omega) (by omega)).mono ?_
  rintro e w4 ⟨rfl, rfl⟩
  have hq0 : 0 ≤ n % 7 := by omega
  have hq1 : n % 7 < 7 := by omega
  generalize n % 7 = r at *
  obtain ⟨M, hM⟩ : ∃ M : Nat, 4093 + r = (M : Int) := ⟨(4093 + r).toNat, by omega⟩
  have hM0 : 4093 ≤ M := by omega
  have hM1 : M ≤ 4099 := by omega
  have wM : IntKind.i64.wrap (M : Int) = M := IntWalk.i64_in _ (by omega)
  clear hq0 hq1
  go_wp2_with fail
  have H4 : Hid (FullAt W w3 N q v 0 (Fresh q p g c 50 vl vs vi)) := Lib.hid ⟨H3.out, rfl, rfl, fun h => absurd h (Nat.lt_irrefl _)⟩
  clear H3
  go_loopw [7] (fun i wr => ∃ (k : Nat) (s : WSt), i = .int .i64 k ∧ k ≤ M ∧ Hid (FullAt W wr N q v k s)) (fun i _ => M - (Go.RowKit.intOf i).toNat)
  case atStart => exact ⟨0, _, rfl, Nat.zero_le _, H4⟩
  case round =>
    obtain ⟨k, s, rfl, hkM, hR⟩ := hrel
    clear H4
    by_cases hk : k < M
    · have hq := hR.out.q
      subst hq
      obtain ⟨x, hx⟩ : ∃ x, IntKind.u64.wrap (v + (k : Int)) = x := ⟨_, rfl⟩
      have hxb : u64b x := by rw [← hx]; exact wrapu_bd _
      have hx0 : Hid (k = 0 → x = v) := Lib.hid (fun h => by subst h; rw [← hx, show v + ((0 : Nat) : Int) = v by omega]; exact wrapu_id ⟨hv0, hv1⟩)
      have hxb0 := hxb.1
      have hxb1 := hxb.2
      clear hxb
      go_wp2_with fail
      refine (print_at hR.out.at_ 1 x ⟨hxb0, hxb1⟩).mono ?_
      rintro e w5 ⟨rfl, vt, h5⟩
      have HN := Lib.hid (hR.out.step h5 hx0.out)
      clear h5
      go_wp2_with fail
      go_roundw
      case rel => exact ⟨k + 1, _, by go_num, by omega, HN⟩
      case measure => simp [Go.RowKit.intOf]; omega
    · obtain rfl : k = M := by omega
      have hq := hR.out.q
      subst hq
      go_wp2_with fail
      refine (trace_any hR.out.at_.wd).mono ?_
      rintro e w5 ⟨v', rfl, ho, u5⟩
      have hlen := hR.out.len
      have H5 := Lib.hid (hR.out.at_.up u5)
      rw [hlen] at ho
      obtain ⟨at', ct', rfl, hc1, hc2, hx⟩ := row_parts ho
      have h1 := hR.out.first (by omega)
      obtain ⟨gT, rfl, _, hgT, hcT⟩ := hx (by omega)
      have t0 := hcT 0 _ (by rw [List.getElem?_map, h1]; rfl)
      obtain ⟨L, hL⟩ : ∃ L, min k 4096 = L := ⟨_, rfl⟩
      rw [hL] at hlen hc1 ⊢
      have hL1 : min (k : Int) 4096 = (L : Int) := by omega
      have hL0 : (0 : Int) < (L : Int) := by omega
      have hLn : 0 < L := by omega
      have hLs : (L : Int) ≤ 4096 := by omega
      have DG : ∀ w, _ := fun w => digits_any (IntKind.i64.wrap v) (by rw [IntKind.wrap_i64]; omega) (by rw [IntKind.wrap_i64]; omega) w
      obtain ⟨z, hz⟩ : ∃ z, IntKind.i64.wrap v = z := ⟨_, rfl⟩
      rw [hz] at DG t0
      have DG1 := Lib.hid DG
      have FA := Lib.hid (full_any (H5.out.wd.drewN 1))
      generalize bsv (Lib.itoa z) = tx at *
      have HE := Lib.hid hlen
      clear DG ho u5 hx hcT h1 hR
      by_cases h96 : 4096 ≤ k
      · have D1 : decide (4096 ≤ s.lines.length) = true := decide_eq_true (by rw [HE.out]; omega)
        rw [D1] at FA
        have k96 : (4096 : Int) ≤ (k : Int) := by omega
        clear D1 hlen
        go_wp2_with fail
        go_region_held3 (fun W' => W'.cell? ⟨gT, 0, none⟩ = some (.string tx)) (first | exact t0b | exact t0)
          (first
            | (go_at_call 18; refine FA.out.mono ?_; rintro e w6 ⟨rfl, rfl⟩)
            | (go_at_call 38; refine (DG1.out _).mono ?_; rintro e w7 ⟨rfl, u7⟩; have U7 := Lib.hid (up_trans (b := w5.drewN 1) ((Fr.refl _ w5).drewN 1) u7); have t0b := (u7.cell (p := ⟨gT, 0, none⟩) hgT (fun h => h)).trans t0; clear u7))
        all_goals
          go_wp2_with fail
          go_ret
          exact ⟨rfl, H5.out.bel.trans (below_up U7.out H5.out.bel.size)⟩
      · have D1 : decide (4096 ≤ s.lines.length) = false := decide_eq_false (by rw [HE.out]; omega)
        rw [D1] at FA
        have k96 : decide ((4096 : Int) ≤ (k : Int)) = false := decide_eq_false (by omega)
        have k97 : (k : Int) < 4096 := by omega
        clear D1 hlen
        go_wp2_with fail
        go_region_held3 (fun W' => W'.cell? ⟨gT, 0, none⟩ = some (.string tx)) (first | exact t0b | exact t0)
          (first
            | (go_at_call 18; refine FA.out.mono ?_; rintro e w6 ⟨rfl, rfl⟩)
            | (go_at_call 38; refine (DG1.out _).mono ?_; rintro e w7 ⟨rfl, u7⟩; have U7 := Lib.hid (up_trans (b := w5.drewN 1) ((Fr.refl _ w5).drewN 1) u7); have t0b := (u7.cell (p := ⟨gT, 0, none⟩) hgT (fun h => h)).trans t0; clear u7))
        all_goals
          go_wp2_with fail
          go_ret
          exact ⟨rfl, H5.out.bel.trans (below_up U7.out H5.out.bel.size)⟩
end Go.Proofs.YtbnnjbdiiaoopaaDoor
