/-
  The reference heap: what makes and grows it.
-/
import Derived.Test.YtdffjojpnonanaaRefA
namespace Go.Proofs.Ytdffjojpnonanaa
open Go.RowKit

def RNewDone (w : World) (room : Int) (e : Ending) (w' : World) : Prop :=
  e = .returned (.pointer (some ⟨w.heap.size + 1, 0, none⟩)) ∧ RefAt w' (w.heap.size + 1) w.heap.size 1 room [0] ∧ Fr (fun _ => False) w w'

theorem rnew_made (room : Int) (w : World) (h1 : 1 ≤ room) (h2 : room ≤ 65536) :
    Hid (RNewDone w room (.returned (.pointer (some ⟨w.heap.size + 1, 0, none⟩)))
      ((w.alloc (.cells #[.int .u64 0] 27)).alloc (.cells #[.int .i64 room, .slice (some ⟨w.heap.size, 0, none⟩) 1 1] 62))) := by
  refine Lib.hid ⟨rfl, ⟨?_, ?_, by omega, by simp, by simpa using h1, h2, by simp, rfl⟩, ((Fr.refl _ _).alloc _).alloc _⟩
  · have e := heap_alloc_new (w.alloc (.cells #[.int .u64 0] 27)) (.cells #[.int .i64 room, .slice (some ⟨w.heap.size, 0, none⟩) 1 1] 62)
    simpa using e
  · exact (World.ownsRow_lit w #[.int .u64 0] 1 (Nat.zero_le _) (by decide) rfl).alloc _

set_option maxHeartbeats 400000 in
theorem rnew_any (room : Int) (w : World) (h1 : 1 ≤ room) (h2 : room ≤ 65536) :
    Calls Try.prog 19 #[.int .i64 room] w (RNewDone w room) := by
  have Q := rnew_made room w h1 h2
  go_enter Try.func19, Try.ntmps19
  go_wp2
  go_ret
  exact Q.out

/-- One word more. -/
theorem RefAt.push {w w2 : World} {p g cap g2 c2 : Nat} {room v : Int} {ws : List Int} (h : RefAt w p g cap room ws) (hr : ((ws.length + 1 : Nat) : Int) ≤ room) (hv : 0 ≤ v) (hv' : v ≤ 18446744073709551615)
    (ho : w2.ownsRow 0 27 1 (.slice (some ⟨g2, 0, none⟩) (ws.length + 1) c2) (ws.length + 1) (ws.map (Value.int .u64) ++ [.int .u64 v]))
    (hg : w.grownBy w2 (some g)) (hb : g2 = g ∨ w.heap.size ≤ g2) :
    RefAt (w2.setCell ⟨p, 1, none⟩ (.slice (some ⟨g2, 0, none⟩) (ws.length + 1) c2)) p g2 c2 room (ws ++ [v]) := by
  have hp := h.ltp
  have hpg : p ≠ g2 := by
    have := h.ne
    omega
  have hlen : (ws ++ [v]).length = ws.length + 1 := by simp
  refine ⟨?_, ?_, hpg, by omega, by rw [hlen]; exact hr, h.most, ?_, ?_⟩
  · have ho2 : w2.heap[p]? = _ := (hg.block p hp (by intro e; exact h.ne (Option.some.inj e))).trans h.obj
    rw [hlen, heap_setCell_same w2 p 1 _ _ _ ho2]
    rfl
  · rw [hlen, List.map_append, List.map_singleton]
    have f : Fr (fun k => k = p) w2 (w2.setCell ⟨p, 1, none⟩ (.slice (some ⟨g2, 0, none⟩) (ws.length + 1) c2)) := (Fr.refl (fun k => k = p) w2).setCell (p := ⟨p, 1, none⟩) (fun _ => rfl) _
    exact f.owns ho (fun b hb hh => by simp [Value.ownBlock] at hb; omega)
  · intro x hx
    rcases List.mem_append.1 hx with hx | hx
    · exact h.wf x hx
    · rw [List.mem_singleton.1 hx]; exact ⟨hv, hv'⟩
  · rw [wordAt_prefix _ _ _ (by have := h.pos; omega)]; exact h.z

def RAllocYes (w : World) (p g : Nat) (room : Int) (ws : List Int) (t n : Int) (e : Ending) (w' : World) : Prop :=
  e = .returned (.tuple #[.int .u64 ws.length, .bool true]) ∧ ∃ g' cap', RefAt w' p g' cap' room (allocWs ws t n) ∧ (g' = g ∨ w.heap.size ≤ g') ∧ Fr (fun k => k = p ∨ k = g) w w'

set_option maxHeartbeats 1000000 in
theorem ralloc_n {w : World} {p g cap : Nat} {room : Int} {ws : List Int} (h : RefAt w p g cap room ws) (t n : Int) (hn : allocB ws room t n = false) :
    Calls Try.prog 26 #[.pointer (some ⟨p, 0, none⟩), .int .i64 t, .int .i64 n] w
      fun e w' => e = .returned (.tuple #[.int .u64 0, .bool false]) ∧ ∃ m, w' = w.drewN m := by
  have c0 := h.c0
  have c1 := h.c1
  have hs := h.small
  have hr := h.fits
  have hm := h.most
  clear h
  by_cases t0 : t < 0
  · go_enter Try.func26, Try.ntmps26
    go_wp2_with fail
    go_quiet (fail)
    go_wp2_with fail
    go_ret2
    exact ⟨rfl, _, rfl⟩
  · have d0 : decide (t < 0) = false := decide_eq_false t0
    have d0' : 0 ≤ t := by omega
    by_cases t1 : 1048576 < t
    · go_enter Try.func26, Try.ntmps26
      go_wp2_with fail
      go_quiet (fail)
      go_wp2_with fail
      go_ret2
      exact ⟨rfl, _, rfl⟩
    · have d1 : decide (1048576 < t) = false := decide_eq_false t1
      have d1' : t ≤ 1048576 := by omega
      by_cases n0 : n < 0
      · go_enter Try.func26, Try.ntmps26
        go_wp2_with fail
        go_quiet (fail)
        go_wp2_with fail
        go_ret2
        exact ⟨rfl, _, rfl⟩
      · have d2 : decide (n < 0) = false := decide_eq_false n0
        have d2' : 0 ≤ n := by omega
        by_cases n1 : 1048576 < n
        · go_enter Try.func26, Try.ntmps26
          go_wp2_with fail
          go_quiet (fail)
          go_wp2_with fail
          go_ret2
          exact ⟨rfl, _, rfl⟩
        · have d3 : decide (1048576 < n) = false := decide_eq_false n1
          have d3' : n ≤ 1048576 := by omega
          have h1 : isPartB t = true := by simp [isPartB]; omega
          have h2 : isPartB n = true := by simp [isPartB]; omega
          have h3 : room - ws.length < n + 1 := by have : room - ws.length ≤ n := by simpa [allocB, h1, h2] using hn
                                                   omega
          clear h1 h2 hn
          clear t0 t1 n0 n1
          go_enter Try.func26, Try.ntmps26
          go_wp2_with fail
          go_quiet (fail)
          go_wp2_with fail
          go_ret2
          exact ⟨rfl, _, rfl⟩

/-- Behind k zeros. -/
structure RGrow (w wr : World) (p g : Nat) (room : Int) (ws : List Int) (hd : Int) (k g' c' : Nat) : Prop where
  h : RefAt wr p g' c' room (ws ++ hd :: List.replicate k 0)
  hg : g' = g ∨ w.heap.size ≤ g'
  f : Fr (fun b => b = p ∨ b = g) w wr

theorem pushed {w w0 w2 : World} {p g g0 g2 c2 : Nat} {v : Value} (_hp : p < w.heap.size) (f : Fr (fun b => b = p ∨ b = g) w w0) (hg0 : g0 = g ∨ w.heap.size ≤ g0) (hg : w0.grownBy w2 (some g0)) (hb : g2 = g0 ∨ w0.heap.size ≤ g2) :
    (g2 = g ∨ w.heap.size ≤ g2) ∧ Fr (fun b => b = p ∨ b = g) w (w2.setCell ⟨p, 1, none⟩ (.slice (some ⟨g2, 0, none⟩) c2 c2)) ∧ Fr (fun b => b = p ∨ b = g) w (w2.setCell ⟨p, 1, none⟩ v) := by
  have z := f.size
  have f2 : Fr (fun b => b = p ∨ b = g) w w2 := f.grown hg (fun k hk hlt => by have := Option.some.inj hk; subst this; rcases hg0 with e | e; exact .inr e; omega)
  exact ⟨by omega, f2.setCell (p := ⟨p, 1, none⟩) (fun _ => .inl rfl) _, f2.setCell (p := ⟨p, 1, none⟩) (fun _ => .inl rfl) _⟩

set_option maxHeartbeats 2000000 in
theorem ralloc_y {w : World} {p g cap : Nat} {room : Int} {ws : List Int} (h : RefAt w p g cap room ws) (t n : Int) (hn : allocB ws room t n = true) :
    Calls Try.prog 26 #[.pointer (some ⟨p, 0, none⟩), .int .i64 t, .int .i64 n] w (RAllocYes w p g room ws t n) := by
  have c0 := h.c0
  have c1 := h.c1
  have hs := h.small
  have hr := h.fits
  have hm := h.most
  have H := Lib.hid h
  have h1 : isPartB t = true := by cases h1 : isPartB t <;> simp_all [allocB]
  have h2 : isPartB n = true := by cases h2 : isPartB n <;> simp_all [allocB]
  have h3 : n < room - ws.length := by simpa [allocB, h1, h2] using hn
  obtain ⟨t0, t1⟩ := ispart_of h1
  obtain ⟨n0, n1⟩ := ispart_of h2
  clear h1 h2 hn h
  obtain ⟨n, rfl⟩ := Int.eq_ofNat_of_zero_le n0
  obtain ⟨i, hi, hz, hz1, hz2⟩ := info_parts info_word
  have d0 : decide (t < 0) = false := decide_eq_false (by omega)
  have d1 : decide (1048576 < t) = false := decide_eq_false (by omega)
  have d2 : decide ((n : Int) < 0) = false := decide_eq_false (by omega)
  have d3 : decide (1048576 < (n : Int)) = false := decide_eq_false (by omega)
  have d4 : decide (room - ws.length < (n : Int) + 1) = false := decide_eq_false (by omega)
  go_enter Try.func26, Try.ntmps26
  go_wp2_with fail
  go_quiet (fail)
  clear d0 d1 d2 d3 d4
  obtain ⟨g2, c2, w2, hrun, hown, hgrow, hg2⟩ := run_append_one (P := Try.prog) (w.drewN nq) 0 35 35 27 i (.int .u64 0) 8 Try.underlying35 hi hz hz1 hz2 rfl (.slice (some ⟨g, 0, none⟩) ws.length cap) ws.length _ (H.out.drewN nq).row (.int .u64 (headOf t n)) rfl
    (by unfold maxLen; omega) (by omega) (Nat.zero_le _)
  have hg2' : g2 = g ∨ w.heap.size ≤ g2 := by rcases hg2 with e | e; exact .inl (Option.some.inj e).symm; exact .inr e
  have hd0 : 0 ≤ headOf t n := by unfold headOf; omega
  have hd1 : headOf t n ≤ 18446744073709551615 := by unfold headOf; omega
  have HA := Lib.hid (show _ = _ from by have := hrun; unfold headOf at this; exact this)
  have HP := Lib.hid ((H.out.drewN nq).push (by omega) hd0 hd1 hown hgrow hg2')
  have HF := Lib.hid (pushed (v := .slice (some ⟨g2, 0, none⟩) (ws.length + 1) c2) (c2 := c2) H.out.ltp ((Fr.refl (fun b => b = p ∨ b = g) w).drewN nq) (.inl rfl) hgrow hg2')
  have c12 := hgrow.cell (a := ⟨p, 1, none⟩) (H.out.drewN nq).c1 (by intro e; exact H.out.ne (Option.some.inj e))
  have f12 := (World.frozen?_of_block (a := ⟨p, 1, none⟩) (hgrow.block p H.out.ltp (by intro e; exact H.out.ne (Option.some.inj e)))).trans ((H.out.drewN nq).f0 1)
  clear hrun hown hgrow hg2 hg2' hd0 hd1
  go_wp2_with (at_builtin; refine Lib.wpList_append_run _ rfl (.tmp 49) (.tmp 56) 35 35 rfl _ _ rfl rfl _ _ HA.out ?_)

  have HG : Hid (RGrow w (w2.setCell ⟨p, 1, none⟩ (.slice (some ⟨g2, 0, none⟩) (ws.length + 1) c2)) p g room ws (headOf t n) 0 g2 c2) := Lib.hid ⟨HP.out, HF.out.1, HF.out.2.2⟩
  clear HA HP HF c12 f12
  go_loopw [9] (fun i wr => ∃ k g' c' : Nat, i = .int .i64 k ∧ k ≤ n ∧ Hid (RGrow w wr p g room ws (headOf t n) k g' c')) (fun i _ => n - (intOf i).toNat)
  case atStart => exact ⟨0, _, _, rfl, Nat.zero_le _, HG⟩
  case round =>
    obtain ⟨k, g', c', rfl, hkn, hG⟩ := hrel
    clear HG
    by_cases hk : k < n
    · have hlen : (ws ++ headOf t n :: List.replicate k 0).length = ws.length + 1 + k := by simp; omega
      obtain ⟨g3, c3, w3, hrun, hown, hgrow, hg3⟩ := run_append_one (P := Try.prog) wr 0 35 35 27 i (.int .u64 0) 8 Try.underlying35 hi hz hz1 hz2 rfl _ _ _ hG.out.h.row (.int .u64 0) rfl
        (by rw [hlen]; unfold maxLen; omega) (by rw [hlen]; omega) (Nat.zero_le _)
      have hg3' : g3 = g' ∨ wr.heap.size ≤ g3 := by rcases hg3 with e | e; exact .inl (Option.some.inj e).symm; exact .inr e
      have hP := hG.out.h.push (v := 0) (by rw [hlen]; omega) (by omega) (by omega) hown hgrow hg3'
      have hF := pushed (v := .slice (some ⟨g3, 0, none⟩) ((ws ++ headOf t n :: List.replicate k 0).length + 1) c3) (c2 := c3) H.out.ltp hG.out.f hG.out.hg hgrow hg3'
      have c1r := hG.out.h.c1
      have c1w := hgrow.cell (a := ⟨p, 1, none⟩) hG.out.h.c1 (by intro e; exact hG.out.h.ne (Option.some.inj e))
      have f1w := (World.frozen?_of_block (a := ⟨p, 1, none⟩) (hgrow.block p hG.out.h.ltp (by intro e; exact hG.out.h.ne (Option.some.inj e)))).trans (hG.out.h.f0 1)
      rw [hlen] at hrun c1r c1w hP hF
      have HS : Hid (RGrow w (w3.setCell ⟨p, 1, none⟩ (.slice (some ⟨g3, 0, none⟩) (ws.length + 1 + k + 1) c3)) p g room ws (headOf t n) (k + 1) g3 c3) := Lib.hid
        ⟨by rw [List.replicate_succ', ← List.cons_append, ← List.append_assoc]; exact hP, hF.1, hF.2.2⟩
      have HA := Lib.hid hrun
      clear hrun hown hgrow hg3 hg3' hP hF hlen
      go_wp2_with (at_builtin; refine Lib.wpList_append_run _ rfl (.tmp 69) (.tmp 70) 35 35 rfl _ _ rfl rfl _ _ HA.out ?_)
      go_roundw
      case rel => exact ⟨k + 1, _, _, by go_num, by omega, HS⟩
      case measure => simp [intOf]; omega
    · obtain rfl : k = n := by omega
      go_wp2_with fail
      go_ret2
      refine ⟨rfl, g', c', ?_, hG.out.hg, hG.out.f⟩
      have := hG.out.h
      unfold allocWs
      rw [Int.toNat_natCast]
      exact this
end Go.Proofs.Ytdffjojpnonanaa
