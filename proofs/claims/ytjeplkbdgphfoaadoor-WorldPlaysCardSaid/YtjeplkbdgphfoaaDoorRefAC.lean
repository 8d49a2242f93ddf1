/-
  The reference heap of the law's own text, and its small functions.
  The reference heap: what makes and grows it.
  The reference heap: texts; and 'same'.
-/
import Derived.Test.YtjeplkbdgphfoaaDoorHeapS
import Derived.Test.YtjeplkbdgphfoaaDoorApp2
namespace Go.Proofs.YtjeplkbdgphfoaaDoor
open Go.RowKit
set_option maxRecDepth 100000


/-- The reference heap at block p. -/
structure RefAt (w : World) (p g cap : Nat) (room : Int) (ws : List Int) : Prop where
  obj : w.heap[p]? = some (.cells #[.int .i64 room, .slice (some ⟨g, 0, none⟩) ws.length cap] 60 (0, 0))
  row : w.ownsRow 0 38 1 (.slice (some ⟨g, 0, none⟩) ws.length cap) ws.length (ws.map (Value.int .u64))
  ne : p ≠ g
  pos : 1 ≤ ws.length
  fits : (ws.length : Int) ≤ room
  most : room ≤ 65536
  wf : ∀ x ∈ ws, 0 ≤ x ∧ x ≤ 18446744073709551615
  z : wordAt ws 0 = 0

section
variable {w : World} {p g cap : Nat} {room : Int} {ws : List Int}
theorem RefAt.c1 (h : RefAt w p g cap room ws) : w.cell? ⟨p, 1, none⟩ = some (.slice (some ⟨g, 0, none⟩) ws.length cap) := by
  rw [cell_of_row w p 1 _ _ _ h.obj]; rfl
theorem RefAt.c0 (h : RefAt w p g cap room ws) : w.cell? ⟨p, 0, none⟩ = some (.int .i64 room) := by
  rw [cell_of_row w p 0 _ _ _ h.obj]; rfl
theorem RefAt.f0 (h : RefAt w p g cap room ws) (j : Nat) : w.frozen? ⟨p, j, none⟩ = false := frozen_of_row w p j _ _ h.obj
theorem RefAt.fg (h : RefAt w p g cap room ws) (j : Nat) : w.frozen? ⟨g, j, none⟩ = false := h.row.frozenAt j
theorem RefAt.word (h : RefAt w p g cap room ws) (k : Nat) (hk : k < ws.length) : w.cell? ⟨g, k, none⟩ = some (.int .u64 (wordAt ws k)) := by
  rw [h.row.cellAt k (by omega)]
  simp [wordAt, hk]
theorem RefAt.small (h : RefAt w p g cap room ws) : ws.length ≤ 65536 := by have := h.fits; have := h.most; omega
theorem RefAt.ltp (h : RefAt w p g cap room ws) : p < w.heap.size := heap_lt h.obj
theorem RefAt.ltg (h : RefAt w p g cap room ws) : g < w.heap.size := (h.row.lt g rfl).2
theorem RefAt.kept {S : Nat → Prop} {w' : World} (h : RefAt w p g cap room ws) (hf : Fr S w w') (hp : ¬ S p) (hg : ¬ S g) : RefAt w' p g cap room ws :=
  ⟨(hf.block p h.ltp hp).trans h.obj, hf.owns h.row (fun k hk => by simp [Value.ownBlock] at hk; subst hk; exact hg), h.ne, h.pos, h.fits, h.most, h.wf, h.z⟩
theorem RefAt.drewN (h : RefAt w p g cap room ws) (n : Nat) : RefAt (w.drewN n) p g cap room ws :=
  ⟨h.obj, h.row, h.ne, h.pos, h.fits, h.most, h.wf, h.z⟩
theorem RefAt.put (h : RefAt w p g cap room ws) (k : Nat) (hk : 1 ≤ k) (v : Int) (hv : 0 ≤ v) (hv' : v ≤ 18446744073709551615) :
    RefAt (w.setCell ⟨g, k, none⟩ (.int .u64 v)) p g cap room (ws.set k v) := by
  have hst := h.row.stored k (.int .u64 v)
  refine ⟨?_, ?_, h.ne, by rw [List.length_set]; exact h.pos, by rw [List.length_set]; exact h.fits, h.most, ?_, ?_⟩
  · rw [Below.heap_setCell _ _ _ _ h.ne, List.length_set]; exact h.obj
  · rw [List.length_set, List.map_set]; exact hst.1
  · intro x hx
    rcases List.mem_or_eq_of_mem_set hx with hx | rfl
    · exact h.wf x hx
    · exact ⟨hv, hv'⟩
  · have := h.z
    unfold wordAt at this ⊢
    simp only [Int.le_refl, if_true, Int.toNat_zero, List.getD_eq_getElem?_getD] at this ⊢
    rw [List.getElem?_set_ne (by omega)]; exact this
end

set_option maxHeartbeats 400000 in
theorem rword_any {w : World} {p g cap : Nat} {room : Int} {ws : List Int} (h : RefAt w p g cap room ws) (a : Int) (ha : 0 ≤ a) :
    Calls Tryd.prog 70 #[.pointer (some ⟨p, 0, none⟩), .int .u64 a] w fun e w' => e = .returned (.int .u64 (wordAt ws a)) ∧ w = w' := by
  have c1 := h.c1
  have hs := h.small
  by_cases hlt : a < ws.length
  · obtain ⟨k, rfl⟩ := Int.eq_ofNat_of_zero_le ha
    have hk : k < ws.length := by omega
    have cg := h.word k hk
    have H := Lib.hid h
    clear h
    go_enter Tryd.func70, Tryd.ntmps70
    go_wp2
    go_ret
    exact ⟨rfl, rfl⟩
  · have hz := Lib.hid (wordAt_out (ws := ws) (a := a) (by omega))
    have H := Lib.hid h
    clear h
    go_enter Tryd.func70, Tryd.ntmps70
    go_wp2
    go_ret
    exact ⟨by rw [hz.out]; rfl, rfl⟩

set_option maxHeartbeats 400000 in
theorem rlen_any {w : World} {p g cap : Nat} {room : Int} {ws : List Int} (h : RefAt w p g cap room ws) (a : Int) (ha : 0 ≤ a) :
    Calls Tryd.prog 52 #[.pointer (some ⟨p, 0, none⟩), .int .u64 a] w fun e w' => e = .returned (.int .i64 (hlenOf ws a)) ∧ w = w' := by
  obtain ⟨hw0, hw1⟩ := wordAt_wf h.wf a
  have H := Lib.hid h
  clear h
  go_enter Tryd.func52, Tryd.ntmps52
  go_wp2_with (go_at_call 70; refine (rword_any H.out a ha).mono ?_; rintro e w' ⟨rfl, rfl⟩)
  go_ret
  exact ⟨rfl, rfl⟩

set_option maxHeartbeats 400000 in
theorem rget_any {w : World} {p g cap : Nat} {room : Int} {ws : List Int} (h : RefAt w p g cap room ws) (a i : Int) (ha : 0 ≤ a) :
    Calls Tryd.prog 53 #[.pointer (some ⟨p, 0, none⟩), .int .u64 a, .int .i64 i] w fun e w' => e = .returned (.int .u64 (getOf ws a i)) ∧ w = w' := by
  have hs := h.small
  have hz := h.z
  have H := Lib.hid h
  have hl := lenOf_bd ws a
  clear h
  by_cases ha0 : a = 0
  · have hp := Lib.hid (show getOf ws a i = 0 by
      unfold getOf hplaceOf
      rw [ha0, show hlenOf ws 0 = 0 by unfold hlenOf; rw [hz]; rfl, if_neg (by omega), hz])
    clear hz
    have k0 : (a == 0) = true := beq_iff_eq.2 ha0
    clear ha0
    go_enter Tryd.func53, Tryd.ntmps53
    go_wp2_with fail
    go_ret
    exact ⟨ret_eq hp.out.symm, rfl⟩
  · have k0 : (a == 0) = false := beq_eq_false_iff_ne.2 ha0
    by_cases h0 : 0 ≤ i
    · by_cases h1 : i < hlenOf ws a
      · have hp := Lib.hid (show getOf ws a i = wordAt ws (a + 1 + i) by unfold getOf hplaceOf; rw [if_pos ⟨h0, h1⟩])
        have hlt := lenOf_lt (ws := ws) (a := a) (by omega)
        clear hz
        go_enter Tryd.func53, Tryd.ntmps53
        go_wp2_with (first | (go_at_call 52; refine (rlen_any H.out a ha).mono ?_; rintro e w' ⟨rfl, rfl⟩) | (go_at_call 70; refine (rword_any H.out (a + 1 + i) (by omega)).mono ?_; rintro e w' ⟨rfl, rfl⟩))
        go_ret
        exact ⟨ret_eq hp.out.symm, rfl⟩
      · have hp := Lib.hid (show getOf ws a i = 0 by unfold getOf hplaceOf; rw [if_neg (by omega), hz])
        clear hz
        go_enter Tryd.func53, Tryd.ntmps53
        go_wp2_with (go_at_call 52; refine (rlen_any H.out a ha).mono ?_; rintro e w' ⟨rfl, rfl⟩)
        go_ret
        exact ⟨ret_eq hp.out.symm, rfl⟩
    · have hp := Lib.hid (show getOf ws a i = 0 by unfold getOf hplaceOf; rw [if_neg (by omega), hz])
      clear hz
      go_enter Tryd.func53, Tryd.ntmps53
      go_wp2_with fail
      go_ret
      exact ⟨ret_eq hp.out.symm, rfl⟩

/-- Put, and what it leaves. -/
def RPutDone (w : World) (p g cap : Nat) (room : Int) (ws : List Int) (a v : Int) (e : Ending) (w' : World) : Prop :=
  e = .returned (.bool (putB ws a)) ∧ RefAt w' p g cap room (putOf ws a v) ∧ Fr (fun k => k = g) w w'

set_option maxHeartbeats 400000 in
theorem rput_any {w : World} {p g cap : Nat} {room : Int} {ws : List Int} (h : RefAt w p g cap room ws) (a v : Int) (ha : 0 ≤ a) (hv : 0 ≤ v) (hv' : v ≤ 18446744073709551615) :
    Calls Tryd.prog 73 #[.pointer (some ⟨p, 0, none⟩), .int .u64 a, .int .u64 v] w (RPutDone w p g cap room ws a v) := by
  have c1 := h.c1
  have hs := h.small
  by_cases h1 : 1 ≤ a
  · have k0 : (a == 0) = false := beq_eq_false_iff_ne.2 (by omega)
    by_cases h2 : a < ws.length
    · obtain ⟨k, rfl⟩ := Int.eq_ofNat_of_zero_le ha
      have hk : k < ws.length := by omega
      have fg := h.fg k
      have cg := h.word k hk
      have hb : putB ws k = true := by simp [putB]; omega
      have ho : putOf ws k v = ws.set k v := by unfold putOf; rw [if_pos h1]; rfl
      have hq := h.put k (by omega) v hv hv'
      have Q : Hid (RPutDone w p g cap room ws k v (.returned (.bool true)) (w.setCell ⟨g, k, none⟩ (.int .u64 v))) := Lib.hid (by
        refine ⟨by rw [hb], by rw [ho]; exact hq, (Fr.refl (fun k => k = g) w).setCell (p := ⟨g, k, none⟩) (fun _ => rfl) _⟩)
      have k1 : decide (ws.length ≤ k) = false := by simp; omega
      clear h hb ho hq
      go_enter Tryd.func73, Tryd.ntmps73
      go_wp2
      go_ret
      exact Q.out
    · have hb : putB ws a = false := by simp [putB]; omega
      have ho : putOf ws a v = ws := by unfold putOf; rw [if_pos h1, List.set_eq_of_length_le (by omega)]
      have Q : Hid (RPutDone w p g cap room ws a v (.returned (.bool false)) w) := Lib.hid (by
        refine ⟨by rw [hb], by rw [ho]; exact h, Fr.refl _ w⟩)
      clear h hb ho
      go_enter Tryd.func73, Tryd.ntmps73
      go_wp2
      go_ret
      exact Q.out
  · have hb : putB ws a = false := by simp [putB]; omega
    have ho : putOf ws a v = ws := by unfold putOf; rw [if_neg h1]
    have Q : Hid (RPutDone w p g cap room ws a v (.returned (.bool false)) w) := Lib.hid (by
      refine ⟨by rw [hb], by rw [ho]; exact h, Fr.refl _ w⟩)
    have h3 : a = 0 := by omega
    clear h hb ho
    subst h3
    go_enter Tryd.func73, Tryd.ntmps73
    go_wp2
    go_ret
    exact Q.out

set_option maxHeartbeats 400000 in
theorem rset_any {w : World} {p g cap : Nat} {room : Int} {ws : List Int} (h : RefAt w p g cap room ws) (a i v : Int) (ha : 0 ≤ a) (hv : 0 ≤ v) (hv' : v ≤ 18446744073709551615) :
    Calls Tryd.prog 61 #[.pointer (some ⟨p, 0, none⟩), .int .u64 a, .int .i64 i, .int .u64 v] w (RPutDone w p g cap room ws (hplaceOf ws a i) v) := by
  have hs := h.small
  have hz := h.z
  have H := Lib.hid h
  have hl := lenOf_bd ws a
  have Q0 : hplaceOf ws a i = 0 → Hid (RPutDone w p g cap room ws (hplaceOf ws a i) v (.returned (.bool false)) w) := fun e => Lib.hid (by
    rw [e]
    exact ⟨rfl, h, Fr.refl _ w⟩)
  clear h
  by_cases ha0 : a = 0
  · have hp := Q0 (by
      unfold hplaceOf
      rw [ha0, show hlenOf ws 0 = 0 by unfold hlenOf; rw [hz]; rfl, if_neg (by omega)])
    clear hz Q0
    have k0 : (a == 0) = true := beq_iff_eq.2 ha0
    clear ha0
    go_enter Tryd.func61, Tryd.ntmps61
    go_wp2_with fail
    go_ret
    exact hp.out
  · have k0 : (a == 0) = false := beq_eq_false_iff_ne.2 ha0
    by_cases h0 : 0 ≤ i
    · by_cases h1 : i < hlenOf ws a
      · have hp := Lib.hid (show hplaceOf ws a i = a + 1 + i by unfold hplaceOf; rw [if_pos ⟨h0, h1⟩])
        have hlt := lenOf_lt (ws := ws) (a := a) (by omega)
        clear hz Q0
        go_enter Tryd.func61, Tryd.ntmps61
        go_wp2_with fail
        refine (rlen_any H.out a ha).mono ?_
        rintro e w' ⟨rfl, rfl⟩
        go_wp2_with fail
        refine (rput_any H.out (a + 1 + i) v (by omega) hv hv').mono ?_
        rintro e w' ⟨rfl, hq, hf⟩
        have HQ := Lib.hid (And.intro hq hf)
        clear hq hf
        go_wp2_with fail
        go_ret
        rw [hp.out]
        exact ⟨rfl, HQ.out.1, HQ.out.2⟩
      · have hp := Q0 (by unfold hplaceOf; rw [if_neg (by omega)])
        clear hz Q0
        go_enter Tryd.func61, Tryd.ntmps61
        go_wp2_with (go_at_call 52; refine (rlen_any H.out a ha).mono ?_; rintro e w' ⟨rfl, rfl⟩)
        go_ret
        exact hp.out
    · have hp := Q0 (by unfold hplaceOf; rw [if_neg (by omega)])
      clear hz Q0
      go_enter Tryd.func61, Tryd.ntmps61
      go_wp2_with fail
      go_ret
      exact hp.out


def RNewDone (w : World) (room : Int) (e : Ending) (w' : World) : Prop :=
  e = .returned (.pointer (some ⟨w.heap.size + 1, 0, none⟩)) ∧ RefAt w' (w.heap.size + 1) w.heap.size 1 room [0] ∧ Fr (fun _ => False) w w'

theorem rnew_made (room : Int) (w : World) (h1 : 1 ≤ room) (h2 : room ≤ 65536) :
    Hid (RNewDone w room (.returned (.pointer (some ⟨w.heap.size + 1, 0, none⟩)))
      ((w.alloc (.cells #[.int .u64 0] 38)).alloc (.cells #[.int .i64 room, .slice (some ⟨w.heap.size, 0, none⟩) 1 1] 60))) := by
  refine Lib.hid ⟨rfl, ⟨?_, ?_, by omega, by simp, by simpa using h1, h2, by simp, rfl⟩, ((Fr.refl _ _).alloc _).alloc _⟩
  · have e := heap_alloc_new (w.alloc (.cells #[.int .u64 0] 38)) (.cells #[.int .i64 room, .slice (some ⟨w.heap.size, 0, none⟩) 1 1] 60)
    simpa using e
  · exact (World.ownsRow_lit w #[.int .u64 0] 1 (Nat.zero_le _) (by decide) rfl).alloc _

set_option maxHeartbeats 400000 in
theorem rnew_any (room : Int) (w : World) (h1 : 1 ≤ room) (h2 : room ≤ 65536) :
    Calls Tryd.prog 40 #[.int .i64 room] w (RNewDone w room) := by
  have Q := rnew_made room w h1 h2
  go_enter Tryd.func40, Tryd.ntmps40
  go_wp2
  go_ret
  exact Q.out

/-- One word more. -/
theorem RefAt.push {w w2 : World} {p g cap g2 c2 : Nat} {room v : Int} {ws : List Int} (h : RefAt w p g cap room ws) (hr : ((ws.length + 1 : Nat) : Int) ≤ room) (hv : 0 ≤ v) (hv' : v ≤ 18446744073709551615)
    (ho : w2.ownsRow 0 38 1 (.slice (some ⟨g2, 0, none⟩) (ws.length + 1) c2) (ws.length + 1) (ws.map (Value.int .u64) ++ [.int .u64 v]))
    (hg : w.grownBy w2 (some g)) (hb : g2 = g ∨ w.heap.size ≤ g2) :
    RefAt (w2.setCell ⟨p, 1, none⟩ (.slice (some ⟨g2, 0, none⟩) (ws.length + 1) c2)) p g2 c2 room (ws ++ [v]) := by
  have hp := h.ltp
  have hpg : p ≠ g2 := by
    have := h.ne
    omega
  have hlen : (ws ++ [v]).length = ws.length + 1 := by simp
  refine ⟨?_, ?_, hpg, by omega, by rw [hlen]; exact hr, h.most, ?_, ?_⟩
  · have ho2 : w2.heap[p]? = _ := (hg.block p hp (by intro e; exact h.ne (Option.some.inj e))).trans h.obj
    rw [hlen, heap_setCell_same w2 p 1 _ _ _ ho2]
    rfl
  · rw [hlen, List.map_append, List.map_singleton]
    have f : Fr (fun k => k = p) w2 (w2.setCell ⟨p, 1, none⟩ (.slice (some ⟨g2, 0, none⟩) (ws.length + 1) c2)) := (Fr.refl (fun k => k = p) w2).setCell (p := ⟨p, 1, none⟩) (fun _ => rfl) _
    exact f.owns ho (fun b hb hh => by simp [Value.ownBlock] at hb; omega)
  · intro x hx
    rcases List.mem_append.1 hx with hx | hx
    · exact h.wf x hx
    · rw [List.mem_singleton.1 hx]; exact ⟨hv, hv'⟩
  · rw [wordAt_prefix _ _ _ (by have := h.pos; omega)]; exact h.z

def RAllocYes (w : World) (p g : Nat) (room : Int) (ws : List Int) (t n : Int) (e : Ending) (w' : World) : Prop :=
  e = .returned (.tuple #[.int .u64 ws.length, .bool true]) ∧ ∃ g' cap', RefAt w' p g' cap' room (allocWs ws t n) ∧ (g' = g ∨ w.heap.size ≤ g') ∧ Fr (fun k => k = p ∨ k = g) w w'

set_option maxHeartbeats 1000000 in
theorem ralloc_n {w : World} {p g cap : Nat} {room : Int} {ws : List Int} (h : RefAt w p g cap room ws) (t n : Int) (hn : allocB ws room t n = false) :
    Calls Tryd.prog 51 #[.pointer (some ⟨p, 0, none⟩), .int .i64 t, .int .i64 n] w
      fun e w' => e = .returned (.tuple #[.int .u64 0, .bool false]) ∧ ∃ m, w' = w.drewN m := by
  have c0 := h.c0
  have c1 := h.c1
  have hs := h.small
  have hr := h.fits
  have hm := h.most
  clear h
  by_cases t0 : t < 0
  · go_enter Tryd.func51, Tryd.ntmps51
    go_wp2_with fail
    go_quiet (fail)
    go_wp2_with fail
    go_ret2
    exact ⟨rfl, _, rfl⟩
  · have d0 : decide (t < 0) = false := decide_eq_false t0
    have d0' : 0 ≤ t := by omega
    by_cases t1 : 1048576 < t
    · go_enter Tryd.func51, Tryd.ntmps51
      go_wp2_with fail
      go_quiet (fail)
      go_wp2_with fail
      go_ret2
      exact ⟨rfl, _, rfl⟩
    · have d1 : decide (1048576 < t) = false := decide_eq_false t1
      have d1' : t ≤ 1048576 := by omega
      by_cases n0 : n < 0
      · go_enter Tryd.func51, Tryd.ntmps51
        go_wp2_with fail
        go_quiet (fail)
        go_wp2_with fail
        go_ret2
        exact ⟨rfl, _, rfl⟩
      · have d2 : decide (n < 0) = false := decide_eq_false n0
        have d2' : 0 ≤ n := by omega
        by_cases n1 : 1048576 < n
        · go_enter Tryd.func51, Tryd.ntmps51
          go_wp2_with fail
          go_quiet (fail)
          go_wp2_with fail
          go_ret2
          exact ⟨rfl, _, rfl⟩
        · have d3 : decide (1048576 < n) = false := decide_eq_false n1
          have d3' : n ≤ 1048576 := by omega
          have h1 : isPartB t = true := by simp [isPartB]; omega
          have h2 : isPartB n = true := by simp [isPartB]; omega
          have h3 : room - ws.length < n + 1 := by have : room - ws.length ≤ n := by simpa [allocB, h1, h2] using hn
                                                   omega
          clear h1 h2 hn
          clear t0 t1 n0 n1
          go_enter Tryd.func51, Tryd.ntmps51
          go_wp2_with fail
          go_quiet (fail)
          go_wp2_with fail
          go_ret2
          exact ⟨rfl, _, rfl⟩

/-- Behind k zeros. -/
structure RGrow (w wr : World) (p g : Nat) (room : Int) (ws : List Int) (hd : Int) (k g' c' : Nat) : Prop where
  h : RefAt wr p g' c' room (ws ++ hd :: List.replicate k 0)
  hg : g' = g ∨ w.heap.size ≤ g'
  f : Fr (fun b => b = p ∨ b = g) w wr

theorem pushed {w w0 w2 : World} {p g g0 g2 c2 : Nat} {v : Value} (_hp : p < w.heap.size) (f : Fr (fun b => b = p ∨ b = g) w w0) (hg0 : g0 = g ∨ w.heap.size ≤ g0) (hg : w0.grownBy w2 (some g0)) (hb : g2 = g0 ∨ w0.heap.size ≤ g2) :
    (g2 = g ∨ w.heap.size ≤ g2) ∧ Fr (fun b => b = p ∨ b = g) w (w2.setCell ⟨p, 1, none⟩ (.slice (some ⟨g2, 0, none⟩) c2 c2)) ∧ Fr (fun b => b = p ∨ b = g) w (w2.setCell ⟨p, 1, none⟩ v) := by
  have z := f.size
  have f2 : Fr (fun b => b = p ∨ b = g) w w2 := f.grown hg (fun k hk hlt => by have := Option.some.inj hk; subst this; rcases hg0 with e | e; exact .inr e; omega)
  exact ⟨by omega, f2.setCell (p := ⟨p, 1, none⟩) (fun _ => .inl rfl) _, f2.setCell (p := ⟨p, 1, none⟩) (fun _ => .inl rfl) _⟩

set_option maxHeartbeats 2000000 in
theorem ralloc_y {w : World} {p g cap : Nat} {room : Int} {ws : List Int} (h : RefAt w p g cap room ws) (t n : Int) (hn : allocB ws room t n = true) :
    Calls Tryd.prog 51 #[.pointer (some ⟨p, 0, none⟩), .int .i64 t, .int .i64 n] w (RAllocYes w p g room ws t n) := by
  have c0 := h.c0
  have c1 := h.c1
  have hs := h.small
  have hr := h.fits
  have hm := h.most
  have H := Lib.hid h
  have h1 : isPartB t = true := by cases h1 : isPartB t <;> simp_all [allocB]
  have h2 : isPartB n = true := by cases h2 : isPartB n <;> simp_all [allocB]
  have h3 : n < room - ws.length := by simpa [allocB, h1, h2] using hn
  obtain ⟨t0, t1⟩ := ispart_of h1
  obtain ⟨n0, n1⟩ := ispart_of h2
  clear h1 h2 hn h
  obtain ⟨n, rfl⟩ := Int.eq_ofNat_of_zero_le n0
  obtain ⟨i, hi, hz, hz1, hz2⟩ := info_parts info_word
  have d0 : decide (t < 0) = false := decide_eq_false (by omega)
  have d1 : decide (1048576 < t) = false := decide_eq_false (by omega)
  have d2 : decide ((n : Int) < 0) = false := decide_eq_false (by omega)
  have d3 : decide (1048576 < (n : Int)) = false := decide_eq_false (by omega)
  have d4 : decide (room - ws.length < (n : Int) + 1) = false := decide_eq_false (by omega)
  go_enter Tryd.func51, Tryd.ntmps51
  go_wp2_with fail
  go_quiet (fail)
  clear d0 d1 d2 d3 d4
  obtain ⟨g2, c2, w2, hrun, hown, hgrow, hg2⟩ := run_append_one (P := Tryd.prog) (w.drewN nq) 0 39 39 38 i (.int .u64 0) 8 Tryd.underlying39 hi hz hz1 hz2 rfl (.slice (some ⟨g, 0, none⟩) ws.length cap) ws.length _ (H.out.drewN nq).row (.int .u64 (headOf t n)) rfl
    (by unfold maxLen; omega) (by omega) (Nat.zero_le _)
  have hg2' : g2 = g ∨ w.heap.size ≤ g2 := by rcases hg2 with e | e; exact .inl (Option.some.inj e).symm; exact .inr e
  have hd0 : 0 ≤ headOf t n := by unfold headOf; omega
  have hd1 : headOf t n ≤ 18446744073709551615 := by unfold headOf; omega
  have HA := Lib.hid (show _ = _ from by have := hrun; unfold headOf at this; exact this)
  have HP := Lib.hid ((H.out.drewN nq).push (by omega) hd0 hd1 hown hgrow hg2')
  have HF := Lib.hid (pushed (v := .slice (some ⟨g2, 0, none⟩) (ws.length + 1) c2) (c2 := c2) H.out.ltp ((Fr.refl (fun b => b = p ∨ b = g) w).drewN nq) (.inl rfl) hgrow hg2')
  have c12 := hgrow.cell (a := ⟨p, 1, none⟩) (H.out.drewN nq).c1 (by intro e; exact H.out.ne (Option.some.inj e))
  have f12 := (World.frozen?_of_block (a := ⟨p, 1, none⟩) (hgrow.block p H.out.ltp (by intro e; exact H.out.ne (Option.some.inj e)))).trans ((H.out.drewN nq).f0 1)
  clear hrun hown hgrow hg2 hg2' hd0 hd1
  go_wp2_with (at_builtin; refine Lib.wpList_append_run _ rfl (.tmp 49) (.tmp 56) 39 39 rfl _ _ rfl rfl _ _ HA.out ?_)

  have HG : Hid (RGrow w (w2.setCell ⟨p, 1, none⟩ (.slice (some ⟨g2, 0, none⟩) (ws.length + 1) c2)) p g room ws (headOf t n) 0 g2 c2) := Lib.hid ⟨HP.out, HF.out.1, HF.out.2.2⟩
  clear HA HP HF c12 f12
  go_loopw [9] (fun i wr => ∃ k g' c' : Nat, i = .int .i64 k ∧ k ≤ n ∧ Hid (RGrow w wr p g room ws (headOf t n) k g' c')) (fun i _ => n - (intOf i).toNat)
  case atStart => exact ⟨0, _, _, rfl, Nat.zero_le _, HG⟩
  case round =>
    obtain ⟨k, g', c', rfl, hkn, hG⟩ := hrel
    clear HG
    by_cases hk : k < n
    · have hlen : (ws ++ headOf t n :: List.replicate k 0).length = ws.length + 1 + k := by simp; omega
      obtain ⟨g3, c3, w3, hrun, hown, hgrow, hg3⟩ := run_append_one (P := Tryd.prog) wr 0 39 39 38 i (.int .u64 0) 8 Tryd.underlying39 hi hz hz1 hz2 rfl _ _ _ hG.out.h.row (.int .u64 0) rfl
        (by rw [hlen]; unfold maxLen; omega) (by rw [hlen]; omega) (Nat.zero_le _)
      have hg3' : g3 = g' ∨ wr.heap.size ≤ g3 := by rcases hg3 with e | e; exact .inl (Option.some.inj e).symm; exact .inr e
      have hP := hG.out.h.push (v := 0) (by rw [hlen]; omega) (by omega) (by omega) hown hgrow hg3'
      have hF := pushed (v := .slice (some ⟨g3, 0, none⟩) ((ws ++ headOf t n :: List.replicate k 0).length + 1) c3) (c2 := c3) H.out.ltp hG.out.f hG.out.hg hgrow hg3'
      have c1r := hG.out.h.c1
      have c1w := hgrow.cell (a := ⟨p, 1, none⟩) hG.out.h.c1 (by intro e; exact hG.out.h.ne (Option.some.inj e))
      have f1w := (World.frozen?_of_block (a := ⟨p, 1, none⟩) (hgrow.block p hG.out.h.ltp (by intro e; exact hG.out.h.ne (Option.some.inj e)))).trans (hG.out.h.f0 1)
      rw [hlen] at hrun c1r c1w hP hF
      have HS : Hid (RGrow w (w3.setCell ⟨p, 1, none⟩ (.slice (some ⟨g3, 0, none⟩) (ws.length + 1 + k + 1) c3)) p g room ws (headOf t n) (k + 1) g3 c3) := Lib.hid
        ⟨by rw [List.replicate_succ', ← List.cons_append, ← List.append_assoc]; exact hP, hF.1, hF.2.2⟩
      have HA := Lib.hid hrun
      clear hrun hown hgrow hg3 hg3' hP hF hlen
      go_wp2_with (at_builtin; refine Lib.wpList_append_run _ rfl (.tmp 69) (.tmp 70) 39 39 rfl _ _ rfl rfl _ _ HA.out ?_)
      go_roundw
      case rel => exact ⟨k + 1, _, _, by go_num, by omega, HS⟩
      case measure => simp [intOf]; omega
    · obtain rfl : k = n := by omega
      go_wp2_with fail
      go_ret2
      refine ⟨rfl, g', c', ?_, hG.out.hg, hG.out.f⟩
      have := hG.out.h
      unfold allocWs
      rw [Int.toNat_natCast]
      exact this


set_option maxHeartbeats 1000000 in
theorem text_no {w : World} {p g cap : Nat} {room : Int} {ws : List Int} (h : HeapAt w p g cap room ws) (s : ByteArray) (_hsz : s.size ≤ 9223372036854775807) (hs : 0 < s.size) (hy : allocB ws room 3 s.size = false) :
    Calls Tryd.prog 37 #[.pointer (some ⟨p, 0, none⟩), .string s] w fun e w' => e = .returned (.tuple #[.int .u64 0, .bool false]) ∧ ∃ m, w' = w.drewN m := by
  have H := Lib.hid h
  clear h
  have hne : s.toList.isEmpty = false := notEmpty_of hs
  go_enter Tryd.func37, Tryd.ntmps37
  go_wp2_with fail
  refine (alloc_n H.out 3 s.size hy).mono ?_
  rintro e w1 ⟨rfl, m, rfl⟩
  go_wp2_with fail
  go_ret2
  exact ⟨rfl, m, rfl⟩

set_option maxHeartbeats 1000000 in
theorem rtext_no {w : World} {p g cap : Nat} {room : Int} {ws : List Int} (h : RefAt w p g cap room ws) (s : ByteArray) (_hsz : s.size ≤ 9223372036854775807) (hs : 0 < s.size) (hy : allocB ws room 3 s.size = false) :
    Calls Tryd.prog 42 #[.pointer (some ⟨p, 0, none⟩), .string s] w fun e w' => e = .returned (.tuple #[.int .u64 0, .bool false]) ∧ ∃ m, w' = w.drewN m := by
  have H := Lib.hid h
  clear h
  have hne : s.toList.isEmpty = false := notEmpty_of hs
  go_enter Tryd.func42, Tryd.ntmps42
  go_wp2_with fail
  refine (ralloc_n H.out 3 s.size hy).mono ?_
  rintro e w1 ⟨rfl, m, rfl⟩
  go_wp2_with fail
  go_ret2
  exact ⟨rfl, m, rfl⟩

theorem rtext_empty {w : World} (p : Nat) (s : ByteArray) (hs : s.size = 0) :
    Calls Tryd.prog 42 #[.pointer (some ⟨p, 0, none⟩), .string s] w fun e w' => e = .returned (.tuple #[.int .u64 0, .bool true]) ∧ w = w' := by
  have hne : s.toList.isEmpty = true := empty_of hs
  have hs1 : s.size ≤ 1 := by omega
  clear hs
  go_enter Tryd.func42, Tryd.ntmps42
  go_wp2_with fail
  go_ret2
  exact ⟨rfl, rfl⟩

theorem rput_laid {w' : World} {p g c : Nat} {room : Int} {ws l : List Int} {t v : Int} {k : Nat} (hl : (l.length : Int) < 4294967296) (hk : l[k]? = some v)
    (h : RefAt w' p g c room (putOf (laid ws (headOf t l.length) l k) (hplaceOf (laid ws (headOf t l.length) l k) ws.length k) v)) : RefAt w' p g c room (laid ws (headOf t l.length) l (k + 1)) := by
  have hkl : k < l.length := (List.getElem?_eq_some_iff.1 hk).1
  rw [hplaceOf_laid _ _ _ _ _ hl hkl] at h
  unfold putOf at h
  rw [if_pos (by omega), Int.toNat_natCast, laid_step _ _ _ _ _ hk] at h
  exact h

set_option maxHeartbeats 1000000 in
theorem rtext_any {w : World} {p g cap : Nat} {room : Int} {ws : List Int} (h : RefAt w p g cap room ws) (s : ByteArray) (hs : 0 < s.size) (hy : allocB ws room 3 s.size = true) :
    Calls Tryd.prog 42 #[.pointer (some ⟨p, 0, none⟩), .string s] w fun e w' => e = .returned (.tuple #[.int .u64 ws.length, .bool true]) ∧
      ∃ g' c', RefAt w' p g' c' room (textWs ws s) ∧ (g' = g ∨ w.heap.size ≤ g') ∧ Fr (fun k => k = p ∨ k = g) w w' := by
  have H := Lib.hid h
  have hfit := h.small
  clear h
  have hsz : s.size ≤ 1048576 := by
    have : isPartB s.size = true := by cases hh : isPartB s.size <;> simp_all [allocB]
    have := ispart_of this
    omega
  have hne : s.toList.isEmpty = false := notEmpty_of hs
  go_enter Tryd.func42, Tryd.ntmps42
  go_wp2_with fail
  refine (ralloc_y H.out 3 s.size hy).mono ?_
  rintro e w1 ⟨rfl, g1, c1, h1, hg1, f1⟩
  rw [← length_bts s, allocWs_laid] at h1
  have hsm := h1.small
  rw [length_laid _ _ _ _ (by omega), length_bts] at hsm
  have G1 := Lib.hid hg1
  have H1 := Lib.hid (And.intro h1 f1)
  clear h1 hg1 f1
  go_wp2_with fail
  go_loopw [8] (fun i wr => ∃ k : Nat, k ≤ s.size ∧ i = .int .i64 k ∧ Hid (RefAt wr p g1 c1 room (laid ws (headOf 3 (bts s).length) (bts s) k) ∧ Fr (fun k => k = p ∨ k = g) w wr)) (fun i _ => s.size - (intOf i).toNat)
  case atStart => exact ⟨0, Nat.zero_le _, rfl, H1⟩
  case round =>
    obtain ⟨k, hk, rfl, hR⟩ := hrel
    clear H1
    by_cases hlt : k < s.size
    · have hb := Lib.hid (bts_at s k hlt)
      have hb1 := s[k].toNat_lt
      go_wp2_with fail
      refine (rset_any hR.out.1 ws.length k _ (by omega) (by omega) (by omega)).mono ?_
      rintro e w1 ⟨rfl, h1, f1⟩
      have hS := Lib.hid (And.intro (rput_laid (by rw [length_bts]; omega) hb.out h1) (hR.out.2.trans f1 (fun i hi h => by have := G1.out; omega)))
      clear h1 f1
      go_wp2_with fail
      go_roundw
      case rel => exact ⟨k + 1, by omega, by go_num, hS⟩
      case measure => simp [intOf]; omega
    · obtain rfl : k = s.size := by omega
      have hfin : Hid (RefAt wr p g1 c1 room (textWs ws s)) := by
        have := hR.out.1
        rw [← length_bts s, laid_all] at this
        exact Lib.hid this
      go_wp2_with fail
      go_ret2
      exact ⟨rfl, g1, c1, hfin.out, G1.out, hR.out.2⟩

set_option maxHeartbeats 1000000 in
theorem rstring_any {w : World} {p g c : Nat} {room : Int} {ws : List Int} (h : RefAt w p g c room ws) (a : Int) (ha : 0 ≤ a) :
    Calls Tryd.prog 22 #[.pointer (some ⟨p, 0, none⟩), .int .u64 a] w fun e w' => e = .returned (.string (strAt ws a)) ∧ Fr (fun _ => False) w w' := by
  have hs := h.small
  have hl := lenOf_bd ws a
  have H := Lib.hid h
  clear h
  obtain ⟨m, hm⟩ := Int.eq_ofNat_of_zero_le hl.1
  have Hst : Hid (strAt ws a = strOfNums (readOf ws a (min m ws.length))) := Lib.hid (by unfold strAt; rw [hm]; rfl)
  have Hm := Lib.hid hm
  have hm2 : m ≤ 4294967295 := by omega
  clear hm hl
  go_enter Tryd.func22, Tryd.ntmps22
  go_wp2_with fail
  go_loopw [5, 6] (fun v i wr => ∃ k : Nat, i = .int .i64 k ∧ k ≤ min m ws.length ∧ Hid (wr.ownsRow 0 5 1 v k ((readOf ws a k).map (Value.int .u8)) ∧ Fr (fun _ => False) w wr ∧ (∀ b, v.ownBlock = some b → w.heap.size ≤ b))) (fun _ i _ => ws.length - (intOf i).toNat)
  case atStart => exact ⟨0, rfl, Nat.zero_le _, Lib.hid ⟨World.ownsRow_nil _ _ _ _, Fr.refl _ _, fun b hb => by simp [Value.ownBlock] at hb⟩⟩
  case round =>
    obtain ⟨k, rfl, hkn, hR⟩ := hrel
    have Hh := Lib.hid (H.out.kept hR.out.2.1 (fun h => h) (fun h => h))
    obtain ⟨ao, cp, rfl, hao⟩ : ∃ ao cp, u5 = .slice ao k cp ∧ (0 < k → ∃ g2, ao = some ⟨g2, 0, none⟩) := by
      rcases hR.out.1.2 with ⟨e, h0⟩ | ⟨g2, c2, cur, e, _⟩
      · exact ⟨none, 0, by rw [h0]; exact e, fun hp => by omega⟩
      · exact ⟨_, c2, e, fun _ => ⟨g2, rfl⟩⟩
    have Hao := Lib.hid hao
    have cr1 := Hh.out.c1
    clear hao
    by_cases hlt : k < m
    · by_cases hlt2 : k < ws.length
      · obtain ⟨hb0, hb1⟩ := getOf_bd H.out.wf a k
        obtain ⟨i, hi, hz, hz1, hz2⟩ := info_parts info_byte
        obtain ⟨y, hy⟩ : ∃ y, y = getOf ws a k := ⟨_, rfl⟩
        rw [← hy] at hb0 hb1
        obtain ⟨g2, c2, w4, hrun, hown, hgrow, hg2⟩ := run_append_one (P := Tryd.prog) wr 0 90 90 5 i (.int .u8 0) 1 Tryd.underlying90 hi hz hz1 hz2 rfl _ k _ hR.out.1 (.int .u8 (y % 256)) rfl
          (by unfold maxLen; omega) (by omega) (Nat.zero_le _)
        have HA := Lib.hid hrun
        have HS : Hid (w4.ownsRow 0 5 1 (.slice (some ⟨g2, 0, none⟩) (k + 1) c2) (k + 1) ((readOf ws a (k + 1)).map (Value.int .u8)) ∧ Fr (fun _ => False) w w4 ∧ (∀ b, (Value.slice (some ⟨g2, 0, none⟩) (k + 1) c2).ownBlock = some b → w.heap.size ≤ b)) := Lib.hid (by
          refine ⟨?_, hR.out.2.1.grown hgrow (fun b hb hlt => by have := hR.out.2.2 b hb; omega), ?_⟩
          · have e : readOf ws a (k + 1) = readOf ws a k ++ [y % 256] := by unfold readOf; rw [List.range_succ, List.map_append, List.map_singleton, hy]
            rw [e, List.map_append]
            exact hown
          · intro b hb
            simp [Value.ownBlock] at hb
            subst hb
            rcases hg2 with e | e
            · exact hR.out.2.2 _ e
            · have := hR.out.2.1.size; omega)
        have Hy := Lib.hid hy
        clear hrun hown hgrow hg2 hy hi hz hz1 hz2
        go_wp2_with fail
        refine (rlen_any Hh.out a ha).mono ?_
        rintro e w5 ⟨rfl, rfl⟩
        rw [Hm.out]
        go_wp2_with fail
        refine (rget_any Hh.out a k ha).mono ?_
        rintro e w5 ⟨rfl, rfl⟩
        rw [← Hy.out]
        go_wp2_with (at_builtin; refine Lib.wpList_append_run _ rfl (.tmp 24) (.tmp 30) 90 90 rfl _ _ rfl rfl _ _ HA.out ?_)
        go_roundw
        case rel => exact ⟨k + 1, by go_num, by omega, HS⟩
        case measure => simp [intOf]; omega
      · obtain rfl : k = ws.length := by omega
        obtain ⟨g2, rfl⟩ := Hao.out (by have := H.out.pos; omega)
        have hcell : ∀ i, i < ws.length → wr.cell? ⟨g2, 0 + i, none⟩ = some (.int .u8 ((readOf ws a ws.length).getD i 0)) := by
          intro i hi
          rw [Nat.zero_add, hR.out.1.cellAt i (by omega)]
          simp [List.getD_eq_getElem?_getD, readOf_at ws a ws.length i hi]
        have hcv := run_convert_bytes_arg (P := Tryd.prog) wr 90 5 Tryd.underlying90 Tryd.underlying5 g2 0 ws.length cp (readOf ws a ws.length) (length_readOf ws a ws.length) hcell 9 Tryd.underlying9
        obtain ⟨res, hres⟩ : ∃ res, res = strOfNums (readOf ws a ws.length) := ⟨_, rfl⟩
        rw [← hres] at hcv
        have Hres : Hid (res = strAt ws a) := Lib.hid (by rw [Hst.out, Nat.min_eq_right (by omega)]; exact hres)
        clear hres hcell
        go_wp2_with fail
        refine (rlen_any Hh.out a ha).mono ?_
        rintro e w5 ⟨rfl, rfl⟩
        rw [Hm.out]
        go_wp2_with fail
        go_ret
        exact ⟨by rw [← Hres.out]; rfl, hR.out.2.1⟩
    · obtain rfl : k = m := by omega
      have hkw : k ≤ ws.length := by omega
      by_cases hk0 : 0 < k
      · obtain ⟨g2, rfl⟩ := Hao.out hk0
        have hcell : ∀ i, i < k → wr.cell? ⟨g2, 0 + i, none⟩ = some (.int .u8 ((readOf ws a k).getD i 0)) := by
          intro i hi
          rw [Nat.zero_add, hR.out.1.cellAt i (by omega)]
          simp [List.getD_eq_getElem?_getD, readOf_at ws a k i hi]
        have hcv := run_convert_bytes_arg (P := Tryd.prog) wr 90 5 Tryd.underlying90 Tryd.underlying5 g2 0 k cp (readOf ws a k) (length_readOf ws a k) hcell 9 Tryd.underlying9
        obtain ⟨res, hres⟩ : ∃ res, res = strOfNums (readOf ws a k) := ⟨_, rfl⟩
        rw [← hres] at hcv
        have Hres : Hid (res = strAt ws a) := Lib.hid (by rw [Hst.out, Nat.min_eq_left (by omega)]; exact hres)
        clear hres hcell
        go_wp2_with fail
        refine (rlen_any Hh.out a ha).mono ?_
        rintro e w5 ⟨rfl, rfl⟩
        rw [Hm.out]
        go_wp2_with fail
        go_ret
        exact ⟨by rw [← Hres.out]; rfl, hR.out.2.1⟩
      · obtain rfl : k = 0 := by omega
        have hv : ao = none ∧ cp = 0 ∨ ∃ g2, ao = some ⟨g2, 0, none⟩ := by
          rcases hR.out.1.2 with ⟨e, h0⟩ | ⟨g2, c2, cur, e, _⟩
          · simp only [Value.slice.injEq] at e; exact .inl ⟨e.1, e.2.2⟩
          · simp only [Value.slice.injEq] at e; exact .inr ⟨g2, e.1⟩
        have Hres : Hid (strAt ws a = ByteArray.empty) := Lib.hid (by rw [Hst.out, Nat.zero_min]; rfl)
        rcases hv with ⟨rfl, rfl⟩ | ⟨g2, rfl⟩
        · have hcv := run_convert_bytes_nil (P := Tryd.prog) wr 90 5 Tryd.underlying90 Tryd.underlying5 0 0 9 Tryd.underlying9
          go_wp2_with fail
          refine (rlen_any Hh.out a ha).mono ?_
          rintro e w5 ⟨rfl, rfl⟩
          rw [Hm.out]
          go_wp2_with fail
          go_ret
          exact ⟨by rw [Hres.out]; rfl, hR.out.2.1⟩
        · have hcv := run_convert_bytes_arg (P := Tryd.prog) wr 90 5 Tryd.underlying90 Tryd.underlying5 g2 0 0 cp [] rfl (fun i hi => absurd hi (Nat.not_lt_zero _)) 9 Tryd.underlying9
          go_wp2_with fail
          refine (rlen_any Hh.out a ha).mono ?_
          rintro e w5 ⟨rfl, rfl⟩
          rw [Hm.out]
          go_wp2_with fail
          go_ret
          exact ⟨by rw [Hres.out]; rfl, hR.out.2.1⟩
end Go.Proofs.YtjeplkbdgphfoaaDoor
