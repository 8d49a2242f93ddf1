/-
  The reference heap of the law's own text, and its small functions.
-/
import Derived.Test.YtdffjojpnonanaaHeapS
import Derived.Test.YtdffjojpnonanaaApp2
namespace Go.Proofs.Ytdffjojpnonanaa
open Go.RowKit

/-- The reference heap at block p. -/
structure RefAt (w : World) (p g cap : Nat) (room : Int) (ws : List Int) : Prop where
  obj : w.heap[p]? = some (.cells #[.int .i64 room, .slice (some ⟨g, 0, none⟩) ws.length cap] 62 (0, 0))
  row : w.ownsRow 0 27 1 (.slice (some ⟨g, 0, none⟩) ws.length cap) ws.length (ws.map (Value.int .u64))
  ne : p ≠ g
  pos : 1 ≤ ws.length
  fits : (ws.length : Int) ≤ room
  most : room ≤ 65536
  wf : ∀ x ∈ ws, 0 ≤ x ∧ x ≤ 18446744073709551615
  z : wordAt ws 0 = 0

section
variable {w : World} {p g cap : Nat} {room : Int} {ws : List Int}
theorem RefAt.c1 (h : RefAt w p g cap room ws) : w.cell? ⟨p, 1, none⟩ = some (.slice (some ⟨g, 0, none⟩) ws.length cap) := by
  rw [cell_of_row w p 1 _ _ _ h.obj]; rfl
theorem RefAt.c0 (h : RefAt w p g cap room ws) : w.cell? ⟨p, 0, none⟩ = some (.int .i64 room) := by
  rw [cell_of_row w p 0 _ _ _ h.obj]; rfl
theorem RefAt.f0 (h : RefAt w p g cap room ws) (j : Nat) : w.frozen? ⟨p, j, none⟩ = false := frozen_of_row w p j _ _ h.obj
theorem RefAt.fg (h : RefAt w p g cap room ws) (j : Nat) : w.frozen? ⟨g, j, none⟩ = false := h.row.frozenAt j
theorem RefAt.word (h : RefAt w p g cap room ws) (k : Nat) (hk : k < ws.length) : w.cell? ⟨g, k, none⟩ = some (.int .u64 (wordAt ws k)) := by
  rw [h.row.cellAt k (by omega)]
  simp [wordAt, hk]
theorem RefAt.small (h : RefAt w p g cap room ws) : ws.length ≤ 65536 := by have := h.fits; have := h.most; omega
theorem RefAt.ltp (h : RefAt w p g cap room ws) : p < w.heap.size := heap_lt h.obj
theorem RefAt.ltg (h : RefAt w p g cap room ws) : g < w.heap.size := (h.row.lt g rfl).2
theorem RefAt.kept {S : Nat → Prop} {w' : World} (h : RefAt w p g cap room ws) (hf : Fr S w w') (hp : ¬ S p) (hg : ¬ S g) : RefAt w' p g cap room ws :=
  ⟨(hf.block p h.ltp hp).trans h.obj, hf.owns h.row (fun k hk => by simp [Value.ownBlock] at hk; subst hk; exact hg), h.ne, h.pos, h.fits, h.most, h.wf, h.z⟩
theorem RefAt.drewN (h : RefAt w p g cap room ws) (n : Nat) : RefAt (w.drewN n) p g cap room ws :=
  ⟨h.obj, h.row, h.ne, h.pos, h.fits, h.most, h.wf, h.z⟩
theorem RefAt.put (h : RefAt w p g cap room ws) (k : Nat) (hk : 1 ≤ k) (v : Int) (hv : 0 ≤ v) (hv' : v ≤ 18446744073709551615) :
    RefAt (w.setCell ⟨g, k, none⟩ (.int .u64 v)) p g cap room (ws.set k v) := by
  have hst := h.row.stored k (.int .u64 v)
  refine ⟨?_, ?_, h.ne, by rw [List.length_set]; exact h.pos, by rw [List.length_set]; exact h.fits, h.most, ?_, ?_⟩
  · rw [Below.heap_setCell _ _ _ _ h.ne, List.length_set]; exact h.obj
  · rw [List.length_set, List.map_set]; exact hst.1
  · intro x hx
    rcases List.mem_or_eq_of_mem_set hx with hx | rfl
    · exact h.wf x hx
    · exact ⟨hv, hv'⟩
  · have := h.z
    unfold wordAt at this ⊢
    simp only [Int.le_refl, if_true, Int.toNat_zero, List.getD_eq_getElem?_getD] at this ⊢
    rw [List.getElem?_set_ne (by omega)]; exact this
end

set_option maxHeartbeats 400000 in
theorem rword_any {w : World} {p g cap : Nat} {room : Int} {ws : List Int} (h : RefAt w p g cap room ws) (a : Int) (ha : 0 ≤ a) :
    Calls Try.prog 32 #[.pointer (some ⟨p, 0, none⟩), .int .u64 a] w fun e w' => e = .returned (.int .u64 (wordAt ws a)) ∧ w = w' := by
  have c1 := h.c1
  have hs := h.small
  by_cases hlt : a < ws.length
  · obtain ⟨k, rfl⟩ := Int.eq_ofNat_of_zero_le ha
    have hk : k < ws.length := by omega
    have cg := h.word k hk
    have H := Lib.hid h
    clear h
    go_enter Try.func32, Try.ntmps32
    go_wp2
    go_ret
    exact ⟨rfl, rfl⟩
  · have hz := Lib.hid (wordAt_out (ws := ws) (a := a) (by omega))
    have H := Lib.hid h
    clear h
    go_enter Try.func32, Try.ntmps32
    go_wp2
    go_ret
    exact ⟨by rw [hz.out]; rfl, rfl⟩

set_option maxHeartbeats 400000 in
theorem rtype_any {w : World} {p g cap : Nat} {room : Int} {ws : List Int} (h : RefAt w p g cap room ws) (a : Int) (ha : 0 ≤ a) :
    Calls Try.prog 28 #[.pointer (some ⟨p, 0, none⟩), .int .u64 a] w fun e w' => e = .returned (.int .i64 (typeOf ws a)) ∧ w = w' := by
  obtain ⟨hw0, hw1⟩ := wordAt_wf h.wf a
  have H := Lib.hid h
  clear h
  go_enter Try.func28, Try.ntmps28
  go_wp2_with (go_at_call 32; refine (rword_any H.out a ha).mono ?_; rintro e w' ⟨rfl, rfl⟩)
  go_ret
  exact ⟨rfl, rfl⟩

set_option maxHeartbeats 400000 in
theorem rlen_any {w : World} {p g cap : Nat} {room : Int} {ws : List Int} (h : RefAt w p g cap room ws) (a : Int) (ha : 0 ≤ a) :
    Calls Try.prog 30 #[.pointer (some ⟨p, 0, none⟩), .int .u64 a] w fun e w' => e = .returned (.int .i64 (lenOf ws a)) ∧ w = w' := by
  obtain ⟨hw0, hw1⟩ := wordAt_wf h.wf a
  have H := Lib.hid h
  clear h
  go_enter Try.func30, Try.ntmps30
  go_wp2_with (go_at_call 32; refine (rword_any H.out a ha).mono ?_; rintro e w' ⟨rfl, rfl⟩)
  go_ret
  exact ⟨rfl, rfl⟩

set_option maxHeartbeats 400000 in
theorem rget_any {w : World} {p g cap : Nat} {room : Int} {ws : List Int} (h : RefAt w p g cap room ws) (a i : Int) (ha : 0 ≤ a) :
    Calls Try.prog 31 #[.pointer (some ⟨p, 0, none⟩), .int .u64 a, .int .i64 i] w fun e w' => e = .returned (.int .u64 (getOf ws a i)) ∧ w = w' := by
  have hs := h.small
  have hz := h.z
  have H := Lib.hid h
  have hl := lenOf_bd ws a
  clear h
  by_cases ha0 : a = 0
  · have hp := Lib.hid (show getOf ws a i = 0 by
      unfold getOf placeOf
      rw [ha0, show lenOf ws 0 = 0 by unfold lenOf; rw [hz]; rfl, if_neg (by omega), hz])
    clear hz
    have k0 : (a == 0) = true := beq_iff_eq.2 ha0
    clear ha0
    go_enter Try.func31, Try.ntmps31
    go_wp2_with fail
    go_ret
    exact ⟨ret_eq hp.out.symm, rfl⟩
  · have k0 : (a == 0) = false := beq_eq_false_iff_ne.2 ha0
    by_cases h0 : 0 ≤ i
    · by_cases h1 : i < lenOf ws a
      · have hp := Lib.hid (show getOf ws a i = wordAt ws (a + 1 + i) by unfold getOf placeOf; rw [if_pos ⟨h0, h1⟩])
        have hlt := lenOf_lt (ws := ws) (a := a) (by omega)
        clear hz
        go_enter Try.func31, Try.ntmps31
        go_wp2_with (first | (go_at_call 30; refine (rlen_any H.out a ha).mono ?_; rintro e w' ⟨rfl, rfl⟩) | (go_at_call 32; refine (rword_any H.out (a + 1 + i) (by omega)).mono ?_; rintro e w' ⟨rfl, rfl⟩))
        go_ret
        exact ⟨ret_eq hp.out.symm, rfl⟩
      · have hp := Lib.hid (show getOf ws a i = 0 by unfold getOf placeOf; rw [if_neg (by omega), hz])
        clear hz
        go_enter Try.func31, Try.ntmps31
        go_wp2_with (go_at_call 30; refine (rlen_any H.out a ha).mono ?_; rintro e w' ⟨rfl, rfl⟩)
        go_ret
        exact ⟨ret_eq hp.out.symm, rfl⟩
    · have hp := Lib.hid (show getOf ws a i = 0 by unfold getOf placeOf; rw [if_neg (by omega), hz])
      clear hz
      go_enter Try.func31, Try.ntmps31
      go_wp2_with fail
      go_ret
      exact ⟨ret_eq hp.out.symm, rfl⟩

/-- Put, and what it leaves. -/
def RPutDone (w : World) (p g cap : Nat) (room : Int) (ws : List Int) (a v : Int) (e : Ending) (w' : World) : Prop :=
  e = .returned (.bool (putB ws a)) ∧ RefAt w' p g cap room (putOf ws a v) ∧ Fr (fun k => k = g) w w'

set_option maxHeartbeats 400000 in
theorem rput_any {w : World} {p g cap : Nat} {room : Int} {ws : List Int} (h : RefAt w p g cap room ws) (a v : Int) (ha : 0 ≤ a) (hv : 0 ≤ v) (hv' : v ≤ 18446744073709551615) :
    Calls Try.prog 21 #[.pointer (some ⟨p, 0, none⟩), .int .u64 a, .int .u64 v] w (RPutDone w p g cap room ws a v) := by
  have c1 := h.c1
  have hs := h.small
  by_cases h1 : 1 ≤ a
  · have k0 : (a == 0) = false := beq_eq_false_iff_ne.2 (by omega)
    by_cases h2 : a < ws.length
    · obtain ⟨k, rfl⟩ := Int.eq_ofNat_of_zero_le ha
      have hk : k < ws.length := by omega
      have fg := h.fg k
      have cg := h.word k hk
      have hb : putB ws k = true := by simp [putB]; omega
      have ho : putOf ws k v = ws.set k v := by unfold putOf; rw [if_pos h1]; rfl
      have hq := h.put k (by omega) v hv hv'
      have Q : Hid (RPutDone w p g cap room ws k v (.returned (.bool true)) (w.setCell ⟨g, k, none⟩ (.int .u64 v))) := Lib.hid (by
        refine ⟨by rw [hb], by rw [ho]; exact hq, (Fr.refl (fun k => k = g) w).setCell (p := ⟨g, k, none⟩) (fun _ => rfl) _⟩)
      have k1 : decide (ws.length ≤ k) = false := by simp; omega
      clear h hb ho hq
      go_enter Try.func21, Try.ntmps21
      go_wp2
      go_ret
      exact Q.out
    · have hb : putB ws a = false := by simp [putB]; omega
      have ho : putOf ws a v = ws := by unfold putOf; rw [if_pos h1, List.set_eq_of_length_le (by omega)]
      have Q : Hid (RPutDone w p g cap room ws a v (.returned (.bool false)) w) := Lib.hid (by
        refine ⟨by rw [hb], by rw [ho]; exact h, Fr.refl _ w⟩)
      clear h hb ho
      go_enter Try.func21, Try.ntmps21
      go_wp2
      go_ret
      exact Q.out
  · have hb : putB ws a = false := by simp [putB]; omega
    have ho : putOf ws a v = ws := by unfold putOf; rw [if_neg h1]
    have Q : Hid (RPutDone w p g cap room ws a v (.returned (.bool false)) w) := Lib.hid (by
      refine ⟨by rw [hb], by rw [ho]; exact h, Fr.refl _ w⟩)
    have h3 : a = 0 := by omega
    clear h hb ho
    subst h3
    go_enter Try.func21, Try.ntmps21
    go_wp2
    go_ret
    exact Q.out

set_option maxHeartbeats 400000 in
theorem rset_any {w : World} {p g cap : Nat} {room : Int} {ws : List Int} (h : RefAt w p g cap room ws) (a i v : Int) (ha : 0 ≤ a) (hv : 0 ≤ v) (hv' : v ≤ 18446744073709551615) :
    Calls Try.prog 20 #[.pointer (some ⟨p, 0, none⟩), .int .u64 a, .int .i64 i, .int .u64 v] w (RPutDone w p g cap room ws (placeOf ws a i) v) := by
  have hs := h.small
  have hz := h.z
  have H := Lib.hid h
  have hl := lenOf_bd ws a
  have Q0 : placeOf ws a i = 0 → Hid (RPutDone w p g cap room ws (placeOf ws a i) v (.returned (.bool false)) w) := fun e => Lib.hid (by
    rw [e]
    exact ⟨rfl, h, Fr.refl _ w⟩)
  clear h
  by_cases ha0 : a = 0
  · have hp := Q0 (by
      unfold placeOf
      rw [ha0, show lenOf ws 0 = 0 by unfold lenOf; rw [hz]; rfl, if_neg (by omega)])
    clear hz Q0
    have k0 : (a == 0) = true := beq_iff_eq.2 ha0
    clear ha0
    go_enter Try.func20, Try.ntmps20
    go_wp2_with fail
    go_ret
    exact hp.out
  · have k0 : (a == 0) = false := beq_eq_false_iff_ne.2 ha0
    by_cases h0 : 0 ≤ i
    · by_cases h1 : i < lenOf ws a
      · have hp := Lib.hid (show placeOf ws a i = a + 1 + i by unfold placeOf; rw [if_pos ⟨h0, h1⟩])
        have hlt := lenOf_lt (ws := ws) (a := a) (by omega)
        clear hz Q0
        go_enter Try.func20, Try.ntmps20
        go_wp2_with fail
        refine (rlen_any H.out a ha).mono ?_
        rintro e w' ⟨rfl, rfl⟩
        go_wp2_with fail
        refine (rput_any H.out (a + 1 + i) v (by omega) hv hv').mono ?_
        rintro e w' ⟨rfl, hq, hf⟩
        have HQ := Lib.hid (And.intro hq hf)
        clear hq hf
        go_wp2_with fail
        go_ret
        rw [hp.out]
        exact ⟨rfl, HQ.out.1, HQ.out.2⟩
      · have hp := Q0 (by unfold placeOf; rw [if_neg (by omega)])
        clear hz Q0
        go_enter Try.func20, Try.ntmps20
        go_wp2_with (go_at_call 30; refine (rlen_any H.out a ha).mono ?_; rintro e w' ⟨rfl, rfl⟩)
        go_ret
        exact hp.out
    · have hp := Q0 (by unfold placeOf; rw [if_neg (by omega)])
      clear hz Q0
      go_enter Try.func20, Try.ntmps20
      go_wp2_with fail
      go_ret
      exact hp.out
end Go.Proofs.Ytdffjojpnonanaa
