/-
  A heap of package heap as it lies in memory, and its readers.
-/
import Derived.Test.YtjeplkbdgphfoaaDoorHeapA
namespace Go.Proofs.YtjeplkbdgphfoaaDoor
open Go.RowKit

/-- The object at block p: its words ws lie in row g; it may have room words. -/
structure HeapAt (w : World) (p g cap : Nat) (room : Int) (ws : List Int) : Prop where
  obj : w.heap[p]? = some (.cells #[.slice (some ⟨g, 0, none⟩) ws.length cap, .int .i64 room] 96 (0, 0))
  row : w.ownsRow 0 38 1 (.slice (some ⟨g, 0, none⟩) ws.length cap) ws.length (ws.map (Value.int .u64))
  ne : p ≠ g
  pos : 1 ≤ ws.length
  fits : (ws.length : Int) ≤ room
  most : room ≤ 65536
  wf : ∀ x ∈ ws, 0 ≤ x ∧ x ≤ 18446744073709551615

def wordAt (ws : List Int) (a : Int) : Int := if 0 ≤ a then ws.getD a.toNat 0 else 0
def typeOf (ws : List Int) (a : Int) : Int := wordAt ws a / 4294967296
def hlenOf (ws : List Int) (a : Int) : Int := wordAt ws a % 4294967296
def hplaceOf (ws : List Int) (a i : Int) : Int := if 0 ≤ i ∧ i < hlenOf ws a then a + 1 + i else 0
def getOf (ws : List Int) (a i : Int) : Int := wordAt ws (hplaceOf ws a i)

theorem wordAt_wf {ws : List Int} (h : ∀ x ∈ ws, 0 ≤ x ∧ x ≤ 18446744073709551615) (a : Int) : 0 ≤ wordAt ws a ∧ wordAt ws a ≤ 18446744073709551615 := by
  unfold wordAt
  split
  · rw [List.getD_eq_getElem?_getD]
    by_cases hl : a.toNat < ws.length
    · rw [List.getElem?_eq_getElem hl]
      exact h _ (List.getElem_mem _)
    · rw [List.getElem?_eq_none (by omega)]
      simp
  · omega

theorem wordAt_out {ws : List Int} {a : Int} (h : (ws.length : Int) ≤ a) : wordAt ws a = 0 := by
  unfold wordAt
  split
  · rw [List.getD_eq_getElem?_getD, List.getElem?_eq_none (by omega)]
    rfl
  · rfl

theorem lenOf_bd (ws : List Int) (a : Int) : 0 ≤ hlenOf ws a ∧ hlenOf ws a ≤ 4294967295 := by unfold hlenOf; omega

theorem wraps_u64 (n : Int) (h₀ : 0 ≤ n) (h₁ : n < 2 ^ 64) : IntKind.u64.wrap n = n := by
  have e : ((2 : Int) ^ 64) = 18446744073709551616 := by decide
  rw [e] at h₁
  simp only [IntKind.wrap, IntKind.bits, IntKind.signed, e, Bool.false_and, Bool.false_eq_true, if_false]
  omega

theorem len_bits (x : Int) (h0 : 0 ≤ x) (h1 : x ≤ 18446744073709551615) : wrap64 (bits .and .u64 x 4294967295) = x % 4294967296 := by
  have h := bits_mask .u64 64 (by decide) wraps_u64 32 (by decide) x h0 (by omega)
  have e : ((2 : Int) ^ 32 - 1) = 4294967295 := by decide
  have e2 : ((2 : Int) ^ 32) = 4294967296 := by decide
  rw [e, e2] at h
  rw [h]
  exact IntWalk.wrap64_in _ ⟨by omega, by omega⟩

theorem lenOf_lt {ws : List Int} {a : Int} (h : 0 < hlenOf ws a) : a < ws.length := by
  by_cases hc : a < ws.length
  · exact hc
  · unfold hlenOf at h
    rw [wordAt_out (by omega)] at h
    simp at h

section
variable {w : World} {p g cap : Nat} {room : Int} {ws : List Int}

theorem HeapAt.c0 (h : HeapAt w p g cap room ws) : w.cell? ⟨p, 0, none⟩ = some (.slice (some ⟨g, 0, none⟩) ws.length cap) := by
  rw [cell_of_row w p 0 _ _ _ h.obj]; rfl
theorem HeapAt.c1 (h : HeapAt w p g cap room ws) : w.cell? ⟨p, 1, none⟩ = some (.int .i64 room) := by
  rw [cell_of_row w p 1 _ _ _ h.obj]; rfl
theorem HeapAt.f0 (h : HeapAt w p g cap room ws) (j : Nat) : w.frozen? ⟨p, j, none⟩ = false := frozen_of_row w p j _ _ h.obj
theorem HeapAt.fg (h : HeapAt w p g cap room ws) (j : Nat) : w.frozen? ⟨g, j, none⟩ = false := h.row.frozenAt j
theorem HeapAt.word (h : HeapAt w p g cap room ws) (k : Nat) (hk : k < ws.length) : w.cell? ⟨g, k, none⟩ = some (.int .u64 (wordAt ws k)) := by
  rw [h.row.cellAt k (by omega)]
  simp [wordAt, hk]
theorem HeapAt.small (h : HeapAt w p g cap room ws) : ws.length ≤ 65536 := by have := h.fits; have := h.most; omega
theorem HeapAt.ltp (h : HeapAt w p g cap room ws) : p < w.heap.size := heap_lt h.obj
theorem HeapAt.ltg (h : HeapAt w p g cap room ws) : g < w.heap.size := (h.row.lt g rfl).2
theorem HeapAt.kept {S : Nat → Prop} {w' : World} (h : HeapAt w p g cap room ws) (hf : Fr S w w') (hp : ¬ S p) (hg : ¬ S g) : HeapAt w' p g cap room ws :=
  ⟨(hf.block p h.ltp hp).trans h.obj, hf.owns h.row (fun k hk => by simp [Value.ownBlock] at hk; subst hk; exact hg), h.ne, h.pos, h.fits, h.most, h.wf⟩
end

set_option maxHeartbeats 400000 in
theorem used_any {w : World} {p g cap : Nat} {room : Int} {ws : List Int} (h : HeapAt w p g cap room ws) :
    Calls Tryd.prog 43 #[.pointer (some ⟨p, 0, none⟩)] w fun e w' => e = .returned (.int .i64 ws.length) ∧ w = w' := by
  have c0 := h.c0
  have hs := h.small
  have H := Lib.hid h
  clear h
  go_enter Tryd.func43, Tryd.ntmps43
  go_wp2
  go_ret
  exact ⟨rfl, rfl⟩

set_option maxHeartbeats 400000 in
theorem word_any {w : World} {p g cap : Nat} {room : Int} {ws : List Int} (h : HeapAt w p g cap room ws) (a : Int) (ha : 0 ≤ a) :
    Calls Tryd.prog 78 #[.pointer (some ⟨p, 0, none⟩), .int .u64 a] w fun e w' => e = .returned (.int .u64 (wordAt ws a)) ∧ w = w' := by
  have c0 := h.c0
  have hs := h.small
  by_cases hlt : a < ws.length
  · obtain ⟨k, rfl⟩ := Int.eq_ofNat_of_zero_le ha
    have hk : k < ws.length := by omega
    have cg := h.word k hk
    have H := Lib.hid h
    clear h
    go_enter Tryd.func78, Tryd.ntmps78
    go_wp2
    go_ret
    exact ⟨rfl, rfl⟩
  · have hz := Lib.hid (wordAt_out (ws := ws) (a := a) (by omega))
    have H := Lib.hid h
    clear h
    go_enter Tryd.func78, Tryd.ntmps78
    go_wp2
    go_ret
    exact ⟨by rw [hz.out]; rfl, rfl⟩

set_option maxHeartbeats 400000 in
theorem len_any {w : World} {p g cap : Nat} {room : Int} {ws : List Int} (h : HeapAt w p g cap room ws) (a : Int) (ha : 0 ≤ a) :
    Calls Tryd.prog 65 #[.pointer (some ⟨p, 0, none⟩), .int .u64 a] w fun e w' => e = .returned (.int .i64 (hlenOf ws a)) ∧ w = w' := by
  obtain ⟨hw0, hw1⟩ := wordAt_wf h.wf a
  have H := Lib.hid h
  clear h
  go_enter Tryd.func65, Tryd.ntmps65
  go_wp2_with (go_at_call 78; refine (word_any H.out a ha).mono ?_; rintro e w' ⟨rfl, rfl⟩)
  go_ret
  exact ⟨ret_eq (len_bits _ hw0 hw1), rfl⟩

def placeB (ws : List Int) (a i : Int) : Prop := 0 ≤ i ∧ i < hlenOf ws a

set_option maxHeartbeats 400000 in
theorem place_any {w : World} {p g cap : Nat} {room : Int} {ws : List Int} (h : HeapAt w p g cap room ws) (a i : Int) (ha : 0 ≤ a) :
    Calls Tryd.prog 72 #[.pointer (some ⟨p, 0, none⟩), .int .u64 a, .int .i64 i] w fun e w' => e = .returned (.int .u64 (hplaceOf ws a i)) ∧ w = w' := by
  have hs := h.small
  have H := Lib.hid h
  have hl := lenOf_bd ws a
  by_cases h0 : 0 ≤ i
  · by_cases h1 : i < hlenOf ws a
    · have hp := Lib.hid (show hplaceOf ws a i = a + 1 + i by unfold hplaceOf; rw [if_pos ⟨h0, h1⟩])
      have hlt := lenOf_lt (ws := ws) (a := a) (by omega)
      clear h
      go_enter Tryd.func72, Tryd.ntmps72
      go_wp2_with (go_at_call 65; refine (len_any H.out a ha).mono ?_; rintro e w' ⟨rfl, rfl⟩)
      go_ret
      exact ⟨ret_eq hp.out.symm, rfl⟩
    · have hp := Lib.hid (show hplaceOf ws a i = 0 by unfold hplaceOf; rw [if_neg (by omega)])
      clear h
      go_enter Tryd.func72, Tryd.ntmps72
      go_wp2_with (go_at_call 65; refine (len_any H.out a ha).mono ?_; rintro e w' ⟨rfl, rfl⟩)
      go_ret
      exact ⟨ret_eq hp.out.symm, rfl⟩
  · have hp := Lib.hid (show hplaceOf ws a i = 0 by unfold hplaceOf; rw [if_neg (by omega)])
    clear h
    go_enter Tryd.func72, Tryd.ntmps72
    go_wp2_with fail
    go_ret
    exact ⟨ret_eq hp.out.symm, rfl⟩

set_option maxHeartbeats 400000 in
theorem get_any {w : World} {p g cap : Nat} {room : Int} {ws : List Int} (h : HeapAt w p g cap room ws) (a i : Int) (ha : 0 ≤ a) :
    Calls Tryd.prog 66 #[.pointer (some ⟨p, 0, none⟩), .int .u64 a, .int .i64 i] w fun e w' => e = .returned (.int .u64 (getOf ws a i)) ∧ w = w' := by
  have H := Lib.hid h
  have hp : 0 ≤ hplaceOf ws a i := by unfold hplaceOf; split <;> omega
  clear h
  go_enter Tryd.func66, Tryd.ntmps66
  go_wp2_with (first | (go_at_call 72; refine (place_any H.out a i ha).mono ?_; rintro e w' ⟨rfl, rfl⟩) | (go_at_call 78; refine (word_any H.out (hplaceOf ws a i) hp).mono ?_; rintro e w' ⟨rfl, rfl⟩))
  go_ret
  exact ⟨rfl, rfl⟩

/-- A store into a word. -/
theorem HeapAt.put {w : World} {p g cap : Nat} {room : Int} {ws : List Int} (h : HeapAt w p g cap room ws) (k : Nat) (v : Int) (hv : 0 ≤ v) (hv' : v ≤ 18446744073709551615) :
    HeapAt (w.setCell ⟨g, k, none⟩ (.int .u64 v)) p g cap room (ws.set k v) := by
  have hst := h.row.stored k (.int .u64 v)
  refine ⟨?_, ?_, h.ne, by rw [List.length_set]; exact h.pos, by rw [List.length_set]; exact h.fits, h.most, ?_⟩
  · rw [Below.heap_setCell _ _ _ _ h.ne, List.length_set]; exact h.obj
  · rw [List.length_set, List.map_set]; exact hst.1
  · intro x hx
    rcases List.mem_or_eq_of_mem_set hx with hx | rfl
    · exact h.wf x hx
    · exact ⟨hv, hv'⟩

def putOf (ws : List Int) (a v : Int) : List Int := if 1 ≤ a then ws.set a.toNat v else ws
def putB (ws : List Int) (a : Int) : Bool := decide (1 ≤ a ∧ a < ws.length)

/-- Put: the words behind it; only the row has turned. -/
def PutDone (w : World) (p g cap : Nat) (room : Int) (ws : List Int) (a v : Int) (e : Ending) (w' : World) : Prop :=
  e = .returned (.bool (putB ws a)) ∧ HeapAt w' p g cap room (putOf ws a v) ∧ Fr (fun k => k = g) w w'

set_option maxHeartbeats 400000 in
theorem put_any {w : World} {p g cap : Nat} {room : Int} {ws : List Int} (h : HeapAt w p g cap room ws) (a v : Int) (ha : 0 ≤ a) (hv : 0 ≤ v) (hv' : v ≤ 18446744073709551615) :
    Calls Tryd.prog 71 #[.pointer (some ⟨p, 0, none⟩), .int .u64 a, .int .u64 v] w (PutDone w p g cap room ws a v) := by
  have c0 := h.c0
  have hs := h.small
  by_cases h1 : 1 ≤ a
  · by_cases h2 : a < ws.length
    · obtain ⟨k, rfl⟩ := Int.eq_ofNat_of_zero_le ha
      have hk : k < ws.length := by omega
      have fg := h.fg k
      have cg := h.word k hk
      have hb : putB ws k = true := by simp [putB]; omega
      have ho : putOf ws k v = ws.set k v := by unfold putOf; rw [if_pos h1]; rfl
      have hq := h.put k v hv hv'
      have Q : Hid (PutDone w p g cap room ws k v (.returned (.bool true)) (w.setCell ⟨g, k, none⟩ (.int .u64 v))) := Lib.hid (by
        refine ⟨by rw [hb], by rw [ho]; exact hq, (Fr.refl (fun k => k = g) w).setCell (p := ⟨g, k, none⟩) (fun _ => rfl) _⟩)
      have k0 : ((k : Int) == 0) = false := beq_eq_false_iff_ne.2 (by omega)
      have k1 : decide (ws.length ≤ k) = false := by simp; omega
      clear h hb ho hq
      go_enter Tryd.func71, Tryd.ntmps71
      go_wp2
      go_ret
      exact Q.out
    · have hb : putB ws a = false := by simp [putB]; omega
      have ho : putOf ws a v = ws := by unfold putOf; rw [if_pos h1, List.set_eq_of_length_le (by omega)]
      have Q : Hid (PutDone w p g cap room ws a v (.returned (.bool false)) w) := Lib.hid (by
        refine ⟨by rw [hb], by rw [ho]; exact h, Fr.refl _ w⟩)
      clear h hb ho
      go_enter Tryd.func71, Tryd.ntmps71
      go_wp2
      go_ret
      exact Q.out
  · have hb : putB ws a = false := by simp [putB]; omega
    have ho : putOf ws a v = ws := by unfold putOf; rw [if_neg h1]
    have Q : Hid (PutDone w p g cap room ws a v (.returned (.bool false)) w) := Lib.hid (by
      refine ⟨by rw [hb], by rw [ho]; exact h, Fr.refl _ w⟩)
    have h3 : a = 0 := by omega
    clear h hb ho
    subst h3
    go_enter Tryd.func71, Tryd.ntmps71
    go_wp2
    go_ret
    exact Q.out

end Go.Proofs.YtjeplkbdgphfoaaDoor
