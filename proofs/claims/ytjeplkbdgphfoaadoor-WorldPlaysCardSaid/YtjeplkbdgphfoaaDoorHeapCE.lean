/-
  New and Set of package heap.
  Alloc of package heap.
  Alloc's two answers; the law's own 'known'.
-/
import Derived.Test.YtjeplkbdgphfoaaDoorHeapB
import Derived.Test.YtjeplkbdgphfoaaDoorAppZ
import Derived.Deep.RegionWith
namespace Go.Proofs.YtjeplkbdgphfoaaDoor
open Go.RowKit
set_option maxRecDepth 100000


set_option maxHeartbeats 400000 in
theorem set_any {w : World} {p g cap : Nat} {room : Int} {ws : List Int} (h : HeapAt w p g cap room ws) (a i v : Int) (ha : 0 ≤ a) (hv : 0 ≤ v) (hv' : v ≤ 18446744073709551615) :
    Calls Tryd.prog 60 #[.pointer (some ⟨p, 0, none⟩), .int .u64 a, .int .i64 i, .int .u64 v] w (PutDone w p g cap room ws (hplaceOf ws a i) v) := by
  have hp : 0 ≤ hplaceOf ws a i := by unfold hplaceOf; split <;> omega
  have H := Lib.hid h
  clear h
  go_enter Tryd.func60, Tryd.ntmps60
  go_wp2_with (first | (go_at_call 72; refine (place_any H.out a i ha).mono ?_; rintro e w' ⟨rfl, rfl⟩) | (go_at_call 71; refine (put_any H.out (hplaceOf ws a i) v hp hv hv').mono ?_; rintro e w' ⟨rfl, hq, hf⟩))
  go_ret
  exact ⟨rfl, hq, hf⟩

/-- A new heap. -/
def NewDone (w : World) (room : Int) (e : Ending) (w' : World) : Prop :=
  e = .returned (.tuple #[.pointer (some ⟨w.heap.size + 1, 0, none⟩), .int .i64 0]) ∧ HeapAt w' (w.heap.size + 1) w.heap.size 1 room [0] ∧ Fr (fun _ => False) w w'

theorem new_made (room : Int) (w : World) (h1 : 1 ≤ room) (h2 : room ≤ 65536) :
    Hid (NewDone w room (.returned (.tuple #[.pointer (some ⟨w.heap.size + 1, 0, none⟩), .int .i64 0]))
      ((w.alloc (.cells #[.int .u64 0] 38)).alloc (.cells #[.slice (some ⟨w.heap.size, 0, none⟩) 1 1, .int .i64 room] 96))) := by
  refine Lib.hid ⟨rfl, ⟨?_, ?_, by omega, by simp, by simpa using h1, h2, by simp⟩, ((Fr.refl _ _).alloc _).alloc _⟩
  · have e := heap_alloc_new (w.alloc (.cells #[.int .u64 0] 38)) (.cells #[.slice (some ⟨w.heap.size, 0, none⟩) 1 1, .int .i64 room] 96)
    simpa using e
  · exact (World.ownsRow_lit w #[.int .u64 0] 1 (Nat.zero_le _) (by decide) rfl).alloc _

set_option maxHeartbeats 400000 in
theorem new_any (room : Int) (w : World) (h1 : 1 ≤ room) (h2 : room ≤ 65536) :
    Calls Tryd.prog 35 #[.int .i64 room] w (NewDone w room) := by
  have hmk : ∀ w, (Instr.makeSlice 39 (.int .i64 1) (.int .i64 1)).run Tryd.prog w = .ok (.slice (some ⟨w.heap.size, 0, none⟩) 1 1) (w.alloc (.cells #[.int .u64 0] 38)) := fun _ => by kernel_rfl
  have Q := new_made room w h1 h2
  go_enter Tryd.func35, Tryd.ntmps35
  go_wp2
  go_ret2
  exact Q.out

set_option maxHeartbeats 400000 in
theorem new_bad (room : Int) (w : World) (h1 : room < 1 ∨ 65536 < room) :
    Calls Tryd.prog 35 #[.int .i64 room] w fun e w' => e = .returned (.tuple #[.pointer none, .int .i64 1]) ∧ w = w' := by
  by_cases h : room < 1
  · go_enter Tryd.func35, Tryd.ntmps35
    go_wp2
    go_ret2
    exact ⟨rfl, rfl⟩
  · have h2 : 65536 < room := by omega
    go_enter Tryd.func35, Tryd.ntmps35
    go_wp2
    go_ret2
    exact ⟨rfl, rfl⟩


theorem HeapAt.drewN {w : World} {p g cap : Nat} {room : Int} {ws : List Int} (h : HeapAt w p g cap room ws) (n : Nat) : HeapAt (w.drewN n) p g cap room ws :=
  ⟨h.obj, h.row, h.ne, h.pos, h.fits, h.most, h.wf⟩
theorem Fr.drewN {S : Nat → Prop} {a b : World} (h : Fr S a b) (n : Nat) : Fr S a (b.drewN n) := ⟨h.os, h.tape, h.output, h.size, h.block⟩

def allocB (ws : List Int) (room t n : Int) : Bool := isPartB t && isPartB n && decide (n < room - ws.length)
def headOf (t n : Int) : Int := t * 4294967296 + n
def allocWs (ws : List Int) (t n : Int) : List Int := ws ++ headOf t n :: List.replicate n.toNat 0

/-- Alloc: what it answers, the words behind it; only the object and its row have turned. -/
def AllocDone (w : World) (p g : Nat) (room : Int) (ws : List Int) (t n : Int) (e : Ending) (w' : World) : Prop :=
  if allocB ws room t n then e = .returned (.tuple #[.int .u64 ws.length, .bool true]) ∧ ∃ g' cap', HeapAt w' p g' cap' room (allocWs ws t n) ∧ (g' = g ∨ w.heap.size ≤ g') ∧ Fr (fun k => k = p ∨ k = g) w w'
  else e = .returned (.tuple #[.int .u64 0, .bool false]) ∧ ∃ m, w' = w.drewN m

theorem ispart_of {n : Int} (h : isPartB n = true) : 0 ≤ n ∧ n ≤ 1048576 := by simpa [isPartB] using h

set_option maxHeartbeats 1000000 in
theorem alloc_no {w : World} {p g cap : Nat} {room : Int} {ws : List Int} (h : HeapAt w p g cap room ws) (t n : Int) (hn : allocB ws room t n = false) :
    Calls Tryd.prog 49 #[.pointer (some ⟨p, 0, none⟩), .int .i64 t, .int .i64 n] w (AllocDone w p g room ws t n) := by
  have Q : ∀ m, Hid (AllocDone w p g room ws t n (.returned (.tuple #[.int .u64 0, .bool false])) (w.drewN m)) := fun m => Lib.hid (by
    unfold AllocDone; rw [hn]; exact ⟨rfl, m, rfl⟩)
  have c1 := h.c1
  have hs := h.small
  have hr := h.fits
  have hm := h.most
  have H := Lib.hid h
  clear h
  cases h1 : isPartB t with
  | false =>
    clear hn
    go_enter Tryd.func49, Tryd.ntmps49
    go_wp2_with fail
    go_quiet ((go_at_call 68; exact quietS (ispart_any _ _)))
    go_wp2_with fail
    go_ret2
    exact (Q _).out
  | true =>
    cases h2 : isPartB n with
    | false =>
      clear hn
      go_enter Tryd.func49, Tryd.ntmps49
      go_wp2_with fail
      go_quiet ((go_at_call 68; exact quietS (ispart_any _ _)))
      go_wp2_with fail
      go_ret2
      exact (Q _).out
    | true =>
      have h3 : room - ws.length ≤ n := by simpa [allocB, h1, h2] using hn
      clear hn
      go_enter Tryd.func49, Tryd.ntmps49
      go_wp2_with fail
      go_quiet ((first | (go_at_call 68; exact quietS (ispart_any _ _)) | (go_at_call 43; exact quietS (used_any (H.out.drewN _)))))
      go_wp2_with fail
      go_ret2
      exact (Q _).out

theorem info_word : (Tryd.prog.info? 38).map (fun i => (i.zero, i.size, i.bytes)) = some (some (.int .u64 0), 1, 8) := by kernel_rfl

/-- The slice grown by zeros is stored into the object. -/
theorem HeapAt.grown {w w2 : World} {p g cap : Nat} {room : Int} {ws : List Int} (h : HeapAt w p g cap room ws) (k g' cap' : Nat) (hk : ((ws.length + k : Nat) : Int) ≤ room)
    (ho : w2.ownsRow 0 38 1 (.slice (some ⟨g', 0, none⟩) (ws.length + k) cap') (ws.length + k) (ws.map (Value.int .u64) ++ List.replicate k (Value.int .u64 0)))
    (hg : w.grownBy w2 (some g)) (hne : g' = g ∨ w.heap.size ≤ g') :
    HeapAt (w2.setCell ⟨p, 0, none⟩ (.slice (some ⟨g', 0, none⟩) (ws.length + k) cap')) p g' cap' room (ws ++ List.replicate k 0) := by
  have hp := h.ltp
  have hpg : p ≠ g' := by rcases hne with rfl | hle; exact h.ne; omega
  have hlen : (ws ++ List.replicate k (0 : Int)).length = ws.length + k := by simp
  refine ⟨?_, ?_, hpg, by rw [hlen]; have := h.pos; omega, by rw [hlen]; exact hk, h.most, ?_⟩
  · have ho2 : w2.heap[p]? = _ := (hg.block p hp (by intro e; exact h.ne (Option.some.inj e))).trans h.obj
    rw [hlen, heap_setCell_same w2 p 0 _ _ _ ho2]
    rfl
  · rw [hlen, List.map_append, List.map_replicate]
    refine ⟨ho.1, ?_⟩
    rcases ho.2 with hn | ⟨g0, cap0, cur, he, hb, hgg, rest⟩
    · exact .inl hn
    · refine .inr ⟨g0, cap0, cur, he, hb, ?_, rest⟩
      have e0 : g' = g0 := by simp only [Value.slice.injEq, Option.some.injEq, Addr.mk.injEq] at he; exact he.1.1
      rw [Below.heap_setCell _ _ _ _ (by subst e0; exact fun e => hpg e.symm)]
      exact hgg
  · intro x hx
    rcases List.mem_append.1 hx with hx | hx
    · exact h.wf x hx
    · rw [List.eq_of_mem_replicate hx]; omega

theorem alloc_fin {w w2 w3 : World} {p g nq g' cap' n : Nat} {room t : Int} {ws : List Int} (ha : HeapAt w3 p g' cap' room (ws ++ List.replicate (n + 1) 0)) (hg : (w.drewN nq).grownBy w2 (some g))
    (hne : g' = g ∨ (w.drewN nq).heap.size ≤ g') (hw : w2.setCell ⟨p, 0, none⟩ (.slice (some ⟨g', 0, none⟩) (ws.length + (n + 1)) cap') = w3) (hb : allocB ws room t n = true) :
    Hid (AllocDone w p g room ws t n (.returned (.tuple #[.int .u64 ws.length, .bool true])) (w3.setCell ⟨g', ws.length, none⟩ (.int .u64 (t * 4294967296 + n))).drew) := by
  refine Lib.hid ?_
  unfold AllocDone
  rw [hb, if_pos rfl]
  have h1 : isPartB t = true := by cases h1 : isPartB t <;> simp_all [allocB]
  obtain ⟨t0, t1⟩ := ispart_of h1
  have h2 : isPartB n = true := by cases h2 : isPartB n <;> simp_all [allocB]
  obtain ⟨n0, n1⟩ := ispart_of h2
  refine ⟨rfl, g', cap', ?_, hne, ?_⟩
  · have hp := (ha.put ws.length (t * 4294967296 + n) (by omega) (by omega)).drewN 1
    have e : (ws ++ List.replicate (n + 1) (0 : Int)).set ws.length (t * 4294967296 + n) = allocWs ws t n := by
      unfold allocWs headOf
      rw [List.set_append_right _ _ (Nat.le_refl _), Nat.sub_self, List.replicate_succ, List.set_cons_zero, Int.toNat_natCast]
    rw [e] at hp
    exact hp
  · subst hw
    have f0 : Fr (fun k => k = p ∨ k = g) w w2 := ((Fr.refl (fun k => k = p ∨ k = g) w).drewN nq).grown hg (fun k hk _ => .inr (Option.some.inj hk).symm)
    have f1 := f0.setCell (p := ⟨p, 0, none⟩) (fun _ => .inl rfl) (.slice (some ⟨g', 0, none⟩) (ws.length + (n + 1)) cap')
    refine (f1.setCell (p := ⟨g', ws.length, none⟩) ?_ (.int .u64 (t * 4294967296 + n))).drew
    intro hlt
    rcases hne with rfl | hle
    · exact .inr rfl
    · exact absurd hlt (by show ¬ g' < w.heap.size; exact Nat.not_lt.2 hle)

set_option maxHeartbeats 1000000 in
theorem alloc_yes {w : World} {p g cap : Nat} {room : Int} {ws : List Int} (h : HeapAt w p g cap room ws) (t n : Int) (hn : allocB ws room t n = true) :
    Calls Tryd.prog 49 #[.pointer (some ⟨p, 0, none⟩), .int .i64 t, .int .i64 n] w (AllocDone w p g room ws t n) := by
  have c1 := h.c1
  have c0 := h.c0
  have hs := h.small
  have hr := h.fits
  have hm := h.most
  have H := Lib.hid h
  have h1 : isPartB t = true := by cases h1 : isPartB t <;> simp_all [allocB]
  have h2 : isPartB n = true := by cases h2 : isPartB n <;> simp_all [allocB]
  have h3 : n < room - ws.length := by simpa [allocB, h1, h2] using hn
  obtain ⟨t0, t1⟩ := ispart_of h1
  obtain ⟨n0, n1⟩ := ispart_of h2
  have Hn := Lib.hid hn
  obtain ⟨n, rfl⟩ := Int.eq_ofNat_of_zero_le n0
  obtain ⟨i, hi, hz, hz1, hz2⟩ := info_parts info_word
  clear h hn
  go_enter Tryd.func49, Tryd.ntmps49
  go_wp2_with fail
  go_quiet ((first | (go_at_call 68; exact quietS (ispart_any _ _)) | (go_at_call 43; exact quietS (used_any (H.out.drewN _)))))
  obtain ⟨g', cap', w2, hrun, hown, hgrow, hg'⟩ := run_append_zeros_own (P := Tryd.prog) (w.drewN nq) 39 3 39 38 i (.int .u64 0) .i64 .i64 Tryd.underlying39 Tryd.underlying3 hi hz hz1 rfl rfl 0 g ws.length cap _ (H.out.drewN nq).row
    (n + 1) (by omega) (by unfold maxLen; omega) (by rw [hz2]; omega) (Nat.zero_le _)
  have HR := Lib.hid hrun
  have HA := Lib.hid ((H.out.drewN nq).grown (n + 1) g' cap' (by omega) hown hgrow hg')
  have HG := Lib.hid hgrow
  have Hg' := Lib.hid hg'
  have c02 := hgrow.cell (a := ⟨p, 0, none⟩) (H.out.drewN nq).c0 (by intro e; exact H.out.ne (Option.some.inj e))
  have f02 := (World.frozen?_of_block (a := ⟨p, 0, none⟩) (hgrow.block p H.out.ltp (by intro e; exact H.out.ne (Option.some.inj e)))).trans ((H.out.drewN nq).f0 0)
  clear hrun hown hgrow hg' hi hz hz1 hz2
  go_wp2_with (first | (go_at_call 43; refine (used_any (H.out.drewN nq)).mono ?_; rintro e w' ⟨rfl, rfl⟩) | (at_builtin; refine Lib.wpList_append_run _ rfl (.tmp 35) (.tmp 37) 39 3 rfl _ _ rfl rfl _ _ HR.out ?_))
  go_wp2_with fail
  generalize hw3 : w2.setCell ⟨p, 0, none⟩ (.slice (some ⟨g', 0, none⟩) (ws.length + (n + 1)) cap') = w3 at HA ⊢
  have Hw3 := Lib.hid hw3
  have hl3 : (ws ++ List.replicate (n + 1) (0 : Int)).length = ws.length + (n + 1) := by simp
  have c3 := HA.out.c0
  rw [hl3] at c3
  have cg := HA.out.word ws.length (by rw [hl3]; omega)
  have fg := HA.out.fg ws.length
  clear hw3 hl3 c02 f02 c0 c1
  go_region_with (go_at_call 69; refine (head_any t (n : Int) _ t0 t1 n0 n1).mono ?_; rintro e w' ⟨rfl, rfl⟩)
  all_goals go_wp2_with fail
  all_goals go_ret2

  all_goals exact (alloc_fin HA.out HG.out Hg'.out Hw3.out Hn.out).out


def AllocYes (w : World) (p g : Nat) (room : Int) (ws : List Int) (t n : Int) (e : Ending) (w' : World) : Prop :=
  e = .returned (.tuple #[.int .u64 ws.length, .bool true]) ∧ ∃ g' cap', HeapAt w' p g' cap' room (allocWs ws t n) ∧ (g' = g ∨ w.heap.size ≤ g') ∧ Fr (fun k => k = p ∨ k = g) w w'

theorem alloc_y {w : World} {p g cap : Nat} {room : Int} {ws : List Int} (h : HeapAt w p g cap room ws) (t n : Int) (hn : allocB ws room t n = true) :
    Calls Tryd.prog 49 #[.pointer (some ⟨p, 0, none⟩), .int .i64 t, .int .i64 n] w (AllocYes w p g room ws t n) :=
  (alloc_yes h t n hn).mono fun e w' hd => by
    unfold AllocDone at hd
    rw [hn, if_pos rfl] at hd
    exact hd

theorem alloc_n {w : World} {p g cap : Nat} {room : Int} {ws : List Int} (h : HeapAt w p g cap room ws) (t n : Int) (hn : allocB ws room t n = false) :
    Calls Tryd.prog 49 #[.pointer (some ⟨p, 0, none⟩), .int .i64 t, .int .i64 n] w
      fun e w' => e = .returned (.tuple #[.int .u64 0, .bool false]) ∧ ∃ m, w' = w.drewN m :=
  (alloc_no h t n hn).mono fun e w' hd => by
    unfold AllocDone at hd
    rw [hn, if_neg Bool.false_ne_true] at hd
    exact hd
end Go.Proofs.YtjeplkbdgphfoaaDoor
