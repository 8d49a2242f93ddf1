/-
  The law's own 'same'.
-/
import Derived.Test.YtdffjojpnonanaaRefC
namespace Go.Proofs.Ytdffjojpnonanaa
open Go.RowKit

def mixed (ws : List Int) (k : Nat) : List Int := List.replicate k 77 ++ ws.drop k
theorem mixed_at (ws : List Int) (k : Nat) (h : k < ws.length) : (mixed ws k)[k]? = some (wordAt ws k) := by
  unfold mixed
  rw [List.getElem?_append_right (by simp), List.length_replicate, Nat.sub_self, List.getElem?_drop, Nat.add_zero, wordAt_nat, List.getD_eq_getElem?_getD, List.getElem?_eq_getElem h]
  rfl
theorem mixed_step (ws : List Int) (k : Nat) (h : k < ws.length) : (mixed ws k).set k 77 = mixed ws (k + 1) := by
  unfold mixed
  rw [List.set_append_right _ _ (by simp), List.length_replicate, Nat.sub_self, List.drop_eq_getElem_cons h, List.set_cons_zero, List.replicate_succ']
  simp
theorem length_mixed (ws : List Int) (k : Nat) (h : k ≤ ws.length) : (mixed ws k).length = ws.length := by simp [mixed]; omega

set_option maxHeartbeats 1000000 in
theorem same_any {w : World} {p g c p2 g2 c2 : Nat} {room : Int} {ws : List Int} (h : HeapAt w p g c room ws) (h2 : RefAt w p2 g2 c2 room ws) :
    Calls Try.prog 24 #[.pointer (some ⟨p, 0, none⟩), .pointer (some ⟨p2, 0, none⟩)] w fun e w' => e = .returned (.bool true) ∧ Fr (fun _ => False) w w' := by
  have hs := h.small
  have H := Lib.hid h
  have H2 := Lib.hid h2
  clear h h2
  go_enter Try.func24, Try.ntmps24
  go_wp2_with fail
  refine (words_any H.out).mono ?_
  rintro e w1 ⟨rfl, ho1, f1⟩
  have O1 := Lib.hid (And.intro ho1 f1)
  have H21 := Lib.hid (H2.out.kept f1 (fun h => h) (fun h => h))
  have H11 := Lib.hid (H.out.kept f1 (fun h => h) (fun h => h))
  have c1 := H21.out.c1
  clear ho1 f1
  go_wp2_with fail
  go_quiet ((go_at_call 34; exact quietS (used_any (H11.out.drewN _))))
  have O2 : Hid ((w1.drewN nq).ownsRow 0 27 1 (.slice (some ⟨w.heap.size, 0, none⟩) ws.length ws.length) ws.length ((mixed ws 0).map (Value.int .u64)) ∧ Fr (fun _ => False) w (w1.drewN nq)) := Lib.hid
    ⟨O1.out.1, O1.out.2.drewN nq⟩
  clear O1 c1
  go_wp2_with fail
  go_loopw [6] (fun i wr => ∃ k : Nat, i = .int .i64 k ∧ k ≤ ws.length ∧ Hid (wr.ownsRow 0 27 1 (.slice (some ⟨w.heap.size, 0, none⟩) ws.length ws.length) ws.length ((mixed ws k).map (Value.int .u64)) ∧ Fr (fun _ => False) w wr)) (fun i _ => ws.length - (intOf i).toNat)
  case atStart => exact ⟨0, rfl, Nat.zero_le _, O2⟩
  case round =>
    obtain ⟨k, rfl, hk, hR⟩ := hrel
    clear O2
    by_cases hlt : k < ws.length
    · have h2r := H2.out.kept hR.out.2 (fun h => h) (fun h => h)
      have c1 := h2r.c1
      have cg := h2r.word k hlt
      have cw : wr.cell? ⟨w.heap.size, k, none⟩ = some (.int .u64 (wordAt ws k)) := by
        rw [hR.out.1.cellAt k (by omega), List.getElem?_map, mixed_at ws k hlt]; rfl
      have fw := hR.out.1.frozenAt k
      have hst := hR.out.1.stored k (.int .u64 77)
      clear h2r
      go_wp2_with fail
      go_quiet (fail)
      have hS : Hid (((wr.drewN nq).setCell ⟨w.heap.size, k, none⟩ (.int .u64 77)).ownsRow 0 27 1 (.slice (some ⟨w.heap.size, 0, none⟩) ws.length ws.length) ws.length ((mixed ws (k + 1)).map (Value.int .u64)) ∧ Fr (fun _ => False) w ((wr.drewN nq).setCell ⟨w.heap.size, k, none⟩ (.int .u64 77))) := Lib.hid (by
        refine ⟨?_, (hR.out.2.drewN nq).setCell (p := ⟨w.heap.size, k, none⟩) (fun hh => absurd hh (Nat.lt_irrefl _)) _⟩
        rw [← mixed_step ws k hlt, List.map_set]
        exact (World.ownsRow.stored (w := wr.drewN nq) hR.out.1 k (.int .u64 77)).1)
      clear hst
      go_wp2_with fail
      go_roundw
      case rel => exact ⟨k + 1, by go_num, by omega, hS⟩
      case measure => simp [intOf]; omega
    · go_wp2_with fail
      go_ret
      exact ⟨rfl, hR.out.2⟩
end Go.Proofs.Ytdffjojpnonanaa
