/-
  Words and Copy of package heap.
-/
import Derived.Test.YtjeplkbdgphfoaaDoorHeapCE
import Derived.Test.YtjeplkbdgphfoaaDoorRows2
namespace Go.Proofs.YtjeplkbdgphfoaaDoor
open Go.RowKit
set_option maxRecDepth 100000

def WordsDone (w : World) (ws : List Int) (e : Ending) (w' : World) : Prop :=
  e = .returned (.slice (some ⟨w.heap.size, 0, none⟩) ws.length ws.length) ∧ w'.ownsRow 0 38 1 (.slice (some ⟨w.heap.size, 0, none⟩) ws.length ws.length) ws.length (ws.map (Value.int .u64)) ∧ Fr (fun _ => False) w w'

theorem size_word : (Tryd.prog.info? 38).map (·.size) = some 1 := by kernel_rfl

set_option maxHeartbeats 1000000 in
theorem words_any {w : World} {p g cap : Nat} {room : Int} {ws : List Int} (h : HeapAt w p g cap room ws) :
    Calls Tryd.prog 27 #[.pointer (some ⟨p, 0, none⟩)] w (WordsDone w ws) := by
  have c0 := h.c0
  have hs := h.small
  have H := Lib.hid h
  obtain ⟨i, hi, hz, hz1, hz2⟩ := info_parts info_word
  have hb2 : i.bytes * ws.length ≤ 281474976710656 := by rw [hz2]; omega
  have hm : ws.length ≤ maxLen := by unfold maxLen; omega
  clear h hz2
  go_enter Tryd.func27, Tryd.ntmps27
  go_wp2_with (at_make; refine wpList_make_full _ rfl _ _ 39 rfl 0 38 i (.int .u64 0) 1 Tryd.underlying39 hi hz hz1 _ _ _ _ ws.length rfl rfl rfl rfl hb2 hm (Nat.zero_le _) ?_)
  intro w1 hown hgrow
  have hcell := hgrow.cell c0 (by simp)
  have Hown := Lib.hid hown
  have F1 := Lib.hid (((Fr.refl (fun _ => False) w)).grown hgrow (by simp))
  have H1 := Lib.hid (H.out.kept F1.out (fun h => h) (fun h => h))
  clear hown hgrow hi hz hz1 hb2 hm
  have hsrc : ∀ j v, (ws.map (Value.int .u64))[j]? = some v → w1.cell? ((⟨g, 0, none⟩ : Addr).add j) = some v := H1.out.row.cells (g := g) rfl
  have Hsrc := Lib.hid hsrc
  clear hsrc
  go_wp2_with (with_reducible refine wpList_copy_whole (o := ⟨some 15, _, _, _, _, _⟩) rfl (.tmp 10) (.tmp 14) 39 39 rfl 38 Tryd.underlying39 size_word 0 w.heap.size ws.length ws.length 38 _ rfl Hown.out ⟨g, 0, none⟩ cap rfl (ws.map (Value.int .u64)) (by simp) Hsrc.out (ints_oneCell _ _) ?_)
  intro w2 hown2 hgrow2
  have F2 := Lib.hid (F1.out.grown hgrow2 (by intro k hk hlt; have := Option.some.inj hk; omega))
  have Hown2 := Lib.hid hown2
  clear hown2 hgrow2
  go_wp2_with fail
  go_ret
  exact ⟨rfl, Hown2.out, F2.out⟩
end Go.Proofs.YtjeplkbdgphfoaaDoor
