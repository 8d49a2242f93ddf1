/-
  The law's own 'words': two rows of the same words are the same.
-/
import Derived.Test.YtdffjojpnonanaaHeapG
namespace Go.Proofs.Ytdffjojpnonanaa
open Go.RowKit

/-- A slice whose cells hold the words ws. -/
def Holds (w : World) (g : Nat) (ws : List Int) : Prop := ∀ j, j < ws.length → w.cell? ⟨g, j, none⟩ = some (.int .u64 (wordAt ws j))

theorem Holds.of {w : World} {base e g cap : Nat} {ws : List Int} (h : w.ownsRow base e 1 (.slice (some ⟨g, 0, none⟩) ws.length cap) ws.length (ws.map (Value.int .u64))) : Holds w g ws := by
  intro j hj
  rw [h.cellAt j (by omega)]
  simp [wordAt, hj]

theorem Holds.drewN {w : World} {g : Nat} {ws : List Int} (h : Holds w g ws) (n : Nat) : Holds (w.drewN n) g ws := h

set_option maxHeartbeats 1000000 in
theorem words_eq {w : World} {g1 g2 c1 c2 : Nat} {ws : List Int} (hl : ws.length ≤ 65536) (h1 : Holds w g1 ws) (h2 : Holds w g2 ws) :
    Calls Try.prog 35 #[.slice (some ⟨g1, 0, none⟩) ws.length c1, .slice (some ⟨g2, 0, none⟩) ws.length c2] w fun e w' => e = .returned (.bool true) ∧ ∃ m, w' = w.drewN m := by
  have H1 := Lib.hid h1
  have H2 := Lib.hid h2
  clear h1 h2
  go_enter Try.func35, Try.ntmps35
  go_wp2_with fail
  go_loopw [5] (fun i wr => ∃ k : Nat, k ≤ ws.length ∧ i = .int .i64 k ∧ Hid (∃ m, wr = w.drewN m)) (fun i _ => ws.length - (intOf i).toNat)
  case atStart => exact ⟨0, Nat.zero_le _, rfl, Lib.hid ⟨0, rfl⟩⟩
  case round =>
    obtain ⟨k, hk, rfl, hm⟩ := hrel
    obtain ⟨m, rfl⟩ := hm.out
    clear hm
    by_cases hlt : k < ws.length
    · have e1 := H1.out k hlt
      have e2 := H2.out k hlt
      go_wp2_with fail
      go_quiet (fail)
      go_wp2_with fail
      go_roundw
      case rel => exact ⟨k + 1, by omega, by go_num, Lib.hid ⟨_, rfl⟩⟩
      case measure => simp [intOf]; omega
    · go_wp2_with fail
      go_ret
      exact ⟨rfl, m, rfl⟩
end Go.Proofs.Ytdffjojpnonanaa
