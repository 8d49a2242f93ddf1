/-
  Texts that lie among words: what String reads of them.
-/
import Derived.Test.YtjeplkbdgphfoaaDoorHeapS
namespace Go.Proofs.YtjeplkbdgphfoaaDoor
open Go.RowKit

/-- A text that lies in the words ws at r. -/
def TextAt (ws : List Int) (r : Int) (s : ByteArray) : Prop :=
  (s.size = 0 ∧ r = 0) ∨ (0 < s.size ∧ ∃ A B : List Int, r = A.length ∧ ws = A ++ headOf 3 (bts s).length :: (bts s ++ B))

theorem TextAt.grow {ws : List Int} {r : Int} {s : ByteArray} (h : TextAt ws r s) (l : List Int) : TextAt (ws ++ l) r s := by
  rcases h with h | ⟨h, A, B, hr, hw⟩
  · exact .inl h
  · exact .inr ⟨h, A, B ++ l, hr, by rw [hw]; simp⟩

theorem TextAt.new (ws : List Int) (s : ByteArray) (h : 0 < s.size) : TextAt (textWs ws s) ws.length s :=
  .inr ⟨h, ws, [], rfl, by simp [textWs]⟩

theorem TextAt.len {ws : List Int} {r : Int} {s : ByteArray} (h : TextAt ws r s) (h0 : wordAt ws 0 = 0) (hs : s.size ≤ 65536) : hlenOf ws r = s.size := by
  rcases h with ⟨h, rfl⟩ | ⟨h, A, B, rfl, rfl⟩
  · unfold hlenOf; rw [h0, h]; rfl
  · unfold hlenOf
    rw [wordAt_head, headOf_len _ _ (by rw [length_bts]; omega), length_bts]

theorem TextAt.str {ws : List Int} {r : Int} {s : ByteArray} (h : TextAt ws r s) (h0 : wordAt ws 0 = 0) (hs : s.size ≤ 65536) : strAt ws r = s := by
  have hl := h.len h0 hs
  unfold strAt
  rw [hl, Int.toNat_natCast]
  rw [← strOf_bts s]
  congr 1
  rcases h with ⟨h, rfl⟩ | ⟨h, A, B, rfl, rfl⟩
  · rw [strOf_bts, h, Nat.zero_min]
    have : bts s = [] := List.eq_nil_of_length_eq_zero (by rw [length_bts, h])
    rw [this]; rfl
  · rw [strOf_bts, Nat.min_eq_left (by simp [length_bts]; omega)]
    apply List.ext_getElem?
    intro k
    by_cases hk : k < s.size
    · rw [readOf_at _ _ _ _ hk]
      have hp : hplaceOf (A ++ headOf 3 (bts s).length :: (bts s ++ B)) A.length k = ((A.length + 1 + k : Nat) : Int) := by
        unfold hplaceOf
        rw [hl, if_pos (by omega)]
        omega
      unfold getOf
      rw [hp, wordAt_behind, List.getD_eq_getElem?_getD, List.getElem?_append_left (by rw [length_bts]; exact hk), bts_at s k hk]
      have := s[k].toNat_lt
      simp only [Option.getD_some]
      rw [Int.emod_eq_of_lt (by omega) (by omega)]
    · rw [List.getElem?_eq_none (by rw [length_readOf]; omega), List.getElem?_eq_none (by rw [length_bts]; omega)]

end Go.Proofs.YtjeplkbdgphfoaaDoor
