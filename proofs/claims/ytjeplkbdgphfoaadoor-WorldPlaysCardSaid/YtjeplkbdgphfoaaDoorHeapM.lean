/-
  Plain facts on lists of words: a text laid word by word, and read back.
-/
import Derived.Test.YtjeplkbdgphfoaaDoorHeapCE
namespace Go.Proofs.YtjeplkbdgphfoaaDoor
open Go.RowKit

def bts (s : ByteArray) : List Int := s.data.toList.map fun b => (b.toNat : Int)
theorem length_bts (s : ByteArray) : (bts s).length = s.size := by simp [bts]
theorem bts_at (s : ByteArray) (k : Nat) (h : k < s.size) : (bts s)[k]? = some ((s[k].toNat : Nat) : Int) := by
  unfold bts
  rw [List.getElem?_map, Array.getElem?_toList, Array.getElem?_eq_getElem (by simpa using h)]
  rfl
theorem bts_bd (s : ByteArray) : ∀ x ∈ bts s, 0 ≤ x ∧ x ≤ 255 := by
  intro x hx
  obtain ⟨b, _, rfl⟩ := List.mem_map.1 hx
  have := b.toNat_lt
  omega

/-- ws with an object behind it, of which k words are laid. -/
def laid (ws : List Int) (hd : Int) (l : List Int) (k : Nat) : List Int := ws ++ hd :: (l.take k ++ List.replicate (l.length - k) 0)

theorem laid_zero (ws : List Int) (hd : Int) (l : List Int) : laid ws hd l 0 = ws ++ hd :: List.replicate l.length 0 := by simp [laid]
theorem laid_all (ws : List Int) (hd : Int) (l : List Int) : laid ws hd l l.length = ws ++ hd :: l := by simp [laid]
theorem length_laid (ws : List Int) (hd : Int) (l : List Int) (k : Nat) (h : k ≤ l.length) : (laid ws hd l k).length = ws.length + 1 + l.length := by
  simp [laid, List.length_take]; omega

theorem wordAt_nat (ws : List Int) (k : Nat) : wordAt ws (k : Int) = ws.getD k 0 := by
  unfold wordAt; rw [if_pos (Int.natCast_nonneg k)]; rfl

theorem wordAt_head (ws : List Int) (hd : Int) (l : List Int) : wordAt (ws ++ hd :: l) (ws.length : Int) = hd := by
  rw [wordAt_nat]; simp

theorem wordAt_behind (ws : List Int) (hd : Int) (l : List Int) (i : Nat) : wordAt (ws ++ hd :: l) ((ws.length + 1 + i : Nat) : Int) = l.getD i 0 := by
  rw [wordAt_nat]
  simp only [List.getD_eq_getElem?_getD]
  rw [List.getElem?_append_right (by omega), show ws.length + 1 + i - ws.length = i + 1 from by omega, List.getElem?_cons_succ]

theorem wordAt_prefix (ws l : List Int) (a : Int) (h : a < ws.length) : wordAt (ws ++ l) a = wordAt ws a := by
  unfold wordAt
  split
  · simp only [List.getD_eq_getElem?_getD]
    rw [List.getElem?_append_left (by omega)]
  · rfl

theorem laid_step (ws : List Int) (hd : Int) (l : List Int) (k : Nat) (v : Int) (h : l[k]? = some v) :
    (laid ws hd l k).set (ws.length + 1 + k) v = laid ws hd l (k + 1) := by
  have hk : k < l.length := (List.getElem?_eq_some_iff.1 h).1
  unfold laid
  rw [List.set_append_right _ _ (by omega), show ws.length + 1 + k - ws.length = k + 1 from by omega, List.set_cons_succ]
  congr 2
  have e : l.length - k = (l.length - (k + 1)) + 1 := by omega
  rw [List.set_append_right _ _ (by rw [List.length_take]; omega), List.length_take, Nat.min_eq_left (by omega), Nat.sub_self, e, List.replicate_succ, List.set_cons_zero,
    List.take_add_one, h]
  simp

theorem headOf_len (t : Int) (n : Nat) (h : (n : Int) < 4294967296) : headOf t n % 4294967296 = n := by unfold headOf; omega
theorem headOf_type (t : Int) (n : Nat) (h : (n : Int) < 4294967296) : headOf t n / 4294967296 = t := by unfold headOf; omega

theorem hlenOf_laid (ws : List Int) (t : Int) (l : List Int) (k : Nat) (h : (l.length : Int) < 4294967296) : hlenOf (laid ws (headOf t l.length) l k) ws.length = l.length := by
  unfold hlenOf laid
  rw [wordAt_head]
  exact headOf_len t _ h

theorem hplaceOf_laid (ws : List Int) (t : Int) (l : List Int) (k i : Nat) (h : (l.length : Int) < 4294967296) (hi : i < l.length) :
    hplaceOf (laid ws (headOf t l.length) l k) ws.length i = ((ws.length + 1 + i : Nat) : Int) := by
  unfold hplaceOf
  rw [hlenOf_laid _ _ _ _ h, if_pos (by omega)]
  omega

theorem allocWs_laid (ws : List Int) (t : Int) (l : List Int) : allocWs ws t l.length = laid ws (headOf t l.length) l 0 := by
  rw [laid_zero]; simp [allocWs]

end Go.Proofs.YtjeplkbdgphfoaaDoor
