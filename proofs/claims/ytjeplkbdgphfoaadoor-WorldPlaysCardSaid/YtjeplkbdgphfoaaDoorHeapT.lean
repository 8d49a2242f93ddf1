/-
  Text of package heap.
-/
import Derived.Test.YtjeplkbdgphfoaaDoorHeapG
import Derived.Test.YtjeplkbdgphfoaaDoorHeapM
import Derived.OpenShut
namespace Go.Proofs.YtjeplkbdgphfoaaDoor
open Go.RowKit
set_option maxRecDepth 100000

theorem put_laid {w' : World} {p g c : Nat} {room : Int} {ws l : List Int} {t v : Int} {k : Nat} (hl : (l.length : Int) < 4294967296) (hk : l[k]? = some v)
    (h : HeapAt w' p g c room (putOf (laid ws (headOf t l.length) l k) (hplaceOf (laid ws (headOf t l.length) l k) ws.length k) v)) : HeapAt w' p g c room (laid ws (headOf t l.length) l (k + 1)) := by
  have hkl : k < l.length := (List.getElem?_eq_some_iff.1 hk).1
  rw [hplaceOf_laid _ _ _ _ _ hl hkl] at h
  unfold putOf at h
  rw [if_pos (by omega), Int.toNat_natCast, laid_step _ _ _ _ _ hk] at h
  exact h

set_option maxHeartbeats 1000000 in
theorem spell_any {w : World} {p g c : Nat} {room : Int} {ws : List Int} {t : Int} (s : ByteArray) (h : HeapAt w p g c room (laid ws (headOf t (bts s).length) (bts s) 0)) :
    Calls Tryd.prog 59 #[.string s, .int .u64 ws.length, .func (.func 60) #[.pointer (some ⟨p, 0, none⟩)] #[]] w
      fun e w' => e = .returned (.tuple #[]) ∧ HeapAt w' p g c room (ws ++ headOf t (bts s).length :: bts s) ∧ Fr (fun k => k = g) w w' := by
  have hsm := h.small
  rw [length_laid _ _ _ _ (by omega), length_bts] at hsm
  have hsz : s.size ≤ 65536 := by omega
  have H := Lib.hid h
  clear h
  go_enter Tryd.func59, Tryd.ntmps59
  go_wp2_with fail
  go_loopw [9] (fun i wr => ∃ k : Nat, k ≤ s.size ∧ i = .int .i64 k ∧ Hid (HeapAt wr p g c room (laid ws (headOf t (bts s).length) (bts s) k) ∧ Fr (fun k => k = g) w wr)) (fun i _ => s.size - (intOf i).toNat)
  case atStart => exact ⟨0, Nat.zero_le _, rfl, Lib.hid ⟨H.out, Fr.refl _ _⟩⟩
  case round =>
    obtain ⟨k, hk, rfl, hR⟩ := hrel
    by_cases hlt : k < s.size
    · have hb := Lib.hid (bts_at s k hlt)
      have hb1 := s[k].toNat_lt
      go_wp2_with fail
      refine (set_any hR.out.1 ws.length k _ (by omega) (by omega) (by omega)).mono ?_
      rintro e w1 ⟨rfl, h1, f1⟩
      have hS := Lib.hid (And.intro (put_laid (by rw [length_bts]; omega) hb.out h1) (hR.out.2.trans f1 (fun _ _ h => h)))
      clear h1 f1
      go_wp2_with fail
      go_roundw
      case rel => exact ⟨k + 1, by omega, by go_num, hS⟩
      case measure => simp [intOf]; omega
    · obtain rfl : k = s.size := by omega
      have hfin : Hid (HeapAt wr p g c room (ws ++ headOf t (bts s).length :: bts s)) := by
        have := hR.out.1
        rw [← length_bts s, laid_all] at this
        exact Lib.hid this
      go_wp2_with fail
      go_end0
      exact ⟨rfl, hfin.out, hR.out.2⟩

def textWs (ws : List Int) (s : ByteArray) : List Int := ws ++ headOf 3 (bts s).length :: bts s

theorem empty_of {s : ByteArray} (h : s.size = 0) : s.toList.isEmpty = true := by
  rw [ByteArray.toList_eq, List.isEmpty_iff, ← List.length_eq_zero_iff]
  simpa using h
theorem notEmpty_of {s : ByteArray} (h : 0 < s.size) : s.toList.isEmpty = false := by
  rw [ByteArray.toList_eq]
  cases hl : s.data.toList with
  | nil =>
    have : s.size = 0 := by
      have := congrArg List.length hl
      simpa using this
    omega
  | cons x l => rfl

theorem text_empty {w : World} (p : Nat) (s : ByteArray) (hs : s.size = 0) :
    Calls Tryd.prog 37 #[.pointer (some ⟨p, 0, none⟩), .string s] w fun e w' => e = .returned (.tuple #[.int .u64 0, .bool true]) ∧ w = w' := by
  have hne : s.toList.isEmpty = true := empty_of hs
  have hs1 : s.size ≤ 1 := by omega
  clear hs
  go_enter Tryd.func37, Tryd.ntmps37
  go_wp2_with fail
  go_ret2
  exact ⟨rfl, rfl⟩

set_option maxHeartbeats 1000000 in
theorem text_any {w : World} {p g cap : Nat} {room : Int} {ws : List Int} (h : HeapAt w p g cap room ws) (s : ByteArray) (hs : 0 < s.size) (hy : allocB ws room 3 s.size = true) :
    Calls Tryd.prog 37 #[.pointer (some ⟨p, 0, none⟩), .string s] w fun e w' => e = .returned (.tuple #[.int .u64 ws.length, .bool true]) ∧
      ∃ g' c', HeapAt w' p g' c' room (textWs ws s) ∧ (g' = g ∨ w.heap.size ≤ g') ∧ Fr (fun k => k = p ∨ k = g) w w' := by
  have H := Lib.hid h
  have hfit := h.small
  clear h
  have hsz : s.size ≤ 1048576 := by
    have : isPartB s.size = true := by cases hh : isPartB s.size <;> simp_all [allocB]
    have := ispart_of this
    omega
  have hne : s.toList.isEmpty = false := notEmpty_of hs
  go_enter Tryd.func37, Tryd.ntmps37
  go_wp2_with fail
  refine (alloc_y H.out 3 s.size hy).mono ?_
  rintro e w1 ⟨rfl, g1, c1, h1, hg1, f1⟩
  rw [← length_bts s, allocWs_laid] at h1
  have H1 := Lib.hid h1
  have G1 := Lib.hid hg1
  have F1 := Lib.hid f1
  clear h1 hg1 f1
  go_wp2_with fail
  refine (spell_any s H1.out).mono ?_
  rintro e w2 ⟨rfl, h2, f2⟩
  have H2 := Lib.hid h2
  have F2 := Lib.hid f2
  clear h2 f2
  go_wp2_with fail
  go_ret2
  refine ⟨rfl, g1, c1, H2.out, G1.out, F1.out.trans F2.out ?_⟩
  intro i hi hh
  have := G1.out
  omega
end Go.Proofs.YtjeplkbdgphfoaaDoor
