/-
  String of package heap.
-/
import Derived.Test.YtjeplkbdgphfoaaDoorHeapT
namespace Go.Proofs.YtjeplkbdgphfoaaDoor
open Go.RowKit
set_option maxRecDepth 100000

def readOf (ws : List Int) (a : Int) (n : Nat) : List Int := (List.range n).map fun i : Nat => getOf ws a i % 256
theorem length_readOf (ws : List Int) (a : Int) (n : Nat) : (readOf ws a n).length = n := by simp [readOf]
theorem readOf_at (ws : List Int) (a : Int) (n k : Nat) (h : k < n) : (readOf ws a n)[k]? = some (getOf ws a k % 256) := by
  simp [readOf, h]

/-- A row of which k are set. -/
def partly (l : List Int) (k : Nat) : List Int := l.take k ++ List.replicate (l.length - k) 0
theorem partly_zero (l : List Int) : partly l 0 = List.replicate l.length 0 := by simp [partly]
theorem partly_all (l : List Int) : partly l l.length = l := by simp [partly]
theorem partly_step (l : List Int) (k : Nat) (v : Int) (h : l[k]? = some v) : (partly l k).set k v = partly l (k + 1) := by
  have hk : k < l.length := (List.getElem?_eq_some_iff.1 h).1
  unfold partly
  have e : l.length - k = (l.length - (k + 1)) + 1 := by omega
  rw [List.set_append_right _ _ (by rw [List.length_take]; omega), List.length_take, Nat.min_eq_left (by omega), Nat.sub_self, e, List.replicate_succ, List.set_cons_zero,
    List.take_add_one, h]
  simp

theorem strOf_bts (s : ByteArray) : strOfNums (bts s) = s := by
  obtain ⟨⟨l⟩⟩ := s
  have e : ((bts ⟨⟨l⟩⟩).map fun n => UInt8.ofNat n.toNat) = l := by
    unfold bts
    rw [List.map_map]
    conv => rhs; rw [← List.map_id l]
    apply List.map_congr_left
    intro b _
    simp
  unfold strOfNums
  rw [e]

theorem getOf_bd {ws : List Int} (h : ∀ x ∈ ws, 0 ≤ x ∧ x ≤ 18446744073709551615) (a i : Int) : 0 ≤ getOf ws a i ∧ getOf ws a i ≤ 18446744073709551615 := wordAt_wf h _

theorem info_byte : (Tryd.prog.info? 5).map (fun i => (i.zero, i.size, i.bytes)) = some (some (.int .u8 0), 1, 1) := by kernel_rfl

set_option maxHeartbeats 1000000 in
theorem read_any {w : World} {p g c : Nat} {room : Int} {ws : List Int} (h : HeapAt w p g c room ws) (a : Int) (ha : 0 ≤ a) (n : Nat) (hn : n ≤ 65536) :
    Calls Tryd.prog 64 #[.int .u64 a, .int .i64 n, .func (.func 66) #[.pointer (some ⟨p, 0, none⟩)] #[]] w
      fun e w' => e = .returned (.string (strOfNums (readOf ws a n))) ∧ Fr (fun _ => False) w w' := by
  have H := Lib.hid h
  obtain ⟨i, hi, hz, hz1, hz2⟩ := info_parts info_byte
  have hb2 : i.bytes * n ≤ 281474976710656 := by rw [hz2]; omega
  have hm : n ≤ maxLen := by unfold maxLen; omega
  clear h hz2
  go_enter Tryd.func64, Tryd.ntmps64
  go_wp2_with (at_make; refine wpList_make_full _ rfl _ _ 90 rfl 0 5 i (.int .u8 0) 1 Tryd.underlying90 hi hz hz1 _ _ _ _ n rfl rfl rfl rfl hb2 hm (Nat.zero_le _) ?_)
  intro w1 hown hgrow
  have hown0 : w1.ownsRow 0 5 1 (.slice (some ⟨w.heap.size, 0, none⟩) n n) n ((partly (readOf ws a n) 0).map (Value.int .u8)) := by
    have e : (madeCells #[Value.int .u8 0] n).toList = (partly (readOf ws a n) 0).map (Value.int .u8) := by
      rw [partly_zero, length_readOf, List.map_replicate]
      exact toList_madeCells_one _ _
    rw [← e]
    exact hown
  have H0 := Lib.hid (And.intro hown0 (((Fr.refl (fun _ => False) w)).grown hgrow (by simp)))
  clear hown hown0 hgrow hi hz hz1 hb2 hm
  go_wp2_with fail
  go_loopw [13] (fun j wr => ∃ k : Nat, k ≤ n ∧ j = .int .i64 k ∧ Hid (wr.ownsRow 0 5 1 (.slice (some ⟨w.heap.size, 0, none⟩) n n) n ((partly (readOf ws a n) k).map (Value.int .u8)) ∧ Fr (fun _ => False) w wr)) (fun j _ => n - (intOf j).toNat)
  case atStart => exact ⟨0, Nat.zero_le _, rfl, H0⟩
  case round =>
    obtain ⟨k, hk, rfl, hR⟩ := hrel
    clear H0
    by_cases hlt : k < n
    · have hw := hR.out.2
      have Hh := Lib.hid (H.out.kept hR.out.2 (fun h => h) (fun h => h))
      obtain ⟨hb0, hb1⟩ := getOf_bd H.out.wf a k
      have hc : ∃ v, wr.cell? ⟨w.heap.size, k, none⟩ = some v := by
        rw [hR.out.1.cellAt k (by omega)]
        have hl := hR.out.1.1
        exact ⟨_, List.getElem?_eq_getElem (by omega)⟩
      obtain ⟨v, hc⟩ := hc
      have hfz := hR.out.1.frozenAt k
      have hst := hR.out.1.stored k (.int .u8 (getOf ws a k % 256))
      have hS : Hid ((wr.setCell ⟨w.heap.size, k, none⟩ (.int .u8 (getOf ws a k % 256))).ownsRow 0 5 1 (.slice (some ⟨w.heap.size, 0, none⟩) n n) n ((partly (readOf ws a n) (k + 1)).map (Value.int .u8)) ∧
          Fr (fun _ => False) w (wr.setCell ⟨w.heap.size, k, none⟩ (.int .u8 (getOf ws a k % 256)))) := Lib.hid (by
        rw [← partly_step _ k _ (readOf_at ws a n k hlt), List.map_set]
        exact ⟨hst.1, hw.setCell (p := ⟨w.heap.size, k, none⟩) (fun hh => absurd hh (Nat.lt_irrefl _)) _⟩)
      clear hst hw
      generalize hy : getOf ws a k = y at *
      have Hy := Lib.hid hy
      clear hy
      go_wp2_with fail
      refine (get_any Hh.out a k ha).mono ?_
      rintro e w2 ⟨rfl, rfl⟩
      rw [Hy.out]
      go_wp2_with fail
      go_roundw
      case rel => exact ⟨k + 1, by omega, by go_num, hS⟩
      case measure => simp [intOf]; omega
    · obtain rfl : k = n := by omega
      have hcell : ∀ i, i < k → wr.cell? ⟨w.heap.size, 0 + i, none⟩ = some (.int .u8 ((readOf ws a k).getD i 0)) := by
        intro i hi
        rw [Nat.zero_add, hR.out.1.cellAt i (by omega), show partly (readOf ws a k) k = readOf ws a k by have := partly_all (readOf ws a k); rw [length_readOf] at this; exact this]
        simp [List.getD_eq_getElem?_getD, readOf_at ws a k i hi]
      have hcv := run_convert_bytes_arg (P := Tryd.prog) wr 90 5 Tryd.underlying90 Tryd.underlying5 w.heap.size 0 k k (readOf ws a k) (length_readOf ws a k) hcell 9 Tryd.underlying9
      have F := Lib.hid hR.out.2
      clear hcell hR
      obtain ⟨res, hres⟩ : ∃ res, res = strOfNums (readOf ws a k) := ⟨_, rfl⟩
      rw [← hres] at hcv
      have Hres := Lib.hid hres
      clear hres
      go_wp2_with fail
      go_ret
      exact ⟨by rw [← Hres.out]; rfl, F.out⟩

def strAt (ws : List Int) (a : Int) : ByteArray := strOfNums (readOf ws a (min (hlenOf ws a).toNat ws.length))

set_option maxHeartbeats 1000000 in
theorem string_any {w : World} {p g c : Nat} {room : Int} {ws : List Int} (h : HeapAt w p g c room ws) (a : Int) (ha : 0 ≤ a) :
    Calls Tryd.prog 47 #[.pointer (some ⟨p, 0, none⟩), .int .u64 a] w fun e w' => e = .returned (.string (strAt ws a)) ∧ Fr (fun _ => False) w w' := by
  have hs := h.small
  have hl := lenOf_bd ws a
  have H := Lib.hid h
  clear h
  by_cases hle : hlenOf ws a ≤ ws.length
  · have e : Hid (strAt ws a = strOfNums (readOf ws a (hlenOf ws a).toNat)) := Lib.hid (by unfold strAt; rw [Nat.min_eq_left (by omega)])
    obtain ⟨n, hn⟩ := Int.eq_ofNat_of_zero_le hl.1
    have Hn := Lib.hid hn
    have hnl : n ≤ ws.length := by omega
    clear hn
    go_enter Tryd.func47, Tryd.ntmps47
    go_wp2_with fail
    refine (len_any H.out a ha).mono ?_
    rintro e w1 ⟨rfl, rfl⟩
    go_wp2_with fail
    refine (used_any H.out).mono ?_
    rintro e w1 ⟨rfl, rfl⟩
    go_wp2_with fail
    rw [Hn.out]
    refine (read_any H.out a ha n (by omega)).mono ?_
    rintro e w1 ⟨rfl, f1⟩
    have F1 := Lib.hid f1
    clear f1
    go_wp2_with fail
    go_ret
    exact ⟨by rw [e.out, Hn.out, Int.toNat_natCast]; rfl, F1.out⟩
  · have e : Hid (strAt ws a = strOfNums (readOf ws a ws.length)) := Lib.hid (by unfold strAt; rw [Nat.min_eq_right (by omega)])
    have hgt : (ws.length : Int) < hlenOf ws a := by omega
    clear hle
    go_enter Tryd.func47, Tryd.ntmps47
    go_wp2_with fail
    refine (len_any H.out a ha).mono ?_
    rintro e w1 ⟨rfl, rfl⟩
    go_wp2_with fail
    refine (used_any H.out).mono ?_
    rintro e w1 ⟨rfl, rfl⟩
    go_wp2_with fail
    refine (read_any H.out a ha ws.length hs).mono ?_
    rintro e w1 ⟨rfl, f1⟩
    have F1 := Lib.hid f1
    clear f1
    go_wp2_with fail
    go_ret
    exact ⟨by rw [e.out]; rfl, F1.out⟩
end Go.Proofs.YtjeplkbdgphfoaaDoor
