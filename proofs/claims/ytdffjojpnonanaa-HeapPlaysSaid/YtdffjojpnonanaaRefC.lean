/-
  The reference heap: texts; and 'same'.
-/
import Derived.Test.YtdffjojpnonanaaRefB
import Derived.Test.YtdffjojpnonanaaWordsEq
namespace Go.Proofs.Ytdffjojpnonanaa
open Go.RowKit

set_option maxHeartbeats 1000000 in
theorem text_no {w : World} {p g cap : Nat} {room : Int} {ws : List Int} (h : HeapAt w p g cap room ws) (s : ByteArray) (_hsz : s.size ≤ 9223372036854775807) (hs : 0 < s.size) (hy : allocB ws room 3 s.size = false) :
    Calls Try.prog 11 #[.pointer (some ⟨p, 0, none⟩), .string s] w fun e w' => e = .returned (.tuple #[.int .u64 0, .bool false]) ∧ ∃ m, w' = w.drewN m := by
  have H := Lib.hid h
  clear h
  have hne : s.toList.isEmpty = false := notEmpty_of hs
  go_enter Try.func11, Try.ntmps11
  go_wp2_with fail
  refine (alloc_n H.out 3 s.size hy).mono ?_
  rintro e w1 ⟨rfl, m, rfl⟩
  go_wp2_with fail
  go_ret2
  exact ⟨rfl, m, rfl⟩

set_option maxHeartbeats 1000000 in
theorem rtext_no {w : World} {p g cap : Nat} {room : Int} {ws : List Int} (h : RefAt w p g cap room ws) (s : ByteArray) (_hsz : s.size ≤ 9223372036854775807) (hs : 0 < s.size) (hy : allocB ws room 3 s.size = false) :
    Calls Try.prog 22 #[.pointer (some ⟨p, 0, none⟩), .string s] w fun e w' => e = .returned (.tuple #[.int .u64 0, .bool false]) ∧ ∃ m, w' = w.drewN m := by
  have H := Lib.hid h
  clear h
  have hne : s.toList.isEmpty = false := notEmpty_of hs
  go_enter Try.func22, Try.ntmps22
  go_wp2_with fail
  refine (ralloc_n H.out 3 s.size hy).mono ?_
  rintro e w1 ⟨rfl, m, rfl⟩
  go_wp2_with fail
  go_ret2
  exact ⟨rfl, m, rfl⟩

theorem rtext_empty {w : World} (p : Nat) (s : ByteArray) (hs : s.size = 0) :
    Calls Try.prog 22 #[.pointer (some ⟨p, 0, none⟩), .string s] w fun e w' => e = .returned (.tuple #[.int .u64 0, .bool true]) ∧ w = w' := by
  have hne : s.toList.isEmpty = true := empty_of hs
  have hs1 : s.size ≤ 1 := by omega
  clear hs
  go_enter Try.func22, Try.ntmps22
  go_wp2_with fail
  go_ret2
  exact ⟨rfl, rfl⟩

theorem rput_laid {w' : World} {p g c : Nat} {room : Int} {ws l : List Int} {t v : Int} {k : Nat} (hl : (l.length : Int) < 4294967296) (hk : l[k]? = some v)
    (h : RefAt w' p g c room (putOf (laid ws (headOf t l.length) l k) (placeOf (laid ws (headOf t l.length) l k) ws.length k) v)) : RefAt w' p g c room (laid ws (headOf t l.length) l (k + 1)) := by
  have hkl : k < l.length := (List.getElem?_eq_some_iff.1 hk).1
  rw [placeOf_laid _ _ _ _ _ hl hkl] at h
  unfold putOf at h
  rw [if_pos (by omega), Int.toNat_natCast, laid_step _ _ _ _ _ hk] at h
  exact h

set_option maxHeartbeats 1000000 in
theorem rtext_any {w : World} {p g cap : Nat} {room : Int} {ws : List Int} (h : RefAt w p g cap room ws) (s : ByteArray) (hs : 0 < s.size) (hy : allocB ws room 3 s.size = true) :
    Calls Try.prog 22 #[.pointer (some ⟨p, 0, none⟩), .string s] w fun e w' => e = .returned (.tuple #[.int .u64 ws.length, .bool true]) ∧
      ∃ g' c', RefAt w' p g' c' room (textWs ws s) ∧ (g' = g ∨ w.heap.size ≤ g') ∧ Fr (fun k => k = p ∨ k = g) w w' := by
  have H := Lib.hid h
  have hfit := h.small
  clear h
  have hsz : s.size ≤ 1048576 := by
    have : isPartB s.size = true := by cases hh : isPartB s.size <;> simp_all [allocB]
    have := ispart_of this
    omega
  have hne : s.toList.isEmpty = false := notEmpty_of hs
  go_enter Try.func22, Try.ntmps22
  go_wp2_with fail
  refine (ralloc_y H.out 3 s.size hy).mono ?_
  rintro e w1 ⟨rfl, g1, c1, h1, hg1, f1⟩
  rw [← length_bts s, allocWs_laid] at h1
  have hsm := h1.small
  rw [length_laid _ _ _ _ (by omega), length_bts] at hsm
  have G1 := Lib.hid hg1
  have H1 := Lib.hid (And.intro h1 f1)
  clear h1 hg1 f1
  go_wp2_with fail
  go_loopw [8] (fun i wr => ∃ k : Nat, k ≤ s.size ∧ i = .int .i64 k ∧ Hid (RefAt wr p g1 c1 room (laid ws (headOf 3 (bts s).length) (bts s) k) ∧ Fr (fun k => k = p ∨ k = g) w wr)) (fun i _ => s.size - (intOf i).toNat)
  case atStart => exact ⟨0, Nat.zero_le _, rfl, H1⟩
  case round =>
    obtain ⟨k, hk, rfl, hR⟩ := hrel
    clear H1
    by_cases hlt : k < s.size
    · have hb := Lib.hid (bts_at s k hlt)
      have hb1 := s[k].toNat_lt
      go_wp2_with fail
      refine (rset_any hR.out.1 ws.length k _ (by omega) (by omega) (by omega)).mono ?_
      rintro e w1 ⟨rfl, h1, f1⟩
      have hS := Lib.hid (And.intro (rput_laid (by rw [length_bts]; omega) hb.out h1) (hR.out.2.trans f1 (fun i hi h => by have := G1.out; omega)))
      clear h1 f1
      go_wp2_with fail
      go_roundw
      case rel => exact ⟨k + 1, by omega, by go_num, hS⟩
      case measure => simp [intOf]; omega
    · obtain rfl : k = s.size := by omega
      have hfin : Hid (RefAt wr p g1 c1 room (textWs ws s)) := by
        have := hR.out.1
        rw [← length_bts s, laid_all] at this
        exact Lib.hid this
      go_wp2_with fail
      go_ret2
      exact ⟨rfl, g1, c1, hfin.out, G1.out, hR.out.2⟩

set_option maxHeartbeats 1000000 in
theorem rstring_any {w : World} {p g c : Nat} {room : Int} {ws : List Int} (h : RefAt w p g c room ws) (a : Int) (ha : 0 ≤ a) :
    Calls Try.prog 33 #[.pointer (some ⟨p, 0, none⟩), .int .u64 a] w fun e w' => e = .returned (.string (strAt ws a)) ∧ Fr (fun _ => False) w w' := by
  have hs := h.small
  have hl := lenOf_bd ws a
  have H := Lib.hid h
  clear h
  obtain ⟨m, hm⟩ := Int.eq_ofNat_of_zero_le hl.1
  have Hst : Hid (strAt ws a = strOfNums (readOf ws a (min m ws.length))) := Lib.hid (by unfold strAt; rw [hm]; rfl)
  have Hm := Lib.hid hm
  have hm2 : m ≤ 4294967295 := by omega
  clear hm hl
  go_enter Try.func33, Try.ntmps33
  go_wp2_with fail
  go_loopw [5, 6] (fun v i wr => ∃ k : Nat, i = .int .i64 k ∧ k ≤ min m ws.length ∧ Hid (wr.ownsRow 0 5 1 v k ((readOf ws a k).map (Value.int .u8)) ∧ Fr (fun _ => False) w wr ∧ (∀ b, v.ownBlock = some b → w.heap.size ≤ b))) (fun _ i _ => ws.length - (intOf i).toNat)
  case atStart => exact ⟨0, rfl, Nat.zero_le _, Lib.hid ⟨World.ownsRow_nil _ _ _ _, Fr.refl _ _, fun b hb => by simp [Value.ownBlock] at hb⟩⟩
  case round =>
    obtain ⟨k, rfl, hkn, hR⟩ := hrel
    have Hh := Lib.hid (H.out.kept hR.out.2.1 (fun h => h) (fun h => h))
    obtain ⟨ao, cp, rfl, hao⟩ : ∃ ao cp, u5 = .slice ao k cp ∧ (0 < k → ∃ g2, ao = some ⟨g2, 0, none⟩) := by
      rcases hR.out.1.2 with ⟨e, h0⟩ | ⟨g2, c2, cur, e, _⟩
      · exact ⟨none, 0, by rw [h0]; exact e, fun hp => by omega⟩
      · exact ⟨_, c2, e, fun _ => ⟨g2, rfl⟩⟩
    have Hao := Lib.hid hao
    have cr1 := Hh.out.c1
    clear hao
    by_cases hlt : k < m
    · by_cases hlt2 : k < ws.length
      · obtain ⟨hb0, hb1⟩ := getOf_bd H.out.wf a k
        obtain ⟨i, hi, hz, hz1, hz2⟩ := info_parts info_byte
        obtain ⟨y, hy⟩ : ∃ y, y = getOf ws a k := ⟨_, rfl⟩
        rw [← hy] at hb0 hb1
        obtain ⟨g2, c2, w4, hrun, hown, hgrow, hg2⟩ := run_append_one (P := Try.prog) wr 0 66 66 5 i (.int .u8 0) 1 Try.underlying66 hi hz hz1 hz2 rfl _ k _ hR.out.1 (.int .u8 (y % 256)) rfl
          (by unfold maxLen; omega) (by omega) (Nat.zero_le _)
        have HA := Lib.hid hrun
        have HS : Hid (w4.ownsRow 0 5 1 (.slice (some ⟨g2, 0, none⟩) (k + 1) c2) (k + 1) ((readOf ws a (k + 1)).map (Value.int .u8)) ∧ Fr (fun _ => False) w w4 ∧ (∀ b, (Value.slice (some ⟨g2, 0, none⟩) (k + 1) c2).ownBlock = some b → w.heap.size ≤ b)) := Lib.hid (by
          refine ⟨?_, hR.out.2.1.grown hgrow (fun b hb hlt => by have := hR.out.2.2 b hb; omega), ?_⟩
          · have e : readOf ws a (k + 1) = readOf ws a k ++ [y % 256] := by unfold readOf; rw [List.range_succ, List.map_append, List.map_singleton, hy]
            rw [e, List.map_append]
            exact hown
          · intro b hb
            simp [Value.ownBlock] at hb
            subst hb
            rcases hg2 with e | e
            · exact hR.out.2.2 _ e
            · have := hR.out.2.1.size; omega)
        have Hy := Lib.hid hy
        clear hrun hown hgrow hg2 hy hi hz hz1 hz2
        go_wp2_with fail
        refine (rlen_any Hh.out a ha).mono ?_
        rintro e w5 ⟨rfl, rfl⟩
        rw [Hm.out]
        go_wp2_with fail
        refine (rget_any Hh.out a k ha).mono ?_
        rintro e w5 ⟨rfl, rfl⟩
        rw [← Hy.out]
        go_wp2_with (at_builtin; refine Lib.wpList_append_run _ rfl (.tmp 24) (.tmp 30) 66 66 rfl _ _ rfl rfl _ _ HA.out ?_)
        go_roundw
        case rel => exact ⟨k + 1, by go_num, by omega, HS⟩
        case measure => simp [intOf]; omega
      · obtain rfl : k = ws.length := by omega
        obtain ⟨g2, rfl⟩ := Hao.out (by have := H.out.pos; omega)
        have hcell : ∀ i, i < ws.length → wr.cell? ⟨g2, 0 + i, none⟩ = some (.int .u8 ((readOf ws a ws.length).getD i 0)) := by
          intro i hi
          rw [Nat.zero_add, hR.out.1.cellAt i (by omega)]
          simp [List.getD_eq_getElem?_getD, readOf_at ws a ws.length i hi]
        have hcv := run_convert_bytes_arg (P := Try.prog) wr 66 5 Try.underlying66 Try.underlying5 g2 0 ws.length cp (readOf ws a ws.length) (length_readOf ws a ws.length) hcell 9 Try.underlying9
        obtain ⟨res, hres⟩ : ∃ res, res = strOfNums (readOf ws a ws.length) := ⟨_, rfl⟩
        rw [← hres] at hcv
        have Hres : Hid (res = strAt ws a) := Lib.hid (by rw [Hst.out, Nat.min_eq_right (by omega)]; exact hres)
        clear hres hcell
        go_wp2_with fail
        refine (rlen_any Hh.out a ha).mono ?_
        rintro e w5 ⟨rfl, rfl⟩
        rw [Hm.out]
        go_wp2_with fail
        go_ret
        exact ⟨by rw [← Hres.out]; rfl, hR.out.2.1⟩
    · obtain rfl : k = m := by omega
      have hkw : k ≤ ws.length := by omega
      by_cases hk0 : 0 < k
      · obtain ⟨g2, rfl⟩ := Hao.out hk0
        have hcell : ∀ i, i < k → wr.cell? ⟨g2, 0 + i, none⟩ = some (.int .u8 ((readOf ws a k).getD i 0)) := by
          intro i hi
          rw [Nat.zero_add, hR.out.1.cellAt i (by omega)]
          simp [List.getD_eq_getElem?_getD, readOf_at ws a k i hi]
        have hcv := run_convert_bytes_arg (P := Try.prog) wr 66 5 Try.underlying66 Try.underlying5 g2 0 k cp (readOf ws a k) (length_readOf ws a k) hcell 9 Try.underlying9
        obtain ⟨res, hres⟩ : ∃ res, res = strOfNums (readOf ws a k) := ⟨_, rfl⟩
        rw [← hres] at hcv
        have Hres : Hid (res = strAt ws a) := Lib.hid (by rw [Hst.out, Nat.min_eq_left (by omega)]; exact hres)
        clear hres hcell
        go_wp2_with fail
        refine (rlen_any Hh.out a ha).mono ?_
        rintro e w5 ⟨rfl, rfl⟩
        rw [Hm.out]
        go_wp2_with fail
        go_ret
        exact ⟨by rw [← Hres.out]; rfl, hR.out.2.1⟩
      · obtain rfl : k = 0 := by omega
        have hv : ao = none ∧ cp = 0 ∨ ∃ g2, ao = some ⟨g2, 0, none⟩ := by
          rcases hR.out.1.2 with ⟨e, h0⟩ | ⟨g2, c2, cur, e, _⟩
          · simp only [Value.slice.injEq] at e; exact .inl ⟨e.1, e.2.2⟩
          · simp only [Value.slice.injEq] at e; exact .inr ⟨g2, e.1⟩
        have Hres : Hid (strAt ws a = ByteArray.empty) := Lib.hid (by rw [Hst.out, Nat.zero_min]; rfl)
        rcases hv with ⟨rfl, rfl⟩ | ⟨g2, rfl⟩
        · have hcv := run_convert_bytes_nil (P := Try.prog) wr 66 5 Try.underlying66 Try.underlying5 0 0 9 Try.underlying9
          go_wp2_with fail
          refine (rlen_any Hh.out a ha).mono ?_
          rintro e w5 ⟨rfl, rfl⟩
          rw [Hm.out]
          go_wp2_with fail
          go_ret
          exact ⟨by rw [Hres.out]; rfl, hR.out.2.1⟩
        · have hcv := run_convert_bytes_arg (P := Try.prog) wr 66 5 Try.underlying66 Try.underlying5 g2 0 0 cp [] rfl (fun i hi => absurd hi (Nat.not_lt_zero _)) 9 Try.underlying9
          go_wp2_with fail
          refine (rlen_any Hh.out a ha).mono ?_
          rintro e w5 ⟨rfl, rfl⟩
          rw [Hm.out]
          go_wp2_with fail
          go_ret
          exact ⟨by rw [Hres.out]; rfl, hR.out.2.1⟩
end Go.Proofs.Ytdffjojpnonanaa
