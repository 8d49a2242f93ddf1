/-
  The hand's maker: Digits, tabs.
  The hand's maker: line.
-/
import Derived.Test.YtemmdbjcllcelaaDoorHnBC
import Derived.Laws.IdiomStrings
import Derived.Test.YtemmdbjcllcelaaDoorHeld
namespace Go.Proofs.YtemmdbjcllcelaaDoor.Tk
set_option maxRecDepth 100000
open Go.RowKit


theorem conv_1 (w : World) (x : Int) (y : UInt8) (h : x = y.toNat) : (convert 40 9 (.slice (some ⟨w.heap.size, 0, none⟩) 1 1)).run Tryd.prog (w.alloc (.cells #[.int .u8 x] 5)) = .ok (.string (bs [y])) (w.alloc (.cells #[.int .u8 x] 5)) := by
  subst h
  refine run_convert_bytes_back (w.alloc _) 40 9 5 ⟨w.heap.size, 0, none⟩ 1 [y] Tryd.underlying40 Tryd.underlying5 Tryd.underlying9 (fun j hj => ?_)
  obtain rfl : j = 0 := by simp at hj; omega
  rw [Go.WideShapes.add_plain, cell_of_row _ _ _ _ _ _ (heap_alloc_new w _)]
  rfl

set_option maxHeartbeats 1000000 in
theorem digit_one (w : World) (n : Nat) (hn : n < 10) : Calls Tryd.prog 6 #[.int .i64 n] w fun e w' => ∃ s : ByteArray, e = .returned (.string s) ∧ s.size = 1 ∧ Up w w' := by
  have h1 : (n : Int) < 10 := by omega
  have h2 : IntKind.i64.wrap (48 + (n : Int)) = 48 + (n : Int) := IntWalk.i64_in _ (by omega)
  have c1 := conv_1 w (48 + (n : Int)) (UInt8.ofNat (48 + n)) (by
    rw [UInt8.toNat_ofNat']
    have : (48 + n) % 2 ^ 8 = 48 + n := Nat.mod_eq_of_lt (by omega)
    rw [this]; omega)
  have c2 := conv_1 w 48 (UInt8.ofNat 48) (by decide)
  clear hn
  go_enter Tryd.func6, Tryd.ntmps6
  go_wp2_with fail
  · go_ret
    exact ⟨_, rfl, by rw [bs_size]; rfl, (Fr.refl _ w).alloc _⟩
  · go_ret
    exact ⟨_, rfl, by rw [bs_size]; rfl, (Fr.refl _ w).alloc _⟩

set_option maxHeartbeats 1000000 in
theorem digits_any (w : World) (n : Nat) (hn : n < 100) : Calls Tryd.prog 6 #[.int .i64 n] w fun e w' => ∃ s : ByteArray, e = .returned (.string s) ∧ s.size ≤ 2 ∧ Up w w' := by
  by_cases h10 : n < 10
  · refine (digit_one w n h10).mono ?_
    rintro e w' ⟨s, rfl, hs, hu⟩
    exact ⟨s, rfl, by omega, hu⟩
  · have h1 : ¬ (n : Int) < 10 := by omega
    have h2 : (n : Int).tdiv 10 = ((n / 10 : Nat) : Int) := by rw [show (10 : Int) = ((10 : Nat) : Int) from rfl, ← Int.ofNat_tdiv]
    have h3 : (n : Int).tmod 10 = ((n % 10 : Nat) : Int) := by rw [show (10 : Int) = ((10 : Nat) : Int) from rfl, ← Int.ofNat_tmod]
    have D1 := Lib.hid (digit_one w (n / 10) (by omega))
    obtain ⟨q, hq⟩ : ∃ q, q = n / 10 := ⟨_, rfl⟩
    obtain ⟨r, hr⟩ : ∃ r, r = n % 10 := ⟨_, rfl⟩
    rw [← hq] at D1 h2
    rw [← hr] at h3
    have hr10 : r < 10 := by omega
    have w1 : IntKind.i64.wrap (q : Int) = (q : Int) := IntWalk.i64_in _ (by omega)
    have w2 : IntKind.i64.wrap (r : Int) = (r : Int) := IntWalk.i64_in _ (by omega)
    have HR := Lib.hid hr10
    clear hq hr hr10 hn h10
    go_enter Tryd.func6, Tryd.ntmps6
    go_wp2_with fail
    refine D1.out.mono ?_
    rintro e wa ⟨sa, rfl, ha, ua⟩
    have D2 := Lib.hid (digit_one wa r HR.out)
    have UA := Lib.hid ua
    clear ua D1
    go_wp2_with fail
    refine D2.out.mono ?_
    rintro e wb ⟨sb, rfl, hb, ub⟩
    have UB := Lib.hid (Fr.trans UA.out ub (fun _ _ h => h))
    have q1 : sa.size + sb.size ≤ 9223372036854775807 := by omega
    clear ub D2 UA
    go_wp2_with fail
    go_ret
    exact ⟨_, rfl, by rw [ByteArray.size_append]; omega, UB.out⟩

set_option maxHeartbeats 1000000 in
theorem tabs_any (w : World) (v : Value) (n : Nat) (hn : n ≤ 100) : Calls Tryd.prog 33 #[v, .int .i64 n] w fun e w' => ∃ s : ByteArray, e = .returned (.string s) ∧ s.size = n ∧ w' = w := by
  go_enter Tryd.func33, Tryd.ntmps33
  go_wp2_with fail
  go_loopw [5, 6] (fun s i wr => ∃ (k : Nat) (l : ByteArray), k ≤ n ∧ i = .int .i64 k ∧ s = .string l ∧ Hid (w = wr ∧ l.size = k)) (fun _ i _ => n - (intOf i).toNat)
  case atStart => exact ⟨0, _, Nat.zero_le _, rfl, rfl, Lib.hid ⟨rfl, rfl⟩⟩
  case round =>
    obtain ⟨k, l, hk, rfl, rfl, hm⟩ := hrel
    obtain ⟨rfl, hl⟩ := hm.out
    by_cases h1 : k < n
    · have h1i : (k : Int) < (n : Int) := by omega
      have q1 : l.size + 1 ≤ 9223372036854775807 := by omega
      have k1 : IntKind.i64.wrap ((k : Int) + 1) = ((k + 1 : Nat) : Int) := IntWalk.i64_in _ (by omega)
      have HL := Lib.hid hl
      clear hl hm
      go_wp2_with fail
      exact ⟨⟨k + 1, _, by omega, rfl, rfl, Lib.hid ⟨trivial, by rw [ByteArray.size_append, HL.out]; rfl⟩⟩, by simp [intOf]; omega⟩
    · have h1i : ¬ (k : Int) < (n : Int) := by omega
      have HL := Lib.hid hl
      clear hl hm
      go_wp2_with fail
      go_ret
      exact ⟨_, rfl, by have := HL.out; omega, rfl⟩


theorem cat_eq {a b c : ByteArray} {n m : Nat} (e : a ++ b = c) (ha : a.size = n) (hb : b.size = m) : c.size = n + m := by rw [← e, ByteArray.size_append, ha, hb]

set_option maxHeartbeats 2000000 in
theorem line_any {w : World} {base p : Nat} {A : Option Addr} {rc : Nat} {raw : List Int} {m : MS} {rows : List (List ByteArray)} (h : Mk w base p A rc raw m rows) (n : Nat) (hn : n ≤ 100) (s : ByteArray) (hs : s.size ≤ 1000000) (ho : m.out.size ≤ 1000000000000) :
    Calls Tryd.prog 20 #[.pointer (some ⟨p, 0, none⟩), .int .i64 n, .string s] w fun e w' => ∃ o : ByteArray, e = .returned (.tuple #[]) ∧ o.size = m.out.size + n + s.size + 1 ∧ Mk w' base p A rc raw { m with out := o } rows ∧ FM p w w' := by
  have HD := h.up (Fr.drew (Fr.refl _ w))
  have FD := Lib.hid (Fr.drew (Fr.refl (fun b => b = p) w))
  have H := Lib.hid HD
  have c6 := HD.cell 6
  have f6 := HD.free 6
  simp only [List.getElem?_toArray, List.getElem?_cons_zero, List.getElem?_cons_succ] at c6
  have hrl := HD.nums.le
  have hrb := HD.nums.big
  obtain ⟨o1, ho1⟩ : ∃ o1, m.out = o1 := ⟨_, rfl⟩
  rw [ho1] at c6 ho ⊢
  have HO := Lib.hid ho1
  have TB := Lib.hid (fun w1 => tabs_any w1 (.pointer (some ⟨p, 0, none⟩)) n hn)
  clear h HD ho1
  go_enter Tryd.func20, Tryd.ntmps20
  refine wp_region_held_drew (S := fun _ => True) (by kernel_rfl) (by trivial) (fun hHeld => ?_)
  generalize w.drew = wd at *
  refine held_take (i := 0) (d := some 6) (v := ?_) rfl rfl (by kernel_rfl) (by kernel_rfl) (by kernel_rfl) (fun _ _ _ h => h) (by rfl) ?_ (by assumption) ?_
  rotate_left 1
  focus (intro w hSw; (try dsimp only at hSw); go_simp; first | done | with_reducible rfl)
  simp only [Act.put, List.setIfInBounds_toArray, List.set_cons_zero, List.set_cons_succ]
  refine held_take (i := 1) (d := some 7) (v := ?_) rfl rfl (by kernel_rfl) (by kernel_rfl) (by kernel_rfl) (fun _ _ _ h => h) (by rfl) ?_ (by assumption) ?_
  rotate_left 1
  focus (intro w hSw; (try dsimp only at hSw); go_simp; first | done | with_reducible rfl)
  simp only [Act.put, List.setIfInBounds_toArray, List.set_cons_zero, List.set_cons_succ]
  refine held_take (i := 2) (d := some 8) (v := ?_) rfl rfl (by kernel_rfl) (by kernel_rfl) (by kernel_rfl) (fun _ _ _ h => h) (by rfl) ?_ (by assumption) ?_
  rotate_left 1
  focus (intro w hSw; (try dsimp only at hSw); go_simp; first | done | with_reducible rfl)
  simp only [Act.put, List.setIfInBounds_toArray, List.set_cons_zero, List.set_cons_succ]
  refine held_take (i := 3) (d := some 9) (v := ?_) rfl rfl (by kernel_rfl) (by kernel_rfl) (by kernel_rfl) (fun _ _ _ h => h) (by rfl) ?_ (by assumption) ?_
  rotate_left 1
  focus (intro w hSw; (try dsimp only at hSw); go_simp; first | done | with_reducible rfl)
  simp only [Act.put, List.setIfInBounds_toArray, List.set_cons_zero, List.set_cons_succ]
  refine held_take (i := 5) (d := some 11) (v := ?_) rfl rfl (by kernel_rfl) (by kernel_rfl) (by kernel_rfl) (fun _ _ _ h => h) (by rfl) ?_ (by assumption) ?_
  rotate_left 1
  focus (intro w hSw; (try dsimp only at hSw); go_simp; first | done | with_reducible rfl)
  simp only [Act.put, List.setIfInBounds_toArray, List.set_cons_zero, List.set_cons_succ]
  refine held_take (i := 6) (d := some 12) (v := ?_) rfl rfl (by kernel_rfl) (by kernel_rfl) (by kernel_rfl) (fun _ _ _ h => h) (by rfl) ?_ (by assumption) ?_
  rotate_left 1
  focus (intro w hSw; (try dsimp only at hSw); go_simp; first | done | with_reducible rfl)
  simp only [Act.put, List.setIfInBounds_toArray, List.set_cons_zero, List.set_cons_succ]
  refine held_take (i := 9) (d := some 15) (v := ?_) rfl rfl (by kernel_rfl) (by kernel_rfl) (by kernel_rfl) (fun _ _ _ h => h) (by rfl) ?_ (by assumption) ?_
  rotate_left 1
  focus (intro w hSw; (try dsimp only at hSw); go_simp; first | done | with_reducible rfl)
  simp only [Act.put, List.setIfInBounds_toArray, List.set_cons_zero, List.set_cons_succ]
  refine wpAnyH_ready (rs := [4, 7]) (by kernel_rfl) (by simp) ?_
  refine (AllReadyH.cons (o := _) rfl (fun K hK => ?_) (AllReadyH.cons (o := _) rfl (fun K hK => ?_) AllReadyH.nil))
  · go_simp
    refine hK.out _ _ (by trivial) (fun hHeld => ?_)
    clear hK K
    refine wpAnyH_ready (rs := [7]) (by kernel_rfl) (by simp) ?_
    refine (AllReadyH.cons (o := _) rfl (fun K hK => ?_) AllReadyH.nil)
    go_simp
    refine (TB.out _).mono ?_
    rintro e wt ⟨st, rfl, hst, rfl⟩
    have ST := Lib.hid hst
    have q1 : o1.size + st.size ≤ 9223372036854775807 := by omega
    have q1' : ¬ 9223372036854775807 < o1.size + st.size := by omega
    obtain ⟨t1, et1⟩ : ∃ c, o1 ++ st = c := ⟨_, rfl⟩
    have ht1 : t1.size = o1.size + n := cat_eq et1 rfl hst
    have q2 : t1.size + s.size ≤ 9223372036854775807 := by omega
    have q2' : ¬ 9223372036854775807 < t1.size + s.size := by omega
    obtain ⟨t2, et2⟩ : ∃ c, t1 ++ s = c := ⟨_, rfl⟩
    have ht2 : t2.size = o1.size + n + s.size := cat_eq et2 ht1 rfl
    have q3 : t2.size + 1 ≤ 9223372036854775807 := by omega
    have q3' : ¬ 9223372036854775807 < t2.size + 1 := by omega
    obtain ⟨t3, et3⟩ : ∃ c, t2 ++ ({ data := #[10] } : ByteArray) = c := ⟨_, rfl⟩
    have ht3 : t3.size = o1.size + n + s.size + 1 := cat_eq et3 ht2 rfl
    clear hst
    have HT3 := Lib.hid ht3
    clear ht1 ht2 ht3
    go_simp
    refine hK.out _ _ (by trivial) (fun hHeld => ?_)
    clear hK K
    refine held_take (i := 8) (d := some 14) (v := ?_) rfl rfl (by kernel_rfl) (by kernel_rfl) (by kernel_rfl) (fun _ _ _ h => h) (by rfl) ?_ (by assumption) ?_
    rotate_left 1
    focus (intro w hSw; (try dsimp only at hSw); go_simp; first | done | with_reducible rfl)
    simp only [Act.put, List.setIfInBounds_toArray, List.set_cons_zero, List.set_cons_succ]
    refine held_take (i := 10) (d := some 16) (v := ?_) rfl rfl (by kernel_rfl) (by kernel_rfl) (by kernel_rfl) (fun _ _ _ h => h) (by rfl) ?_ (by assumption) ?_
    rotate_left 1
    focus (intro w hSw; (try dsimp only at hSw); go_simp; first | done | with_reducible rfl)
    simp only [Act.put, List.setIfInBounds_toArray, List.set_cons_zero, List.set_cons_succ]
    refine held_take (i := 11) (d := some 17) (v := ?_) rfl rfl (by kernel_rfl) (by kernel_rfl) (by kernel_rfl) (fun _ _ _ h => h) (by rfl) ?_ (by assumption) ?_
    rotate_left 1
    focus (intro w hSw; (try dsimp only at hSw); go_simp; first | done | with_reducible rfl)
    simp only [Act.put, List.setIfInBounds_toArray, List.set_cons_zero, List.set_cons_succ]
    refine held_take (i := 12) (d := some 18) (v := ?_) rfl rfl (by kernel_rfl) (by kernel_rfl) (by kernel_rfl) (fun _ _ _ h => h) (by rfl) ?_ (by assumption) ?_
    rotate_left 1
    focus (intro w hSw; (try dsimp only at hSw); go_simp; first | done | with_reducible rfl)
    simp only [Act.put, List.setIfInBounds_toArray, List.set_cons_zero, List.set_cons_succ]
    refine held_take (i := 13) (d := some 19) (v := ?_) rfl rfl (by kernel_rfl) (by kernel_rfl) (by kernel_rfl) (fun _ _ _ h => h) (by rfl) ?_ (by assumption) ?_
    rotate_left 1
    focus (intro w hSw; (try dsimp only at hSw); go_simp; first | done | with_reducible rfl)
    simp only [Act.put, List.setIfInBounds_toArray, List.set_cons_zero, List.set_cons_succ]
    refine wpAnyH_ready (rs := [14]) (by kernel_rfl) (by simp) ?_
    refine (AllReadyH.cons (o := _) rfl (fun K hK => ?_) AllReadyH.nil)
    (try rw [et1])
    (try rw [et2])
    (try rw [et3])
    go_simp
    refine hK.out _ _ (by trivial) (fun hHeld => ?_)
    clear hK K
    refine wpAnyH_done (by kernel_rfl) ?_ _
    go_wp2_with fail
    refine bodyPost_end (v := .tuple #[]) (by kernel_rfl) rfl ?_
    obtain ⟨hm, hf⟩ := H.out.put 6 (.string t3) { m with out := t3 } rfl H.out.atle H.out.short (by rfl)
    exact ⟨t3, rfl, HT3.out, hm, FM.trans FD.out hf⟩
  · go_simp
    refine (TB.out _).mono ?_
    rintro e wt ⟨st, rfl, hst, rfl⟩
    have ST := Lib.hid hst
    have q1 : o1.size + st.size ≤ 9223372036854775807 := by omega
    have q1' : ¬ 9223372036854775807 < o1.size + st.size := by omega
    obtain ⟨t1, et1⟩ : ∃ c, o1 ++ st = c := ⟨_, rfl⟩
    have ht1 : t1.size = o1.size + n := cat_eq et1 rfl hst
    have q2 : t1.size + s.size ≤ 9223372036854775807 := by omega
    have q2' : ¬ 9223372036854775807 < t1.size + s.size := by omega
    obtain ⟨t2, et2⟩ : ∃ c, t1 ++ s = c := ⟨_, rfl⟩
    have ht2 : t2.size = o1.size + n + s.size := cat_eq et2 ht1 rfl
    have q3 : t2.size + 1 ≤ 9223372036854775807 := by omega
    have q3' : ¬ 9223372036854775807 < t2.size + 1 := by omega
    obtain ⟨t3, et3⟩ : ∃ c, t2 ++ ({ data := #[10] } : ByteArray) = c := ⟨_, rfl⟩
    have ht3 : t3.size = o1.size + n + s.size + 1 := cat_eq et3 ht2 rfl
    clear hst
    have HT3 := Lib.hid ht3
    clear ht1 ht2 ht3
    go_simp
    refine hK.out _ _ (by trivial) (fun hHeld => ?_)
    clear hK K
    refine wpAnyH_ready (rs := [4]) (by kernel_rfl) (by simp) ?_
    refine (AllReadyH.cons (o := _) rfl (fun K hK => ?_) AllReadyH.nil)
    go_simp
    refine hK.out _ _ (by trivial) (fun hHeld => ?_)
    clear hK K
    refine held_take (i := 8) (d := some 14) (v := ?_) rfl rfl (by kernel_rfl) (by kernel_rfl) (by kernel_rfl) (fun _ _ _ h => h) (by rfl) ?_ (by assumption) ?_
    rotate_left 1
    focus (intro w hSw; (try dsimp only at hSw); go_simp; first | done | with_reducible rfl)
    simp only [Act.put, List.setIfInBounds_toArray, List.set_cons_zero, List.set_cons_succ]
    refine held_take (i := 10) (d := some 16) (v := ?_) rfl rfl (by kernel_rfl) (by kernel_rfl) (by kernel_rfl) (fun _ _ _ h => h) (by rfl) ?_ (by assumption) ?_
    rotate_left 1
    focus (intro w hSw; (try dsimp only at hSw); go_simp; first | done | with_reducible rfl)
    simp only [Act.put, List.setIfInBounds_toArray, List.set_cons_zero, List.set_cons_succ]
    refine held_take (i := 11) (d := some 17) (v := ?_) rfl rfl (by kernel_rfl) (by kernel_rfl) (by kernel_rfl) (fun _ _ _ h => h) (by rfl) ?_ (by assumption) ?_
    rotate_left 1
    focus (intro w hSw; (try dsimp only at hSw); go_simp; first | done | with_reducible rfl)
    simp only [Act.put, List.setIfInBounds_toArray, List.set_cons_zero, List.set_cons_succ]
    refine held_take (i := 12) (d := some 18) (v := ?_) rfl rfl (by kernel_rfl) (by kernel_rfl) (by kernel_rfl) (fun _ _ _ h => h) (by rfl) ?_ (by assumption) ?_
    rotate_left 1
    focus (intro w hSw; (try dsimp only at hSw); go_simp; first | done | with_reducible rfl)
    simp only [Act.put, List.setIfInBounds_toArray, List.set_cons_zero, List.set_cons_succ]
    refine held_take (i := 13) (d := some 19) (v := ?_) rfl rfl (by kernel_rfl) (by kernel_rfl) (by kernel_rfl) (fun _ _ _ h => h) (by rfl) ?_ (by assumption) ?_
    rotate_left 1
    focus (intro w hSw; (try dsimp only at hSw); go_simp; first | done | with_reducible rfl)
    simp only [Act.put, List.setIfInBounds_toArray, List.set_cons_zero, List.set_cons_succ]
    refine wpAnyH_ready (rs := [14]) (by kernel_rfl) (by simp) ?_
    refine (AllReadyH.cons (o := _) rfl (fun K hK => ?_) AllReadyH.nil)
    (try rw [et1])
    (try rw [et2])
    (try rw [et3])
    go_simp
    refine hK.out _ _ (by trivial) (fun hHeld => ?_)
    clear hK K
    refine wpAnyH_done (by kernel_rfl) ?_ _
    go_wp2_with fail
    refine bodyPost_end (v := .tuple #[]) (by kernel_rfl) rfl ?_
    obtain ⟨hm, hf⟩ := H.out.put 6 (.string t3) { m with out := t3 } rfl H.out.atle H.out.short (by rfl)
    exact ⟨t3, rfl, HT3.out, hm, FM.trans FD.out hf⟩
end Go.Proofs.YtemmdbjcllcelaaDoor.Tk
