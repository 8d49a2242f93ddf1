/-
  The laws TokenNumbers and TokenTexts: the walks.
-/
import Derived.Test.YtjkpimohgbkjoaaDoorTkAll
import Derived.Test.YtjkpimohgbkjoaaDoorTkW
import Derived.Laws.IdiomStrings
namespace Go.Proofs.YtjkpimohgbkjoaaDoor
open Go.RowKit

/-- A slice of bytes as it comes in. -/
structure BytesW (w : World) (A : Option Addr) (c : Nat) (l : List UInt8) : Prop where
  le : l.length ≤ c
  big : c ≤ 9223372036854775807
  at_ : ∀ (k : Nat) (x : UInt8), l[k]? = some x → ∃ a, A = some a ∧ w.cell? (a.add k) = some (.int .u8 x.toNat)
theorem conv_w {w : World} {A : Option Addr} {c : Nat} {l : List UInt8} (h : BytesW w A c l) : (convert 28 9 (.slice A l.length c)).run Tryd.prog w = .ok (.string (bs l)) w := by
  cases l with
  | nil =>
    cases A with
    | none => exact Lib.run_convert_nil_bytes w _ _ 5 c Tryd.underlying28 Tryd.underlying5 Tryd.underlying9
    | some a => exact run_convert_bytes_back w 28 9 5 a c [] Tryd.underlying28 Tryd.underlying5 Tryd.underlying9 (fun j hj => absurd hj (Nat.not_lt_zero _))
  | cons b r =>
    obtain ⟨a, rfl, _⟩ := h.at_ 0 b rfl
    exact run_convert_bytes_back w 28 9 5 a c (b :: r) Tryd.underlying28 Tryd.underlying5 Tryd.underlying9 (fun j hj => by
      obtain ⟨a', e, hc⟩ := h.at_ j _ (List.getElem?_eq_getElem hj)
      cases e
      exact hc)
theorem conv_one (w : World) (x : Int) (y : UInt8) (h : x = y.toNat) : (convert 28 9 (.slice (some ⟨w.heap.size, 0, none⟩) 1 1)).run Tryd.prog (w.alloc (.cells #[.int .u8 x] 5)) = .ok (.string (bs [y])) (w.alloc (.cells #[.int .u8 x] 5)) := by
  subst h
  refine run_convert_bytes_back (w.alloc _) 28 9 5 ⟨w.heap.size, 0, none⟩ 1 [y] Tryd.underlying28 Tryd.underlying5 Tryd.underlying9 (fun j hj => ?_)
  obtain rfl : j = 0 := by simp at hj; omega
  rw [Go.WideShapes.add_plain, cell_of_row _ _ _ _ _ _ (heap_alloc_new w _)]
  rfl

set_option maxRecDepth 20000 in
set_option maxHeartbeats 4000000 in
theorem tokenTexts_any {w : World} (L : Laid w) (hw : 3 ≤ w.heap.size) {A : Option Addr} {c : Nat} {l : List UInt8} (hx : BytesW w A c l) (hl : l.length ≤ 9223372036854775800) :
    Calls Tryd.prog 7 #[.slice A l.length c] w fun e w' => e = .returned (.bool true) ∧ Up w w' := by
  have LL := Lib.hid L
  have HX := Lib.hid hx
  have hb := hx.big
  have hle := hx.le
  have sl := bs_size l
  have keep : ∀ w', Up w w' → BytesW w' A c l := fun w' u => ⟨hx.le, hx.big, fun k x hk => by
    obtain ⟨a, ha, hc⟩ := hx.at_ k x hk
    refine ⟨a, ha, ?_⟩
    rw [u.cell (p := a.add k) (World.block_lt_of_cell? w _ hc) (fun e => e)]
    exact hc⟩
  have KP := Lib.hid keep
  clear L hx keep
  obtain ⟨n, hn⟩ : ∃ n, n = l.length := ⟨_, rfl⟩
  rw [← hn] at hl hle sl ⊢
  have Hn := Lib.hid hn
  clear hn
  have e1 := bs_append [34] l
  have e2 := bs_append ([34] ++ l) [34]
  have s1 : (bs [34]).size + (bs l).size ≤ 9223372036854775807 := by rw [sl]; show 1 + n ≤ _; omega
  have s2 : (bs ([34] ++ l)).size + (bs [34]).size ≤ 9223372036854775807 := by rw [bs_size, List.length_append, ← Hn.out]; show 1 + n + 1 ≤ _; omega
  have s1' : 1 + (bs l).size ≤ 9223372036854775807 := s1
  have s2' : (bs ([34] ++ l)).size + 1 ≤ 9223372036854775807 := s2
  go_enter Tryd.func7, Tryd.ntmps7
  go_wp2_with fail
  refine (known_any LL.out hw).mono ?_
  rintro e w1 ⟨rfl, hu1⟩
  have U1 := Lib.hid hu1
  have L1 := Lib.hid (LL.out.kept hu1 (fun h => h) (fun h => h))
  have cv := conv_w (KP.out w1 hu1)
  have hw1 : 3 ≤ w1.heap.size := Nat.le_trans hw hu1.size
  rw [← Hn.out] at cv
  clear hu1
  go_wp2_with fail
  change Calls _ _ #[.string (bs [34] ++ bs l ++ bs [34])] _ _
  rw [e1, e2]
  refine (lawall_any _ L1.out hw1).mono ?_
  rintro e w2 ⟨rfl, hu2⟩
  have U2 := Lib.hid (show Up w w2 from Fr.trans U1.out hu2 (fun _ _ e => e))
  have L2 := Lib.hid (L1.out.kept hu2 (fun h => h) (fun h => h))
  have hw2 : 3 ≤ w2.heap.size := Nat.le_trans hw1 hu2.size
  have cv2 := conv_w (KP.out w2 U2.out)
  rw [← Hn.out] at cv2
  clear hu2 cv
  go_wp2_with fail
  change Calls _ _ #[.string (bs [34] ++ bs l)] _ _
  rw [e1]
  refine (lawall_any _ L2.out hw2).mono ?_
  rintro e w3 ⟨rfl, hu3⟩
  have U3 := Lib.hid (show Up w w3 from Fr.trans U2.out hu3 (fun _ _ e => e))
  clear hu3
  go_wp2_with fail
  go_ret
  exact ⟨rfl, U3.out⟩

set_option maxRecDepth 20000 in
set_option maxHeartbeats 4000000 in
theorem tokenNumbers_any {w : World} (L : Laid w) (hw : 3 ≤ w.heap.size) (n : Int) (m : List UInt8) (hm : m.length ≤ 9223372036854775807) :
    Calls Tryd.prog 6 #[.int .i64 n, .string (bs m)] w fun e w' => e = .returned (.bool true) ∧ Up w w' := by
  have LL := Lib.hid L
  have hsz := bs_size m
  clear L
  obtain ⟨N, hN⟩ : ∃ N, N = m.length := ⟨_, rfl⟩
  have hm := hm
  rw [← hN] at hm hsz
  have HN := Lib.hid hN
  clear hN
  go_enter Tryd.func6, Tryd.ntmps6
  go_wp2_with fail
  go_loopw [5, 6] (fun s i wr => ∃ (k : Nat) (l : List UInt8), k ≤ 25 ∧ k ≤ N ∧ i = .int .i64 k ∧ s = .string (bs l) ∧ Hid (Up w wr ∧ l.length = k)) (fun _ i _ => 26 - (intOf i).toNat)
  case atStart => exact ⟨0, [], by decide, Nat.zero_le _, rfl, rfl, Lib.hid ⟨Fr.refl _ _, rfl⟩⟩
  case round =>
    obtain ⟨k, l, hk, hkN, rfl, rfl, hr⟩ := hrel
    obtain ⟨wo, rfl⟩ : ∃ wo : World, wo = wr := ⟨_, rfl⟩
    by_cases h1 : k < N ∧ k < 25
    · obtain ⟨h1, h2⟩ := h1
      have i1 : ((k : Int) < (N : Int)) := by omega
      have i2 : ((k : Int) < 25) := by omega
      obtain ⟨c, hc⟩ : ∃ c, m[k]? = some c := ⟨_, List.getElem?_eq_getElem (by rw [← HN.out]; exact h1)⟩
      have hks : k < (bs m).size := by rw [hsz]; exact h1
      have gk := get_bs hks hc
      have d0 : ((k : Int) < ((bs m).size : Int)) := by omega
      obtain ⟨r, hr0⟩ : ∃ r : Nat, r = c.toNat % 10 := ⟨_, rfl⟩
      have hr9 : r ≤ 9 := by omega
      have t1 : ((c.toNat : Int)).tmod 10 = (r : Int) := by rw [Int.tmod_eq_emod_of_nonneg (by omega)]; omega
      have t2 : IntKind.u8.wrap (r : Int) = (r : Int) := IntWalk.u8_in _ (by omega)
      obtain ⟨y, hy⟩ : ∃ y : UInt8, (48 : Int) + (r : Int) = (y.toNat : Int) := ⟨UInt8.ofNat (48 + r), by rw [UInt8.toNat_ofNat']; omega⟩
      have t3 : IntKind.u8.wrap (y.toNat : Int) = (y.toNat : Int) := IntWalk.u8_in _ (by have := UInt8.toNat_lt y; omega)
      have cv := conv_one wo (y.toNat : Int) y rfl
      have eq := bs_append l [y]
      have hs1 : (bs l).size + (bs [y]).size ≤ 9223372036854775807 := by rw [bs_size, hr.out.2]; show k + 1 ≤ _; omega
      have NX := Lib.hid (show Up w (wo.alloc (.cells #[.int .u8 y.toNat] 5)) ∧ (l ++ [y]).length = k + 1 from ⟨hr.out.1.alloc _, by rw [List.length_append, hr.out.2]; rfl⟩)
      clear hc hr0 hr9 hr
      go_wp2_with fail
      go_roundw
      case rel => exact ⟨k + 1, l ++ [y], by omega, by omega, by go_num, rfl, NX⟩
      case measure => simp [intOf]; omega
    · have U0 := Lib.hid hr.out.1
      have hlk := hr.out.2
      have e1 := bs_append l [32]
      have e2 := bs_append (l ++ [32]) l
      have s0 := bs_size l
      have s1 : (bs l).size + 1 ≤ 9223372036854775807 := by omega
      have s2 : (bs (l ++ [32])).size + (bs l).size ≤ 9223372036854775807 := by rw [bs_size, List.length_append]; simp; omega
      have K := Lib.hid (known_any (LL.out.kept hr.out.1 (fun h => h) (fun h => h)) (Nat.le_trans hw hr.out.1.size))
      clear hr
      have stepK : ∀ (k1 k2 : Prop), k1 → k2 → k1 ∧ k2 := fun _ _ a b => ⟨a, b⟩
      clear stepK
      by_cases h2 : k < N
      · have i1 : ((k : Int) < (N : Int)) := by omega
        have i2 : ¬ ((k : Int) < 25) := by omega
        clear h1
        go_wp2_with fail
        refine (K.out).mono ?_
        rintro e w1 ⟨rfl, hu1⟩
        have U1 := Lib.hid (show Up w w1 from Fr.trans U0.out hu1 (fun _ _ e => e))
        have L1 := Lib.hid (LL.out.kept U1.out (fun h => h) (fun h => h))
        have hw1 : 3 ≤ w1.heap.size := Nat.le_trans hw U1.out.size
        clear hu1
        go_wp2_with fail
        refine (lawall_any _ L1.out hw1).mono ?_
        rintro e w2 ⟨rfl, hu2⟩
        have U2 := Lib.hid (show Up w w2 from Fr.trans U1.out hu2 (fun _ _ e => e))
        have L2 := Lib.hid (LL.out.kept U2.out (fun h => h) (fun h => h))
        have hw2 : 3 ≤ w2.heap.size := Nat.le_trans hw U2.out.size
        clear hu2
        go_wp2_with fail
        change Calls _ _ #[.string (bs [57, 50, 50, 51, 51, 55, 50, 48, 51, 54, 56, 53, 52, 55, 55, 53, 56, 48, 55, 32, 57, 50, 50, 51, 51, 55, 50, 48, 51, 54, 56, 53, 52, 55, 55, 53, 56, 48, 54])] _ _
        refine (lawall_any _ L2.out hw2).mono ?_
        rintro e w3 ⟨rfl, hu3⟩
        have U3 := Lib.hid (show Up w w3 from Fr.trans U2.out hu3 (fun _ _ e => e))
        have L3 := Lib.hid (LL.out.kept U3.out (fun h => h) (fun h => h))
        have hw3 : 3 ≤ w3.heap.size := Nat.le_trans hw U3.out.size
        clear hu3
        go_wp2_with fail
        change Calls _ _ #[.string (bs l ++ bs [32] ++ bs l)] _ _
        rw [e1, e2]
        refine (lawall_any _ L3.out hw3).mono ?_
        rintro e w4 ⟨rfl, hu4⟩
        have U4 := Lib.hid (show Up w w4 from Fr.trans U3.out hu4 (fun _ _ e => e))
        clear hu4
        go_wp2_with fail
        go_ret
        exact ⟨rfl, U4.out⟩
      · have i1 : ¬ ((k : Int) < (N : Int)) := by omega
        clear h1
        go_wp2_with fail
        refine (K.out).mono ?_
        rintro e w1 ⟨rfl, hu1⟩
        have U1 := Lib.hid (show Up w w1 from Fr.trans U0.out hu1 (fun _ _ e => e))
        have L1 := Lib.hid (LL.out.kept U1.out (fun h => h) (fun h => h))
        have hw1 : 3 ≤ w1.heap.size := Nat.le_trans hw U1.out.size
        clear hu1
        go_wp2_with fail
        refine (lawall_any _ L1.out hw1).mono ?_
        rintro e w2 ⟨rfl, hu2⟩
        have U2 := Lib.hid (show Up w w2 from Fr.trans U1.out hu2 (fun _ _ e => e))
        have L2 := Lib.hid (LL.out.kept U2.out (fun h => h) (fun h => h))
        have hw2 : 3 ≤ w2.heap.size := Nat.le_trans hw U2.out.size
        clear hu2
        go_wp2_with fail
        change Calls _ _ #[.string (bs [57, 50, 50, 51, 51, 55, 50, 48, 51, 54, 56, 53, 52, 55, 55, 53, 56, 48, 55, 32, 57, 50, 50, 51, 51, 55, 50, 48, 51, 54, 56, 53, 52, 55, 55, 53, 56, 48, 54])] _ _
        refine (lawall_any _ L2.out hw2).mono ?_
        rintro e w3 ⟨rfl, hu3⟩
        have U3 := Lib.hid (show Up w w3 from Fr.trans U2.out hu3 (fun _ _ e => e))
        have L3 := Lib.hid (LL.out.kept U3.out (fun h => h) (fun h => h))
        have hw3 : 3 ≤ w3.heap.size := Nat.le_trans hw U3.out.size
        clear hu3
        go_wp2_with fail
        change Calls _ _ #[.string (bs l ++ bs [32] ++ bs l)] _ _
        rw [e1, e2]
        refine (lawall_any _ L3.out hw3).mono ?_
        rintro e w4 ⟨rfl, hu4⟩
        have U4 := Lib.hid (show Up w w4 from Fr.trans U3.out hu4 (fun _ _ e => e))
        clear hu4
        go_wp2_with fail
        go_ret
        exact ⟨rfl, U4.out⟩
end Go.Proofs.YtjkpimohgbkjoaaDoor
