/-
  The hand's Pick and Words.
-/
import Derived.Test.YtpobkjnlcengbaaDoorTkRefA
import Derived.Test.YtpobkjnlcengbaaDoorTkC
namespace Go.Proofs.YtpobkjnlcengbaaDoor
open Go.RowKit


theorem tmod_cases (n m : Int) (hm : 1 ≤ m) : (n.tmod m < 0 ∧ n.tmod m + m = n % m ∧ 0 ≤ n % m ∧ n % m < m) ∨ (0 ≤ n.tmod m ∧ n.tmod m = n % m ∧ 0 ≤ n % m ∧ n % m < m) := by
  have h0 := Int.emod_nonneg n (show m ≠ 0 by omega)
  have h1 := Int.emod_lt_of_pos n (show 0 < m by omega)
  rw [Int.tmod_eq_emod]
  have ha : (m.natAbs : Int) = m := by omega
  split
  · exact .inr ⟨by omega, by omega, h0, h1⟩
  · rw [ha]
    exact .inl ⟨by omega, by omega, h0, h1⟩

theorem ret_eq {k : IntKind} {a b : Int} (h : a = b) : Ending.returned (.int k a) = .returned (.int k b) := by rw [h]

set_option maxHeartbeats 400000 in
theorem pick_any (n m : Int) (w : World) (hm : 1 ≤ m) (hm' : m ≤ 1000000) :
    Calls Tryd.prog 16 #[.int .i64 n, .int .i64 m] w fun e w' => e = .returned (.int .i64 (n % m)) ∧ w = w' := by
  rcases tmod_cases n m hm with ⟨h1, h2, h3, h4⟩ | ⟨h1, h2, h3, h4⟩
  · have H := Lib.hid h2
    clear h2
    have hlo : -1000000 ≤ n.tmod m := by have := H.out; omega
    go_enter Tryd.func16, Tryd.ntmps16
    go_wp2
    go_ret
    exact ⟨ret_eq H.out, rfl⟩
  · have H := Lib.hid h2
    clear h2
    go_enter Tryd.func16, Tryd.ntmps16
    go_wp2
    go_ret
    exact ⟨ret_eq H.out, rfl⟩

/-- Pick, its answer a natural number. -/
theorem pick_nat (n : Int) (m : Nat) (hm : 1 ≤ m) (hm' : m ≤ 1000000) : ∃ j : Nat, j < m ∧ (∀ w, Calls Tryd.prog 16 #[.int .i64 n, .int .i64 m] w fun e w' => e = .returned (.int .i64 j) ∧ w' = w) ∧ (n % (m : Int) = j) := by
  have h0 := Int.emod_nonneg n (show (m : Int) ≠ 0 by omega)
  have h1 := Int.emod_lt_of_pos n (show 0 < (m : Int) by omega)
  refine ⟨(n % (m : Int)).toNat, by omega, fun w => (pick_any n m w (by omega) (by omega)).mono fun e w' ⟨he, hw⟩ => ⟨?_, hw.symm⟩, by omega⟩
  rw [he]; exact ret_eq (by omega)


def handL : List (List UInt8) := [[116, 121, 112, 101], [115, 116, 114, 117, 99, 116], [105, 110, 116, 101, 114, 102, 97, 99, 101], [102, 117, 110, 99], [118, 97, 114], [105, 102], [101, 108, 115, 101], [102, 111, 114], [98, 114, 101, 97, 107], [99, 111, 110, 116, 105, 110, 117, 101], [114, 101, 116, 117, 114, 110], [112, 114, 105, 110, 116], [108, 101, 110], [109, 97, 107, 101], [110, 101, 119], [105, 110, 112, 117, 116], [116, 114, 117, 101], [102, 97, 108, 115, 101], [110, 105, 108], [105, 110, 116], [98, 111, 111, 108], [115, 116, 114, 105, 110, 103], [58, 61], [61, 61], [38, 38], [124, 124], [43], [45], [42], [60], [61], [33], [40], [41], [91], [93], [123], [125], [44], [46], [59], [10], [97], [55]]
def handV : List Value := handL.map (fun x => .string (bs x))
/-- The hand's words, as laid. -/
structure Hand (w : World) : Prop where
  words : w.rangeAt 1 0 handV
theorem Hand.kept {S : Nat → Prop} {w w' : World} (h : Hand w) (hf : Fr S w w') (h1 : ¬ S 1) : Hand w' := ⟨range_kept h.words hf h1⟩
theorem handL_le : ∀ x ∈ handL, x.length ≤ 9 := by decide
theorem Hand.word {w : World} (h : Hand w) (j : Nat) (hj : j < 44) : ∃ x : List UInt8, x.length ≤ 9 ∧ w.cell? ⟨1, j, none⟩ = some (.string (bs x)) := by
  have hx : handL[j]? = some (handL[j]'hj) := List.getElem?_eq_getElem hj
  refine ⟨handL[j]'hj, handL_le _ (List.getElem_mem _), ?_⟩
  have := h.words j (.string (bs (handL[j]'hj))) (by rw [handV, List.getElem?_map, hx]; rfl)
  rwa [Nat.zero_add] at this
theorem bs_append (a b : List UInt8) : bs a ++ bs b = bs (a ++ b) := by
  apply ByteArray.ext
  simp [bs]

/-- A slice of integers as it comes in. -/
structure IntsW (w : World) (A : Option Addr) (c : Nat) (xs : List Int) : Prop where
  le : xs.length ≤ c
  big : c ≤ 9223372036854775807
  at_ : ∀ (k : Nat) (x : Int), xs[k]? = some x → ∃ a, A = some a ∧ w.cell? (a.add k) = some (.int .i64 x)
theorem IntsW.front {w : World} {A : Option Addr} {c : Nat} {xs : List Int} (h : IntsW w A c xs) (k : Nat) : IntsW w A c (xs.take k) :=
  ⟨by rw [List.length_take]; have := h.le; omega, h.big, fun j x hj => h.at_ j x (by rw [List.getElem?_take] at hj; split at hj; exact hj; cases hj)⟩

set_option maxRecDepth 20000 in
set_option maxHeartbeats 2000000 in
theorem words_any {w : World} {A : Option Addr} {c : Nat} {xs : List Int} (h : IntsW w A c xs) (hd : Hand w) :
    Calls Tryd.prog 17 #[.slice A xs.length c] w fun e w' => (∃ l : List UInt8, l.length ≤ 2000 ∧ e = .returned (.string (bs l))) ∧ w = w' := by
  have HX := Lib.hid h
  have HD := Lib.hid hd
  have hle := h.le
  have hbig := h.big
  clear h hd
  obtain ⟨n, hn⟩ : ∃ n, n = xs.length := ⟨_, rfl⟩
  rw [← hn] at hle ⊢
  have Hn := Lib.hid hn
  clear hn
  go_enter Tryd.func17, Tryd.ntmps17
  go_wp2_with fail
  go_loopw [3, 4] (fun s i wr => ∃ (k : Nat) (l : List UInt8), k ≤ n ∧ k ≤ 200 ∧ i = .int .i64 k ∧ s = .string (bs l) ∧ Hid (w = wr ∧ l.length ≤ 10 * k)) (fun _ i _ => n - (intOf i).toNat)
  case atStart => exact ⟨0, [], Nat.zero_le _, Nat.zero_le _, rfl, rfl, Lib.hid ⟨rfl, Nat.le_refl _⟩⟩
  case round =>
    obtain ⟨k, l, hk, hk2, rfl, rfl, hm⟩ := hrel
    by_cases h1 : k < n
    · by_cases h2 : k < 200
      · obtain ⟨wo, hwo⟩ : ∃ wo, wo = w := ⟨_, rfl⟩
        obtain ⟨y, hy⟩ : ∃ y, xs[k]? = some y := ⟨_, List.getElem?_eq_getElem (by rw [← Hn.out]; exact h1)⟩
        obtain ⟨a, rfl, cx⟩ := HX.out.at_ k y hy
        clear hy
        obtain ⟨j, hj, hp, _⟩ := pick_nat y 44 (by decide) (by decide)
        obtain ⟨x, hx9, cw⟩ := HD.out.word j hj
        obtain ⟨rfl, hl⟩ := hm.out
        have PK := Lib.hid hp
        have hlt : (j : Int) < 44 := by omega
        have sl := bs_size l
        have sx := bs_size x
        have s1 : (bs l).size + (bs x).size ≤ 9223372036854775807 := by omega
        have eq1 := bs_append l x
        have eq2 := bs_append (l ++ x) [32]
        have s2 : (bs (l ++ x)).size + 1 ≤ 9223372036854775807 := by rw [bs_size, List.length_append]; omega
        have HL := Lib.hid hl
        have HX9 := Lib.hid hx9
        clear hp hl hx9
        go_wp2_with fail
        refine (PK.out _).mono ?_
        rintro e w' ⟨rfl, rfl⟩
        go_wp2_with fail
        refine ⟨⟨k + 1, l ++ x ++ [32], by omega, by omega, by simp, congrArg Value.string eq2, Lib.hid ⟨trivial, ?_⟩⟩, by simp [intOf]; omega⟩
        have := HL.out
        have := HX9.out
        simp
        omega
      · have h2' : ¬ ((k : Int) < 200) := by omega
        have h1' : ((k : Int) < (n : Int)) := by omega
        go_wp2_with fail
        go_ret
        exact ⟨⟨l, by have := hm.out.2; omega, rfl⟩, hm.out.1⟩
    · have h1' : ¬ ((k : Int) < (n : Int)) := by omega
      go_wp2_with fail
      go_ret
      exact ⟨⟨l, by have := hm.out.2; omega, rfl⟩, hm.out.1⟩
end Go.Proofs.YtpobkjnlcengbaaDoor
