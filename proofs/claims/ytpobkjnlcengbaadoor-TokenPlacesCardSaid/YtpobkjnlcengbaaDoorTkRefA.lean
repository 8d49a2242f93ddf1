/-
  The reference's letters, digits, words, names.
-/
import Derived.Test.YtpobkjnlcengbaaDoorTkB
namespace Go.Proofs.YtpobkjnlcengbaaDoor
open Go.RowKit

set_option maxHeartbeats 400000 in
theorem rdigit_any {w : World} (n : Nat) (hn : n < 256) : Calls Tryd.prog 28 #[.int .u8 n] w fun e w' => e = .returned (.bool (digit n)) ∧ w = w' := by
  by_cases h1 : 48 ≤ n
  · by_cases h2 : n ≤ 57
    · have a1 : ((n : Int) ≥ 48) := by omega
      have a2 : ((n : Int) ≤ 57) := by omega
      have e : digit n = true := by simp [digit, h1, h2]
      rw [e]
      go_enter Tryd.func28, Tryd.ntmps28
      go_wp2
      go_ret
      exact ⟨rfl, rfl⟩
    · have a1 : ((n : Int) ≥ 48) := by omega
      have a2 : ¬ ((n : Int) ≤ 57) := by omega
      have e : digit n = false := by simp [digit, h2]
      rw [e]
      go_enter Tryd.func28, Tryd.ntmps28
      go_wp2
      go_ret
      exact ⟨rfl, rfl⟩
  · have a1 : ¬ ((n : Int) ≥ 48) := by omega
    have e : digit n = false := by simp [digit, h1]
    rw [e]
    go_enter Tryd.func28, Tryd.ntmps28
    go_wp2
    go_ret
    exact ⟨rfl, rfl⟩

set_option maxHeartbeats 800000 in
theorem rletter_any {w : World} (n : Nat) (hn : n < 256) : Calls Tryd.prog 27 #[.int .u8 n] w fun e w' => e = .returned (.bool (letter n)) ∧ w = w' := by
  by_cases h0 : n = 95
  · have a0 : ((n : Int) == 95) = true := beqT h0
    have e : letter n = true := by simp [letter, h0]
    rw [e]
    go_enter Tryd.func27, Tryd.ntmps27
    go_wp2
    go_ret
    exact ⟨rfl, rfl⟩
  have a0 : ((n : Int) == 95) = false := beqF h0
  by_cases h1 : 97 ≤ n
  · have a1 : ((n : Int) ≥ 97) := by omega
    have a3 : ((n : Int) ≥ 65) := by omega
    have a4 : ¬ ((n : Int) ≤ 90) := by omega
    by_cases h2 : n ≤ 122
    · have a2 : ((n : Int) ≤ 122) := by omega
      have e : letter n = true := by simp [letter, h1, h2]
      rw [e]
      go_enter Tryd.func27, Tryd.ntmps27
      go_wp2
      go_ret
      exact ⟨rfl, rfl⟩
    · have a2 : ¬ ((n : Int) ≤ 122) := by omega
      have e : letter n = false := by simp [letter, h0, h2]; omega
      rw [e]
      go_enter Tryd.func27, Tryd.ntmps27
      go_wp2
      go_ret
      exact ⟨rfl, rfl⟩
  · have a1 : ¬ ((n : Int) ≥ 97) := by omega
    by_cases h3 : 65 ≤ n
    · have a3 : ((n : Int) ≥ 65) := by omega
      by_cases h4 : n ≤ 90
      · have a4 : ((n : Int) ≤ 90) := by omega
        have e : letter n = true := by simp [letter, h3, h4]
        rw [e]
        go_enter Tryd.func27, Tryd.ntmps27
        go_wp2
        go_ret
        exact ⟨rfl, rfl⟩
      · have a4 : ¬ ((n : Int) ≤ 90) := by omega
        have e : letter n = false := by simp [letter, h0, h1, h4]
        rw [e]
        go_enter Tryd.func27, Tryd.ntmps27
        go_wp2
        go_ret
        exact ⟨rfl, rfl⟩
    · have a3 : ¬ ((n : Int) ≥ 65) := by omega
      have e : letter n = false := by simp [letter, h0, h1, h3]
      rw [e]
      go_enter Tryd.func27, Tryd.ntmps27
      go_wp2
      go_ret
      exact ⟨rfl, rfl⟩

set_option maxHeartbeats 4000000 in
theorem risWord_any {w : World} (l : List UInt8) : Calls Tryd.prog 20 #[.string (bs l)] w fun e w' => e = .returned (.bool (isWord l)) ∧ w = w' := by
  by_cases h : isWord l = true
  · rw [h]
    have hm : l ∈ wordsL := by simpa [isWord] using h
    clear h
    simp only [wordsL, List.mem_cons, List.not_mem_nil, or_false] at hm
    rcases hm with rfl | rfl | rfl | rfl | rfl | rfl | rfl | rfl | rfl | rfl | rfl | rfl | rfl | rfl | rfl | rfl | rfl | rfl | rfl | rfl | rfl | rfl
    · have e0 : ((bs [116, 121, 112, 101]).toList == [116, 121, 112, 101]) = true := by rw [bs_list]; decide
      go_enter Tryd.func20, Tryd.ntmps20
      go_wp2
      go_ret
      exact ⟨rfl, rfl⟩
    · have e0 : ((bs [115, 116, 114, 117, 99, 116]).toList == [116, 121, 112, 101]) = false := by rw [bs_list]; decide
      have e1 : ((bs [115, 116, 114, 117, 99, 116]).toList == [115, 116, 114, 117, 99, 116]) = true := by rw [bs_list]; decide
      go_enter Tryd.func20, Tryd.ntmps20
      go_wp2
      go_ret
      exact ⟨rfl, rfl⟩
    · have e0 : ((bs [105, 110, 116, 101, 114, 102, 97, 99, 101]).toList == [116, 121, 112, 101]) = false := by rw [bs_list]; decide
      have e1 : ((bs [105, 110, 116, 101, 114, 102, 97, 99, 101]).toList == [115, 116, 114, 117, 99, 116]) = false := by rw [bs_list]; decide
      have e2 : ((bs [105, 110, 116, 101, 114, 102, 97, 99, 101]).toList == [105, 110, 116, 101, 114, 102, 97, 99, 101]) = true := by rw [bs_list]; decide
      go_enter Tryd.func20, Tryd.ntmps20
      go_wp2
      go_ret
      exact ⟨rfl, rfl⟩
    · have e0 : ((bs [102, 117, 110, 99]).toList == [116, 121, 112, 101]) = false := by rw [bs_list]; decide
      have e1 : ((bs [102, 117, 110, 99]).toList == [115, 116, 114, 117, 99, 116]) = false := by rw [bs_list]; decide
      have e2 : ((bs [102, 117, 110, 99]).toList == [105, 110, 116, 101, 114, 102, 97, 99, 101]) = false := by rw [bs_list]; decide
      have e3 : ((bs [102, 117, 110, 99]).toList == [102, 117, 110, 99]) = true := by rw [bs_list]; decide
      go_enter Tryd.func20, Tryd.ntmps20
      go_wp2
      go_ret
      exact ⟨rfl, rfl⟩
    · have e0 : ((bs [118, 97, 114]).toList == [116, 121, 112, 101]) = false := by rw [bs_list]; decide
      have e1 : ((bs [118, 97, 114]).toList == [115, 116, 114, 117, 99, 116]) = false := by rw [bs_list]; decide
      have e2 : ((bs [118, 97, 114]).toList == [105, 110, 116, 101, 114, 102, 97, 99, 101]) = false := by rw [bs_list]; decide
      have e3 : ((bs [118, 97, 114]).toList == [102, 117, 110, 99]) = false := by rw [bs_list]; decide
      have e4 : ((bs [118, 97, 114]).toList == [118, 97, 114]) = true := by rw [bs_list]; decide
      go_enter Tryd.func20, Tryd.ntmps20
      go_wp2
      go_ret
      exact ⟨rfl, rfl⟩
    · have e0 : ((bs [105, 102]).toList == [116, 121, 112, 101]) = false := by rw [bs_list]; decide
      have e1 : ((bs [105, 102]).toList == [115, 116, 114, 117, 99, 116]) = false := by rw [bs_list]; decide
      have e2 : ((bs [105, 102]).toList == [105, 110, 116, 101, 114, 102, 97, 99, 101]) = false := by rw [bs_list]; decide
      have e3 : ((bs [105, 102]).toList == [102, 117, 110, 99]) = false := by rw [bs_list]; decide
      have e4 : ((bs [105, 102]).toList == [118, 97, 114]) = false := by rw [bs_list]; decide
      have e5 : ((bs [105, 102]).toList == [105, 102]) = true := by rw [bs_list]; decide
      go_enter Tryd.func20, Tryd.ntmps20
      go_wp2
      go_ret
      exact ⟨rfl, rfl⟩
    · have e0 : ((bs [101, 108, 115, 101]).toList == [116, 121, 112, 101]) = false := by rw [bs_list]; decide
      have e1 : ((bs [101, 108, 115, 101]).toList == [115, 116, 114, 117, 99, 116]) = false := by rw [bs_list]; decide
      have e2 : ((bs [101, 108, 115, 101]).toList == [105, 110, 116, 101, 114, 102, 97, 99, 101]) = false := by rw [bs_list]; decide
      have e3 : ((bs [101, 108, 115, 101]).toList == [102, 117, 110, 99]) = false := by rw [bs_list]; decide
      have e4 : ((bs [101, 108, 115, 101]).toList == [118, 97, 114]) = false := by rw [bs_list]; decide
      have e5 : ((bs [101, 108, 115, 101]).toList == [105, 102]) = false := by rw [bs_list]; decide
      have e6 : ((bs [101, 108, 115, 101]).toList == [101, 108, 115, 101]) = true := by rw [bs_list]; decide
      go_enter Tryd.func20, Tryd.ntmps20
      go_wp2
      go_ret
      exact ⟨rfl, rfl⟩
    · have e0 : ((bs [102, 111, 114]).toList == [116, 121, 112, 101]) = false := by rw [bs_list]; decide
      have e1 : ((bs [102, 111, 114]).toList == [115, 116, 114, 117, 99, 116]) = false := by rw [bs_list]; decide
      have e2 : ((bs [102, 111, 114]).toList == [105, 110, 116, 101, 114, 102, 97, 99, 101]) = false := by rw [bs_list]; decide
      have e3 : ((bs [102, 111, 114]).toList == [102, 117, 110, 99]) = false := by rw [bs_list]; decide
      have e4 : ((bs [102, 111, 114]).toList == [118, 97, 114]) = false := by rw [bs_list]; decide
      have e5 : ((bs [102, 111, 114]).toList == [105, 102]) = false := by rw [bs_list]; decide
      have e6 : ((bs [102, 111, 114]).toList == [101, 108, 115, 101]) = false := by rw [bs_list]; decide
      have e7 : ((bs [102, 111, 114]).toList == [102, 111, 114]) = true := by rw [bs_list]; decide
      go_enter Tryd.func20, Tryd.ntmps20
      go_wp2
      go_ret
      exact ⟨rfl, rfl⟩
    · have e0 : ((bs [98, 114, 101, 97, 107]).toList == [116, 121, 112, 101]) = false := by rw [bs_list]; decide
      have e1 : ((bs [98, 114, 101, 97, 107]).toList == [115, 116, 114, 117, 99, 116]) = false := by rw [bs_list]; decide
      have e2 : ((bs [98, 114, 101, 97, 107]).toList == [105, 110, 116, 101, 114, 102, 97, 99, 101]) = false := by rw [bs_list]; decide
      have e3 : ((bs [98, 114, 101, 97, 107]).toList == [102, 117, 110, 99]) = false := by rw [bs_list]; decide
      have e4 : ((bs [98, 114, 101, 97, 107]).toList == [118, 97, 114]) = false := by rw [bs_list]; decide
      have e5 : ((bs [98, 114, 101, 97, 107]).toList == [105, 102]) = false := by rw [bs_list]; decide
      have e6 : ((bs [98, 114, 101, 97, 107]).toList == [101, 108, 115, 101]) = false := by rw [bs_list]; decide
      have e7 : ((bs [98, 114, 101, 97, 107]).toList == [102, 111, 114]) = false := by rw [bs_list]; decide
      have e8 : ((bs [98, 114, 101, 97, 107]).toList == [98, 114, 101, 97, 107]) = true := by rw [bs_list]; decide
      go_enter Tryd.func20, Tryd.ntmps20
      go_wp2
      go_ret
      exact ⟨rfl, rfl⟩
    · have e0 : ((bs [99, 111, 110, 116, 105, 110, 117, 101]).toList == [116, 121, 112, 101]) = false := by rw [bs_list]; decide
      have e1 : ((bs [99, 111, 110, 116, 105, 110, 117, 101]).toList == [115, 116, 114, 117, 99, 116]) = false := by rw [bs_list]; decide
      have e2 : ((bs [99, 111, 110, 116, 105, 110, 117, 101]).toList == [105, 110, 116, 101, 114, 102, 97, 99, 101]) = false := by rw [bs_list]; decide
      have e3 : ((bs [99, 111, 110, 116, 105, 110, 117, 101]).toList == [102, 117, 110, 99]) = false := by rw [bs_list]; decide
      have e4 : ((bs [99, 111, 110, 116, 105, 110, 117, 101]).toList == [118, 97, 114]) = false := by rw [bs_list]; decide
      have e5 : ((bs [99, 111, 110, 116, 105, 110, 117, 101]).toList == [105, 102]) = false := by rw [bs_list]; decide
      have e6 : ((bs [99, 111, 110, 116, 105, 110, 117, 101]).toList == [101, 108, 115, 101]) = false := by rw [bs_list]; decide
      have e7 : ((bs [99, 111, 110, 116, 105, 110, 117, 101]).toList == [102, 111, 114]) = false := by rw [bs_list]; decide
      have e8 : ((bs [99, 111, 110, 116, 105, 110, 117, 101]).toList == [98, 114, 101, 97, 107]) = false := by rw [bs_list]; decide
      have e9 : ((bs [99, 111, 110, 116, 105, 110, 117, 101]).toList == [99, 111, 110, 116, 105, 110, 117, 101]) = true := by rw [bs_list]; decide
      go_enter Tryd.func20, Tryd.ntmps20
      go_wp2
      go_ret
      exact ⟨rfl, rfl⟩
    · have e0 : ((bs [114, 101, 116, 117, 114, 110]).toList == [116, 121, 112, 101]) = false := by rw [bs_list]; decide
      have e1 : ((bs [114, 101, 116, 117, 114, 110]).toList == [115, 116, 114, 117, 99, 116]) = false := by rw [bs_list]; decide
      have e2 : ((bs [114, 101, 116, 117, 114, 110]).toList == [105, 110, 116, 101, 114, 102, 97, 99, 101]) = false := by rw [bs_list]; decide
      have e3 : ((bs [114, 101, 116, 117, 114, 110]).toList == [102, 117, 110, 99]) = false := by rw [bs_list]; decide
      have e4 : ((bs [114, 101, 116, 117, 114, 110]).toList == [118, 97, 114]) = false := by rw [bs_list]; decide
      have e5 : ((bs [114, 101, 116, 117, 114, 110]).toList == [105, 102]) = false := by rw [bs_list]; decide
      have e6 : ((bs [114, 101, 116, 117, 114, 110]).toList == [101, 108, 115, 101]) = false := by rw [bs_list]; decide
      have e7 : ((bs [114, 101, 116, 117, 114, 110]).toList == [102, 111, 114]) = false := by rw [bs_list]; decide
      have e8 : ((bs [114, 101, 116, 117, 114, 110]).toList == [98, 114, 101, 97, 107]) = false := by rw [bs_list]; decide
      have e9 : ((bs [114, 101, 116, 117, 114, 110]).toList == [99, 111, 110, 116, 105, 110, 117, 101]) = false := by rw [bs_list]; decide
      have e10 : ((bs [114, 101, 116, 117, 114, 110]).toList == [114, 101, 116, 117, 114, 110]) = true := by rw [bs_list]; decide
      go_enter Tryd.func20, Tryd.ntmps20
      go_wp2
      go_ret
      exact ⟨rfl, rfl⟩
    · have e0 : ((bs [112, 114, 105, 110, 116]).toList == [116, 121, 112, 101]) = false := by rw [bs_list]; decide
      have e1 : ((bs [112, 114, 105, 110, 116]).toList == [115, 116, 114, 117, 99, 116]) = false := by rw [bs_list]; decide
      have e2 : ((bs [112, 114, 105, 110, 116]).toList == [105, 110, 116, 101, 114, 102, 97, 99, 101]) = false := by rw [bs_list]; decide
      have e3 : ((bs [112, 114, 105, 110, 116]).toList == [102, 117, 110, 99]) = false := by rw [bs_list]; decide
      have e4 : ((bs [112, 114, 105, 110, 116]).toList == [118, 97, 114]) = false := by rw [bs_list]; decide
      have e5 : ((bs [112, 114, 105, 110, 116]).toList == [105, 102]) = false := by rw [bs_list]; decide
      have e6 : ((bs [112, 114, 105, 110, 116]).toList == [101, 108, 115, 101]) = false := by rw [bs_list]; decide
      have e7 : ((bs [112, 114, 105, 110, 116]).toList == [102, 111, 114]) = false := by rw [bs_list]; decide
      have e8 : ((bs [112, 114, 105, 110, 116]).toList == [98, 114, 101, 97, 107]) = false := by rw [bs_list]; decide
      have e9 : ((bs [112, 114, 105, 110, 116]).toList == [99, 111, 110, 116, 105, 110, 117, 101]) = false := by rw [bs_list]; decide
      have e10 : ((bs [112, 114, 105, 110, 116]).toList == [114, 101, 116, 117, 114, 110]) = false := by rw [bs_list]; decide
      have e11 : ((bs [112, 114, 105, 110, 116]).toList == [112, 114, 105, 110, 116]) = true := by rw [bs_list]; decide
      go_enter Tryd.func20, Tryd.ntmps20
      go_wp2
      go_ret
      exact ⟨rfl, rfl⟩
    · have e0 : ((bs [108, 101, 110]).toList == [116, 121, 112, 101]) = false := by rw [bs_list]; decide
      have e1 : ((bs [108, 101, 110]).toList == [115, 116, 114, 117, 99, 116]) = false := by rw [bs_list]; decide
      have e2 : ((bs [108, 101, 110]).toList == [105, 110, 116, 101, 114, 102, 97, 99, 101]) = false := by rw [bs_list]; decide
      have e3 : ((bs [108, 101, 110]).toList == [102, 117, 110, 99]) = false := by rw [bs_list]; decide
      have e4 : ((bs [108, 101, 110]).toList == [118, 97, 114]) = false := by rw [bs_list]; decide
      have e5 : ((bs [108, 101, 110]).toList == [105, 102]) = false := by rw [bs_list]; decide
      have e6 : ((bs [108, 101, 110]).toList == [101, 108, 115, 101]) = false := by rw [bs_list]; decide
      have e7 : ((bs [108, 101, 110]).toList == [102, 111, 114]) = false := by rw [bs_list]; decide
      have e8 : ((bs [108, 101, 110]).toList == [98, 114, 101, 97, 107]) = false := by rw [bs_list]; decide
      have e9 : ((bs [108, 101, 110]).toList == [99, 111, 110, 116, 105, 110, 117, 101]) = false := by rw [bs_list]; decide
      have e10 : ((bs [108, 101, 110]).toList == [114, 101, 116, 117, 114, 110]) = false := by rw [bs_list]; decide
      have e11 : ((bs [108, 101, 110]).toList == [112, 114, 105, 110, 116]) = false := by rw [bs_list]; decide
      have e12 : ((bs [108, 101, 110]).toList == [108, 101, 110]) = true := by rw [bs_list]; decide
      go_enter Tryd.func20, Tryd.ntmps20
      go_wp2
      go_ret
      exact ⟨rfl, rfl⟩
    · have e0 : ((bs [109, 97, 107, 101]).toList == [116, 121, 112, 101]) = false := by rw [bs_list]; decide
      have e1 : ((bs [109, 97, 107, 101]).toList == [115, 116, 114, 117, 99, 116]) = false := by rw [bs_list]; decide
      have e2 : ((bs [109, 97, 107, 101]).toList == [105, 110, 116, 101, 114, 102, 97, 99, 101]) = false := by rw [bs_list]; decide
      have e3 : ((bs [109, 97, 107, 101]).toList == [102, 117, 110, 99]) = false := by rw [bs_list]; decide
      have e4 : ((bs [109, 97, 107, 101]).toList == [118, 97, 114]) = false := by rw [bs_list]; decide
      have e5 : ((bs [109, 97, 107, 101]).toList == [105, 102]) = false := by rw [bs_list]; decide
      have e6 : ((bs [109, 97, 107, 101]).toList == [101, 108, 115, 101]) = false := by rw [bs_list]; decide
      have e7 : ((bs [109, 97, 107, 101]).toList == [102, 111, 114]) = false := by rw [bs_list]; decide
      have e8 : ((bs [109, 97, 107, 101]).toList == [98, 114, 101, 97, 107]) = false := by rw [bs_list]; decide
      have e9 : ((bs [109, 97, 107, 101]).toList == [99, 111, 110, 116, 105, 110, 117, 101]) = false := by rw [bs_list]; decide
      have e10 : ((bs [109, 97, 107, 101]).toList == [114, 101, 116, 117, 114, 110]) = false := by rw [bs_list]; decide
      have e11 : ((bs [109, 97, 107, 101]).toList == [112, 114, 105, 110, 116]) = false := by rw [bs_list]; decide
      have e12 : ((bs [109, 97, 107, 101]).toList == [108, 101, 110]) = false := by rw [bs_list]; decide
      have e13 : ((bs [109, 97, 107, 101]).toList == [109, 97, 107, 101]) = true := by rw [bs_list]; decide
      go_enter Tryd.func20, Tryd.ntmps20
      go_wp2
      go_ret
      exact ⟨rfl, rfl⟩
    · have e0 : ((bs [110, 101, 119]).toList == [116, 121, 112, 101]) = false := by rw [bs_list]; decide
      have e1 : ((bs [110, 101, 119]).toList == [115, 116, 114, 117, 99, 116]) = false := by rw [bs_list]; decide
      have e2 : ((bs [110, 101, 119]).toList == [105, 110, 116, 101, 114, 102, 97, 99, 101]) = false := by rw [bs_list]; decide
      have e3 : ((bs [110, 101, 119]).toList == [102, 117, 110, 99]) = false := by rw [bs_list]; decide
      have e4 : ((bs [110, 101, 119]).toList == [118, 97, 114]) = false := by rw [bs_list]; decide
      have e5 : ((bs [110, 101, 119]).toList == [105, 102]) = false := by rw [bs_list]; decide
      have e6 : ((bs [110, 101, 119]).toList == [101, 108, 115, 101]) = false := by rw [bs_list]; decide
      have e7 : ((bs [110, 101, 119]).toList == [102, 111, 114]) = false := by rw [bs_list]; decide
      have e8 : ((bs [110, 101, 119]).toList == [98, 114, 101, 97, 107]) = false := by rw [bs_list]; decide
      have e9 : ((bs [110, 101, 119]).toList == [99, 111, 110, 116, 105, 110, 117, 101]) = false := by rw [bs_list]; decide
      have e10 : ((bs [110, 101, 119]).toList == [114, 101, 116, 117, 114, 110]) = false := by rw [bs_list]; decide
      have e11 : ((bs [110, 101, 119]).toList == [112, 114, 105, 110, 116]) = false := by rw [bs_list]; decide
      have e12 : ((bs [110, 101, 119]).toList == [108, 101, 110]) = false := by rw [bs_list]; decide
      have e13 : ((bs [110, 101, 119]).toList == [109, 97, 107, 101]) = false := by rw [bs_list]; decide
      have e14 : ((bs [110, 101, 119]).toList == [110, 101, 119]) = true := by rw [bs_list]; decide
      go_enter Tryd.func20, Tryd.ntmps20
      go_wp2
      go_ret
      exact ⟨rfl, rfl⟩
    · have e0 : ((bs [105, 110, 112, 117, 116]).toList == [116, 121, 112, 101]) = false := by rw [bs_list]; decide
      have e1 : ((bs [105, 110, 112, 117, 116]).toList == [115, 116, 114, 117, 99, 116]) = false := by rw [bs_list]; decide
      have e2 : ((bs [105, 110, 112, 117, 116]).toList == [105, 110, 116, 101, 114, 102, 97, 99, 101]) = false := by rw [bs_list]; decide
      have e3 : ((bs [105, 110, 112, 117, 116]).toList == [102, 117, 110, 99]) = false := by rw [bs_list]; decide
      have e4 : ((bs [105, 110, 112, 117, 116]).toList == [118, 97, 114]) = false := by rw [bs_list]; decide
      have e5 : ((bs [105, 110, 112, 117, 116]).toList == [105, 102]) = false := by rw [bs_list]; decide
      have e6 : ((bs [105, 110, 112, 117, 116]).toList == [101, 108, 115, 101]) = false := by rw [bs_list]; decide
      have e7 : ((bs [105, 110, 112, 117, 116]).toList == [102, 111, 114]) = false := by rw [bs_list]; decide
      have e8 : ((bs [105, 110, 112, 117, 116]).toList == [98, 114, 101, 97, 107]) = false := by rw [bs_list]; decide
      have e9 : ((bs [105, 110, 112, 117, 116]).toList == [99, 111, 110, 116, 105, 110, 117, 101]) = false := by rw [bs_list]; decide
      have e10 : ((bs [105, 110, 112, 117, 116]).toList == [114, 101, 116, 117, 114, 110]) = false := by rw [bs_list]; decide
      have e11 : ((bs [105, 110, 112, 117, 116]).toList == [112, 114, 105, 110, 116]) = false := by rw [bs_list]; decide
      have e12 : ((bs [105, 110, 112, 117, 116]).toList == [108, 101, 110]) = false := by rw [bs_list]; decide
      have e13 : ((bs [105, 110, 112, 117, 116]).toList == [109, 97, 107, 101]) = false := by rw [bs_list]; decide
      have e14 : ((bs [105, 110, 112, 117, 116]).toList == [110, 101, 119]) = false := by rw [bs_list]; decide
      have e15 : ((bs [105, 110, 112, 117, 116]).toList == [105, 110, 112, 117, 116]) = true := by rw [bs_list]; decide
      go_enter Tryd.func20, Tryd.ntmps20
      go_wp2
      go_ret
      exact ⟨rfl, rfl⟩
    · have e0 : ((bs [116, 114, 117, 101]).toList == [116, 121, 112, 101]) = false := by rw [bs_list]; decide
      have e1 : ((bs [116, 114, 117, 101]).toList == [115, 116, 114, 117, 99, 116]) = false := by rw [bs_list]; decide
      have e2 : ((bs [116, 114, 117, 101]).toList == [105, 110, 116, 101, 114, 102, 97, 99, 101]) = false := by rw [bs_list]; decide
      have e3 : ((bs [116, 114, 117, 101]).toList == [102, 117, 110, 99]) = false := by rw [bs_list]; decide
      have e4 : ((bs [116, 114, 117, 101]).toList == [118, 97, 114]) = false := by rw [bs_list]; decide
      have e5 : ((bs [116, 114, 117, 101]).toList == [105, 102]) = false := by rw [bs_list]; decide
      have e6 : ((bs [116, 114, 117, 101]).toList == [101, 108, 115, 101]) = false := by rw [bs_list]; decide
      have e7 : ((bs [116, 114, 117, 101]).toList == [102, 111, 114]) = false := by rw [bs_list]; decide
      have e8 : ((bs [116, 114, 117, 101]).toList == [98, 114, 101, 97, 107]) = false := by rw [bs_list]; decide
      have e9 : ((bs [116, 114, 117, 101]).toList == [99, 111, 110, 116, 105, 110, 117, 101]) = false := by rw [bs_list]; decide
      have e10 : ((bs [116, 114, 117, 101]).toList == [114, 101, 116, 117, 114, 110]) = false := by rw [bs_list]; decide
      have e11 : ((bs [116, 114, 117, 101]).toList == [112, 114, 105, 110, 116]) = false := by rw [bs_list]; decide
      have e12 : ((bs [116, 114, 117, 101]).toList == [108, 101, 110]) = false := by rw [bs_list]; decide
      have e13 : ((bs [116, 114, 117, 101]).toList == [109, 97, 107, 101]) = false := by rw [bs_list]; decide
      have e14 : ((bs [116, 114, 117, 101]).toList == [110, 101, 119]) = false := by rw [bs_list]; decide
      have e15 : ((bs [116, 114, 117, 101]).toList == [105, 110, 112, 117, 116]) = false := by rw [bs_list]; decide
      have e16 : ((bs [116, 114, 117, 101]).toList == [116, 114, 117, 101]) = true := by rw [bs_list]; decide
      go_enter Tryd.func20, Tryd.ntmps20
      go_wp2
      go_ret
      exact ⟨rfl, rfl⟩
    · have e0 : ((bs [102, 97, 108, 115, 101]).toList == [116, 121, 112, 101]) = false := by rw [bs_list]; decide
      have e1 : ((bs [102, 97, 108, 115, 101]).toList == [115, 116, 114, 117, 99, 116]) = false := by rw [bs_list]; decide
      have e2 : ((bs [102, 97, 108, 115, 101]).toList == [105, 110, 116, 101, 114, 102, 97, 99, 101]) = false := by rw [bs_list]; decide
      have e3 : ((bs [102, 97, 108, 115, 101]).toList == [102, 117, 110, 99]) = false := by rw [bs_list]; decide
      have e4 : ((bs [102, 97, 108, 115, 101]).toList == [118, 97, 114]) = false := by rw [bs_list]; decide
      have e5 : ((bs [102, 97, 108, 115, 101]).toList == [105, 102]) = false := by rw [bs_list]; decide
      have e6 : ((bs [102, 97, 108, 115, 101]).toList == [101, 108, 115, 101]) = false := by rw [bs_list]; decide
      have e7 : ((bs [102, 97, 108, 115, 101]).toList == [102, 111, 114]) = false := by rw [bs_list]; decide
      have e8 : ((bs [102, 97, 108, 115, 101]).toList == [98, 114, 101, 97, 107]) = false := by rw [bs_list]; decide
      have e9 : ((bs [102, 97, 108, 115, 101]).toList == [99, 111, 110, 116, 105, 110, 117, 101]) = false := by rw [bs_list]; decide
      have e10 : ((bs [102, 97, 108, 115, 101]).toList == [114, 101, 116, 117, 114, 110]) = false := by rw [bs_list]; decide
      have e11 : ((bs [102, 97, 108, 115, 101]).toList == [112, 114, 105, 110, 116]) = false := by rw [bs_list]; decide
      have e12 : ((bs [102, 97, 108, 115, 101]).toList == [108, 101, 110]) = false := by rw [bs_list]; decide
      have e13 : ((bs [102, 97, 108, 115, 101]).toList == [109, 97, 107, 101]) = false := by rw [bs_list]; decide
      have e14 : ((bs [102, 97, 108, 115, 101]).toList == [110, 101, 119]) = false := by rw [bs_list]; decide
      have e15 : ((bs [102, 97, 108, 115, 101]).toList == [105, 110, 112, 117, 116]) = false := by rw [bs_list]; decide
      have e16 : ((bs [102, 97, 108, 115, 101]).toList == [116, 114, 117, 101]) = false := by rw [bs_list]; decide
      have e17 : ((bs [102, 97, 108, 115, 101]).toList == [102, 97, 108, 115, 101]) = true := by rw [bs_list]; decide
      go_enter Tryd.func20, Tryd.ntmps20
      go_wp2
      go_ret
      exact ⟨rfl, rfl⟩
    · have e0 : ((bs [110, 105, 108]).toList == [116, 121, 112, 101]) = false := by rw [bs_list]; decide
      have e1 : ((bs [110, 105, 108]).toList == [115, 116, 114, 117, 99, 116]) = false := by rw [bs_list]; decide
      have e2 : ((bs [110, 105, 108]).toList == [105, 110, 116, 101, 114, 102, 97, 99, 101]) = false := by rw [bs_list]; decide
      have e3 : ((bs [110, 105, 108]).toList == [102, 117, 110, 99]) = false := by rw [bs_list]; decide
      have e4 : ((bs [110, 105, 108]).toList == [118, 97, 114]) = false := by rw [bs_list]; decide
      have e5 : ((bs [110, 105, 108]).toList == [105, 102]) = false := by rw [bs_list]; decide
      have e6 : ((bs [110, 105, 108]).toList == [101, 108, 115, 101]) = false := by rw [bs_list]; decide
      have e7 : ((bs [110, 105, 108]).toList == [102, 111, 114]) = false := by rw [bs_list]; decide
      have e8 : ((bs [110, 105, 108]).toList == [98, 114, 101, 97, 107]) = false := by rw [bs_list]; decide
      have e9 : ((bs [110, 105, 108]).toList == [99, 111, 110, 116, 105, 110, 117, 101]) = false := by rw [bs_list]; decide
      have e10 : ((bs [110, 105, 108]).toList == [114, 101, 116, 117, 114, 110]) = false := by rw [bs_list]; decide
      have e11 : ((bs [110, 105, 108]).toList == [112, 114, 105, 110, 116]) = false := by rw [bs_list]; decide
      have e12 : ((bs [110, 105, 108]).toList == [108, 101, 110]) = false := by rw [bs_list]; decide
      have e13 : ((bs [110, 105, 108]).toList == [109, 97, 107, 101]) = false := by rw [bs_list]; decide
      have e14 : ((bs [110, 105, 108]).toList == [110, 101, 119]) = false := by rw [bs_list]; decide
      have e15 : ((bs [110, 105, 108]).toList == [105, 110, 112, 117, 116]) = false := by rw [bs_list]; decide
      have e16 : ((bs [110, 105, 108]).toList == [116, 114, 117, 101]) = false := by rw [bs_list]; decide
      have e17 : ((bs [110, 105, 108]).toList == [102, 97, 108, 115, 101]) = false := by rw [bs_list]; decide
      have e18 : ((bs [110, 105, 108]).toList == [110, 105, 108]) = true := by rw [bs_list]; decide
      go_enter Tryd.func20, Tryd.ntmps20
      go_wp2
      go_ret
      exact ⟨rfl, rfl⟩
    · have e0 : ((bs [105, 110, 116]).toList == [116, 121, 112, 101]) = false := by rw [bs_list]; decide
      have e1 : ((bs [105, 110, 116]).toList == [115, 116, 114, 117, 99, 116]) = false := by rw [bs_list]; decide
      have e2 : ((bs [105, 110, 116]).toList == [105, 110, 116, 101, 114, 102, 97, 99, 101]) = false := by rw [bs_list]; decide
      have e3 : ((bs [105, 110, 116]).toList == [102, 117, 110, 99]) = false := by rw [bs_list]; decide
      have e4 : ((bs [105, 110, 116]).toList == [118, 97, 114]) = false := by rw [bs_list]; decide
      have e5 : ((bs [105, 110, 116]).toList == [105, 102]) = false := by rw [bs_list]; decide
      have e6 : ((bs [105, 110, 116]).toList == [101, 108, 115, 101]) = false := by rw [bs_list]; decide
      have e7 : ((bs [105, 110, 116]).toList == [102, 111, 114]) = false := by rw [bs_list]; decide
      have e8 : ((bs [105, 110, 116]).toList == [98, 114, 101, 97, 107]) = false := by rw [bs_list]; decide
      have e9 : ((bs [105, 110, 116]).toList == [99, 111, 110, 116, 105, 110, 117, 101]) = false := by rw [bs_list]; decide
      have e10 : ((bs [105, 110, 116]).toList == [114, 101, 116, 117, 114, 110]) = false := by rw [bs_list]; decide
      have e11 : ((bs [105, 110, 116]).toList == [112, 114, 105, 110, 116]) = false := by rw [bs_list]; decide
      have e12 : ((bs [105, 110, 116]).toList == [108, 101, 110]) = false := by rw [bs_list]; decide
      have e13 : ((bs [105, 110, 116]).toList == [109, 97, 107, 101]) = false := by rw [bs_list]; decide
      have e14 : ((bs [105, 110, 116]).toList == [110, 101, 119]) = false := by rw [bs_list]; decide
      have e15 : ((bs [105, 110, 116]).toList == [105, 110, 112, 117, 116]) = false := by rw [bs_list]; decide
      have e16 : ((bs [105, 110, 116]).toList == [116, 114, 117, 101]) = false := by rw [bs_list]; decide
      have e17 : ((bs [105, 110, 116]).toList == [102, 97, 108, 115, 101]) = false := by rw [bs_list]; decide
      have e18 : ((bs [105, 110, 116]).toList == [110, 105, 108]) = false := by rw [bs_list]; decide
      have e19 : ((bs [105, 110, 116]).toList == [105, 110, 116]) = true := by rw [bs_list]; decide
      go_enter Tryd.func20, Tryd.ntmps20
      go_wp2
      go_ret
      exact ⟨rfl, rfl⟩
    · have e0 : ((bs [98, 111, 111, 108]).toList == [116, 121, 112, 101]) = false := by rw [bs_list]; decide
      have e1 : ((bs [98, 111, 111, 108]).toList == [115, 116, 114, 117, 99, 116]) = false := by rw [bs_list]; decide
      have e2 : ((bs [98, 111, 111, 108]).toList == [105, 110, 116, 101, 114, 102, 97, 99, 101]) = false := by rw [bs_list]; decide
      have e3 : ((bs [98, 111, 111, 108]).toList == [102, 117, 110, 99]) = false := by rw [bs_list]; decide
      have e4 : ((bs [98, 111, 111, 108]).toList == [118, 97, 114]) = false := by rw [bs_list]; decide
      have e5 : ((bs [98, 111, 111, 108]).toList == [105, 102]) = false := by rw [bs_list]; decide
      have e6 : ((bs [98, 111, 111, 108]).toList == [101, 108, 115, 101]) = false := by rw [bs_list]; decide
      have e7 : ((bs [98, 111, 111, 108]).toList == [102, 111, 114]) = false := by rw [bs_list]; decide
      have e8 : ((bs [98, 111, 111, 108]).toList == [98, 114, 101, 97, 107]) = false := by rw [bs_list]; decide
      have e9 : ((bs [98, 111, 111, 108]).toList == [99, 111, 110, 116, 105, 110, 117, 101]) = false := by rw [bs_list]; decide
      have e10 : ((bs [98, 111, 111, 108]).toList == [114, 101, 116, 117, 114, 110]) = false := by rw [bs_list]; decide
      have e11 : ((bs [98, 111, 111, 108]).toList == [112, 114, 105, 110, 116]) = false := by rw [bs_list]; decide
      have e12 : ((bs [98, 111, 111, 108]).toList == [108, 101, 110]) = false := by rw [bs_list]; decide
      have e13 : ((bs [98, 111, 111, 108]).toList == [109, 97, 107, 101]) = false := by rw [bs_list]; decide
      have e14 : ((bs [98, 111, 111, 108]).toList == [110, 101, 119]) = false := by rw [bs_list]; decide
      have e15 : ((bs [98, 111, 111, 108]).toList == [105, 110, 112, 117, 116]) = false := by rw [bs_list]; decide
      have e16 : ((bs [98, 111, 111, 108]).toList == [116, 114, 117, 101]) = false := by rw [bs_list]; decide
      have e17 : ((bs [98, 111, 111, 108]).toList == [102, 97, 108, 115, 101]) = false := by rw [bs_list]; decide
      have e18 : ((bs [98, 111, 111, 108]).toList == [110, 105, 108]) = false := by rw [bs_list]; decide
      have e19 : ((bs [98, 111, 111, 108]).toList == [105, 110, 116]) = false := by rw [bs_list]; decide
      have e20 : ((bs [98, 111, 111, 108]).toList == [98, 111, 111, 108]) = true := by rw [bs_list]; decide
      go_enter Tryd.func20, Tryd.ntmps20
      go_wp2
      go_ret
      exact ⟨rfl, rfl⟩
    · have e0 : ((bs [115, 116, 114, 105, 110, 103]).toList == [116, 121, 112, 101]) = false := by rw [bs_list]; decide
      have e1 : ((bs [115, 116, 114, 105, 110, 103]).toList == [115, 116, 114, 117, 99, 116]) = false := by rw [bs_list]; decide
      have e2 : ((bs [115, 116, 114, 105, 110, 103]).toList == [105, 110, 116, 101, 114, 102, 97, 99, 101]) = false := by rw [bs_list]; decide
      have e3 : ((bs [115, 116, 114, 105, 110, 103]).toList == [102, 117, 110, 99]) = false := by rw [bs_list]; decide
      have e4 : ((bs [115, 116, 114, 105, 110, 103]).toList == [118, 97, 114]) = false := by rw [bs_list]; decide
      have e5 : ((bs [115, 116, 114, 105, 110, 103]).toList == [105, 102]) = false := by rw [bs_list]; decide
      have e6 : ((bs [115, 116, 114, 105, 110, 103]).toList == [101, 108, 115, 101]) = false := by rw [bs_list]; decide
      have e7 : ((bs [115, 116, 114, 105, 110, 103]).toList == [102, 111, 114]) = false := by rw [bs_list]; decide
      have e8 : ((bs [115, 116, 114, 105, 110, 103]).toList == [98, 114, 101, 97, 107]) = false := by rw [bs_list]; decide
      have e9 : ((bs [115, 116, 114, 105, 110, 103]).toList == [99, 111, 110, 116, 105, 110, 117, 101]) = false := by rw [bs_list]; decide
      have e10 : ((bs [115, 116, 114, 105, 110, 103]).toList == [114, 101, 116, 117, 114, 110]) = false := by rw [bs_list]; decide
      have e11 : ((bs [115, 116, 114, 105, 110, 103]).toList == [112, 114, 105, 110, 116]) = false := by rw [bs_list]; decide
      have e12 : ((bs [115, 116, 114, 105, 110, 103]).toList == [108, 101, 110]) = false := by rw [bs_list]; decide
      have e13 : ((bs [115, 116, 114, 105, 110, 103]).toList == [109, 97, 107, 101]) = false := by rw [bs_list]; decide
      have e14 : ((bs [115, 116, 114, 105, 110, 103]).toList == [110, 101, 119]) = false := by rw [bs_list]; decide
      have e15 : ((bs [115, 116, 114, 105, 110, 103]).toList == [105, 110, 112, 117, 116]) = false := by rw [bs_list]; decide
      have e16 : ((bs [115, 116, 114, 105, 110, 103]).toList == [116, 114, 117, 101]) = false := by rw [bs_list]; decide
      have e17 : ((bs [115, 116, 114, 105, 110, 103]).toList == [102, 97, 108, 115, 101]) = false := by rw [bs_list]; decide
      have e18 : ((bs [115, 116, 114, 105, 110, 103]).toList == [110, 105, 108]) = false := by rw [bs_list]; decide
      have e19 : ((bs [115, 116, 114, 105, 110, 103]).toList == [105, 110, 116]) = false := by rw [bs_list]; decide
      have e20 : ((bs [115, 116, 114, 105, 110, 103]).toList == [98, 111, 111, 108]) = false := by rw [bs_list]; decide
      have e21 : ((bs [115, 116, 114, 105, 110, 103]).toList == [115, 116, 114, 105, 110, 103]) = true := by rw [bs_list]; decide
      go_enter Tryd.func20, Tryd.ntmps20
      go_wp2
      go_ret
      exact ⟨rfl, rfl⟩
  · have hf : isWord l = false := by simpa using h
    rw [hf]
    have hm : l ∉ wordsL := by simpa [isWord] using h
    simp only [wordsL, List.mem_cons, List.not_mem_nil, or_false, not_or] at hm
    obtain ⟨n0, n1, n2, n3, n4, n5, n6, n7, n8, n9, n10, n11, n12, n13, n14, n15, n16, n17, n18, n19, n20, n21⟩ := hm
    have e0 : ((bs l).toList == [116, 121, 112, 101]) = false := by rw [bs_list]; exact beq_eq_false_iff_ne.2 n0
    have e1 : ((bs l).toList == [115, 116, 114, 117, 99, 116]) = false := by rw [bs_list]; exact beq_eq_false_iff_ne.2 n1
    have e2 : ((bs l).toList == [105, 110, 116, 101, 114, 102, 97, 99, 101]) = false := by rw [bs_list]; exact beq_eq_false_iff_ne.2 n2
    have e3 : ((bs l).toList == [102, 117, 110, 99]) = false := by rw [bs_list]; exact beq_eq_false_iff_ne.2 n3
    have e4 : ((bs l).toList == [118, 97, 114]) = false := by rw [bs_list]; exact beq_eq_false_iff_ne.2 n4
    have e5 : ((bs l).toList == [105, 102]) = false := by rw [bs_list]; exact beq_eq_false_iff_ne.2 n5
    have e6 : ((bs l).toList == [101, 108, 115, 101]) = false := by rw [bs_list]; exact beq_eq_false_iff_ne.2 n6
    have e7 : ((bs l).toList == [102, 111, 114]) = false := by rw [bs_list]; exact beq_eq_false_iff_ne.2 n7
    have e8 : ((bs l).toList == [98, 114, 101, 97, 107]) = false := by rw [bs_list]; exact beq_eq_false_iff_ne.2 n8
    have e9 : ((bs l).toList == [99, 111, 110, 116, 105, 110, 117, 101]) = false := by rw [bs_list]; exact beq_eq_false_iff_ne.2 n9
    have e10 : ((bs l).toList == [114, 101, 116, 117, 114, 110]) = false := by rw [bs_list]; exact beq_eq_false_iff_ne.2 n10
    have e11 : ((bs l).toList == [112, 114, 105, 110, 116]) = false := by rw [bs_list]; exact beq_eq_false_iff_ne.2 n11
    have e12 : ((bs l).toList == [108, 101, 110]) = false := by rw [bs_list]; exact beq_eq_false_iff_ne.2 n12
    have e13 : ((bs l).toList == [109, 97, 107, 101]) = false := by rw [bs_list]; exact beq_eq_false_iff_ne.2 n13
    have e14 : ((bs l).toList == [110, 101, 119]) = false := by rw [bs_list]; exact beq_eq_false_iff_ne.2 n14
    have e15 : ((bs l).toList == [105, 110, 112, 117, 116]) = false := by rw [bs_list]; exact beq_eq_false_iff_ne.2 n15
    have e16 : ((bs l).toList == [116, 114, 117, 101]) = false := by rw [bs_list]; exact beq_eq_false_iff_ne.2 n16
    have e17 : ((bs l).toList == [102, 97, 108, 115, 101]) = false := by rw [bs_list]; exact beq_eq_false_iff_ne.2 n17
    have e18 : ((bs l).toList == [110, 105, 108]) = false := by rw [bs_list]; exact beq_eq_false_iff_ne.2 n18
    have e19 : ((bs l).toList == [105, 110, 116]) = false := by rw [bs_list]; exact beq_eq_false_iff_ne.2 n19
    have e20 : ((bs l).toList == [98, 111, 111, 108]) = false := by rw [bs_list]; exact beq_eq_false_iff_ne.2 n20
    have e21 : ((bs l).toList == [115, 116, 114, 105, 110, 103]) = false := by rw [bs_list]; exact beq_eq_false_iff_ne.2 n21
    clear n0 n1 n2 n3 n4 n5 n6 n7 n8 n9 n10 n11 n12 n13 n14 n15 n16 n17 n18 n19 n20 n21 h hf
    go_enter Tryd.func20, Tryd.ntmps20
    go_wp2
    go_ret
    exact ⟨rfl, rfl⟩

theorem isName_cons (b : UInt8) (r : List UInt8) : isName (b :: r) = (letter b.toNat && r.all inName && !isWord (b :: r)) := by
  have hd : letter b.toNat = true → digit b.toNat = false := by
    intro h
    simp only [letter, Bool.or_eq_true, Bool.and_eq_true, beq_iff_eq, decide_eq_true_eq] at h
    simp only [digit, Bool.and_eq_false_iff, decide_eq_false_iff_not]
    omega
  have ht : ∀ l : List UInt8, ((l.takeWhile inName).length == l.length) = l.all inName := by
    intro l
    induction l with
    | nil => rfl
    | cons c l ih =>
      rw [List.takeWhile_cons, List.all_cons]
      cases hc : inName c
      · simp
      · simpa using ih
  unfold isName
  cases hl : letter b.toNat
  · have e0 : nameLen (b :: r) = 0 := by
      cases hg : digit b.toNat
      · have : inName b = false := by simp [inName, hl, hg]
        simp [nameLen, this]
      · simp [nameLen, hg]
    rw [e0]
    have e2 : (0 == (b :: r).length) = false := by rw [beq_eq_false_iff_ne, List.length_cons]; omega
    rw [e2]; simp
  · have hg := hd hl
    have : inName b = true := by simp [inName, hl]
    have h2 := ht r
    have e1 : ((b :: r).takeWhile inName).length = (r.takeWhile inName).length + 1 := by rw [List.takeWhile_cons, if_pos this]; rfl
    have e0 : nameLen (b :: r) = ((b :: r).takeWhile inName).length := by simp [nameLen, hg]
    have e2 : ((r.takeWhile inName).length + 1 == (b :: r).length) = ((r.takeWhile inName).length == r.length) := by
      rw [List.length_cons, Bool.eq_iff_iff, beq_iff_eq, beq_iff_eq]; omega
    rw [e0, e1, e2, h2]; rfl

set_option maxHeartbeats 4000000 in
theorem risName_any {w : World} (l : List UInt8) (hl : l.length ≤ 9223372036854775807) : Calls Tryd.prog 21 #[.string (bs l)] w fun e w' => e = .returned (.bool (isName l)) ∧ w = w' := by
  cases l with
  | nil =>
    have e1 : (bs []).toList.isEmpty = true := by rw [bs_list]; rfl
    go_enter Tryd.func21, Tryd.ntmps21
    go_wp2
    go_ret
    exact ⟨rfl, rfl⟩
  | cons b r =>
    rw [isName_cons]
    have e1 : (bs (b :: r)).toList.isEmpty = false := by rw [bs_list]; rfl
    have hsz := bs_size (b :: r)
    have I := Lib.hid (show ∀ (k : Nat) (c : UInt8) (h : k < (bs (b :: r)).size), (b :: r)[k]? = some c → (bs (b :: r))[k] = c from fun k c h e => get_bs h e)
    have RW := Lib.hid (risWord_any (w := w) (b :: r))
    obtain ⟨n, hn⟩ : ∃ n, n = r.length := ⟨_, rfl⟩
    have hsz2 : (bs (b :: r)).size = n + 1 := by rw [hsz, hn]; rfl
    have hln : n + 1 ≤ 9223372036854775807 := by rw [hn]; exact hl
    clear hsz hl
    have Hn := Lib.hid hn
    clear hn
    generalize hW : isWord (b :: r) = wd at RW
    clear hW
    have I2 := Lib.hid (show ∀ (k : Nat) (c : UInt8) (h : k + 1 < (bs (b :: r)).size), r[k]? = some c → (bs (b :: r))[k + 1] = c from fun k c h e => I.out (k + 1) c h (by simpa using e))
    have h0 : 0 < (bs (b :: r)).size := by rw [hsz2]; omega
    have ix0 := I.out 0 b h0 rfl
    clear I
    generalize bs (b :: r) = s at *
    cases hL : letter b.toNat
    · go_enter Tryd.func21, Tryd.ntmps21
      go_wp2_with fail
      refine (rletter_any b.toNat (UInt8.toNat_lt b)).mono ?_
      rintro e w' ⟨rfl, rfl⟩
      rw [hL]
      go_wp2_with fail
      go_ret
      exact ⟨rfl, rfl⟩
    cases wd
    · go_enter Tryd.func21, Tryd.ntmps21
      go_wp2_with fail
      refine (rletter_any b.toNat (UInt8.toNat_lt b)).mono ?_
      rintro e w' ⟨rfl, rfl⟩
      rw [hL]
      go_wp2_with fail
      refine (RW.out).mono ?_
      rintro e w' ⟨rfl, rfl⟩
      go_wp2_with fail
      go_loopw [3] (fun i wr => ∃ k : Nat, k ≤ n ∧ i = .int .i64 ((k + 1 : Nat)) ∧ Hid (w = wr ∧ ∀ j c, j < k → r[j]? = some c → inName c = true)) (fun i _ => n + 2 - (intOf i).toNat)
      case atStart => exact ⟨0, Nat.zero_le _, rfl, Lib.hid ⟨rfl, fun _ _ h => absurd h (Nat.not_lt_zero _)⟩⟩
      case round =>
        obtain ⟨k, hk, rfl, hm⟩ := hrel
        obtain ⟨q, hq⟩ : ∃ q, q = k + 1 := ⟨_, rfl⟩
        rw [← hq]
        have Hq := Lib.hid hq
        by_cases hlt : k < n
        · obtain ⟨c, hc⟩ : ∃ c, r[k]? = some c := ⟨_, List.getElem?_eq_getElem (by rw [← Hn.out]; exact hlt)⟩
          have hqs : q < s.size := by omega
          have gk : s[q] = c := by subst hq; exact I2.out k c hqs hc
          have C := Lib.hid hc
          clear hc hq
          obtain ⟨q2, hq2⟩ : ∃ q2, q2 = q + 1 := ⟨_, rfl⟩
          have hw : (q : Int) + 1 = (q2 : Int) := by omega
          have Hq2 := Lib.hid hq2
          clear hq2
          cases hL : letter c.toNat
          · cases hD : digit c.toNat
            · go_wp2_with fail
              refine (rletter_any c.toNat (UInt8.toNat_lt c)).mono ?_
              rintro e w' ⟨rfl, rfl⟩
              rw [hL]
              go_wp2_with fail
              refine (rdigit_any c.toNat (UInt8.toNat_lt c)).mono ?_
              rintro e w' ⟨rfl, rfl⟩
              rw [hD]
              go_wp2_with fail
              go_ret
              refine ⟨?_, hm.out.1⟩
              have : r.all inName = false := by
                rw [List.all_eq_false]
                exact ⟨c, List.mem_of_getElem? C.out, by simp [inName, hL, hD]⟩
              rw [this]; rfl
            · go_wp2_with fail
              refine (rletter_any c.toNat (UInt8.toNat_lt c)).mono ?_
              rintro e w' ⟨rfl, rfl⟩
              rw [hL]
              go_wp2_with fail
              refine (rdigit_any c.toNat (UInt8.toNat_lt c)).mono ?_
              rintro e w' ⟨rfl, rfl⟩
              rw [hD]
              go_wp2_with fail
              go_roundw
              case rel => exact ⟨k + 1, by omega, by have := Hq.out; go_num, Lib.hid ⟨hm.out.1, fun j y hj hy => by
                by_cases hjk : j = k
                · subst hjk; rw [C.out] at hy; cases hy; simp [inName, hD]
                · exact hm.out.2 j y (by omega) hy⟩⟩
              case measure => have := Hq.out; simp [intOf]; omega
          · go_wp2_with fail
            refine (rletter_any c.toNat (UInt8.toNat_lt c)).mono ?_
            rintro e w' ⟨rfl, rfl⟩
            rw [hL]
            go_wp2_with fail
            go_roundw
            case rel => exact ⟨k + 1, by omega, by have := Hq.out; go_num, Lib.hid ⟨hm.out.1, fun j y hj hy => by
              by_cases hjk : j = k
              · subst hjk; rw [C.out] at hy; cases hy; simp [inName, hL]
              · exact hm.out.2 j y (by omega) hy⟩⟩
            case measure => have := Hq.out; simp [intOf]; omega
        · have hkn : k = n := by omega
          have hqs : ¬ ((q : Int) < ((n + 1 : Nat) : Int)) := by omega
          clear hq
          go_wp2_with fail
          go_ret
          refine ⟨?_, hm.out.1⟩
          have : r.all inName = true := by
            rw [List.all_eq_true]
            intro c hc
            obtain ⟨j, hj⟩ := List.mem_iff_getElem?.1 hc
            exact hm.out.2 j c (by have := (List.getElem?_eq_some_iff.1 hj).1; have := Hn.out; omega) hj
          rw [this]; rfl
    · go_enter Tryd.func21, Tryd.ntmps21
      go_wp2_with fail
      refine (rletter_any b.toNat (UInt8.toNat_lt b)).mono ?_
      rintro e w' ⟨rfl, rfl⟩
      rw [hL]
      go_wp2_with fail
      refine (RW.out).mono ?_
      rintro e w' ⟨rfl, rfl⟩
      go_wp2_with fail
      go_ret
      exact ⟨by simp, rfl⟩
end Go.Proofs.YtpobkjnlcengbaaDoor
