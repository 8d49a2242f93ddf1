/-
  The reference's 'ends'.
-/
import Derived.Test.YtjkpimohgbkjoaaDoorTkE
import Derived.Test.YtjkpimohgbkjoaaDoorTkRefA
namespace Go.Proofs.YtjkpimohgbkjoaaDoor
open Go.RowKit

set_option maxRecDepth 10000 in
set_option maxHeartbeats 4000000 in
theorem rends_any {w : World} (kd : Nat) (tx : List UInt8) (n ln cl : Nat) :
    Calls Tryd.prog 37 #[.agg #[.int .i64 kd, .string (bs tx), .int .i64 n, .int .i64 ln, .int .i64 cl]] w fun e w' => e = .returned (.bool (mayEnd ⟨kd, tx, n, ln, cl⟩)) ∧ Up w w' := by
  have U := Lib.hid (show Up w (w.alloc (.cells #[.int .i64 kd, .string (bs tx), .int .i64 n, .int .i64 ln, .int .i64 cl] 24)) from (Fr.refl _ _).alloc _)
  by_cases hk : kd = 2
  · subst hk
    have e : mayEnd ⟨2, tx, n, ln, cl⟩ = true := rfl
    rw [e]
    go_enter Tryd.func37, Tryd.ntmps37
    go_wp2_with fail
    go_ret
    exact ⟨rfl, U.out⟩
  by_cases hk : kd = 4
  · subst hk
    have e : mayEnd ⟨4, tx, n, ln, cl⟩ = true := rfl
    rw [e]
    go_enter Tryd.func37, Tryd.ntmps37
    go_wp2_with fail
    go_ret
    exact ⟨rfl, U.out⟩
  by_cases hk : kd = 5
  · subst hk
    have e : mayEnd ⟨5, tx, n, ln, cl⟩ = true := rfl
    rw [e]
    go_enter Tryd.func37, Tryd.ntmps37
    go_wp2_with fail
    go_ret
    exact ⟨rfl, U.out⟩
  by_cases hk : kd = 3
  · subst hk
    have e : mayEnd ⟨3, tx, n, ln, cl⟩ = endWords.contains tx := by simp [mayEnd]
    rw [e]
    by_cases h : endWords.contains tx = true
    · rw [h]
      have hm : tx ∈ endWords := by simpa using h
      clear h e
      simp only [endWords, List.mem_cons, List.not_mem_nil, or_false] at hm
      rcases hm with rfl | rfl | rfl | rfl | rfl | rfl | rfl | rfl | rfl
      · have e0 : ((bs [116, 114, 117, 101]).toList == [116, 114, 117, 101]) = true := by rw [bs_list]; decide
        go_enter Tryd.func37, Tryd.ntmps37
        go_wp2_with fail
        go_ret
        exact ⟨rfl, U.out⟩
      · have e0 : ((bs [102, 97, 108, 115, 101]).toList == [116, 114, 117, 101]) = false := by rw [bs_list]; decide
        have e1 : ((bs [102, 97, 108, 115, 101]).toList == [102, 97, 108, 115, 101]) = true := by rw [bs_list]; decide
        go_enter Tryd.func37, Tryd.ntmps37
        go_wp2_with fail
        go_ret
        exact ⟨rfl, U.out⟩
      · have e0 : ((bs [110, 105, 108]).toList == [116, 114, 117, 101]) = false := by rw [bs_list]; decide
        have e1 : ((bs [110, 105, 108]).toList == [102, 97, 108, 115, 101]) = false := by rw [bs_list]; decide
        have e2 : ((bs [110, 105, 108]).toList == [110, 105, 108]) = true := by rw [bs_list]; decide
        go_enter Tryd.func37, Tryd.ntmps37
        go_wp2_with fail
        go_ret
        exact ⟨rfl, U.out⟩
      · have e0 : ((bs [98, 114, 101, 97, 107]).toList == [116, 114, 117, 101]) = false := by rw [bs_list]; decide
        have e1 : ((bs [98, 114, 101, 97, 107]).toList == [102, 97, 108, 115, 101]) = false := by rw [bs_list]; decide
        have e2 : ((bs [98, 114, 101, 97, 107]).toList == [110, 105, 108]) = false := by rw [bs_list]; decide
        have e3 : ((bs [98, 114, 101, 97, 107]).toList == [98, 114, 101, 97, 107]) = true := by rw [bs_list]; decide
        go_enter Tryd.func37, Tryd.ntmps37
        go_wp2_with fail
        go_ret
        exact ⟨rfl, U.out⟩
      · have e0 : ((bs [99, 111, 110, 116, 105, 110, 117, 101]).toList == [116, 114, 117, 101]) = false := by rw [bs_list]; decide
        have e1 : ((bs [99, 111, 110, 116, 105, 110, 117, 101]).toList == [102, 97, 108, 115, 101]) = false := by rw [bs_list]; decide
        have e2 : ((bs [99, 111, 110, 116, 105, 110, 117, 101]).toList == [110, 105, 108]) = false := by rw [bs_list]; decide
        have e3 : ((bs [99, 111, 110, 116, 105, 110, 117, 101]).toList == [98, 114, 101, 97, 107]) = false := by rw [bs_list]; decide
        have e4 : ((bs [99, 111, 110, 116, 105, 110, 117, 101]).toList == [99, 111, 110, 116, 105, 110, 117, 101]) = true := by rw [bs_list]; decide
        go_enter Tryd.func37, Tryd.ntmps37
        go_wp2_with fail
        go_ret
        exact ⟨rfl, U.out⟩
      · have e0 : ((bs [114, 101, 116, 117, 114, 110]).toList == [116, 114, 117, 101]) = false := by rw [bs_list]; decide
        have e1 : ((bs [114, 101, 116, 117, 114, 110]).toList == [102, 97, 108, 115, 101]) = false := by rw [bs_list]; decide
        have e2 : ((bs [114, 101, 116, 117, 114, 110]).toList == [110, 105, 108]) = false := by rw [bs_list]; decide
        have e3 : ((bs [114, 101, 116, 117, 114, 110]).toList == [98, 114, 101, 97, 107]) = false := by rw [bs_list]; decide
        have e4 : ((bs [114, 101, 116, 117, 114, 110]).toList == [99, 111, 110, 116, 105, 110, 117, 101]) = false := by rw [bs_list]; decide
        have e5 : ((bs [114, 101, 116, 117, 114, 110]).toList == [114, 101, 116, 117, 114, 110]) = true := by rw [bs_list]; decide
        go_enter Tryd.func37, Tryd.ntmps37
        go_wp2_with fail
        go_ret
        exact ⟨rfl, U.out⟩
      · have e0 : ((bs [105, 110, 116]).toList == [116, 114, 117, 101]) = false := by rw [bs_list]; decide
        have e1 : ((bs [105, 110, 116]).toList == [102, 97, 108, 115, 101]) = false := by rw [bs_list]; decide
        have e2 : ((bs [105, 110, 116]).toList == [110, 105, 108]) = false := by rw [bs_list]; decide
        have e3 : ((bs [105, 110, 116]).toList == [98, 114, 101, 97, 107]) = false := by rw [bs_list]; decide
        have e4 : ((bs [105, 110, 116]).toList == [99, 111, 110, 116, 105, 110, 117, 101]) = false := by rw [bs_list]; decide
        have e5 : ((bs [105, 110, 116]).toList == [114, 101, 116, 117, 114, 110]) = false := by rw [bs_list]; decide
        have e6 : ((bs [105, 110, 116]).toList == [105, 110, 116]) = true := by rw [bs_list]; decide
        go_enter Tryd.func37, Tryd.ntmps37
        go_wp2_with fail
        go_ret
        exact ⟨rfl, U.out⟩
      · have e0 : ((bs [98, 111, 111, 108]).toList == [116, 114, 117, 101]) = false := by rw [bs_list]; decide
        have e1 : ((bs [98, 111, 111, 108]).toList == [102, 97, 108, 115, 101]) = false := by rw [bs_list]; decide
        have e2 : ((bs [98, 111, 111, 108]).toList == [110, 105, 108]) = false := by rw [bs_list]; decide
        have e3 : ((bs [98, 111, 111, 108]).toList == [98, 114, 101, 97, 107]) = false := by rw [bs_list]; decide
        have e4 : ((bs [98, 111, 111, 108]).toList == [99, 111, 110, 116, 105, 110, 117, 101]) = false := by rw [bs_list]; decide
        have e5 : ((bs [98, 111, 111, 108]).toList == [114, 101, 116, 117, 114, 110]) = false := by rw [bs_list]; decide
        have e6 : ((bs [98, 111, 111, 108]).toList == [105, 110, 116]) = false := by rw [bs_list]; decide
        have e7 : ((bs [98, 111, 111, 108]).toList == [98, 111, 111, 108]) = true := by rw [bs_list]; decide
        go_enter Tryd.func37, Tryd.ntmps37
        go_wp2_with fail
        go_ret
        exact ⟨rfl, U.out⟩
      · have e0 : ((bs [115, 116, 114, 105, 110, 103]).toList == [116, 114, 117, 101]) = false := by rw [bs_list]; decide
        have e1 : ((bs [115, 116, 114, 105, 110, 103]).toList == [102, 97, 108, 115, 101]) = false := by rw [bs_list]; decide
        have e2 : ((bs [115, 116, 114, 105, 110, 103]).toList == [110, 105, 108]) = false := by rw [bs_list]; decide
        have e3 : ((bs [115, 116, 114, 105, 110, 103]).toList == [98, 114, 101, 97, 107]) = false := by rw [bs_list]; decide
        have e4 : ((bs [115, 116, 114, 105, 110, 103]).toList == [99, 111, 110, 116, 105, 110, 117, 101]) = false := by rw [bs_list]; decide
        have e5 : ((bs [115, 116, 114, 105, 110, 103]).toList == [114, 101, 116, 117, 114, 110]) = false := by rw [bs_list]; decide
        have e6 : ((bs [115, 116, 114, 105, 110, 103]).toList == [105, 110, 116]) = false := by rw [bs_list]; decide
        have e7 : ((bs [115, 116, 114, 105, 110, 103]).toList == [98, 111, 111, 108]) = false := by rw [bs_list]; decide
        have e8 : ((bs [115, 116, 114, 105, 110, 103]).toList == [115, 116, 114, 105, 110, 103]) = true := by rw [bs_list]; decide
        go_enter Tryd.func37, Tryd.ntmps37
        go_wp2_with fail
        go_ret
        exact ⟨rfl, U.out⟩
    · have hf : endWords.contains tx = false := by simpa using h
      rw [hf]
      have hm : tx ∉ endWords := by simpa using h
      simp only [endWords, List.mem_cons, List.not_mem_nil, or_false, not_or] at hm
      obtain ⟨n0, n1, n2, n3, n4, n5, n6, n7, n8⟩ := hm
      have e0 : ((bs tx).toList == [116, 114, 117, 101]) = false := by rw [bs_list]; exact beq_eq_false_iff_ne.2 n0
      have e1 : ((bs tx).toList == [102, 97, 108, 115, 101]) = false := by rw [bs_list]; exact beq_eq_false_iff_ne.2 n1
      have e2 : ((bs tx).toList == [110, 105, 108]) = false := by rw [bs_list]; exact beq_eq_false_iff_ne.2 n2
      have e3 : ((bs tx).toList == [98, 114, 101, 97, 107]) = false := by rw [bs_list]; exact beq_eq_false_iff_ne.2 n3
      have e4 : ((bs tx).toList == [99, 111, 110, 116, 105, 110, 117, 101]) = false := by rw [bs_list]; exact beq_eq_false_iff_ne.2 n4
      have e5 : ((bs tx).toList == [114, 101, 116, 117, 114, 110]) = false := by rw [bs_list]; exact beq_eq_false_iff_ne.2 n5
      have e6 : ((bs tx).toList == [105, 110, 116]) = false := by rw [bs_list]; exact beq_eq_false_iff_ne.2 n6
      have e7 : ((bs tx).toList == [98, 111, 111, 108]) = false := by rw [bs_list]; exact beq_eq_false_iff_ne.2 n7
      have e8 : ((bs tx).toList == [115, 116, 114, 105, 110, 103]) = false := by rw [bs_list]; exact beq_eq_false_iff_ne.2 n8
      clear n0 n1 n2 n3 n4 n5 n6 n7 n8 h hf e
      go_enter Tryd.func37, Tryd.ntmps37
      go_wp2_with fail
      go_ret
      exact ⟨rfl, U.out⟩
  by_cases hk : kd = 6
  · subst hk
    have e : mayEnd ⟨6, tx, n, ln, cl⟩ = (tx == [41] || tx == [93] || tx == [125]) := by simp [mayEnd]
    rw [e]
    have k1 : ((bs tx).toList == [41]) = (tx == [41]) := by rw [bs_list]
    have k2 : ((bs tx).toList == [93]) = (tx == [93]) := by rw [bs_list]
    have k3 : ((bs tx).toList == [125]) = (tx == [125]) := by rw [bs_list]
    clear e
    generalize (tx == [41]) = b1 at *
    generalize (tx == [93]) = b2 at *
    generalize (tx == [125]) = b3 at *
    cases b1 <;> cases b2 <;> cases b3
    · go_enter Tryd.func37, Tryd.ntmps37
      go_wp2_with fail
      go_ret
      exact ⟨rfl, U.out⟩
    · go_enter Tryd.func37, Tryd.ntmps37
      go_wp2_with fail
      go_ret
      exact ⟨rfl, U.out⟩
    · go_enter Tryd.func37, Tryd.ntmps37
      go_wp2_with fail
      go_ret
      exact ⟨rfl, U.out⟩
    · go_enter Tryd.func37, Tryd.ntmps37
      go_wp2_with fail
      go_ret
      exact ⟨rfl, U.out⟩
    · go_enter Tryd.func37, Tryd.ntmps37
      go_wp2_with fail
      go_ret
      exact ⟨rfl, U.out⟩
    · go_enter Tryd.func37, Tryd.ntmps37
      go_wp2_with fail
      go_ret
      exact ⟨rfl, U.out⟩
    · go_enter Tryd.func37, Tryd.ntmps37
      go_wp2_with fail
      go_ret
      exact ⟨rfl, U.out⟩
    · go_enter Tryd.func37, Tryd.ntmps37
      go_wp2_with fail
      go_ret
      exact ⟨rfl, U.out⟩
  · have z2 : ((kd : Int) == 2) = false := by simp; omega
    have z3 : ((kd : Int) == 3) = false := by simp; omega
    have z4 : ((kd : Int) == 4) = false := by simp; omega
    have z5 : ((kd : Int) == 5) = false := by simp; omega
    have z6 : ((kd : Int) == 6) = false := by simp; omega
    rename_i h2 h4 h5 h3
    have e : mayEnd ⟨kd, tx, n, ln, cl⟩ = false := by simp [mayEnd, h2, h3, h4, h5, hk]
    rw [e]
    clear h2 h3 h4 h5 hk e
    go_enter Tryd.func37, Tryd.ntmps37
    go_wp2_with fail
    go_ret
    exact ⟨rfl, U.out⟩
end Go.Proofs.YtjkpimohgbkjoaaDoor
