/-
  The law TokenNames: the walk.
-/
import Derived.Test.YtjocekkoahfkjaaDoorTkU
import Derived.Test.YtjocekkoahfkjaaDoorTkW
namespace Go.Proofs.YtjocekkoahfkjaaDoor
open Go.RowKit

theorem beq_self_bool (b : Bool) : (b == b) = true := by cases b <;> rfl

set_option maxRecDepth 20000 in
set_option maxHeartbeats 4000000 in
theorem tokenNames_any {w : World} (L : Laid w) (H : Hand w) (hw : 3 ≤ w.heap.size) (l : List UInt8) (hl : l.length ≤ 9223372036854775807) {A : Option Addr} {c : Nat} {xs : List Int} (hx : IntsW w A c xs) (near : Bool) :
    Calls Tryd.prog 5 #[.string (bs l), .slice A xs.length c, .bool near] w fun e w' => e = .returned (.bool true) ∧ Up w w' := by
  have LL := Lib.hid L
  have HH := Lib.hid H
  have HX := Lib.hid hx
  have hle := hx.le
  have hbig := hx.big
  clear L H hx
  cases near
  · go_enter Tryd.func5, Tryd.ntmps5
    go_wp2_with fail
    refine (known_any LL.out hw).mono ?_
    rintro e w1 ⟨rfl, u1⟩
    have U1 := Lib.hid u1
    have L1 := Lib.hid (LL.out.kept u1 (fun h => h) (fun h => h))
    clear u1
    go_wp2_with fail
    refine (isWord_any L1.out l).mono ?_
    rintro e w2 ⟨rfl, rfl⟩
    generalize hW : isWord l = bw
    have HW := Lib.hid hW
    clear hW
    go_wp2_with fail
    refine (risWord_any l).mono ?_
    rintro e w2 ⟨rfl, rfl⟩
    rw [HW.out]
    have eb : (bw == bw) = true := beq_self_bool bw
    go_wp2_with fail
    refine (isName_any L1.out l hl).mono ?_
    rintro e w2 ⟨rfl, rfl⟩
    generalize hN : isName l = bn
    have HN := Lib.hid hN
    clear hN
    go_wp2_with fail
    refine (risName_any l hl).mono ?_
    rintro e w2 ⟨rfl, rfl⟩
    rw [HN.out]
    have en : (bn == bn) = true := beq_self_bool bn
    go_wp2_with fail
    go_ret
    exact ⟨by first | rfl | simp, U1.out⟩
  · obtain ⟨n, hn⟩ : ∃ n, n = xs.length := ⟨_, rfl⟩
    rw [← hn] at hle ⊢
    obtain ⟨k, hk⟩ : ∃ k, k = min n 1 := ⟨_, rfl⟩
    have hkl : (xs.take k).length = k := by rw [List.length_take]; omega
    have F := Lib.hid (HX.out.front k)
    have hmin : min (n : Int) 1 = (k : Int) := by omega
    have hkc : (k : Int) ≤ (c : Int) := by omega
    have hk0 : (0 : Int) ≤ (k : Int) := by omega
    clear hn hk
    cases A with
    | none =>
      have W := Lib.hid (show Calls Tryd.prog 17 #[.slice none k c] w fun e w' => (∃ l : List UInt8, l.length ≤ 2000 ∧ e = .returned (.string (bs l))) ∧ w = w' by have := words_any F.out HH.out; rwa [hkl] at this)
      go_enter Tryd.func5, Tryd.ntmps5
      go_wp2_with fail
      refine (W.out).mono ?_
      rintro e w1 ⟨⟨l1, hl1, rfl⟩, rfl⟩
      obtain ⟨m, hm⟩ : ∃ m, m = l1.length := ⟨_, rfl⟩
      obtain ⟨q, hq⟩ : ∃ q, q = m - 1 := ⟨_, rfl⟩
      have hsz : (bs l1).size = m := by rw [bs_size, hm]
      have hmax : max (0 : Int) ((m : Int) - 1) = (q : Int) := by omega
      have hw1 : IntKind.i64.wrap ((m : Int) - 1) = (m : Int) - 1 := IntWalk.i64_in _ (by omega)
      have hqm : (q : Int) ≤ (m : Int) := by omega
      have hq0 : (0 : Int) ≤ (q : Int) := by omega
      have hqs : q ≤ m := by omega
      have E : (bs l1).extract 0 q = bs (l1.take q) := by rw [bs_extract]; simp
      have hl2 : (l1.take q).length ≤ 9223372036854775807 := by rw [List.length_take]; omega
      clear hm hq hl1 hl W F hkl hmin hkc hk0 hle hbig
      generalize hlq : l1.take q = l2 at E hl2
      clear hlq
      go_wp2_with fail
      refine (known_any LL.out hw).mono ?_
      rintro e w1 ⟨rfl, u1⟩
      have U1 := Lib.hid u1
      have L1 := Lib.hid (LL.out.kept u1 (fun h => h) (fun h => h))
      clear u1
      go_wp2_with fail
      refine (isWord_any L1.out l2).mono ?_
      rintro e w2 ⟨rfl, rfl⟩
      generalize hW : isWord l2 = bw
      have HW := Lib.hid hW
      clear hW
      go_wp2_with fail
      refine (risWord_any l2).mono ?_
      rintro e w2 ⟨rfl, rfl⟩
      rw [HW.out]
      have eb : (bw == bw) = true := beq_self_bool bw
      go_wp2_with fail
      refine (isName_any L1.out l2 hl2).mono ?_
      rintro e w2 ⟨rfl, rfl⟩
      generalize hN : isName l2 = bn
      have HN := Lib.hid hN
      clear hN
      go_wp2_with fail
      refine (risName_any l2 hl2).mono ?_
      rintro e w2 ⟨rfl, rfl⟩
      rw [HN.out]
      have en : (bn == bn) = true := beq_self_bool bn
      go_wp2_with fail
      go_ret
      exact ⟨by first | rfl | simp, U1.out⟩
    | some a =>
      have W := Lib.hid (show Calls Tryd.prog 17 #[.slice (some a) k c] w fun e w' => (∃ l : List UInt8, l.length ≤ 2000 ∧ e = .returned (.string (bs l))) ∧ w = w' by have := words_any F.out HH.out; rwa [hkl] at this)
      go_enter Tryd.func5, Tryd.ntmps5
      go_wp2_with fail
      refine (W.out).mono ?_
      rintro e w1 ⟨⟨l1, hl1, rfl⟩, rfl⟩
      obtain ⟨m, hm⟩ : ∃ m, m = l1.length := ⟨_, rfl⟩
      obtain ⟨q, hq⟩ : ∃ q, q = m - 1 := ⟨_, rfl⟩
      have hsz : (bs l1).size = m := by rw [bs_size, hm]
      have hmax : max (0 : Int) ((m : Int) - 1) = (q : Int) := by omega
      have hw1 : IntKind.i64.wrap ((m : Int) - 1) = (m : Int) - 1 := IntWalk.i64_in _ (by omega)
      have hqm : (q : Int) ≤ (m : Int) := by omega
      have hq0 : (0 : Int) ≤ (q : Int) := by omega
      have hqs : q ≤ m := by omega
      have E : (bs l1).extract 0 q = bs (l1.take q) := by rw [bs_extract]; simp
      have hl2 : (l1.take q).length ≤ 9223372036854775807 := by rw [List.length_take]; omega
      clear hm hq hl1 hl W F hkl hmin hkc hk0 hle hbig
      generalize hlq : l1.take q = l2 at E hl2
      clear hlq
      go_wp2_with fail
      refine (known_any LL.out hw).mono ?_
      rintro e w1 ⟨rfl, u1⟩
      have U1 := Lib.hid u1
      have L1 := Lib.hid (LL.out.kept u1 (fun h => h) (fun h => h))
      clear u1
      go_wp2_with fail
      refine (isWord_any L1.out l2).mono ?_
      rintro e w2 ⟨rfl, rfl⟩
      generalize hW : isWord l2 = bw
      have HW := Lib.hid hW
      clear hW
      go_wp2_with fail
      refine (risWord_any l2).mono ?_
      rintro e w2 ⟨rfl, rfl⟩
      rw [HW.out]
      have eb : (bw == bw) = true := beq_self_bool bw
      go_wp2_with fail
      refine (isName_any L1.out l2 hl2).mono ?_
      rintro e w2 ⟨rfl, rfl⟩
      generalize hN : isName l2 = bn
      have HN := Lib.hid hN
      clear hN
      go_wp2_with fail
      refine (risName_any l2 hl2).mono ?_
      rintro e w2 ⟨rfl, rfl⟩
      rw [HN.out]
      have en : (bn == bn) = true := beq_self_bool bn
      go_wp2_with fail
      go_ret
      exact ⟨by first | rfl | simp, U1.out⟩
end Go.Proofs.YtjocekkoahfkjaaDoor
