/-
  The law's 'same' and 'all': what token.All answers is what the reference's All answers, for every text.
-/
import Derived.Test.YtjkpimohgbkjoaaDoorTkRefI
import Derived.Test.YtjkpimohgbkjoaaDoorTkU
import Derived.Test.YtjkpimohgbkjoaaDoorTkRefJ
import Derived.Test.YtjkpimohgbkjoaaDoorTkTok
namespace Go.Proofs.YtjkpimohgbkjoaaDoor
open Go.RowKit

set_option maxRecDepth 10000 in
set_option maxHeartbeats 2000000 in
theorem same_any {w : World} {G G' : Nat → Prop} {v v' : Value} {xs : List Tok} (h : SlAt w G 5 TokC v xs) (h' : SlAt w G' 5 TokC v' xs) :
    Calls Tryd.prog 26 #[v, v'] w fun e w' => e = .returned (.bool true) ∧ Up w w' := by
  obtain ⟨A, c, rfl, hp⟩ := h.parts
  obtain ⟨A', c', rfl, hp'⟩ := h'.parts
  have H := Lib.hid hp
  have H' := Lib.hid hp'
  have hl := hp.le
  have hb := hp.big
  have hl' := hp'.le
  have hb' := hp'.big
  obtain ⟨n, hn⟩ : ∃ n, n = xs.length := ⟨_, rfl⟩
  rw [← hn] at hl hl' ⊢
  have Hn := Lib.hid hn
  clear h h' hp hp' hn
  go_enter Tryd.func26, Tryd.ntmps26
  go_wp2_with fail
  go_loopw [5] (fun i wr => ∃ k : Nat, k ≤ n ∧ i = .int .i64 k ∧ Hid (Up w wr)) (fun i _ => n - (intOf i).toNat)
  case atStart => exact ⟨0, Nat.zero_le _, rfl, Lib.hid (Fr.refl _ _)⟩
  case round =>
    obtain ⟨k, hk, rfl, hm⟩ := hrel
    by_cases hlt : k < n
    · have hki : (k : Int) < (n : Int) := by omega
      obtain ⟨b, o, hA, c0, c1, c2, c3, c4⟩ := tok_at (H.out.kept hm.out (fun _ _ h => h) (fun _ h => h) (fun _ _ _ h => h)) (k := k) (by rw [← Hn.out]; exact hlt)
      obtain ⟨b', o', hA', d0, d1, d2, d3, d4⟩ := tok_at (H'.out.kept hm.out (fun _ _ h => h) (fun _ h => h) (fun _ _ _ h => h)) (k := k) (by rw [← Hn.out]; exact hlt)
      subst hA hA'
      obtain ⟨t, ht⟩ : ∃ t, t = xs[k]'(by rw [← Hn.out]; exact hlt) := ⟨_, rfl⟩
      rw [← ht] at c0 c1 c2 c3 c4 d0 d1 d2 d3 d4
      have hne := fun w => run_neq_tok t.kind t.n t.line t.col (bs t.text) w
      have i1 := fun w => idx_tok b o n c k hlt w
      have i2 := fun w => idx_tok b' o' n c' k hlt w
      clear ht
      go_wp2_with fail
      go_quiet (fail)
      go_wp2_with fail
      go_roundw
      case rel => exact ⟨k + 1, by omega, by go_num, Lib.hid (Fr.drewN hm.out _)⟩
      case measure => simp [intOf]; omega
    · have hki : ¬ (k : Int) < (n : Int) := by omega
      go_wp2_with fail
      go_ret
      exact ⟨rfl, hm.out⟩

set_option maxRecDepth 10000 in
set_option maxHeartbeats 4000000 in
theorem lawall_any {w : World} (T : List UInt8) (L : Laid w) (hw : 3 ≤ w.heap.size) : Calls Tryd.prog 19 #[.string (bs T)] w fun e w' => e = .returned (.bool true) ∧ Up w w' := by
  have LL := Lib.hid L
  clear L
  go_enter Tryd.func19, Tryd.ntmps19
  go_wp2_with fail
  refine (all_any T LL.out hw).mono ?_
  rintro e w1 ⟨hu1, R, hR, hr⟩
  have LX := Lib.hid hR
  have U1 := Lib.hid hu1
  clear hR hu1
  cases R with
  | ok outs =>
    obtain ⟨v1, rfl, o1⟩ := hr
    have O1 := Lib.hid o1.reads
    clear o1
    have X1 := Lib.hid (heap_alloc_new w1 zeroTok)
    obtain ⟨a, ha⟩ : ∃ a, a = w1.heap.size := ⟨_, rfl⟩
    unfold tokA
    go_wp2_with fail
    change Calls _ _ _ (w1.alloc zeroTok) _
    have U2 := Lib.hid (show Up w (w1.alloc zeroTok) from U1.out.alloc _)
    have O2 := Lib.hid (O1.out.kept (show Up w1 (w1.alloc zeroTok) from (Fr.refl _ _).alloc _) (fun _ _ h => h) (fun _ h => h) (fun _ _ _ h => h))
    rw [← ha] at X1 ⊢
    clear ha
    generalize w1.alloc zeroTok = w2 at X1 U2 O2 ⊢
    refine (rall_any T).mono ?_
    rintro e w3 ⟨hu3, R', hR', hr'⟩
    obtain rfl := LexAll.det LX.out hR'
    obtain ⟨v2, rfl, o2⟩ := hr'
    have O3 := Lib.hid (O2.out.kept hu3 (fun _ _ h => h) (fun _ h => h) (fun _ _ _ h => h))
    have P3 := Lib.hid o2.reads
    have U3 := Lib.hid (show Up w w3 from Fr.trans U2.out hu3 (fun _ _ e => e))
    have X3 := Lib.hid ((hu3.block a (heap_lt X1.out) (fun e => e)).trans X1.out)
    clear o2 hR' hu3
    obtain ⟨b, hb⟩ : ∃ b, b = w3.heap.size := ⟨_, rfl⟩
    have Y4 := Lib.hid (heap_alloc_new w3 zeroTok)
    unfold tokA
    go_wp2_with fail
    change Calls _ _ _ (w3.alloc zeroTok) _
    have hu4 : Up w3 (w3.alloc zeroTok) := (Fr.refl _ _).alloc _
    have U4 := Lib.hid (show Up w (w3.alloc zeroTok) from U3.out.alloc _)
    have O4 := Lib.hid (O3.out.kept hu4 (fun _ _ h => h) (fun _ h => h) (fun _ _ _ h => h))
    have P4 := Lib.hid (P3.out.kept hu4 (fun _ _ h => h) (fun _ h => h) (fun _ _ _ h => h))
    have X4 := Lib.hid ((hu4.block a (heap_lt X3.out) (fun e => e)).trans X3.out)
    rw [← hb] at Y4 ⊢
    clear hb hu4
    generalize w3.alloc zeroTok = w4 at X4 Y4 U4 O4 P4 ⊢
    refine (same_any O4.out P4.out).mono ?_
    rintro e w5 ⟨rfl, hu5⟩
    have x5 := (hu5.block a (heap_lt X4.out) (fun e => e)).trans X4.out
    have y5 := (hu5.block b (heap_lt Y4.out) (fun e => e)).trans Y4.out
    have U5 := Lib.hid (show Up w w5 from Fr.trans U4.out hu5 (fun _ _ e => e))
    unfold zeroTok at x5 y5
    obtain ⟨c0, c1, c2, c3, c4⟩ := cells5 x5
    obtain ⟨d0, d1, d2, d3, d4⟩ := cells5 y5
    have he := fun w => run_eql_tok 0 0 0 0 (bs []) w
    clear x5 y5 hu5
    go_wp2_with fail
    go_ret
    exact ⟨rfl, U5.out⟩
  | bad line col c =>
    obtain ⟨_, rfl⟩ := hr
    have O1 := Lib.hid (show SlAt w1 (fun _ => True) 5 TokC (.slice none 0 0) ([] : List Tok) from SlP.none_.whole)
    have X1 := Lib.hid (heap_alloc_new w1 (.cells #[.int .i64 0, .string (bs []), .int .i64 0, .int .i64 line, .int .i64 col] 24))
    obtain ⟨a, ha⟩ : ∃ a, a = w1.heap.size := ⟨_, rfl⟩
    unfold tokA
    go_wp2_with fail
    change Calls _ _ _ (w1.alloc (.cells #[.int .i64 0, .string (bs []), .int .i64 0, .int .i64 line, .int .i64 col] 24)) _
    have U2 := Lib.hid (show Up w (w1.alloc (.cells #[.int .i64 0, .string (bs []), .int .i64 0, .int .i64 line, .int .i64 col] 24)) from U1.out.alloc _)
    have O2 := Lib.hid (O1.out.kept (show Up w1 (w1.alloc (.cells #[.int .i64 0, .string (bs []), .int .i64 0, .int .i64 line, .int .i64 col] 24)) from (Fr.refl _ _).alloc _) (fun _ _ h => h) (fun _ h => h) (fun _ _ _ h => h))
    rw [← ha] at X1 ⊢
    clear ha
    generalize w1.alloc (.cells #[.int .i64 0, .string (bs []), .int .i64 0, .int .i64 line, .int .i64 col] 24) = w2 at X1 U2 O2 ⊢
    refine (rall_any T).mono ?_
    rintro e w3 ⟨hu3, R', hR', hr'⟩
    obtain rfl := LexAll.det LX.out hR'
    subst hr'
    have O3 := Lib.hid (O2.out.kept hu3 (fun _ _ h => h) (fun _ h => h) (fun _ _ _ h => h))
    have P3 := Lib.hid (show SlAt w3 (fun _ => True) 5 TokC (.slice none 0 0) ([] : List Tok) from SlP.none_.whole)
    have U3 := Lib.hid (show Up w w3 from Fr.trans U2.out hu3 (fun _ _ e => e))
    have X3 := Lib.hid ((hu3.block a (heap_lt X1.out) (fun e => e)).trans X1.out)
    clear hR' hu3
    obtain ⟨b, hb⟩ : ∃ b, b = w3.heap.size := ⟨_, rfl⟩
    have Y4 := Lib.hid (heap_alloc_new w3 (.cells #[.int .i64 0, .string (bs []), .int .i64 0, .int .i64 line, .int .i64 col] 24))
    unfold tokA
    go_wp2_with fail
    change Calls _ _ _ (w3.alloc (.cells #[.int .i64 0, .string (bs []), .int .i64 0, .int .i64 line, .int .i64 col] 24)) _
    have hu4 : Up w3 (w3.alloc (.cells #[.int .i64 0, .string (bs []), .int .i64 0, .int .i64 line, .int .i64 col] 24)) := (Fr.refl _ _).alloc _
    have U4 := Lib.hid (show Up w (w3.alloc (.cells #[.int .i64 0, .string (bs []), .int .i64 0, .int .i64 line, .int .i64 col] 24)) from U3.out.alloc _)
    have O4 := Lib.hid (O3.out.kept hu4 (fun _ _ h => h) (fun _ h => h) (fun _ _ _ h => h))
    have P4 := Lib.hid (P3.out.kept hu4 (fun _ _ h => h) (fun _ h => h) (fun _ _ _ h => h))
    have X4 := Lib.hid ((hu4.block a (heap_lt X3.out) (fun e => e)).trans X3.out)
    rw [← hb] at Y4 ⊢
    clear hb hu4
    generalize w3.alloc (.cells #[.int .i64 0, .string (bs []), .int .i64 0, .int .i64 line, .int .i64 col] 24) = w4 at X4 Y4 U4 O4 P4 ⊢
    refine (same_any O4.out P4.out).mono ?_
    rintro e w5 ⟨rfl, hu5⟩
    have x5 := (hu5.block a (heap_lt X4.out) (fun e => e)).trans X4.out
    have y5 := (hu5.block b (heap_lt Y4.out) (fun e => e)).trans Y4.out
    have U5 := Lib.hid (show Up w w5 from Fr.trans U4.out hu5 (fun _ _ e => e))
    obtain ⟨c0, c1, c2, c3, c4⟩ := cells5 x5
    obtain ⟨d0, d1, d2, d3, d4⟩ := cells5 y5
    have he := fun w => run_eql_tok 0 0 line col (bs []) w
    clear x5 y5 hu5
    go_wp2_with fail
    go_ret
    exact ⟨rfl, U5.out⟩
end Go.Proofs.YtjkpimohgbkjoaaDoor
