/-
  The hand's maker: leaf.
  The hand's maker: expr's own surroundings.
-/
import Derived.Test.YtemmdbjcllcelaaDoorHnA
namespace Go.Proofs.YtemmdbjcllcelaaDoor.Tk
open Go.RowKit


theorem wpList_built {P : Program} {ops : Array Oper} {rest : List Oper} {o : Oper} {a : Act} {w : World} {Q : Exit → Act → World → Prop} (hg : o.guard = none) (t : TypeId) (parts : Array (Nat × Operand)) (ho : o.op = .build t parts) (cs : Array Value)
    (hf : P.built t (parts.map fun (i, x) => (i, a.eval x)).toList = some cs)
    (h : wpList P ops Q rest (a.put o.dst (.agg cs)) w) : wpList P ops Q (o :: rest) a w :=
  wpList_build hg t parts ho (by rw [hf]; rfl) (by rw [hf]; exact h)
def leafA0 : Array Value := #[.string { data := #[48] }, .string { data := #[49] }, .string { data := #[50] }, .string { data := #[51] }, .string { data := #[55] }, .string { data := #[49, 48] }, .string { data := #[57, 50, 50, 51, 51, 55, 50, 48, 51, 54, 56, 53, 52, 55, 55, 53, 56, 48, 55] }, .string { data := #[40, 45, 49, 41] }, .string { data := #[49, 48, 48] }]
theorem leafB0 (a : Act) : Tryd.prog.built 93 ((#[(0, .const (.string { data := #[48] })), (1, .const (.string { data := #[49] })), (2, .const (.string { data := #[50] })), (3, .const (.string { data := #[51] })), (4, .const (.string { data := #[55] })), (5, .const (.string { data := #[49, 48] })), (6, .const (.string { data := #[57, 50, 50, 51, 51, 55, 50, 48, 51, 54, 56, 53, 52, 55, 55, 53, 56, 48, 55] })), (7, .const (.string { data := #[40, 45, 49, 41] })), (8, .const (.string { data := #[49, 48, 48] }))] : Array (Nat × Operand)).map fun (i, x) => (i, a.eval x)).toList = some leafA0 := by kernel_rfl
theorem leafIdx0 : ∀ j : Nat, j < 9 → ∃ x : ByteArray, x.size ≤ 19 ∧ ∀ w, (Instr.index 93 (.agg leafA0) (.int .i64 (j : Nat))).run Tryd.prog w = .ok (.string x) w
  | 0, _ => ⟨{ data := #[48] }, by decide, fun _ => by kernel_rfl⟩
  | 1, _ => ⟨{ data := #[49] }, by decide, fun _ => by kernel_rfl⟩
  | 2, _ => ⟨{ data := #[50] }, by decide, fun _ => by kernel_rfl⟩
  | 3, _ => ⟨{ data := #[51] }, by decide, fun _ => by kernel_rfl⟩
  | 4, _ => ⟨{ data := #[55] }, by decide, fun _ => by kernel_rfl⟩
  | 5, _ => ⟨{ data := #[49, 48] }, by decide, fun _ => by kernel_rfl⟩
  | 6, _ => ⟨{ data := #[57, 50, 50, 51, 51, 55, 50, 48, 51, 54, 56, 53, 52, 55, 55, 53, 56, 48, 55] }, by decide, fun _ => by kernel_rfl⟩
  | 7, _ => ⟨{ data := #[40, 45, 49, 41] }, by decide, fun _ => by kernel_rfl⟩
  | 8, _ => ⟨{ data := #[49, 48, 48] }, by decide, fun _ => by kernel_rfl⟩
  | _ + 9, h => by omega
def leafA1 : Array Value := #[.string { data := #[116, 114, 117, 101] }, .string { data := #[102, 97, 108, 115, 101] }]
theorem leafB1 (a : Act) : Tryd.prog.built 84 ((#[(0, .const (.string { data := #[116, 114, 117, 101] })), (1, .const (.string { data := #[102, 97, 108, 115, 101] }))] : Array (Nat × Operand)).map fun (i, x) => (i, a.eval x)).toList = some leafA1 := by kernel_rfl
theorem leafIdx1 : ∀ j : Nat, j < 2 → ∃ x : ByteArray, x.size ≤ 19 ∧ ∀ w, (Instr.index 84 (.agg leafA1) (.int .i64 (j : Nat))).run Tryd.prog w = .ok (.string x) w
  | 0, _ => ⟨{ data := #[116, 114, 117, 101] }, by decide, fun _ => by kernel_rfl⟩
  | 1, _ => ⟨{ data := #[102, 97, 108, 115, 101] }, by decide, fun _ => by kernel_rfl⟩
  | _ + 2, h => by omega
def leafA2 : Array Value := #[.string { data := #[34, 34] }, .string { data := #[34, 97, 34] }, .string { data := #[34, 98, 99, 34] }, .string { data := #[34, 97, 34] }]
theorem leafB2 (a : Act) : Tryd.prog.built 86 ((#[(0, .const (.string { data := #[34, 34] })), (1, .const (.string { data := #[34, 97, 34] })), (2, .const (.string { data := #[34, 98, 99, 34] })), (3, .const (.string { data := #[34, 97, 34] }))] : Array (Nat × Operand)).map fun (i, x) => (i, a.eval x)).toList = some leafA2 := by kernel_rfl
theorem leafIdx2 : ∀ j : Nat, j < 4 → ∃ x : ByteArray, x.size ≤ 19 ∧ ∀ w, (Instr.index 86 (.agg leafA2) (.int .i64 (j : Nat))).run Tryd.prog w = .ok (.string x) w
  | 0, _ => ⟨{ data := #[34, 34] }, by decide, fun _ => by kernel_rfl⟩
  | 1, _ => ⟨{ data := #[34, 97, 34] }, by decide, fun _ => by kernel_rfl⟩
  | 2, _ => ⟨{ data := #[34, 98, 99, 34] }, by decide, fun _ => by kernel_rfl⟩
  | 3, _ => ⟨{ data := #[34, 97, 34] }, by decide, fun _ => by kernel_rfl⟩
  | _ + 4, h => by omega
set_option maxHeartbeats 2000000 in
theorem leaf_0 {w : World} {base p : Nat} {A : Option Addr} {rc : Nat} {raw : List Int} {m : MS} {rows : List (List ByteArray)} (h : Mk w base p A rc raw m rows) (hn : m.names ≤ 100) :
    Calls Tryd.prog 61 #[.pointer (some ⟨p, 0, none⟩), .int .i64 0] w fun e w' => ∃ (s : ByteArray) (a : Nat), e = .returned (.string s) ∧ s.size ≤ 19 ∧ Mk w' base p A rc raw { m with at_ := a } rows ∧ FM p w w' := by
  have V := Lib.hid (show Calls Tryd.prog 76 #[.pointer (some ⟨p, 0, none⟩), .int .i64 0] w _ from v_any h 0 (by decide) hn)
  clear h hn
  go_enter Tryd.func61, Tryd.ntmps61
  go_wp2_with fail
  refine V.out.mono ?_
  rintro e w1 ⟨s, a, rfl, hs, hm, hf⟩
  have HM1 := Lib.hid hm
  have HF1 := Lib.hid hf
  have HS := Lib.hid hs
  clear hm hf hs V
  cases h0 : s.toList.isEmpty
  · as_aux_lemma =>
    have N1 := Lib.hid (show Calls Tryd.prog 22 #[.pointer (some ⟨p, 0, none⟩), .int .i64 4] w1 _ from next_any HM1.out 4 (by decide) (by decide))
    go_wp2_with fail
    refine N1.out.mono ?_
    rintro e w2 ⟨j, a2, hj, rfl, hm, hf⟩
    have HM2 := Lib.hid hm
    have HF2 := Lib.hid (FM.trans HF1.out hf)
    clear hm hf N1
    by_cases hj0 : 0 < j
    · have q1 : (j : Int) > 0 := by omega
      go_wp2_with fail
      go_ret
      exact ⟨s, a2, rfl, by have := HS.out; omega, HM2.out, HF2.out⟩
    · have q1 : ¬ (j : Int) > 0 := by omega
      have N2 := Lib.hid (show Calls Tryd.prog 22 #[.pointer (some ⟨p, 0, none⟩), .int .i64 9] w2 _ from next_any HM2.out 9 (by decide) (by decide))
      go_upto_region 6 with fail
      go_step
      refine wpList_built rfl 93 _ rfl leafA0 (leafB0 _) ?_
      go_wp2_with fail
      refine N2.out.mono ?_
      rintro e w5 ⟨j5, a5, hj5, rfl, hm5, hf5⟩
      obtain ⟨x5, hx5, gi5⟩ := leafIdx0 j5 hj5
      have I5 := Lib.hid (And.intro hx5 (And.intro hm5 hf5))
      have hj5i : (j5 : Int) < 9 := by omega
      clear hx5 hm5 hf5
      go_wp2_with fail
      go_ret
      exact ⟨x5, a5, rfl, I5.out.1, I5.out.2.1, FM.trans HF2.out I5.out.2.2⟩
  · as_aux_lemma =>
    have N2 := Lib.hid (show Calls Tryd.prog 22 #[.pointer (some ⟨p, 0, none⟩), .int .i64 9] w1 _ from next_any HM1.out 9 (by decide) (by decide))
    go_upto_region 6 with fail
    go_step
    refine wpList_built rfl 93 _ rfl leafA0 (leafB0 _) ?_
    go_wp2_with fail
    refine N2.out.mono ?_
    rintro e w5 ⟨j5, a5, hj5, rfl, hm5, hf5⟩
    obtain ⟨x5, hx5, gi5⟩ := leafIdx0 j5 hj5
    have I5 := Lib.hid (And.intro hx5 (And.intro hm5 hf5))
    have hj5i : (j5 : Int) < 9 := by omega
    clear hx5 hm5 hf5
    go_wp2_with fail
    go_ret
    exact ⟨x5, a5, rfl, I5.out.1, I5.out.2.1, FM.trans HF1.out I5.out.2.2⟩
set_option maxHeartbeats 2000000 in
theorem leaf_1 {w : World} {base p : Nat} {A : Option Addr} {rc : Nat} {raw : List Int} {m : MS} {rows : List (List ByteArray)} (h : Mk w base p A rc raw m rows) (hn : m.names ≤ 100) :
    Calls Tryd.prog 61 #[.pointer (some ⟨p, 0, none⟩), .int .i64 1] w fun e w' => ∃ (s : ByteArray) (a : Nat), e = .returned (.string s) ∧ s.size ≤ 19 ∧ Mk w' base p A rc raw { m with at_ := a } rows ∧ FM p w w' := by
  have V := Lib.hid (show Calls Tryd.prog 76 #[.pointer (some ⟨p, 0, none⟩), .int .i64 1] w _ from v_any h 1 (by decide) hn)
  clear h hn
  go_enter Tryd.func61, Tryd.ntmps61
  go_wp2_with fail
  refine V.out.mono ?_
  rintro e w1 ⟨s, a, rfl, hs, hm, hf⟩
  have HM1 := Lib.hid hm
  have HF1 := Lib.hid hf
  have HS := Lib.hid hs
  clear hm hf hs V
  cases h0 : s.toList.isEmpty
  · as_aux_lemma =>
    have N1 := Lib.hid (show Calls Tryd.prog 22 #[.pointer (some ⟨p, 0, none⟩), .int .i64 4] w1 _ from next_any HM1.out 4 (by decide) (by decide))
    go_wp2_with fail
    refine N1.out.mono ?_
    rintro e w2 ⟨j, a2, hj, rfl, hm, hf⟩
    have HM2 := Lib.hid hm
    have HF2 := Lib.hid (FM.trans HF1.out hf)
    clear hm hf N1
    by_cases hj0 : 0 < j
    · have q1 : (j : Int) > 0 := by omega
      go_wp2_with fail
      go_ret
      exact ⟨s, a2, rfl, by have := HS.out; omega, HM2.out, HF2.out⟩
    · have q1 : ¬ (j : Int) > 0 := by omega
      have N2 := Lib.hid (show Calls Tryd.prog 22 #[.pointer (some ⟨p, 0, none⟩), .int .i64 2] w2 _ from next_any HM2.out 2 (by decide) (by decide))
      go_upto_region 8 with fail
      go_step
      refine wpList_built rfl 84 _ rfl leafA1 (leafB1 _) ?_
      go_wp2_with fail
      refine N2.out.mono ?_
      rintro e w5 ⟨j5, a5, hj5, rfl, hm5, hf5⟩
      obtain ⟨x5, hx5, gi5⟩ := leafIdx1 j5 hj5
      have I5 := Lib.hid (And.intro hx5 (And.intro hm5 hf5))
      have hj5i : (j5 : Int) < 2 := by omega
      clear hx5 hm5 hf5
      go_wp2_with fail
      go_ret
      exact ⟨x5, a5, rfl, I5.out.1, I5.out.2.1, FM.trans HF2.out I5.out.2.2⟩
  · as_aux_lemma =>
    have N2 := Lib.hid (show Calls Tryd.prog 22 #[.pointer (some ⟨p, 0, none⟩), .int .i64 2] w1 _ from next_any HM1.out 2 (by decide) (by decide))
    go_upto_region 8 with fail
    go_step
    refine wpList_built rfl 84 _ rfl leafA1 (leafB1 _) ?_
    go_wp2_with fail
    refine N2.out.mono ?_
    rintro e w5 ⟨j5, a5, hj5, rfl, hm5, hf5⟩
    obtain ⟨x5, hx5, gi5⟩ := leafIdx1 j5 hj5
    have I5 := Lib.hid (And.intro hx5 (And.intro hm5 hf5))
    have hj5i : (j5 : Int) < 2 := by omega
    clear hx5 hm5 hf5
    go_wp2_with fail
    go_ret
    exact ⟨x5, a5, rfl, I5.out.1, I5.out.2.1, FM.trans HF1.out I5.out.2.2⟩
set_option maxHeartbeats 2000000 in
theorem leaf_2 {w : World} {base p : Nat} {A : Option Addr} {rc : Nat} {raw : List Int} {m : MS} {rows : List (List ByteArray)} (h : Mk w base p A rc raw m rows) (hn : m.names ≤ 100) :
    Calls Tryd.prog 61 #[.pointer (some ⟨p, 0, none⟩), .int .i64 2] w fun e w' => ∃ (s : ByteArray) (a : Nat), e = .returned (.string s) ∧ s.size ≤ 19 ∧ Mk w' base p A rc raw { m with at_ := a } rows ∧ FM p w w' := by
  have V := Lib.hid (show Calls Tryd.prog 76 #[.pointer (some ⟨p, 0, none⟩), .int .i64 2] w _ from v_any h 2 (by decide) hn)
  clear h hn
  go_enter Tryd.func61, Tryd.ntmps61
  go_wp2_with fail
  refine V.out.mono ?_
  rintro e w1 ⟨s, a, rfl, hs, hm, hf⟩
  have HM1 := Lib.hid hm
  have HF1 := Lib.hid hf
  have HS := Lib.hid hs
  clear hm hf hs V
  cases h0 : s.toList.isEmpty
  · as_aux_lemma =>
    have N1 := Lib.hid (show Calls Tryd.prog 22 #[.pointer (some ⟨p, 0, none⟩), .int .i64 4] w1 _ from next_any HM1.out 4 (by decide) (by decide))
    go_wp2_with fail
    refine N1.out.mono ?_
    rintro e w2 ⟨j, a2, hj, rfl, hm, hf⟩
    have HM2 := Lib.hid hm
    have HF2 := Lib.hid (FM.trans HF1.out hf)
    clear hm hf N1
    by_cases hj0 : 0 < j
    · have q1 : (j : Int) > 0 := by omega
      go_wp2_with fail
      go_ret
      exact ⟨s, a2, rfl, by have := HS.out; omega, HM2.out, HF2.out⟩
    · have q1 : ¬ (j : Int) > 0 := by omega
      have N2 := Lib.hid (show Calls Tryd.prog 22 #[.pointer (some ⟨p, 0, none⟩), .int .i64 4] w2 _ from next_any HM2.out 4 (by decide) (by decide))
      go_upto_region 10 with fail
      go_step
      refine wpList_built rfl 86 _ rfl leafA2 (leafB2 _) ?_
      go_wp2_with fail
      refine N2.out.mono ?_
      rintro e w5 ⟨j5, a5, hj5, rfl, hm5, hf5⟩
      obtain ⟨x5, hx5, gi5⟩ := leafIdx2 j5 hj5
      have I5 := Lib.hid (And.intro hx5 (And.intro hm5 hf5))
      have hj5i : (j5 : Int) < 4 := by omega
      clear hx5 hm5 hf5
      go_wp2_with fail
      go_ret
      exact ⟨x5, a5, rfl, I5.out.1, I5.out.2.1, FM.trans HF2.out I5.out.2.2⟩
  · as_aux_lemma =>
    have N2 := Lib.hid (show Calls Tryd.prog 22 #[.pointer (some ⟨p, 0, none⟩), .int .i64 4] w1 _ from next_any HM1.out 4 (by decide) (by decide))
    go_upto_region 10 with fail
    go_step
    refine wpList_built rfl 86 _ rfl leafA2 (leafB2 _) ?_
    go_wp2_with fail
    refine N2.out.mono ?_
    rintro e w5 ⟨j5, a5, hj5, rfl, hm5, hf5⟩
    obtain ⟨x5, hx5, gi5⟩ := leafIdx2 j5 hj5
    have I5 := Lib.hid (And.intro hx5 (And.intro hm5 hf5))
    have hj5i : (j5 : Int) < 4 := by omega
    clear hx5 hm5 hf5
    go_wp2_with fail
    go_ret
    exact ⟨x5, a5, rfl, I5.out.1, I5.out.2.1, FM.trans HF1.out I5.out.2.2⟩
set_option maxHeartbeats 2000000 in
theorem leaf_3 {w : World} {base p : Nat} {A : Option Addr} {rc : Nat} {raw : List Int} {m : MS} {rows : List (List ByteArray)} (h : Mk w base p A rc raw m rows) (hn : m.names ≤ 100) :
    Calls Tryd.prog 61 #[.pointer (some ⟨p, 0, none⟩), .int .i64 3] w fun e w' => ∃ (s : ByteArray) (a : Nat), e = .returned (.string s) ∧ s.size ≤ 19 ∧ Mk w' base p A rc raw { m with at_ := a } rows ∧ FM p w w' := by
  have V := Lib.hid (show Calls Tryd.prog 76 #[.pointer (some ⟨p, 0, none⟩), .int .i64 3] w _ from v_any h 3 (by decide) hn)
  clear h hn
  go_enter Tryd.func61, Tryd.ntmps61
  go_wp2_with fail
  refine V.out.mono ?_
  rintro e w1 ⟨s, a, rfl, hs, hm, hf⟩
  have HM1 := Lib.hid hm
  have HF1 := Lib.hid hf
  have HS := Lib.hid hs
  clear hm hf hs V
  cases h0 : s.toList.isEmpty
  · as_aux_lemma =>
    have N1 := Lib.hid (show Calls Tryd.prog 22 #[.pointer (some ⟨p, 0, none⟩), .int .i64 4] w1 _ from next_any HM1.out 4 (by decide) (by decide))
    go_wp2_with fail
    refine N1.out.mono ?_
    rintro e w2 ⟨j, a2, hj, rfl, hm, hf⟩
    have HM2 := Lib.hid hm
    have HF2 := Lib.hid (FM.trans HF1.out hf)
    clear hm hf N1
    by_cases hj0 : 0 < j
    · have q1 : (j : Int) > 0 := by omega
      go_wp2_with fail
      go_ret
      exact ⟨s, a2, rfl, by have := HS.out; omega, HM2.out, HF2.out⟩
    · have q1 : ¬ (j : Int) > 0 := by omega
      go_wp2_with fail
      go_ret
      exact ⟨_, _, rfl, by decide, HM2.out, HF2.out⟩
  · as_aux_lemma =>
    go_wp2_with fail
    go_ret
    exact ⟨_, _, rfl, by decide, HM1.out, HF1.out⟩
set_option maxHeartbeats 2000000 in
theorem leaf_4 {w : World} {base p : Nat} {A : Option Addr} {rc : Nat} {raw : List Int} {m : MS} {rows : List (List ByteArray)} (h : Mk w base p A rc raw m rows) (hn : m.names ≤ 100) :
    Calls Tryd.prog 61 #[.pointer (some ⟨p, 0, none⟩), .int .i64 4] w fun e w' => ∃ (s : ByteArray) (a : Nat), e = .returned (.string s) ∧ s.size ≤ 19 ∧ Mk w' base p A rc raw { m with at_ := a } rows ∧ FM p w w' := by
  have V := Lib.hid (show Calls Tryd.prog 76 #[.pointer (some ⟨p, 0, none⟩), .int .i64 4] w _ from v_any h 4 (by decide) hn)
  clear h hn
  go_enter Tryd.func61, Tryd.ntmps61
  go_wp2_with fail
  refine V.out.mono ?_
  rintro e w1 ⟨s, a, rfl, hs, hm, hf⟩
  have HM1 := Lib.hid hm
  have HF1 := Lib.hid hf
  have HS := Lib.hid hs
  clear hm hf hs V
  cases h0 : s.toList.isEmpty
  · as_aux_lemma =>
    have N1 := Lib.hid (show Calls Tryd.prog 22 #[.pointer (some ⟨p, 0, none⟩), .int .i64 4] w1 _ from next_any HM1.out 4 (by decide) (by decide))
    go_wp2_with fail
    refine N1.out.mono ?_
    rintro e w2 ⟨j, a2, hj, rfl, hm, hf⟩
    have HM2 := Lib.hid hm
    have HF2 := Lib.hid (FM.trans HF1.out hf)
    clear hm hf N1
    by_cases hj0 : 0 < j
    · have q1 : (j : Int) > 0 := by omega
      go_wp2_with fail
      go_ret
      exact ⟨s, a2, rfl, by have := HS.out; omega, HM2.out, HF2.out⟩
    · have q1 : ¬ (j : Int) > 0 := by omega
      go_wp2_with fail
      go_ret
      exact ⟨_, _, rfl, by decide, HM2.out, HF2.out⟩
  · as_aux_lemma =>
    go_wp2_with fail
    go_ret
    exact ⟨_, _, rfl, by decide, HM1.out, HF1.out⟩
set_option maxHeartbeats 2000000 in
theorem leaf_5 {w : World} {base p : Nat} {A : Option Addr} {rc : Nat} {raw : List Int} {m : MS} {rows : List (List ByteArray)} (h : Mk w base p A rc raw m rows) (hn : m.names ≤ 100) :
    Calls Tryd.prog 61 #[.pointer (some ⟨p, 0, none⟩), .int .i64 5] w fun e w' => ∃ (s : ByteArray) (a : Nat), e = .returned (.string s) ∧ s.size ≤ 19 ∧ Mk w' base p A rc raw { m with at_ := a } rows ∧ FM p w w' := by
  have V := Lib.hid (show Calls Tryd.prog 76 #[.pointer (some ⟨p, 0, none⟩), .int .i64 5] w _ from v_any h 5 (by decide) hn)
  clear h hn
  go_enter Tryd.func61, Tryd.ntmps61
  go_wp2_with fail
  refine V.out.mono ?_
  rintro e w1 ⟨s, a, rfl, hs, hm, hf⟩
  have HM1 := Lib.hid hm
  have HF1 := Lib.hid hf
  have HS := Lib.hid hs
  clear hm hf hs V
  cases h0 : s.toList.isEmpty
  · as_aux_lemma =>
    have N1 := Lib.hid (show Calls Tryd.prog 22 #[.pointer (some ⟨p, 0, none⟩), .int .i64 4] w1 _ from next_any HM1.out 4 (by decide) (by decide))
    go_wp2_with fail
    refine N1.out.mono ?_
    rintro e w2 ⟨j, a2, hj, rfl, hm, hf⟩
    have HM2 := Lib.hid hm
    have HF2 := Lib.hid (FM.trans HF1.out hf)
    clear hm hf N1
    by_cases hj0 : 0 < j
    · have q1 : (j : Int) > 0 := by omega
      go_wp2_with fail
      go_ret
      exact ⟨s, a2, rfl, by have := HS.out; omega, HM2.out, HF2.out⟩
    · have q1 : ¬ (j : Int) > 0 := by omega
      go_wp2_with fail
      go_ret
      exact ⟨_, _, rfl, by decide, HM2.out, HF2.out⟩
  · as_aux_lemma =>
    go_wp2_with fail
    go_ret
    exact ⟨_, _, rfl, by decide, HM1.out, HF1.out⟩
set_option maxHeartbeats 2000000 in
theorem leaf_6 {w : World} {base p : Nat} {A : Option Addr} {rc : Nat} {raw : List Int} {m : MS} {rows : List (List ByteArray)} (h : Mk w base p A rc raw m rows) (hn : m.names ≤ 100) :
    Calls Tryd.prog 61 #[.pointer (some ⟨p, 0, none⟩), .int .i64 6] w fun e w' => ∃ (s : ByteArray) (a : Nat), e = .returned (.string s) ∧ s.size ≤ 19 ∧ Mk w' base p A rc raw { m with at_ := a } rows ∧ FM p w w' := by
  have V := Lib.hid (show Calls Tryd.prog 76 #[.pointer (some ⟨p, 0, none⟩), .int .i64 6] w _ from v_any h 6 (by decide) hn)
  clear h hn
  go_enter Tryd.func61, Tryd.ntmps61
  go_wp2_with fail
  refine V.out.mono ?_
  rintro e w1 ⟨s, a, rfl, hs, hm, hf⟩
  have HM1 := Lib.hid hm
  have HF1 := Lib.hid hf
  have HS := Lib.hid hs
  clear hm hf hs V
  cases h0 : s.toList.isEmpty
  · as_aux_lemma =>
    have N1 := Lib.hid (show Calls Tryd.prog 22 #[.pointer (some ⟨p, 0, none⟩), .int .i64 4] w1 _ from next_any HM1.out 4 (by decide) (by decide))
    go_wp2_with fail
    refine N1.out.mono ?_
    rintro e w2 ⟨j, a2, hj, rfl, hm, hf⟩
    have HM2 := Lib.hid hm
    have HF2 := Lib.hid (FM.trans HF1.out hf)
    clear hm hf N1
    by_cases hj0 : 0 < j
    · have q1 : (j : Int) > 0 := by omega
      go_wp2_with fail
      go_ret
      exact ⟨s, a2, rfl, by have := HS.out; omega, HM2.out, HF2.out⟩
    · have q1 : ¬ (j : Int) > 0 := by omega
      go_wp2_with fail
      go_ret
      exact ⟨_, _, rfl, by decide, HM2.out, HF2.out⟩
  · as_aux_lemma =>
    go_wp2_with fail
    go_ret
    exact ⟨_, _, rfl, by decide, HM1.out, HF1.out⟩
theorem leaf_any {w : World} {base p : Nat} {A : Option Addr} {rc : Nat} {raw : List Int} {m : MS} {rows : List (List ByteArray)} (h : Mk w base p A rc raw m rows) (t : Nat) (ht : t < 7) (hn : m.names ≤ 100) :
    Calls Tryd.prog 61 #[.pointer (some ⟨p, 0, none⟩), .int .i64 t] w fun e w' => ∃ (s : ByteArray) (a : Nat), e = .returned (.string s) ∧ s.size ≤ 19 ∧ Mk w' base p A rc raw { m with at_ := a } rows ∧ FM p w w' := by
  match t, ht with
  | 0, _ => exact leaf_0 h hn
  | 1, _ => exact leaf_1 h hn
  | 2, _ => exact leaf_2 h hn
  | 3, _ => exact leaf_3 h hn
  | 4, _ => exact leaf_4 h hn
  | 5, _ => exact leaf_5 h hn
  | 6, _ => exact leaf_6 h hn


/-- How long an expression of a depth may be. -/
def eB : Nat → Nat
  | 0 => 20
  | d + 1 => 2 * eB d + 20
theorem eB_le : ∀ {d : Nat}, d ≤ 5 → eB d ≤ 2000
  | 0, _ => by decide
  | 1, _ => by decide
  | 2, _ => by decide
  | 3, _ => by decide
  | 4, _ => by decide
  | 5, _ => by decide
  | _ + 6, h => by omega
theorem cat_le {a b c : ByteArray} {n m : Nat} (e : a ++ b = c) (ha : a.size ≤ n) (hb : b.size ≤ m) : c.size ≤ n + m := by rw [← e, ByteArray.size_append]; omega

/-- Within expr: the maker, the boxes of k and deep; w0: the world ahead of the call. -/
structure Ex (w0 w : World) (base p : Nat) (A : Option Addr) (rc : Nat) (raw : List Int) (m : MS) (rows : List (List ByteArray)) (kb db : Nat) (d : Nat) : Prop where
  mem : Mk w base p A rc raw m rows
  kc : w.cell? ⟨kb, 0, none⟩ = some (.pointer (some ⟨p, 0, none⟩))
  dc : w.cell? ⟨db, 0, none⟩ = some (.int .i64 d)
  kne : kb ≠ p
  dne : db ≠ p
  fr : FM p w0 w

section
variable {w0 w w' : World} {base p : Nat} {A : Option Addr} {rc : Nat} {raw : List Int} {m m' : MS} {rows : List (List ByteArray)} {kb db d : Nat}
theorem Ex.next (h : Ex w0 w base p A rc raw m rows kb db d) (hm : Mk w' base p A rc raw m' rows) (hf : FM p w w') : Ex w0 w' base p A rc raw m' rows kb db d :=
  ⟨hm, (hf.cell (p := ⟨kb, 0, none⟩) (World.block_lt_of_cell? w _ h.kc) h.kne).trans h.kc, (hf.cell (p := ⟨db, 0, none⟩) (World.block_lt_of_cell? w _ h.dc) h.dne).trans h.dc, h.kne, h.dne, FM.trans h.fr hf⟩
theorem Ex.up (h : Ex w0 w base p A rc raw m rows kb db d) (hu : Fr (fun _ => False) w w') : Ex w0 w' base p A rc raw m rows kb db d :=
  h.next (h.mem.up hu) (hu.mono (fun _ _ h => h.elim))

/-- What expr answers. -/
def ExprOk (d : Nat) : Prop := ∀ (w : World) (base p : Nat) (A : Option Addr) (rc : Nat) (raw : List Int) (m : MS) (rows : List (List ByteArray)), Mk w base p A rc raw m rows → m.names ≤ 100 → ∀ t : Nat, t < 7 →
  Calls Tryd.prog 35 #[.pointer (some ⟨p, 0, none⟩), .int .i64 t, .int .i64 d] w fun e w' => ∃ (s : ByteArray) (a : Nat) (z : Int), e = .returned (.string s) ∧ s.size ≤ eB d ∧ Mk w' base p A rc raw { m with at_ := a, size := z } rows ∧ FM p w w'

set_option maxHeartbeats 1000000 in
theorem e_any {D : Nat} (IH : ExprOk d) (hd : d ≤ 5) (hD : D = d + 1) (X : Ex w0 w base p A rc raw m rows kb db D) (hn : m.names ≤ 100) (t : Nat) (ht : t < 7) :
    Calls Tryd.prog 62 #[.int .i64 t, .pointer (some ⟨kb, 0, none⟩), .pointer (some ⟨db, 0, none⟩)] w fun e w' => ∃ (s : ByteArray) (a : Nat) (z : Int), e = .returned (.string s) ∧ s.size ≤ eB d ∧ Ex w0 w' base p A rc raw { m with at_ := a, size := z } rows kb db D := by
  subst hD
  have kc := X.kc
  have dc := X.dc
  have C := Lib.hid (IH w base p A rc raw m rows X.mem hn t ht)
  have HX := Lib.hid X
  have e1 : ((d + 1 : Nat) : Int) - 1 = (d : Int) := by omega
  have e2 : IntKind.i64.wrap (d : Int) = (d : Int) := IntWalk.i64_in _ (by omega)
  have e3 : ((d + 1 : Nat) : Int) = (d : Int) + 1 := by omega
  rw [e3] at dc
  clear X hn IH e1 e3
  go_enter Tryd.func62, Tryd.ntmps62
  go_wp2_with fail
  refine C.out.mono ?_
  rintro e w1 ⟨s, a, z, rfl, hs, hm, hf⟩
  have I := Lib.hid (And.intro hs (HX.out.next hm hf))
  clear hs hm hf
  go_wp2_with fail
  go_ret
  exact ⟨s, a, z, rfl, I.out.1, I.out.2⟩
theorem nx_any (X : Ex w0 w base p A rc raw m rows kb db d) (M : Nat) (h1 : 1 ≤ M) (h2 : M ≤ 1000000) :
    Calls Tryd.prog 22 #[.pointer (some ⟨p, 0, none⟩), .int .i64 M] w fun e w' => ∃ j a : Nat, j < M ∧ e = .returned (.int .i64 j) ∧ Ex w0 w' base p A rc raw { m with at_ := a } rows kb db d :=
  (next_any X.mem M h1 h2).mono fun _ _ ⟨j, a, hj, he, hm, hf⟩ => ⟨j, a, hj, he, X.next hm hf⟩
theorem lf_any (X : Ex w0 w base p A rc raw m rows kb db d) (hn : m.names ≤ 100) (t : Nat) (ht : t < 7) :
    Calls Tryd.prog 61 #[.pointer (some ⟨p, 0, none⟩), .int .i64 t] w fun e w' => ∃ (s : ByteArray) (a : Nat), e = .returned (.string s) ∧ s.size ≤ 19 ∧ Ex w0 w' base p A rc raw { m with at_ := a } rows kb db d :=
  (leaf_any X.mem t ht hn).mono fun _ _ ⟨s, a, he, hs, hm, hf⟩ => ⟨s, a, he, hs, X.next hm hf⟩

/-- The boxes, made, and the size, counted. -/
theorem Ex.start (h : Mk w base p A rc raw m rows) (z : Int) (w1 : World) (hw1 : w1 = (w.alloc (.cells #[.pointer (some ⟨p, 0, none⟩)] 60)).alloc (.cells #[.int .i64 d] 3)) :
    Ex w w1 base p A rc raw m rows w.heap.size (w.heap.size + 1) d ∧ Ex w (w1.setCell ⟨p, 5, none⟩ (.int .i64 z)) base p A rc raw { m with size := z } rows w.heap.size (w.heap.size + 1) d := by
  have u1 : Fr (fun _ => False) w (w.alloc (.cells #[.pointer (some ⟨p, 0, none⟩)] 60)) := (Fr.refl _ _).alloc _
  have u2 : Fr (fun _ => False) (w.alloc (.cells #[.pointer (some ⟨p, 0, none⟩)] 60)) w1 := by rw [hw1]; exact (Fr.refl _ _).alloc _
  have hz : (w.alloc (.cells #[.pointer (some ⟨p, 0, none⟩)] 60)).heap.size = w.heap.size + 1 := by simp
  have hp := h.plt
  have m1 := (h.up u1).up u2
  have k0 : (w.alloc (.cells #[.pointer (some ⟨p, 0, none⟩)] 60)).cell? ⟨w.heap.size, 0, none⟩ = some (.pointer (some ⟨p, 0, none⟩)) := by
    rw [cell_of_row _ _ 0 _ _ _ (heap_alloc_new w _)]; rfl
  have k1 : w1.cell? ⟨w.heap.size, 0, none⟩ = some (.pointer (some ⟨p, 0, none⟩)) := (u2.cell (p := ⟨w.heap.size, 0, none⟩) (by rw [hz]; exact Nat.lt_succ_self _) (fun h => h)).trans k0
  have d1 : w1.cell? ⟨w.heap.size + 1, 0, none⟩ = some (.int .i64 d) := by
    have := cell_of_row _ _ 0 _ _ _ (heap_alloc_new (w.alloc (.cells #[.pointer (some ⟨p, 0, none⟩)] 60)) (.cells #[.int .i64 d] 3))
    rw [hz] at this
    rw [hw1, this]; rfl
  have X1 : Ex w w1 base p A rc raw m rows w.heap.size (w.heap.size + 1) d := ⟨m1, k1, d1, by omega, by omega, (Fr.trans u1 u2 (fun _ _ h => h)).mono (fun _ _ h => h.elim)⟩
  obtain ⟨hm2, hf2⟩ := m1.put 5 (.int .i64 z) { m with size := z } rfl m1.atle m1.short (by rfl)
  exact ⟨X1, X1.next hm2 hf2⟩
end
end Go.Proofs.YtemmdbjcllcelaaDoor.Tk
