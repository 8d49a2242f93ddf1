/-
  The hand's maker: stmt.
-/
import Derived.Test.YtemmdbjcllcelaaDoorHnM
namespace Go.Proofs.YtemmdbjcllcelaaDoor.Tk
set_option maxRecDepth 100000
open Go.RowKit

def brkA : Array Value := #[.string { data := #[98, 114, 101, 97, 107] }, .string { data := #[99, 111, 110, 116, 105, 110, 117, 101] }]
theorem brkIdx : ∀ j : Nat, j < 2 → ∃ x : ByteArray, x.size ≤ 8 ∧ ∀ w, (Instr.index 84 (.agg brkA) (.int .i64 (j : Nat))).run Tryd.prog w = .ok (.string x) w
  | 0, _ => ⟨{ data := #[98, 114, 101, 97, 107] }, by decide, fun _ => by kernel_rfl⟩
  | 1, _ => ⟨{ data := #[99, 111, 110, 116, 105, 110, 117, 101] }, by decide, fun _ => by kernel_rfl⟩
  | _ + 2, h => by omega

set_option maxRecDepth 20000 in
set_option maxHeartbeats 16000000 in
theorem stmt_any {D : Nat} (IHs : ∀ e, D = e + 1 → StmtsOk e) (IHl : LoopOk D) : StmtOk D := by
  intro w base p A rc raw m rows n h h25 hr0 hr7 hout hnd
  have SBX := Lib.hid (show 40000 ≤ sB D by cases D <;> simp [sB])
  have IHS := Lib.hid IHs
  have IHL := Lib.hid IHl
  have HO := Lib.hid hout
  have HND := Lib.hid hnd
  have HR := Lib.hid (And.intro hr0 hr7)
  have K0 := Lib.hid (Wt.refl (N := 0) h h25)
  have c5 := h.cell 5
  have c3 := h.cell 3
  simp only [List.getElem?_toArray, List.getElem?_cons_zero, List.getElem?_cons_succ] at c5 c3
  have n1w : IntKind.i64.wrap ((n : Int) + 1) = (n : Int) + 1 := IntWalk.i64_in _ (by omega)
  have hrl := h.nums.le
  have hrb := h.nums.big
  clear h h25 hr0 hr7 hout hnd IHs IHl
  by_cases h70 : m.size > 70
  · as_aux_lemma =>
    go_enter Tryd.func60, Tryd.ntmps60
    have C1 := Lib.hid (show Calls Tryd.prog 61 #[.pointer (some ⟨p, 0, none⟩), .int .i64 0] w _ from leaf_w K0.out 0 (by decide))
    go_wp2_with fail
    refine C1.out.mono ?_
    rintro e v1 ⟨s1, rfl, hs1, m1, _, hk1⟩
    have K1 := Lib.hid hk1
    clear hk1 C1 c5 c3
    have q2 : 6 + s1.size ≤ 9223372036854775807 := by omega
    obtain ⟨a2, ea2⟩ : ∃ c, ({ data := #[112, 114, 105, 110, 116, 40] } : ByteArray) ++ s1 = c := ⟨_, rfl⟩
    have ha2 : a2.size ≤ 6 + 19 := cat_le ea2 (Nat.le_refl _) hs1
    have q3 : a2.size + 1 ≤ 9223372036854775807 := by omega
    obtain ⟨a3, ea3⟩ : ∃ c, a2 ++ ({ data := #[41] } : ByteArray) = c := ⟨_, rfl⟩
    have ha3 : a3.size ≤ 6 + 19 + 1 := cat_le ea3 ha2 (Nat.le_refl _)
    have C4 := Lib.hid (show Calls Tryd.prog 20 #[.pointer (some ⟨p, 0, none⟩), .int .i64 n, .string a3] v1 _ from line_w K1.out n (by have := HND.out; omega) a3 (by omega) (by have h1 := HO.out; have h2 := SBX.out; omega))
    go_wp2_with fail
    refine C4.out.mono ?_
    rintro e v4 ⟨rfl, m4, hk4⟩
    have K4 := Lib.hid hk4
    clear hk4 C4
    go_wp2_with fail
    refine bodyPost_ret (v := .tuple #[]) ?_ ?_ ?_
    · kernel_rfl
    · rfl
    · exact ⟨rfl, _, _, K4.out.more (by have h1 := SBX.out; omega)⟩
  · by_cases h24 : (m.names : Int) > 24
    · as_aux_lemma =>
      go_enter Tryd.func60, Tryd.ntmps60
      have C1 := Lib.hid (show Calls Tryd.prog 61 #[.pointer (some ⟨p, 0, none⟩), .int .i64 0] w _ from leaf_w K0.out 0 (by decide))
      go_wp2_with fail
      refine C1.out.mono ?_
      rintro e v1 ⟨s1, rfl, hs1, m1, _, hk1⟩
      have K1 := Lib.hid hk1
      clear hk1 C1 c5 c3
      have q2 : 6 + s1.size ≤ 9223372036854775807 := by omega
      obtain ⟨a2, ea2⟩ : ∃ c, ({ data := #[112, 114, 105, 110, 116, 40] } : ByteArray) ++ s1 = c := ⟨_, rfl⟩
      have ha2 : a2.size ≤ 6 + 19 := cat_le ea2 (Nat.le_refl _) hs1
      have q3 : a2.size + 1 ≤ 9223372036854775807 := by omega
      obtain ⟨a3, ea3⟩ : ∃ c, a2 ++ ({ data := #[41] } : ByteArray) = c := ⟨_, rfl⟩
      have ha3 : a3.size ≤ 6 + 19 + 1 := cat_le ea3 ha2 (Nat.le_refl _)
      have C4 := Lib.hid (show Calls Tryd.prog 20 #[.pointer (some ⟨p, 0, none⟩), .int .i64 n, .string a3] v1 _ from line_w K1.out n (by have := HND.out; omega) a3 (by omega) (by have h1 := HO.out; have h2 := SBX.out; omega))
      go_wp2_with fail
      refine C4.out.mono ?_
      rintro e v4 ⟨rfl, m4, hk4⟩
      have K4 := Lib.hid hk4
      clear hk4 C4
      go_wp2_with fail
      refine bodyPost_ret (v := .tuple #[]) ?_ ?_ ?_
      · kernel_rfl
      · rfl
      · exact ⟨rfl, _, _, K4.out.more (by have h1 := SBX.out; omega)⟩
    · have NX := Lib.hid (show m.names ≤ 24 by omega)
      go_enter Tryd.func60, Tryd.ntmps60
      have C1 := Lib.hid (show Calls Tryd.prog 22 #[.pointer (some ⟨p, 0, none⟩), .int .i64 15] w _ from next_w K0.out 15 (by decide) (by decide))
      go_wp2_with fail
      refine C1.out.mono ?_
      rintro e v1 ⟨j1, hj1, rfl, m1, hn1, hk1⟩
      have K1 := Lib.hid hk1
      have N1 := Lib.hid (show m1.names ≤ 24 by rw [hn1.2]; exact NX.out)
      have HJ1 := Lib.hid hj1
      clear hj1 hk1 hn1 C1
      clear c5 c3 h70 h24 K0 NX
      by_cases hj0 : j1 = 0
      · as_aux_lemma =>
        subst hj0
        have C2 := Lib.hid (show Calls Tryd.prog 22 #[.pointer (some ⟨p, 0, none⟩), .int .i64 7] v1 _ from next_w K1.out 7 (by decide) (by decide))
        go_wp2_with fail
        refine C2.out.mono ?_
        rintro e v2 ⟨j2, hj2, rfl, m2, hn2, hk2⟩
        have K2 := Lib.hid hk2
        have N2 := Lib.hid (show m2.names ≤ 24 by rw [hn2.2]; exact N1.out)
        have HJ2 := Lib.hid hj2
        clear hj2 hk2 hn2 C2
        have ht2 := HJ2.out
        have C3 := Lib.hid (show Calls Tryd.prog 35 #[.pointer (some ⟨p, 0, none⟩), .int .i64 (j2 : Nat), .int .i64 2] v2 _ from expr_w K2.out (j2 : Nat) 2 ht2 (by decide))
        go_wp2_with fail
        refine C3.out.mono ?_
        rintro e v3 ⟨s3, rfl, hs3, m3, hn3, hk3⟩
        have K3 := Lib.hid hk3
        have N3 := Lib.hid (show m3.names ≤ 24 by rw [hn3.2]; exact N2.out)
        clear hk3 hn3 C3
        have C4 := Lib.hid (show Calls Tryd.prog 75 #[.pointer (some ⟨p, 0, none⟩), .int .i64 (j2 : Nat), .int .i64 n, .string s3] v3 _ from declare_w K3.out j2 ht2 n (by have := HND.out; omega) s3 (by omega) N3.out (by have h1 := HO.out; have h2 := SBX.out; omega))
        go_wp2_with fail
        refine C4.out.mono ?_
        rintro e v4 ⟨rfl, m4, r4, hk4⟩
        have K4 := Lib.hid hk4
        clear hk4 C4
        go_wp2_with fail
        refine bodyPost_end (v := .tuple #[]) (by kernel_rfl) rfl ?_
        exact ⟨rfl, _, _, K4.out.more (by have h1 := SBX.out; omega)⟩
      by_cases hj1 : j1 = 1
      · as_aux_lemma =>
        subst hj1
        have C2 := Lib.hid (show Calls Tryd.prog 22 #[.pointer (some ⟨p, 0, none⟩), .int .i64 7] v1 _ from next_w K1.out 7 (by decide) (by decide))
        go_wp2_with fail
        refine C2.out.mono ?_
        rintro e v2 ⟨j2, hj2, rfl, m2, hn2, hk2⟩
        have K2 := Lib.hid hk2
        have N2 := Lib.hid (show m2.names ≤ 24 by rw [hn2.2]; exact N1.out)
        have HJ2 := Lib.hid hj2
        clear hj2 hk2 hn2 C2
        have ht2 := HJ2.out
        have C3 := Lib.hid (show Calls Tryd.prog 35 #[.pointer (some ⟨p, 0, none⟩), .int .i64 (j2 : Nat), .int .i64 2] v2 _ from expr_w K2.out (j2 : Nat) 2 ht2 (by decide))
        go_wp2_with fail
        refine C3.out.mono ?_
        rintro e v3 ⟨s3, rfl, hs3, m3, hn3, hk3⟩
        have K3 := Lib.hid hk3
        have N3 := Lib.hid (show m3.names ≤ 24 by rw [hn3.2]; exact N2.out)
        clear hk3 hn3 C3
        have C4 := Lib.hid (show Calls Tryd.prog 75 #[.pointer (some ⟨p, 0, none⟩), .int .i64 (j2 : Nat), .int .i64 n, .string s3] v3 _ from declare_w K3.out j2 ht2 n (by have := HND.out; omega) s3 (by omega) N3.out (by have h1 := HO.out; have h2 := SBX.out; omega))
        go_wp2_with fail
        refine C4.out.mono ?_
        rintro e v4 ⟨rfl, m4, r4, hk4⟩
        have K4 := Lib.hid hk4
        clear hk4 C4
        go_wp2_with fail
        refine bodyPost_end (v := .tuple #[]) (by kernel_rfl) rfl ?_
        exact ⟨rfl, _, _, K4.out.more (by have h1 := SBX.out; omega)⟩
      by_cases hj2 : j1 = 2
      · as_aux_lemma =>
        subst hj2
        have C2 := Lib.hid (show Calls Tryd.prog 76 #[.pointer (some ⟨p, 0, none⟩), .int .i64 0] v1 _ from v_w K1.out 0 (by decide))
        go_wp2_with fail
        refine C2.out.mono ?_
        rintro e v2 ⟨s2, rfl, hs2, m2, hn2, hk2⟩
        have K2 := Lib.hid hk2
        have N2 := Lib.hid (show m2.names ≤ 24 by rw [hn2.2]; exact N1.out)
        clear hk2 hn2 C2
        cases hz : s2.toList.isEmpty
        · have q3 : s2.size + 3 ≤ 9223372036854775807 := by omega
          obtain ⟨a3, ea3⟩ : ∃ c, s2 ++ ({ data := #[32, 61, 32] } : ByteArray) = c := ⟨_, rfl⟩
          have ha3 : a3.size ≤ 6 + 3 := cat_le ea3 hs2 (Nat.le_refl _)
          have C4 := Lib.hid (show Calls Tryd.prog 35 #[.pointer (some ⟨p, 0, none⟩), .int .i64 0, .int .i64 3] v2 _ from expr_w K2.out 0 3 (by decide) (by decide))
          go_wp2_with fail
          refine C4.out.mono ?_
          rintro e v4 ⟨s4, rfl, hs4, m4, hn4, hk4⟩
          have K4 := Lib.hid hk4
          have N4 := Lib.hid (show m4.names ≤ 24 by rw [hn4.2]; exact N2.out)
          clear hk4 hn4 C4
          have q5 : a3.size + s4.size ≤ 9223372036854775807 := by omega
          obtain ⟨a5, ea5⟩ : ∃ c, a3 ++ s4 = c := ⟨_, rfl⟩
          have ha5 : a5.size ≤ 6 + 3 + 300 := cat_le ea5 ha3 hs4
          have C6 := Lib.hid (show Calls Tryd.prog 20 #[.pointer (some ⟨p, 0, none⟩), .int .i64 n, .string a5] v4 _ from line_w K4.out n (by have := HND.out; omega) a5 (by omega) (by have h1 := HO.out; have h2 := SBX.out; omega))
          go_wp2_with fail
          refine C6.out.mono ?_
          rintro e v6 ⟨rfl, m6, hk6⟩
          have K6 := Lib.hid hk6
          clear hk6 C6
          go_wp2_with fail
          refine bodyPost_end (v := .tuple #[]) (by kernel_rfl) rfl ?_
          exact ⟨rfl, _, _, K6.out.more (by have h1 := SBX.out; omega)⟩
        · go_wp2_with fail
          refine bodyPost_end (v := .tuple #[]) (by kernel_rfl) rfl ?_
          exact ⟨rfl, _, _, K2.out.more (by have h1 := SBX.out; omega)⟩
      by_cases hj3 : j1 = 3
      · as_aux_lemma =>
        subst hj3
        have C2 := Lib.hid (show Calls Tryd.prog 76 #[.pointer (some ⟨p, 0, none⟩), .int .i64 0] v1 _ from v_w K1.out 0 (by decide))
        go_wp2_with fail
        refine C2.out.mono ?_
        rintro e v2 ⟨s2, rfl, hs2, m2, hn2, hk2⟩
        have K2 := Lib.hid hk2
        have N2 := Lib.hid (show m2.names ≤ 24 by rw [hn2.2]; exact N1.out)
        clear hk2 hn2 C2
        cases hz : s2.toList.isEmpty
        · have q3 : s2.size + 3 ≤ 9223372036854775807 := by omega
          obtain ⟨a3, ea3⟩ : ∃ c, s2 ++ ({ data := #[32, 61, 32] } : ByteArray) = c := ⟨_, rfl⟩
          have ha3 : a3.size ≤ 6 + 3 := cat_le ea3 hs2 (Nat.le_refl _)
          have C4 := Lib.hid (show Calls Tryd.prog 35 #[.pointer (some ⟨p, 0, none⟩), .int .i64 0, .int .i64 3] v2 _ from expr_w K2.out 0 3 (by decide) (by decide))
          go_wp2_with fail
          refine C4.out.mono ?_
          rintro e v4 ⟨s4, rfl, hs4, m4, hn4, hk4⟩
          have K4 := Lib.hid hk4
          have N4 := Lib.hid (show m4.names ≤ 24 by rw [hn4.2]; exact N2.out)
          clear hk4 hn4 C4
          have q5 : a3.size + s4.size ≤ 9223372036854775807 := by omega
          obtain ⟨a5, ea5⟩ : ∃ c, a3 ++ s4 = c := ⟨_, rfl⟩
          have ha5 : a5.size ≤ 6 + 3 + 300 := cat_le ea5 ha3 hs4
          have C6 := Lib.hid (show Calls Tryd.prog 20 #[.pointer (some ⟨p, 0, none⟩), .int .i64 n, .string a5] v4 _ from line_w K4.out n (by have := HND.out; omega) a5 (by omega) (by have h1 := HO.out; have h2 := SBX.out; omega))
          go_wp2_with fail
          refine C6.out.mono ?_
          rintro e v6 ⟨rfl, m6, hk6⟩
          have K6 := Lib.hid hk6
          clear hk6 C6
          go_wp2_with fail
          refine bodyPost_end (v := .tuple #[]) (by kernel_rfl) rfl ?_
          exact ⟨rfl, _, _, K6.out.more (by have h1 := SBX.out; omega)⟩
        · go_wp2_with fail
          refine bodyPost_end (v := .tuple #[]) (by kernel_rfl) rfl ?_
          exact ⟨rfl, _, _, K2.out.more (by have h1 := SBX.out; omega)⟩
      by_cases hj4 : j1 = 4
      · as_aux_lemma =>
        subst hj4
        have C2 := Lib.hid (show Calls Tryd.prog 76 #[.pointer (some ⟨p, 0, none⟩), .int .i64 0] v1 _ from v_w K1.out 0 (by decide))
        go_wp2_with fail
        refine C2.out.mono ?_
        rintro e v2 ⟨s2, rfl, hs2, m2, hn2, hk2⟩
        have K2 := Lib.hid hk2
        have N2 := Lib.hid (show m2.names ≤ 24 by rw [hn2.2]; exact N1.out)
        clear hk2 hn2 C2
        cases hz : s2.toList.isEmpty
        · have q3 : s2.size + 3 ≤ 9223372036854775807 := by omega
          obtain ⟨a3, ea3⟩ : ∃ c, s2 ++ ({ data := #[32, 61, 32] } : ByteArray) = c := ⟨_, rfl⟩
          have ha3 : a3.size ≤ 6 + 3 := cat_le ea3 hs2 (Nat.le_refl _)
          have C4 := Lib.hid (show Calls Tryd.prog 35 #[.pointer (some ⟨p, 0, none⟩), .int .i64 0, .int .i64 3] v2 _ from expr_w K2.out 0 3 (by decide) (by decide))
          go_wp2_with fail
          refine C4.out.mono ?_
          rintro e v4 ⟨s4, rfl, hs4, m4, hn4, hk4⟩
          have K4 := Lib.hid hk4
          have N4 := Lib.hid (show m4.names ≤ 24 by rw [hn4.2]; exact N2.out)
          clear hk4 hn4 C4
          have q5 : a3.size + s4.size ≤ 9223372036854775807 := by omega
          obtain ⟨a5, ea5⟩ : ∃ c, a3 ++ s4 = c := ⟨_, rfl⟩
          have ha5 : a5.size ≤ 6 + 3 + 300 := cat_le ea5 ha3 hs4
          have C6 := Lib.hid (show Calls Tryd.prog 20 #[.pointer (some ⟨p, 0, none⟩), .int .i64 n, .string a5] v4 _ from line_w K4.out n (by have := HND.out; omega) a5 (by omega) (by have h1 := HO.out; have h2 := SBX.out; omega))
          go_wp2_with fail
          refine C6.out.mono ?_
          rintro e v6 ⟨rfl, m6, hk6⟩
          have K6 := Lib.hid hk6
          clear hk6 C6
          go_wp2_with fail
          refine bodyPost_end (v := .tuple #[]) (by kernel_rfl) rfl ?_
          exact ⟨rfl, _, _, K6.out.more (by have h1 := SBX.out; omega)⟩
        · go_wp2_with fail
          refine bodyPost_end (v := .tuple #[]) (by kernel_rfl) rfl ?_
          exact ⟨rfl, _, _, K2.out.more (by have h1 := SBX.out; omega)⟩
      by_cases hj5 : j1 = 5
      · as_aux_lemma =>
        subst hj5
        have C2 := Lib.hid (show Calls Tryd.prog 76 #[.pointer (some ⟨p, 0, none⟩), .int .i64 1] v1 _ from v_w K1.out 1 (by decide))
        go_wp2_with fail
        refine C2.out.mono ?_
        rintro e v2 ⟨s2, rfl, hs2, m2, hn2, hk2⟩
        have K2 := Lib.hid hk2
        have N2 := Lib.hid (show m2.names ≤ 24 by rw [hn2.2]; exact N1.out)
        clear hk2 hn2 C2
        cases hz : s2.toList.isEmpty
        · have q3 : s2.size + 3 ≤ 9223372036854775807 := by omega
          obtain ⟨a3, ea3⟩ : ∃ c, s2 ++ ({ data := #[32, 61, 32] } : ByteArray) = c := ⟨_, rfl⟩
          have ha3 : a3.size ≤ 6 + 3 := cat_le ea3 hs2 (Nat.le_refl _)
          have C4 := Lib.hid (show Calls Tryd.prog 35 #[.pointer (some ⟨p, 0, none⟩), .int .i64 1, .int .i64 2] v2 _ from expr_w K2.out 1 2 (by decide) (by decide))
          go_wp2_with fail
          refine C4.out.mono ?_
          rintro e v4 ⟨s4, rfl, hs4, m4, hn4, hk4⟩
          have K4 := Lib.hid hk4
          have N4 := Lib.hid (show m4.names ≤ 24 by rw [hn4.2]; exact N2.out)
          clear hk4 hn4 C4
          have q5 : a3.size + s4.size ≤ 9223372036854775807 := by omega
          obtain ⟨a5, ea5⟩ : ∃ c, a3 ++ s4 = c := ⟨_, rfl⟩
          have ha5 : a5.size ≤ 6 + 3 + 300 := cat_le ea5 ha3 hs4
          have C6 := Lib.hid (show Calls Tryd.prog 20 #[.pointer (some ⟨p, 0, none⟩), .int .i64 n, .string a5] v4 _ from line_w K4.out n (by have := HND.out; omega) a5 (by omega) (by have h1 := HO.out; have h2 := SBX.out; omega))
          go_wp2_with fail
          refine C6.out.mono ?_
          rintro e v6 ⟨rfl, m6, hk6⟩
          have K6 := Lib.hid hk6
          clear hk6 C6
          go_wp2_with fail
          refine bodyPost_end (v := .tuple #[]) (by kernel_rfl) rfl ?_
          exact ⟨rfl, _, _, K6.out.more (by have h1 := SBX.out; omega)⟩
        · go_wp2_with fail
          refine bodyPost_end (v := .tuple #[]) (by kernel_rfl) rfl ?_
          exact ⟨rfl, _, _, K2.out.more (by have h1 := SBX.out; omega)⟩
      by_cases hj6 : j1 = 6
      · as_aux_lemma =>
        subst hj6
        have C2 := Lib.hid (show Calls Tryd.prog 22 #[.pointer (some ⟨p, 0, none⟩), .int .i64 3] v1 _ from next_w K1.out 3 (by decide) (by decide))
        go_wp2_with fail
        refine C2.out.mono ?_
        rintro e v2 ⟨j2, hj2, rfl, m2, hn2, hk2⟩
        have K2 := Lib.hid hk2
        have N2 := Lib.hid (show m2.names ≤ 24 by rw [hn2.2]; exact N1.out)
        have HJ2 := Lib.hid hj2
        clear hj2 hk2 hn2 C2
        have ht2 : j2 < 7 := by have := HJ2.out; omega
        have C3 := Lib.hid (show Calls Tryd.prog 35 #[.pointer (some ⟨p, 0, none⟩), .int .i64 (j2 : Nat), .int .i64 2] v2 _ from expr_w K2.out (j2 : Nat) 2 ht2 (by decide))
        go_wp2_with fail
        refine C3.out.mono ?_
        rintro e v3 ⟨s3, rfl, hs3, m3, hn3, hk3⟩
        have K3 := Lib.hid hk3
        have N3 := Lib.hid (show m3.names ≤ 24 by rw [hn3.2]; exact N2.out)
        clear hk3 hn3 C3
        have q4 : 6 + s3.size ≤ 9223372036854775807 := by omega
        obtain ⟨a4, ea4⟩ : ∃ c, ({ data := #[112, 114, 105, 110, 116, 40] } : ByteArray) ++ s3 = c := ⟨_, rfl⟩
        have ha4 : a4.size ≤ 6 + 300 := cat_le ea4 (Nat.le_refl _) hs3
        have q5 : a4.size + 1 ≤ 9223372036854775807 := by omega
        obtain ⟨a5, ea5⟩ : ∃ c, a4 ++ ({ data := #[41] } : ByteArray) = c := ⟨_, rfl⟩
        have ha5 : a5.size ≤ 6 + 300 + 1 := cat_le ea5 ha4 (Nat.le_refl _)
        have C6 := Lib.hid (show Calls Tryd.prog 20 #[.pointer (some ⟨p, 0, none⟩), .int .i64 n, .string a5] v3 _ from line_w K3.out n (by have := HND.out; omega) a5 (by omega) (by have h1 := HO.out; have h2 := SBX.out; omega))
        go_wp2_with fail
        refine C6.out.mono ?_
        rintro e v6 ⟨rfl, m6, hk6⟩
        have K6 := Lib.hid hk6
        clear hk6 C6
        go_wp2_with fail
        refine bodyPost_end (v := .tuple #[]) (by kernel_rfl) rfl ?_
        exact ⟨rfl, _, _, K6.out.more (by have h1 := SBX.out; omega)⟩
      by_cases hj7 : j1 = 7
      · as_aux_lemma =>
        subst hj7
        by_cases hD0 : D = 0
        · have dp : (D : Int) ≤ 0 := by omega
          go_wp2_with fail
          refine bodyPost_ret (v := .tuple #[]) ?_ ?_ ?_
          · kernel_rfl
          · rfl
          · exact ⟨rfl, _, _, K1.out.more (by have h1 := SBX.out; omega)⟩
        · obtain ⟨d, hd⟩ : ∃ d, D = d + 1 := ⟨D - 1, by omega⟩
          have IH := Lib.hid (IHS.out d hd)
          have HSB := Lib.hid (show sB D = 8 * sB d + 40000 by rw [hd]; rfl)
          have dp : ¬ ((D : Int) ≤ 0) := by omega
          have dpm : (D : Int) - 1 = (d : Int) := by omega
          have dw : IntKind.i64.wrap (d : Int) = (d : Int) := IntWalk.i64_in _ (by have := HND.out; omega)
          have ND := Lib.hid (show n + 1 + d ≤ 50 by have := HND.out; omega)
          clear hd hD0
          have C2 := Lib.hid (show Calls Tryd.prog 35 #[.pointer (some ⟨p, 0, none⟩), .int .i64 1, .int .i64 2] v1 _ from expr_w K1.out 1 2 (by decide) (by decide))
          go_wp2_with fail
          refine C2.out.mono ?_
          rintro e v2 ⟨s2, rfl, hs2, m2, hn2, hk2⟩
          have K2 := Lib.hid hk2
          have N2 := Lib.hid (show m2.names ≤ 24 by rw [hn2.2]; exact N1.out)
          clear hk2 hn2 C2
          have q3 : 3 + s2.size ≤ 9223372036854775807 := by omega
          obtain ⟨a3, ea3⟩ : ∃ c, ({ data := #[105, 102, 32] } : ByteArray) ++ s2 = c := ⟨_, rfl⟩
          have ha3 : a3.size ≤ 3 + 300 := cat_le ea3 (Nat.le_refl _) hs2
          have q4 : a3.size + 2 ≤ 9223372036854775807 := by omega
          obtain ⟨a4, ea4⟩ : ∃ c, a3 ++ ({ data := #[32, 123] } : ByteArray) = c := ⟨_, rfl⟩
          have ha4 : a4.size ≤ 3 + 300 + 2 := cat_le ea4 ha3 (Nat.le_refl _)
          have C5 := Lib.hid (show Calls Tryd.prog 20 #[.pointer (some ⟨p, 0, none⟩), .int .i64 n, .string a4] v2 _ from line_w K2.out n (by have := HND.out; omega) a4 (by omega) (by have h1 := HO.out; have h2 := SBX.out; have h3 := HSB.out; omega))
          go_wp2_with fail
          refine C5.out.mono ?_
          rintro e v5 ⟨rfl, m5, hk5⟩
          have K5 := Lib.hid hk5
          clear hk5 C5
          have C6 := Lib.hid (show Calls Tryd.prog 34 #[.pointer (some ⟨p, 0, none⟩), .int .i64 ((n : Int) + 1), .int .i64 d] v5 _ from stmts_w IH.out K5.out (n + 1) ND.out HR.out.1 HR.out.2 (by have h1 := HO.out; have h2 := HSB.out; omega))
          go_wp2_with fail
          refine C6.out.mono ?_
          rintro e v6 ⟨rfl, m6, r6, hk6⟩
          have K6 := Lib.hid hk6
          clear hk6 C6
          have C7 := Lib.hid (show Calls Tryd.prog 22 #[.pointer (some ⟨p, 0, none⟩), .int .i64 2] v6 _ from next_w K6.out 2 (by decide) (by decide))
          go_wp2_with fail
          refine C7.out.mono ?_
          rintro e v7 ⟨j7, hj7, rfl, m7, _, hk7⟩
          have K7 := Lib.hid hk7
          clear hk7 C7
          by_cases ht : j7 = 0
          · subst ht
            have C8 := Lib.hid (show Calls Tryd.prog 20 #[.pointer (some ⟨p, 0, none⟩), .int .i64 n, .string ({ data := #[125, 32, 101, 108, 115, 101, 32, 123] } : ByteArray)] v7 _ from line_w K7.out n (by have := HND.out; omega) ({ data := #[125, 32, 101, 108, 115, 101, 32, 123] } : ByteArray) (by decide) (by have h1 := HO.out; have h2 := SBX.out; have h3 := HSB.out; omega))
            go_wp2_with fail
            refine C8.out.mono ?_
            rintro e v8 ⟨rfl, m8, hk8⟩
            have K8 := Lib.hid hk8
            clear hk8 C8
            have C9 := Lib.hid (show Calls Tryd.prog 34 #[.pointer (some ⟨p, 0, none⟩), .int .i64 ((n : Int) + 1), .int .i64 d] v8 _ from stmts_w IH.out K8.out (n + 1) ND.out HR.out.1 HR.out.2 (by have h1 := HO.out; have h2 := HSB.out; omega))
            go_wp2_with fail
            refine C9.out.mono ?_
            rintro e v9 ⟨rfl, m9, r9, hk9⟩
            have K9 := Lib.hid hk9
            clear hk9 C9
            have C10 := Lib.hid (show Calls Tryd.prog 20 #[.pointer (some ⟨p, 0, none⟩), .int .i64 n, .string ({ data := #[125] } : ByteArray)] v9 _ from line_w K9.out n (by have := HND.out; omega) ({ data := #[125] } : ByteArray) (by decide) (by have h1 := HO.out; have h2 := SBX.out; have h3 := HSB.out; omega))
            go_wp2_with fail
            refine C10.out.mono ?_
            rintro e v10 ⟨rfl, m10, hk10⟩
            have K10 := Lib.hid hk10
            clear hk10 C10
            go_wp2_with fail
            refine bodyPost_end (v := .tuple #[]) (by kernel_rfl) rfl ?_
            exact ⟨rfl, _, _, K10.out.more (by have h1 := HSB.out; omega)⟩
          · have g2 : ((j7 : Int) == 0) = false := beq_eq_false_iff_ne.2 (by omega)
            have C8 := Lib.hid (show Calls Tryd.prog 20 #[.pointer (some ⟨p, 0, none⟩), .int .i64 n, .string ({ data := #[125] } : ByteArray)] v7 _ from line_w K7.out n (by have := HND.out; omega) ({ data := #[125] } : ByteArray) (by decide) (by have h1 := HO.out; have h2 := SBX.out; have h3 := HSB.out; omega))
            go_wp2_with fail
            refine C8.out.mono ?_
            rintro e v8 ⟨rfl, m8, hk8⟩
            have K8 := Lib.hid hk8
            clear hk8 C8
            go_wp2_with fail
            refine bodyPost_end (v := .tuple #[]) (by kernel_rfl) rfl ?_
            exact ⟨rfl, _, _, K8.out.more (by have h1 := HSB.out; omega)⟩
      by_cases hj8 : j1 = 8
      · as_aux_lemma =>
        subst hj8
        by_cases hD0 : D = 0
        · have dp : (D : Int) ≤ 0 := by omega
          go_wp2_with fail
          refine bodyPost_ret (v := .tuple #[]) ?_ ?_ ?_
          · kernel_rfl
          · rfl
          · exact ⟨rfl, _, _, K1.out.more (by have h1 := SBX.out; omega)⟩
        · obtain ⟨d, hd⟩ : ∃ d, D = d + 1 := ⟨D - 1, by omega⟩
          have IH := Lib.hid (IHS.out d hd)
          have HSB := Lib.hid (show sB D = 8 * sB d + 40000 by rw [hd]; rfl)
          have dp : ¬ ((D : Int) ≤ 0) := by omega
          have dpm : (D : Int) - 1 = (d : Int) := by omega
          have dw : IntKind.i64.wrap (d : Int) = (d : Int) := IntWalk.i64_in _ (by have := HND.out; omega)
          have ND := Lib.hid (show n + 1 + d ≤ 50 by have := HND.out; omega)
          clear hd hD0
          have C2 := Lib.hid (show Calls Tryd.prog 35 #[.pointer (some ⟨p, 0, none⟩), .int .i64 1, .int .i64 2] v1 _ from expr_w K1.out 1 2 (by decide) (by decide))
          go_wp2_with fail
          refine C2.out.mono ?_
          rintro e v2 ⟨s2, rfl, hs2, m2, hn2, hk2⟩
          have K2 := Lib.hid hk2
          have N2 := Lib.hid (show m2.names ≤ 24 by rw [hn2.2]; exact N1.out)
          clear hk2 hn2 C2
          have q3 : 3 + s2.size ≤ 9223372036854775807 := by omega
          obtain ⟨a3, ea3⟩ : ∃ c, ({ data := #[105, 102, 32] } : ByteArray) ++ s2 = c := ⟨_, rfl⟩
          have ha3 : a3.size ≤ 3 + 300 := cat_le ea3 (Nat.le_refl _) hs2
          have q4 : a3.size + 2 ≤ 9223372036854775807 := by omega
          obtain ⟨a4, ea4⟩ : ∃ c, a3 ++ ({ data := #[32, 123] } : ByteArray) = c := ⟨_, rfl⟩
          have ha4 : a4.size ≤ 3 + 300 + 2 := cat_le ea4 ha3 (Nat.le_refl _)
          have C5 := Lib.hid (show Calls Tryd.prog 20 #[.pointer (some ⟨p, 0, none⟩), .int .i64 n, .string a4] v2 _ from line_w K2.out n (by have := HND.out; omega) a4 (by omega) (by have h1 := HO.out; have h2 := SBX.out; have h3 := HSB.out; omega))
          go_wp2_with fail
          refine C5.out.mono ?_
          rintro e v5 ⟨rfl, m5, hk5⟩
          have K5 := Lib.hid hk5
          clear hk5 C5
          have C6 := Lib.hid (show Calls Tryd.prog 34 #[.pointer (some ⟨p, 0, none⟩), .int .i64 ((n : Int) + 1), .int .i64 d] v5 _ from stmts_w IH.out K5.out (n + 1) ND.out HR.out.1 HR.out.2 (by have h1 := HO.out; have h2 := HSB.out; omega))
          go_wp2_with fail
          refine C6.out.mono ?_
          rintro e v6 ⟨rfl, m6, r6, hk6⟩
          have K6 := Lib.hid hk6
          clear hk6 C6
          have C7 := Lib.hid (show Calls Tryd.prog 22 #[.pointer (some ⟨p, 0, none⟩), .int .i64 2] v6 _ from next_w K6.out 2 (by decide) (by decide))
          go_wp2_with fail
          refine C7.out.mono ?_
          rintro e v7 ⟨j7, hj7, rfl, m7, _, hk7⟩
          have K7 := Lib.hid hk7
          clear hk7 C7
          by_cases ht : j7 = 0
          · subst ht
            have C8 := Lib.hid (show Calls Tryd.prog 20 #[.pointer (some ⟨p, 0, none⟩), .int .i64 n, .string ({ data := #[125, 32, 101, 108, 115, 101, 32, 123] } : ByteArray)] v7 _ from line_w K7.out n (by have := HND.out; omega) ({ data := #[125, 32, 101, 108, 115, 101, 32, 123] } : ByteArray) (by decide) (by have h1 := HO.out; have h2 := SBX.out; have h3 := HSB.out; omega))
            go_wp2_with fail
            refine C8.out.mono ?_
            rintro e v8 ⟨rfl, m8, hk8⟩
            have K8 := Lib.hid hk8
            clear hk8 C8
            have C9 := Lib.hid (show Calls Tryd.prog 34 #[.pointer (some ⟨p, 0, none⟩), .int .i64 ((n : Int) + 1), .int .i64 d] v8 _ from stmts_w IH.out K8.out (n + 1) ND.out HR.out.1 HR.out.2 (by have h1 := HO.out; have h2 := HSB.out; omega))
            go_wp2_with fail
            refine C9.out.mono ?_
            rintro e v9 ⟨rfl, m9, r9, hk9⟩
            have K9 := Lib.hid hk9
            clear hk9 C9
            have C10 := Lib.hid (show Calls Tryd.prog 20 #[.pointer (some ⟨p, 0, none⟩), .int .i64 n, .string ({ data := #[125] } : ByteArray)] v9 _ from line_w K9.out n (by have := HND.out; omega) ({ data := #[125] } : ByteArray) (by decide) (by have h1 := HO.out; have h2 := SBX.out; have h3 := HSB.out; omega))
            go_wp2_with fail
            refine C10.out.mono ?_
            rintro e v10 ⟨rfl, m10, hk10⟩
            have K10 := Lib.hid hk10
            clear hk10 C10
            go_wp2_with fail
            refine bodyPost_end (v := .tuple #[]) (by kernel_rfl) rfl ?_
            exact ⟨rfl, _, _, K10.out.more (by have h1 := HSB.out; omega)⟩
          · have g2 : ((j7 : Int) == 0) = false := beq_eq_false_iff_ne.2 (by omega)
            have C8 := Lib.hid (show Calls Tryd.prog 20 #[.pointer (some ⟨p, 0, none⟩), .int .i64 n, .string ({ data := #[125] } : ByteArray)] v7 _ from line_w K7.out n (by have := HND.out; omega) ({ data := #[125] } : ByteArray) (by decide) (by have h1 := HO.out; have h2 := SBX.out; have h3 := HSB.out; omega))
            go_wp2_with fail
            refine C8.out.mono ?_
            rintro e v8 ⟨rfl, m8, hk8⟩
            have K8 := Lib.hid hk8
            clear hk8 C8
            go_wp2_with fail
            refine bodyPost_end (v := .tuple #[]) (by kernel_rfl) rfl ?_
            exact ⟨rfl, _, _, K8.out.more (by have h1 := HSB.out; omega)⟩
      by_cases hj9 : j1 = 9
      · as_aux_lemma =>
        subst hj9
        have C2 := Lib.hid (show Calls Tryd.prog 77 #[.pointer (some ⟨p, 0, none⟩), .int .i64 n, .int .i64 D] v1 _ from loop_w IHL.out K1.out n HND.out N1.out HR.out.1 HR.out.2 (by have h1 := HO.out; omega))
        go_wp2_with fail
        refine C2.out.mono ?_
        rintro e v2 ⟨rfl, m2, r2, hk2⟩
        have K2 := Lib.hid hk2
        clear hk2 C2
        go_wp2_with fail
        refine bodyPost_end (v := .tuple #[]) (by kernel_rfl) rfl ?_
        exact ⟨rfl, _, _, K2.out.more (by have h1 := SBX.out; omega)⟩
      by_cases hj10 : j1 = 10
      · as_aux_lemma =>
        subst hj10
        have C2 := Lib.hid (show Calls Tryd.prog 77 #[.pointer (some ⟨p, 0, none⟩), .int .i64 n, .int .i64 D] v1 _ from loop_w IHL.out K1.out n HND.out N1.out HR.out.1 HR.out.2 (by have h1 := HO.out; omega))
        go_wp2_with fail
        refine C2.out.mono ?_
        rintro e v2 ⟨rfl, m2, r2, hk2⟩
        have K2 := Lib.hid hk2
        clear hk2 C2
        go_wp2_with fail
        refine bodyPost_end (v := .tuple #[]) (by kernel_rfl) rfl ?_
        exact ⟨rfl, _, _, K2.out.more (by have h1 := SBX.out; omega)⟩
      by_cases hj11 : j1 = 11
      · as_aux_lemma =>
        subst hj11
        have C2 := Lib.hid (show Calls Tryd.prog 35 #[.pointer (some ⟨p, 0, none⟩), .int .i64 3, .int .i64 1] v1 _ from expr_w K1.out 3 1 (by decide) (by decide))
        go_wp2_with fail
        refine C2.out.mono ?_
        rintro e v2 ⟨s2, rfl, hs2, m2, hn2, hk2⟩
        have K2 := Lib.hid hk2
        have N2 := Lib.hid (show m2.names ≤ 24 by rw [hn2.2]; exact N1.out)
        clear hk2 hn2 C2
        have q3 : s2.size + 1 ≤ 9223372036854775807 := by omega
        obtain ⟨a3, ea3⟩ : ∃ c, s2 ++ ({ data := #[91] } : ByteArray) = c := ⟨_, rfl⟩
        have ha3 : a3.size ≤ 300 + 1 := cat_le ea3 hs2 (Nat.le_refl _)
        have C4 := Lib.hid (show Calls Tryd.prog 35 #[.pointer (some ⟨p, 0, none⟩), .int .i64 0, .int .i64 2] v2 _ from expr_w K2.out 0 2 (by decide) (by decide))
        go_wp2_with fail
        refine C4.out.mono ?_
        rintro e v4 ⟨s4, rfl, hs4, m4, hn4, hk4⟩
        have K4 := Lib.hid hk4
        have N4 := Lib.hid (show m4.names ≤ 24 by rw [hn4.2]; exact N2.out)
        clear hk4 hn4 C4
        have q5 : a3.size + s4.size ≤ 9223372036854775807 := by omega
        obtain ⟨a5, ea5⟩ : ∃ c, a3 ++ s4 = c := ⟨_, rfl⟩
        have ha5 : a5.size ≤ 300 + 1 + 300 := cat_le ea5 ha3 hs4
        have q6 : a5.size + 4 ≤ 9223372036854775807 := by omega
        obtain ⟨a6, ea6⟩ : ∃ c, a5 ++ ({ data := #[93, 32, 61, 32] } : ByteArray) = c := ⟨_, rfl⟩
        have ha6 : a6.size ≤ 300 + 1 + 300 + 4 := cat_le ea6 ha5 (Nat.le_refl _)
        have C7 := Lib.hid (show Calls Tryd.prog 35 #[.pointer (some ⟨p, 0, none⟩), .int .i64 0, .int .i64 2] v4 _ from expr_w K4.out 0 2 (by decide) (by decide))
        go_wp2_with fail
        refine C7.out.mono ?_
        rintro e v7 ⟨s7, rfl, hs7, m7, hn7, hk7⟩
        have K7 := Lib.hid hk7
        have N7 := Lib.hid (show m7.names ≤ 24 by rw [hn7.2]; exact N4.out)
        clear hk7 hn7 C7
        have q8 : a6.size + s7.size ≤ 9223372036854775807 := by omega
        obtain ⟨a8, ea8⟩ : ∃ c, a6 ++ s7 = c := ⟨_, rfl⟩
        have ha8 : a8.size ≤ 300 + 1 + 300 + 4 + 300 := cat_le ea8 ha6 hs7
        have C9 := Lib.hid (show Calls Tryd.prog 20 #[.pointer (some ⟨p, 0, none⟩), .int .i64 n, .string a8] v7 _ from line_w K7.out n (by have := HND.out; omega) a8 (by omega) (by have h1 := HO.out; have h2 := SBX.out; omega))
        go_wp2_with fail
        refine C9.out.mono ?_
        rintro e v9 ⟨rfl, m9, hk9⟩
        have K9 := Lib.hid hk9
        clear hk9 C9
        go_wp2_with fail
        refine bodyPost_end (v := .tuple #[]) (by kernel_rfl) rfl ?_
        exact ⟨rfl, _, _, K9.out.more (by have h1 := SBX.out; omega)⟩
      by_cases hj12 : j1 = 12
      · as_aux_lemma =>
        subst hj12
        have C2 := Lib.hid (show Calls Tryd.prog 22 #[.pointer (some ⟨p, 0, none⟩), .int .i64 5] v1 _ from next_w K1.out 5 (by decide) (by decide))
        go_wp2_with fail
        refine C2.out.mono ?_
        rintro e v2 ⟨j2, hj2, rfl, m2, hn2, hk2⟩
        have K2 := Lib.hid hk2
        have N2 := Lib.hid (show m2.names ≤ 24 by rw [hn2.2]; exact N1.out)
        have HJ2 := Lib.hid hj2
        clear hj2 hk2 hn2 C2
        by_cases hi0 : j2 = 0
        · subst hi0
          have C3 := Lib.hid (show Calls Tryd.prog 35 #[.pointer (some ⟨p, 0, none⟩), .int .i64 4, .int .i64 1] v2 _ from expr_w K2.out 4 1 (by decide) (by decide))
          go_wp2_with fail
          refine C3.out.mono ?_
          rintro e v3 ⟨s3, rfl, hs3, m3, hn3, hk3⟩
          have K3 := Lib.hid hk3
          have N3 := Lib.hid (show m3.names ≤ 24 by rw [hn3.2]; exact N2.out)
          clear hk3 hn3 C3
          have q4 : s3.size + 5 ≤ 9223372036854775807 := by omega
          obtain ⟨a4, ea4⟩ : ∃ c, s3 ++ ({ data := #[46, 97, 32, 61, 32] } : ByteArray) = c := ⟨_, rfl⟩
          have ha4 : a4.size ≤ 300 + 5 := cat_le ea4 hs3 (Nat.le_refl _)
          have C5 := Lib.hid (show Calls Tryd.prog 35 #[.pointer (some ⟨p, 0, none⟩), .int .i64 0, .int .i64 2] v3 _ from expr_w K3.out 0 2 (by decide) (by decide))
          go_wp2_with fail
          refine C5.out.mono ?_
          rintro e v5 ⟨s5, rfl, hs5, m5, hn5, hk5⟩
          have K5 := Lib.hid hk5
          have N5 := Lib.hid (show m5.names ≤ 24 by rw [hn5.2]; exact N3.out)
          clear hk5 hn5 C5
          have q6 : a4.size + s5.size ≤ 9223372036854775807 := by omega
          obtain ⟨a6, ea6⟩ : ∃ c, a4 ++ s5 = c := ⟨_, rfl⟩
          have ha6 : a6.size ≤ 300 + 5 + 300 := cat_le ea6 ha4 hs5
          have C7 := Lib.hid (show Calls Tryd.prog 20 #[.pointer (some ⟨p, 0, none⟩), .int .i64 n, .string a6] v5 _ from line_w K5.out n (by have := HND.out; omega) a6 (by omega) (by have h1 := HO.out; have h2 := SBX.out; omega))
          go_wp2_with fail
          refine C7.out.mono ?_
          rintro e v7 ⟨rfl, m7, hk7⟩
          have K7 := Lib.hid hk7
          clear hk7 C7
          go_wp2_with fail
          refine bodyPost_end (v := .tuple #[]) (by kernel_rfl) rfl ?_
          exact ⟨rfl, _, _, K7.out.more (by have h1 := SBX.out; omega)⟩
        by_cases hi1 : j2 = 1
        · subst hi1
          have C3 := Lib.hid (show Calls Tryd.prog 35 #[.pointer (some ⟨p, 0, none⟩), .int .i64 4, .int .i64 1] v2 _ from expr_w K2.out 4 1 (by decide) (by decide))
          go_wp2_with fail
          refine C3.out.mono ?_
          rintro e v3 ⟨s3, rfl, hs3, m3, hn3, hk3⟩
          have K3 := Lib.hid hk3
          have N3 := Lib.hid (show m3.names ≤ 24 by rw [hn3.2]; exact N2.out)
          clear hk3 hn3 C3
          have q4 : s3.size + 5 ≤ 9223372036854775807 := by omega
          obtain ⟨a4, ea4⟩ : ∃ c, s3 ++ ({ data := #[46, 110, 32, 61, 32] } : ByteArray) = c := ⟨_, rfl⟩
          have ha4 : a4.size ≤ 300 + 5 := cat_le ea4 hs3 (Nat.le_refl _)
          have C5 := Lib.hid (show Calls Tryd.prog 35 #[.pointer (some ⟨p, 0, none⟩), .int .i64 4, .int .i64 1] v3 _ from expr_w K3.out 4 1 (by decide) (by decide))
          go_wp2_with fail
          refine C5.out.mono ?_
          rintro e v5 ⟨s5, rfl, hs5, m5, hn5, hk5⟩
          have K5 := Lib.hid hk5
          have N5 := Lib.hid (show m5.names ≤ 24 by rw [hn5.2]; exact N3.out)
          clear hk5 hn5 C5
          have q6 : a4.size + s5.size ≤ 9223372036854775807 := by omega
          obtain ⟨a6, ea6⟩ : ∃ c, a4 ++ s5 = c := ⟨_, rfl⟩
          have ha6 : a6.size ≤ 300 + 5 + 300 := cat_le ea6 ha4 hs5
          have C7 := Lib.hid (show Calls Tryd.prog 20 #[.pointer (some ⟨p, 0, none⟩), .int .i64 n, .string a6] v5 _ from line_w K5.out n (by have := HND.out; omega) a6 (by omega) (by have h1 := HO.out; have h2 := SBX.out; omega))
          go_wp2_with fail
          refine C7.out.mono ?_
          rintro e v7 ⟨rfl, m7, hk7⟩
          have K7 := Lib.hid hk7
          clear hk7 C7
          go_wp2_with fail
          refine bodyPost_end (v := .tuple #[]) (by kernel_rfl) rfl ?_
          exact ⟨rfl, _, _, K7.out.more (by have h1 := SBX.out; omega)⟩
        by_cases hi2 : j2 = 2
        · subst hi2
          have C3 := Lib.hid (show Calls Tryd.prog 35 #[.pointer (some ⟨p, 0, none⟩), .int .i64 4, .int .i64 1] v2 _ from expr_w K2.out 4 1 (by decide) (by decide))
          go_wp2_with fail
          refine C3.out.mono ?_
          rintro e v3 ⟨s3, rfl, hs3, m3, hn3, hk3⟩
          have K3 := Lib.hid hk3
          have N3 := Lib.hid (show m3.names ≤ 24 by rw [hn3.2]; exact N2.out)
          clear hk3 hn3 C3
          have q4 : s3.size + 5 ≤ 9223372036854775807 := by omega
          obtain ⟨a4, ea4⟩ : ∃ c, s3 ++ ({ data := #[46, 105, 32, 61, 32] } : ByteArray) = c := ⟨_, rfl⟩
          have ha4 : a4.size ≤ 300 + 5 := cat_le ea4 hs3 (Nat.le_refl _)
          have C5 := Lib.hid (show Calls Tryd.prog 35 #[.pointer (some ⟨p, 0, none⟩), .int .i64 6, .int .i64 1] v3 _ from expr_w K3.out 6 1 (by decide) (by decide))
          go_wp2_with fail
          refine C5.out.mono ?_
          rintro e v5 ⟨s5, rfl, hs5, m5, hn5, hk5⟩
          have K5 := Lib.hid hk5
          have N5 := Lib.hid (show m5.names ≤ 24 by rw [hn5.2]; exact N3.out)
          clear hk5 hn5 C5
          have q6 : a4.size + s5.size ≤ 9223372036854775807 := by omega
          obtain ⟨a6, ea6⟩ : ∃ c, a4 ++ s5 = c := ⟨_, rfl⟩
          have ha6 : a6.size ≤ 300 + 5 + 300 := cat_le ea6 ha4 hs5
          have C7 := Lib.hid (show Calls Tryd.prog 20 #[.pointer (some ⟨p, 0, none⟩), .int .i64 n, .string a6] v5 _ from line_w K5.out n (by have := HND.out; omega) a6 (by omega) (by have h1 := HO.out; have h2 := SBX.out; omega))
          go_wp2_with fail
          refine C7.out.mono ?_
          rintro e v7 ⟨rfl, m7, hk7⟩
          have K7 := Lib.hid hk7
          clear hk7 C7
          go_wp2_with fail
          refine bodyPost_end (v := .tuple #[]) (by kernel_rfl) rfl ?_
          exact ⟨rfl, _, _, K7.out.more (by have h1 := SBX.out; omega)⟩
        by_cases hi3 : j2 = 3
        · subst hi3
          have C3 := Lib.hid (show Calls Tryd.prog 35 #[.pointer (some ⟨p, 0, none⟩), .int .i64 5, .int .i64 1] v2 _ from expr_w K2.out 5 1 (by decide) (by decide))
          go_wp2_with fail
          refine C3.out.mono ?_
          rintro e v3 ⟨s3, rfl, hs3, m3, hn3, hk3⟩
          have K3 := Lib.hid hk3
          have N3 := Lib.hid (show m3.names ≤ 24 by rw [hn3.2]; exact N2.out)
          clear hk3 hn3 C3
          have q4 : s3.size + 5 ≤ 9223372036854775807 := by omega
          obtain ⟨a4, ea4⟩ : ∃ c, s3 ++ ({ data := #[46, 115, 32, 61, 32] } : ByteArray) = c := ⟨_, rfl⟩
          have ha4 : a4.size ≤ 300 + 5 := cat_le ea4 hs3 (Nat.le_refl _)
          have C5 := Lib.hid (show Calls Tryd.prog 35 #[.pointer (some ⟨p, 0, none⟩), .int .i64 3, .int .i64 1] v3 _ from expr_w K3.out 3 1 (by decide) (by decide))
          go_wp2_with fail
          refine C5.out.mono ?_
          rintro e v5 ⟨s5, rfl, hs5, m5, hn5, hk5⟩
          have K5 := Lib.hid hk5
          have N5 := Lib.hid (show m5.names ≤ 24 by rw [hn5.2]; exact N3.out)
          clear hk5 hn5 C5
          have q6 : a4.size + s5.size ≤ 9223372036854775807 := by omega
          obtain ⟨a6, ea6⟩ : ∃ c, a4 ++ s5 = c := ⟨_, rfl⟩
          have ha6 : a6.size ≤ 300 + 5 + 300 := cat_le ea6 ha4 hs5
          have C7 := Lib.hid (show Calls Tryd.prog 20 #[.pointer (some ⟨p, 0, none⟩), .int .i64 n, .string a6] v5 _ from line_w K5.out n (by have := HND.out; omega) a6 (by omega) (by have h1 := HO.out; have h2 := SBX.out; omega))
          go_wp2_with fail
          refine C7.out.mono ?_
          rintro e v7 ⟨rfl, m7, hk7⟩
          have K7 := Lib.hid hk7
          clear hk7 C7
          go_wp2_with fail
          refine bodyPost_end (v := .tuple #[]) (by kernel_rfl) rfl ?_
          exact ⟨rfl, _, _, K7.out.more (by have h1 := SBX.out; omega)⟩
        have gi0 : ((j2 : Int) == 0) = false := beq_eq_false_iff_ne.2 (by omega)
        have gi1 : ((j2 : Int) == 1) = false := beq_eq_false_iff_ne.2 (by omega)
        have gi2 : ((j2 : Int) == 2) = false := beq_eq_false_iff_ne.2 (by omega)
        have gi3 : ((j2 : Int) == 3) = false := beq_eq_false_iff_ne.2 (by omega)
        have C3 := Lib.hid (show Calls Tryd.prog 35 #[.pointer (some ⟨p, 0, none⟩), .int .i64 5, .int .i64 1] v2 _ from expr_w K2.out 5 1 (by decide) (by decide))
        go_wp2_with fail
        refine C3.out.mono ?_
        rintro e v3 ⟨s3, rfl, hs3, m3, hn3, hk3⟩
        have K3 := Lib.hid hk3
        have N3 := Lib.hid (show m3.names ≤ 24 by rw [hn3.2]; exact N2.out)
        clear hk3 hn3 C3
        have q4 : s3.size + 5 ≤ 9223372036854775807 := by omega
        obtain ⟨a4, ea4⟩ : ∃ c, s3 ++ ({ data := #[46, 120, 32, 61, 32] } : ByteArray) = c := ⟨_, rfl⟩
        have ha4 : a4.size ≤ 300 + 5 := cat_le ea4 hs3 (Nat.le_refl _)
        have C5 := Lib.hid (show Calls Tryd.prog 35 #[.pointer (some ⟨p, 0, none⟩), .int .i64 0, .int .i64 2] v3 _ from expr_w K3.out 0 2 (by decide) (by decide))
        go_wp2_with fail
        refine C5.out.mono ?_
        rintro e v5 ⟨s5, rfl, hs5, m5, hn5, hk5⟩
        have K5 := Lib.hid hk5
        have N5 := Lib.hid (show m5.names ≤ 24 by rw [hn5.2]; exact N3.out)
        clear hk5 hn5 C5
        have q6 : a4.size + s5.size ≤ 9223372036854775807 := by omega
        obtain ⟨a6, ea6⟩ : ∃ c, a4 ++ s5 = c := ⟨_, rfl⟩
        have ha6 : a6.size ≤ 300 + 5 + 300 := cat_le ea6 ha4 hs5
        have C7 := Lib.hid (show Calls Tryd.prog 20 #[.pointer (some ⟨p, 0, none⟩), .int .i64 n, .string a6] v5 _ from line_w K5.out n (by have := HND.out; omega) a6 (by omega) (by have h1 := HO.out; have h2 := SBX.out; omega))
        go_wp2_with fail
        refine C7.out.mono ?_
        rintro e v7 ⟨rfl, m7, hk7⟩
        have K7 := Lib.hid hk7
        clear hk7 C7
        go_wp2_with fail
        refine bodyPost_end (v := .tuple #[]) (by kernel_rfl) rfl ?_
        exact ⟨rfl, _, _, K7.out.more (by have h1 := SBX.out; omega)⟩
      by_cases hj13 : j1 = 13
      · as_aux_lemma =>
        subst hj13
        have c8 := K1.out.mem.cell 8
        simp only [List.getElem?_toArray, List.getElem?_cons_zero, List.getElem?_cons_succ] at c8
        cases hcl : m1.calls
        · rw [hcl] at c8
          go_wp2_with fail
          refine bodyPost_end (v := .tuple #[]) (by kernel_rfl) rfl ?_
          exact ⟨rfl, _, _, K1.out.more (by have h1 := SBX.out; omega)⟩
        · rw [hcl] at c8
          have C2 := Lib.hid (show Calls Tryd.prog 35 #[.pointer (some ⟨p, 0, none⟩), .int .i64 6, .int .i64 1] v1 _ from expr_w K1.out 6 1 (by decide) (by decide))
          go_wp2_with fail
          refine C2.out.mono ?_
          rintro e v2 ⟨s2, rfl, hs2, m2, hn2, hk2⟩
          have K2 := Lib.hid hk2
          have N2 := Lib.hid (show m2.names ≤ 24 by rw [hn2.2]; exact N1.out)
          clear hk2 hn2 C2
          have q3 : s2.size + 5 ≤ 9223372036854775807 := by omega
          obtain ⟨a3, ea3⟩ : ∃ c, s2 ++ ({ data := #[46, 115, 101, 116, 40] } : ByteArray) = c := ⟨_, rfl⟩
          have ha3 : a3.size ≤ 300 + 5 := cat_le ea3 hs2 (Nat.le_refl _)
          have C4 := Lib.hid (show Calls Tryd.prog 35 #[.pointer (some ⟨p, 0, none⟩), .int .i64 0, .int .i64 1] v2 _ from expr_w K2.out 0 1 (by decide) (by decide))
          go_wp2_with fail
          refine C4.out.mono ?_
          rintro e v4 ⟨s4, rfl, hs4, m4, hn4, hk4⟩
          have K4 := Lib.hid hk4
          have N4 := Lib.hid (show m4.names ≤ 24 by rw [hn4.2]; exact N2.out)
          clear hk4 hn4 C4
          have q5 : a3.size + s4.size ≤ 9223372036854775807 := by omega
          obtain ⟨a5, ea5⟩ : ∃ c, a3 ++ s4 = c := ⟨_, rfl⟩
          have ha5 : a5.size ≤ 300 + 5 + 300 := cat_le ea5 ha3 hs4
          have q6 : a5.size + 1 ≤ 9223372036854775807 := by omega
          obtain ⟨a6, ea6⟩ : ∃ c, a5 ++ ({ data := #[41] } : ByteArray) = c := ⟨_, rfl⟩
          have ha6 : a6.size ≤ 300 + 5 + 300 + 1 := cat_le ea6 ha5 (Nat.le_refl _)
          have C7 := Lib.hid (show Calls Tryd.prog 20 #[.pointer (some ⟨p, 0, none⟩), .int .i64 n, .string a6] v4 _ from line_w K4.out n (by have := HND.out; omega) a6 (by omega) (by have h1 := HO.out; have h2 := SBX.out; omega))
          go_wp2_with fail
          refine C7.out.mono ?_
          rintro e v7 ⟨rfl, m7, hk7⟩
          have K7 := Lib.hid hk7
          clear hk7 C7
          go_wp2_with fail
          refine bodyPost_end (v := .tuple #[]) (by kernel_rfl) rfl ?_
          exact ⟨rfl, _, _, K7.out.more (by have h1 := SBX.out; omega)⟩
      have g0 : ((j1 : Int) == 0) = false := beq_eq_false_iff_ne.2 (by omega)
      have g1 : ((j1 : Int) == 1) = false := beq_eq_false_iff_ne.2 (by omega)
      have g2 : ((j1 : Int) == 2) = false := beq_eq_false_iff_ne.2 (by omega)
      have g3 : ((j1 : Int) == 3) = false := beq_eq_false_iff_ne.2 (by omega)
      have g4 : ((j1 : Int) == 4) = false := beq_eq_false_iff_ne.2 (by omega)
      have g5 : ((j1 : Int) == 5) = false := beq_eq_false_iff_ne.2 (by omega)
      have g6 : ((j1 : Int) == 6) = false := beq_eq_false_iff_ne.2 (by omega)
      have g7 : ((j1 : Int) == 7) = false := beq_eq_false_iff_ne.2 (by omega)
      have g8 : ((j1 : Int) == 8) = false := beq_eq_false_iff_ne.2 (by omega)
      have g9 : ((j1 : Int) == 9) = false := beq_eq_false_iff_ne.2 (by omega)
      have g10 : ((j1 : Int) == 10) = false := beq_eq_false_iff_ne.2 (by omega)
      have g11 : ((j1 : Int) == 11) = false := beq_eq_false_iff_ne.2 (by omega)
      have g12 : ((j1 : Int) == 12) = false := beq_eq_false_iff_ne.2 (by omega)
      have g13 : ((j1 : Int) == 13) = false := beq_eq_false_iff_ne.2 (by omega)
      clear hj0 hj1 hj2 hj3 hj4 hj5 hj6 hj7 hj8 hj9 hj10 hj11 hj12 hj13
      have c4 := K1.out.mem.cell 4
      simp only [List.getElem?_toArray, List.getElem?_cons_zero, List.getElem?_cons_succ] at c4
      by_cases hl : m1.loops > 0
      · as_aux_lemma =>
          have C2 := Lib.hid (show Calls Tryd.prog 22 #[.pointer (some ⟨p, 0, none⟩), .int .i64 3] v1 _ from next_w K1.out 3 (by decide) (by decide))
          go_wp2_with fail
          refine C2.out.mono ?_
          rintro e v2 ⟨j2, hj2, rfl, m2, hn2, hk2⟩
          have K2 := Lib.hid hk2
          have N2 := Lib.hid (show m2.names ≤ 24 by rw [hn2.2]; exact N1.out)
          have HJ2 := Lib.hid hj2
          clear hj2 hk2 hn2 C2
          clear c4
          by_cases ht2 : j2 = 0
          · subst ht2
            have C3 := Lib.hid (show Calls Tryd.prog 35 #[.pointer (some ⟨p, 0, none⟩), .int .i64 1, .int .i64 1] v2 _ from expr_w K2.out 1 1 (by decide) (by decide))
            go_wp2_with fail
            refine C3.out.mono ?_
            rintro e v3 ⟨s3, rfl, hs3, m3, hn3, hk3⟩
            have K3 := Lib.hid hk3
            have N3 := Lib.hid (show m3.names ≤ 24 by rw [hn3.2]; exact N2.out)
            clear hk3 hn3 C3
            have q4 : 3 + s3.size ≤ 9223372036854775807 := by omega
            obtain ⟨a4, ea4⟩ : ∃ c, ({ data := #[105, 102, 32] } : ByteArray) ++ s3 = c := ⟨_, rfl⟩
            have ha4 : a4.size ≤ 3 + 300 := cat_le ea4 (Nat.le_refl _) hs3
            have q5 : a4.size + 2 ≤ 9223372036854775807 := by omega
            obtain ⟨a5, ea5⟩ : ∃ c, a4 ++ ({ data := #[32, 123] } : ByteArray) = c := ⟨_, rfl⟩
            have ha5 : a5.size ≤ 3 + 300 + 2 := cat_le ea5 ha4 (Nat.le_refl _)
            have C6 := Lib.hid (show Calls Tryd.prog 20 #[.pointer (some ⟨p, 0, none⟩), .int .i64 n, .string a5] v3 _ from line_w K3.out n (by have := HND.out; omega) a5 (by omega) (by have h1 := HO.out; have h2 := SBX.out; omega))
            go_wp2_with fail
            refine C6.out.mono ?_
            rintro e v6 ⟨rfl, m6, hk6⟩
            have K6 := Lib.hid hk6
            clear hk6 C6
            have C7 := Lib.hid (show Calls Tryd.prog 22 #[.pointer (some ⟨p, 0, none⟩), .int .i64 2] v6 _ from next_w K6.out 2 (by decide) (by decide))
            go_wp2_with fail
            refine C7.out.mono ?_
            rintro e v7 ⟨j7, hj7, rfl, m7, _, hk7⟩
            have K7 := Lib.hid hk7
            obtain ⟨x7, hx7, gi7⟩ := brkIdx j7 hj7
            simp only [brkA] at gi7
            have hji : (j7 : Int) < 2 := by omega
            clear hk7 C7 hj7
            have C8 := Lib.hid (show Calls Tryd.prog 20 #[.pointer (some ⟨p, 0, none⟩), .int .i64 ((n : Int) + 1), .string x7] v7 _ from line_w K7.out (n + 1) (by have := HND.out; omega) x7 (by omega) (by have h1 := HO.out; have h2 := SBX.out; omega))
            go_wp2_with fail
            refine C8.out.mono ?_
            rintro e v8 ⟨rfl, m8, hk8⟩
            have K8 := Lib.hid hk8
            clear hk8 C8
            have C9 := Lib.hid (show Calls Tryd.prog 20 #[.pointer (some ⟨p, 0, none⟩), .int .i64 n, .string ({ data := #[125] } : ByteArray)] v8 _ from line_w K8.out n (by have := HND.out; omega) ({ data := #[125] } : ByteArray) (by decide) (by have h1 := HO.out; have h2 := SBX.out; omega))
            go_wp2_with fail
            refine C9.out.mono ?_
            rintro e v9 ⟨rfl, m9, hk9⟩
            have K9 := Lib.hid hk9
            clear hk9 C9
            go_wp2_with fail
            refine bodyPost_end (v := .tuple #[]) (by kernel_rfl) rfl ?_
            exact ⟨rfl, _, _, K9.out.more (by have h1 := SBX.out; omega)⟩
          · have gt2 : ((j2 : Int) == 0) = false := beq_eq_false_iff_ne.2 (by omega)
            have C3 := Lib.hid (show Calls Tryd.prog 22 #[.pointer (some ⟨p, 0, none⟩), .int .i64 6] v2 _ from next_w K2.out 6 (by decide) (by decide))
            go_wp2_with fail
            refine C3.out.mono ?_
            rintro e v3 ⟨j3, hj3, rfl, m3, hn3, hk3⟩
            have K3 := Lib.hid hk3
            have N3 := Lib.hid (show m3.names ≤ 24 by rw [hn3.2]; exact N2.out)
            have HJ3 := Lib.hid hj3
            clear hj3 hk3 hn3 C3
            by_cases ht3 : j3 = 0
            · subst ht3
              have c7 := K3.out.mem.cell 7
              simp only [List.getElem?_toArray, List.getElem?_cons_zero, List.getElem?_cons_succ] at c7
              rw [K3.out.res] at c7
              by_cases hr : 0 ≤ m.res
              · obtain ⟨r, hr2⟩ := Int.eq_ofNat_of_zero_le hr
                have hr7 : r < 7 := by have := HR.out.2; omega
                rw [hr2] at c7
                have hr3 : (r : Int) ≥ 0 := by omega
                clear hr
                have C4 := Lib.hid (show Calls Tryd.prog 35 #[.pointer (some ⟨p, 0, none⟩), .int .i64 1, .int .i64 1] v3 _ from expr_w K3.out 1 1 (by decide) (by decide))
                go_wp2_with fail
                refine C4.out.mono ?_
                rintro e v4 ⟨s4, rfl, hs4, m4, hn4, hk4⟩
                have K4 := Lib.hid hk4
                have N4 := Lib.hid (show m4.names ≤ 24 by rw [hn4.2]; exact N3.out)
                clear hk4 hn4 C4
                have q5 : 3 + s4.size ≤ 9223372036854775807 := by omega
                obtain ⟨a5, ea5⟩ : ∃ c, ({ data := #[105, 102, 32] } : ByteArray) ++ s4 = c := ⟨_, rfl⟩
                have ha5 : a5.size ≤ 3 + 300 := cat_le ea5 (Nat.le_refl _) hs4
                have q6 : a5.size + 2 ≤ 9223372036854775807 := by omega
                obtain ⟨a6, ea6⟩ : ∃ c, a5 ++ ({ data := #[32, 123] } : ByteArray) = c := ⟨_, rfl⟩
                have ha6 : a6.size ≤ 3 + 300 + 2 := cat_le ea6 ha5 (Nat.le_refl _)
                have C7 := Lib.hid (show Calls Tryd.prog 20 #[.pointer (some ⟨p, 0, none⟩), .int .i64 n, .string a6] v4 _ from line_w K4.out n (by have := HND.out; omega) a6 (by omega) (by have h1 := HO.out; have h2 := SBX.out; omega))
                go_wp2_with fail
                refine C7.out.mono ?_
                rintro e v7 ⟨rfl, m7, hk7⟩
                have K7 := Lib.hid hk7
                clear hk7 C7
                clear c7
                have c7 := K7.out.mem.cell 7
                simp only [List.getElem?_toArray, List.getElem?_cons_zero, List.getElem?_cons_succ] at c7
                rw [K7.out.res, hr2] at c7
                have C8 := Lib.hid (show Calls Tryd.prog 35 #[.pointer (some ⟨p, 0, none⟩), .int .i64 (r : Nat), .int .i64 2] v7 _ from expr_w K7.out r 2 hr7 (by decide))
                go_wp2_with fail
                refine C8.out.mono ?_
                rintro e v8 ⟨s8, rfl, hs8, m8, _, hk8⟩
                have K8 := Lib.hid hk8
                clear hk8 C8 c7
                have q9 : 7 + s8.size ≤ 9223372036854775807 := by omega
                obtain ⟨a9, ea9⟩ : ∃ c, ({ data := #[114, 101, 116, 117, 114, 110, 32] } : ByteArray) ++ s8 = c := ⟨_, rfl⟩
                have ha9 : a9.size ≤ 7 + 300 := cat_le ea9 (Nat.le_refl _) hs8
                have C10 := Lib.hid (show Calls Tryd.prog 20 #[.pointer (some ⟨p, 0, none⟩), .int .i64 ((n : Int) + 1), .string a9] v8 _ from line_w K8.out (n + 1) (by have := HND.out; omega) a9 (by omega) (by have h1 := HO.out; have h2 := SBX.out; omega))
                go_wp2_with fail
                refine C10.out.mono ?_
                rintro e v10 ⟨rfl, m10, hk10⟩
                have K10 := Lib.hid hk10
                clear hk10 C10
                have C11 := Lib.hid (show Calls Tryd.prog 20 #[.pointer (some ⟨p, 0, none⟩), .int .i64 n, .string ({ data := #[125] } : ByteArray)] v10 _ from line_w K10.out n (by have := HND.out; omega) ({ data := #[125] } : ByteArray) (by decide) (by have h1 := HO.out; have h2 := SBX.out; omega))
                go_wp2_with fail
                refine C11.out.mono ?_
                rintro e v11 ⟨rfl, m11, hk11⟩
                have K11 := Lib.hid hk11
                clear hk11 C11
                go_wp2_with fail
                refine bodyPost_end (v := .tuple #[]) (by kernel_rfl) rfl ?_
                exact ⟨rfl, _, _, K11.out.more (by have h1 := SBX.out; omega)⟩
              · have hr3 : ¬ (m.res ≥ 0) := hr
                have C4 := Lib.hid (show Calls Tryd.prog 20 #[.pointer (some ⟨p, 0, none⟩), .int .i64 n, .string ({ data := #[112, 114, 105, 110, 116, 40, 105, 110, 112, 117, 116, 40, 41, 41] } : ByteArray)] v3 _ from line_w K3.out n (by have := HND.out; omega) ({ data := #[112, 114, 105, 110, 116, 40, 105, 110, 112, 117, 116, 40, 41, 41] } : ByteArray) (by decide) (by have h1 := HO.out; have h2 := SBX.out; omega))
                go_wp2_with fail
                refine C4.out.mono ?_
                rintro e v4 ⟨rfl, m4, hk4⟩
                have K4 := Lib.hid hk4
                clear hk4 C4
                go_wp2_with fail
                refine bodyPost_end (v := .tuple #[]) (by kernel_rfl) rfl ?_
                exact ⟨rfl, _, _, K4.out.more (by have h1 := SBX.out; omega)⟩
            · have gt3 : ((j3 : Int) == 0) = false := beq_eq_false_iff_ne.2 (by omega)
              have C4 := Lib.hid (show Calls Tryd.prog 20 #[.pointer (some ⟨p, 0, none⟩), .int .i64 n, .string ({ data := #[112, 114, 105, 110, 116, 40, 105, 110, 112, 117, 116, 40, 41, 41] } : ByteArray)] v3 _ from line_w K3.out n (by have := HND.out; omega) ({ data := #[112, 114, 105, 110, 116, 40, 105, 110, 112, 117, 116, 40, 41, 41] } : ByteArray) (by decide) (by have h1 := HO.out; have h2 := SBX.out; omega))
              go_wp2_with fail
              refine C4.out.mono ?_
              rintro e v4 ⟨rfl, m4, hk4⟩
              have K4 := Lib.hid hk4
              clear hk4 C4
              go_wp2_with fail
              refine bodyPost_end (v := .tuple #[]) (by kernel_rfl) rfl ?_
              exact ⟨rfl, _, _, K4.out.more (by have h1 := SBX.out; omega)⟩
      · as_aux_lemma =>
          have C2 := Lib.hid (show Calls Tryd.prog 22 #[.pointer (some ⟨p, 0, none⟩), .int .i64 6] v1 _ from next_w K1.out 6 (by decide) (by decide))
          go_wp2_with fail
          refine C2.out.mono ?_
          rintro e v2 ⟨j2, hj2, rfl, m2, hn2, hk2⟩
          have K2 := Lib.hid hk2
          have N2 := Lib.hid (show m2.names ≤ 24 by rw [hn2.2]; exact N1.out)
          have HJ2 := Lib.hid hj2
          clear hj2 hk2 hn2 C2
          by_cases ht2 : j2 = 0
          · subst ht2
            have c7 := K2.out.mem.cell 7
            simp only [List.getElem?_toArray, List.getElem?_cons_zero, List.getElem?_cons_succ] at c7
            rw [K2.out.res] at c7
            by_cases hr : 0 ≤ m.res
            · obtain ⟨r, hr2⟩ := Int.eq_ofNat_of_zero_le hr
              have hr7 : r < 7 := by have := HR.out.2; omega
              rw [hr2] at c7
              have hr3 : (r : Int) ≥ 0 := by omega
              clear hr
              have C3 := Lib.hid (show Calls Tryd.prog 35 #[.pointer (some ⟨p, 0, none⟩), .int .i64 1, .int .i64 1] v2 _ from expr_w K2.out 1 1 (by decide) (by decide))
              go_wp2_with fail
              refine C3.out.mono ?_
              rintro e v3 ⟨s3, rfl, hs3, m3, hn3, hk3⟩
              have K3 := Lib.hid hk3
              have N3 := Lib.hid (show m3.names ≤ 24 by rw [hn3.2]; exact N2.out)
              clear hk3 hn3 C3
              have q4 : 3 + s3.size ≤ 9223372036854775807 := by omega
              obtain ⟨a4, ea4⟩ : ∃ c, ({ data := #[105, 102, 32] } : ByteArray) ++ s3 = c := ⟨_, rfl⟩
              have ha4 : a4.size ≤ 3 + 300 := cat_le ea4 (Nat.le_refl _) hs3
              have q5 : a4.size + 2 ≤ 9223372036854775807 := by omega
              obtain ⟨a5, ea5⟩ : ∃ c, a4 ++ ({ data := #[32, 123] } : ByteArray) = c := ⟨_, rfl⟩
              have ha5 : a5.size ≤ 3 + 300 + 2 := cat_le ea5 ha4 (Nat.le_refl _)
              have C6 := Lib.hid (show Calls Tryd.prog 20 #[.pointer (some ⟨p, 0, none⟩), .int .i64 n, .string a5] v3 _ from line_w K3.out n (by have := HND.out; omega) a5 (by omega) (by have h1 := HO.out; have h2 := SBX.out; omega))
              go_wp2_with fail
              refine C6.out.mono ?_
              rintro e v6 ⟨rfl, m6, hk6⟩
              have K6 := Lib.hid hk6
              clear hk6 C6
              clear c7
              have c7 := K6.out.mem.cell 7
              simp only [List.getElem?_toArray, List.getElem?_cons_zero, List.getElem?_cons_succ] at c7
              rw [K6.out.res, hr2] at c7
              have C7 := Lib.hid (show Calls Tryd.prog 35 #[.pointer (some ⟨p, 0, none⟩), .int .i64 (r : Nat), .int .i64 2] v6 _ from expr_w K6.out r 2 hr7 (by decide))
              go_wp2_with fail
              refine C7.out.mono ?_
              rintro e v7 ⟨s7, rfl, hs7, m7, _, hk7⟩
              have K7 := Lib.hid hk7
              clear hk7 C7 c7
              have q8 : 7 + s7.size ≤ 9223372036854775807 := by omega
              obtain ⟨a8, ea8⟩ : ∃ c, ({ data := #[114, 101, 116, 117, 114, 110, 32] } : ByteArray) ++ s7 = c := ⟨_, rfl⟩
              have ha8 : a8.size ≤ 7 + 300 := cat_le ea8 (Nat.le_refl _) hs7
              have C9 := Lib.hid (show Calls Tryd.prog 20 #[.pointer (some ⟨p, 0, none⟩), .int .i64 ((n : Int) + 1), .string a8] v7 _ from line_w K7.out (n + 1) (by have := HND.out; omega) a8 (by omega) (by have h1 := HO.out; have h2 := SBX.out; omega))
              go_wp2_with fail
              refine C9.out.mono ?_
              rintro e v9 ⟨rfl, m9, hk9⟩
              have K9 := Lib.hid hk9
              clear hk9 C9
              have C10 := Lib.hid (show Calls Tryd.prog 20 #[.pointer (some ⟨p, 0, none⟩), .int .i64 n, .string ({ data := #[125] } : ByteArray)] v9 _ from line_w K9.out n (by have := HND.out; omega) ({ data := #[125] } : ByteArray) (by decide) (by have h1 := HO.out; have h2 := SBX.out; omega))
              go_wp2_with fail
              refine C10.out.mono ?_
              rintro e v10 ⟨rfl, m10, hk10⟩
              have K10 := Lib.hid hk10
              clear hk10 C10
              go_wp2_with fail
              refine bodyPost_end (v := .tuple #[]) (by kernel_rfl) rfl ?_
              exact ⟨rfl, _, _, K10.out.more (by have h1 := SBX.out; omega)⟩
            · have hr3 : ¬ (m.res ≥ 0) := hr
              have C3 := Lib.hid (show Calls Tryd.prog 20 #[.pointer (some ⟨p, 0, none⟩), .int .i64 n, .string ({ data := #[112, 114, 105, 110, 116, 40, 105, 110, 112, 117, 116, 40, 41, 41] } : ByteArray)] v2 _ from line_w K2.out n (by have := HND.out; omega) ({ data := #[112, 114, 105, 110, 116, 40, 105, 110, 112, 117, 116, 40, 41, 41] } : ByteArray) (by decide) (by have h1 := HO.out; have h2 := SBX.out; omega))
              go_wp2_with fail
              refine C3.out.mono ?_
              rintro e v3 ⟨rfl, m3, hk3⟩
              have K3 := Lib.hid hk3
              clear hk3 C3
              go_wp2_with fail
              refine bodyPost_end (v := .tuple #[]) (by kernel_rfl) rfl ?_
              exact ⟨rfl, _, _, K3.out.more (by have h1 := SBX.out; omega)⟩
          · have gt2 : ((j2 : Int) == 0) = false := beq_eq_false_iff_ne.2 (by omega)
            have C3 := Lib.hid (show Calls Tryd.prog 20 #[.pointer (some ⟨p, 0, none⟩), .int .i64 n, .string ({ data := #[112, 114, 105, 110, 116, 40, 105, 110, 112, 117, 116, 40, 41, 41] } : ByteArray)] v2 _ from line_w K2.out n (by have := HND.out; omega) ({ data := #[112, 114, 105, 110, 116, 40, 105, 110, 112, 117, 116, 40, 41, 41] } : ByteArray) (by decide) (by have h1 := HO.out; have h2 := SBX.out; omega))
            go_wp2_with fail
            refine C3.out.mono ?_
            rintro e v3 ⟨rfl, m3, hk3⟩
            have K3 := Lib.hid hk3
            clear hk3 C3
            go_wp2_with fail
            refine bodyPost_end (v := .tuple #[]) (by kernel_rfl) rfl ?_
            exact ⟨rfl, _, _, K3.out.more (by have h1 := SBX.out; omega)⟩
end Go.Proofs.YtemmdbjcllcelaaDoor.Tk
