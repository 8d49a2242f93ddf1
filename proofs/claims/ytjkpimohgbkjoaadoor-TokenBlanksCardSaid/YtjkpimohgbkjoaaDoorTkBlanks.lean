/-
  The law TokenBlanks: the walk.
-/
import Derived.Test.YtjkpimohgbkjoaaDoorTkTok
import Derived.Deep.WholeRow
import Derived.Deep.DeepCutAuto
import Derived.Deep.CutBlock
namespace Go.Proofs.YtjkpimohgbkjoaaDoor
open Go.RowKit

theorem wpList_build_eq2 {P : Program} {ops : Array Oper} {rest : List Oper} {o : Oper} {a : Act} {w : World} {Q : Exit → Act → World → Prop} (hg : o.guard = none) (t : TypeId) (parts : Array (Nat × Operand)) (ho : o.op = .build t parts) (cs : Array Value)
    (hf : P.built t (parts.map fun (i, x) => (i, a.eval x)).toList = some cs)
    (h : wpList P ops Q rest (a.put o.dst (.agg cs)) w) : wpList P ops Q (o :: rest) a w :=
  wpList_build hg t parts ho (by rw [hf]; rfl) (by rw [hf]; exact h)
def blanksL : List Value := blankParts.map (fun p => .string (bs p.1))
def blanksA : Array Value := blanksL.toArray
theorem blanksA_one : blanksA.all (·.oneCell') = true := by kernel_rfl
theorem bPart_le (k : Nat) : (bPart k).1.length ≤ 3 := by
  unfold bPart
  rw [List.getD_eq_getElem?_getD]
  cases h : blankParts[k]? with
  | none => decide
  | some p =>
    have : ∀ p ∈ blankParts, p.1.length ≤ 3 := by decide
    exact this p (List.mem_of_getElem? h)
def Good (qs : List (Nat × List UInt8)) : Prop := ∀ q ∈ qs, q.1 < 12 ∧ ∀ b ∈ q.2, b = 32 ∨ b = 9 ∨ b = 13

structure BR (w wr : World) (g : Nat) (qs : List (Nat × List UInt8)) (k : Nat) : Prop where
  up : Up w wr
  blk : wr.heap[g]? = some (.cells blanksA 43 (0, 0))
  len : qs.length = k
  good : Good qs
  ls : (bFlat qs).length ≤ 4 * k
  lt : (bFlatT qs).length ≤ 10 * k
theorem BR.cell {w wr : World} {g : Nat} {qs : List (Nat × List UInt8)} {k : Nat} (h : BR w wr g qs k) {j : Nat} (hj : j < 12) : wr.cell? ⟨g, j, none⟩ = some (.string (bs (bPart j).1)) := by
  have hj' : j < blankParts.length := hj
  rw [cell_of_row _ _ _ _ _ _ h.blk, blanksA, List.getElem?_toArray, blanksL, List.getElem?_map, bPart, List.getD_eq_getElem?_getD, List.getElem?_eq_getElem hj']
  rfl
theorem BR.next {w wr : World} {g : Nat} {qs : List (Nat × List UInt8)} {k : Nat} (h : BR w wr g qs k) {j : Nat} (hj : j < 12) {l : List UInt8} (hl : ∀ b ∈ l, b = 32 ∨ b = 9 ∨ b = 13) (h3 : l.length ≤ 3) : BR w wr g (qs ++ [(j, l)]) (k + 1) := by
  have hp := bPart_le j
  refine ⟨h.up, h.blk, by rw [List.length_append, h.len]; rfl, fun q hq => ?_, ?_, ?_⟩
  · rcases List.mem_append.1 hq with h' | h'
    · exact h.good q h'
    · rw [List.mem_singleton] at h'; subst h'; exact ⟨hj, hl⟩
  · have := h.ls
    simp [bFlat] at this ⊢
    omega
  · have := h.lt
    simp only [bFlatT, List.flatMap_append, List.length_append, List.flatMap_cons, List.flatMap_nil, List.append_nil] at this ⊢
    have h2 : (bText (j, l)).length ≤ 10 := by
      unfold bText
      split
      · decide
      · simp; omega
    omega

def gapL : List (List UInt8) := [[32], [9], [13]]
theorem gap_idx (j : Nat) (hj : j < 3) : ∃ b : UInt8, (b = 32 ∨ b = 9 ∨ b = 13) ∧ ∀ w, (Instr.index 39 (.agg #[.string { data := #[32] }, .string { data := #[9] }, .string { data := #[13] }]) (.int .i64 j)).run Tryd.prog w = .ok (.string (bs [b])) w := by
  match j, hj with
  | 0, _ => exact ⟨32, .inl rfl, fun _ => by kernel_rfl⟩
  | 1, _ => exact ⟨9, .inr (.inl rfl), fun _ => by kernel_rfl⟩
  | 2, _ => exact ⟨13, .inr (.inr rfl), fun _ => by kernel_rfl⟩

set_option maxRecDepth 20000 in
set_option maxHeartbeats 8000000 in
theorem tokenBlanks_any {w : World} (L : Laid w) (hw : 3 ≤ w.heap.size) {A0 : Option Addr} {c0 : Nat} {xs0 : List Int} (hx0 : IntsW w A0 c0 xs0) {A1 : Option Addr} {c1 : Nat} {xs1 : List Int} (hx1 : IntsW w A1 c1 xs1) :
    Calls Tryd.prog 11 #[.slice A0 xs0.length c0, .slice A1 xs1.length c1] w fun e w' => e = .returned (.bool true) ∧ Up w w' := by
  have LL := Lib.hid L
  have HX0 := Lib.hid hx0
  have HX1 := Lib.hid hx1
  have le0 := hx0.le
  have le1 := hx1.le
  have b0 := hx0.big
  have b1 := hx1.big
  obtain ⟨n0, hn0⟩ : ∃ n0, n0 = xs0.length := ⟨_, rfl⟩
  obtain ⟨n1, hn1⟩ : ∃ n1, n1 = xs1.length := ⟨_, rfl⟩
  rw [← hn0] at le0 ⊢
  rw [← hn1] at le1 ⊢
  have HN0 := Lib.hid hn0
  have HN1 := Lib.hid hn1
  have ST : (storeCells ⟨w.heap.size, 0, none⟩ blanksA.toList).run Tryd.prog (w.alloc (.cells #[.string { data := #[] }, .string { data := #[] }, .string { data := #[] }, .string { data := #[] }, .string { data := #[] }, .string { data := #[] }, .string { data := #[] }, .string { data := #[] }, .string { data := #[] }, .string { data := #[] }, .string { data := #[] }, .string { data := #[] }] 43)) = .ok () (w.alloc (.cells blanksA 43)) :=
    run_storeCells_new (P := Tryd.prog) w 43 #[.string { data := #[] }, .string { data := #[] }, .string { data := #[] }, .string { data := #[] }, .string { data := #[] }, .string { data := #[] }, .string { data := #[] }, .string { data := #[] }, .string { data := #[] }, .string { data := #[] }, .string { data := #[] }, .string { data := #[] }] blanksA (by kernel_rfl) rfl blanksA_one
  have V0 := Lib.hid (show BR w (w.alloc (.cells blanksA 43)) w.heap.size [] 0 from ⟨(Fr.refl _ _).alloc _, heap_alloc_new _ _, rfl, fun _ h => by simp at h, Nat.le_refl _, Nat.le_refl _⟩)
  clear L hx0 hx1 hn0 hn1
  go_enter Tryd.func11, Tryd.ntmps11
  go_wp2_with (refine wpList_build_eq2 rfl 43 _ rfl blanksA (by kernel_rfl) ?_)
  clear ST
  generalize hg : w.heap.size = g at V0 ⊢
  clear hg
  generalize w.alloc (.cells blanksA 43) = w1 at V0 ⊢
  go_loopw [5, 6, 8] (fun s t i wr => ∃ (k : Nat) (qs : List (Nat × List UInt8)), k ≤ n0 ∧ k ≤ 40 ∧ i = .int .i64 k ∧ s = .string (bs (bFlat qs)) ∧ t = .string (bs (bFlatT qs)) ∧ Hid (BR w wr g qs k)) (fun _ _ i _ => 41 - (intOf i).toNat)
  case atStart => exact ⟨0, [], Nat.zero_le _, by decide, rfl, rfl, rfl, V0⟩
  case round =>
    obtain ⟨k, qs, hk, hk40, rfl, rfl, rfl, hm⟩ := hrel
    obtain ⟨wo, rfl⟩ : ∃ wo : World, wo = wr := ⟨_, rfl⟩
    clear V0
    by_cases h1 : k < n0 ∧ k < 40
    · obtain ⟨h1, h2⟩ := h1
      have i1 : (k : Int) < (n0 : Int) := by omega
      have i2 : (k : Int) < 40 := by omega
      obtain ⟨y, hy⟩ : ∃ y, xs0[k]? = some y := ⟨_, List.getElem?_eq_getElem (by rw [← HN0.out]; exact h1)⟩
      obtain ⟨a, rfl, cx0⟩ := HX0.out.at_ k y hy
      have cx : wo.cell? (a.add k) = some (.int .i64 y) := (hm.out.up.cell (p := a.add k) (World.block_lt_of_cell? w _ cx0) (fun e => e)).trans cx0
      obtain ⟨j, hj, hp, _⟩ := pick_nat y 12 (by decide) (by decide)
      have PK := Lib.hid hp
      have hj12 : (j : Int) < 12 := by omega
      clear hy cx0 hp
      go_wp2_with fail
      refine (PK.out _).mono ?_
      rintro e w' ⟨rfl, hq⟩
      obtain rfl := hq.symm
      go_upto_if 38 with fail
      go_cut [11] (fun v wx => ∃ q : Nat, q ≤ 3 ∧ v = .int .i64 q ∧ Hid (BR w wx g qs k))
      case first =>
        by_cases h3 : k < n1
        · have i3 : (k : Int) < (n1 : Int) := by omega
          obtain ⟨y', hy'⟩ : ∃ y, xs1[k]? = some y := ⟨_, List.getElem?_eq_getElem (by rw [← HN1.out]; exact h3)⟩
          obtain ⟨a', rfl, cx1⟩ := HX1.out.at_ k y' hy'
          have cx' : wo.cell? (a'.add k) = some (.int .i64 y') := (hm.out.up.cell (p := a'.add k) (World.block_lt_of_cell? w _ cx1) (fun e => e)).trans cx1
          obtain ⟨j', hj', hp', _⟩ := pick_nat y' 4 (by decide) (by decide)
          have PK' := Lib.hid hp'
          clear hy' cx1 hp'
          go_wp2_with fail
          refine (PK'.out _).mono ?_
          rintro e w' ⟨rfl, hq⟩
          obtain rfl := hq.symm
          go_wp2_with fail
          go_meet
          exact ⟨j', by omega, rfl, hm⟩
        · have i3 : ¬ (k : Int) < (n1 : Int) := by omega
          go_wp2_with fail
          go_meet
          exact ⟨0, by decide, rfl, hm⟩
      case rest =>
        obtain ⟨q0, hq0, rfl, M0⟩ := hcut
        clear hm cx
        go_wp2_with fail
        go_loopw [10, 11] (fun s i wr => ∃ (l : List UInt8) (q : Nat), s = .string (bs (32 :: l)) ∧ i = .int .i64 q ∧ q ≤ 3 ∧ l.length + q ≤ 3 ∧ Hid (BR w wr g qs k ∧ ∀ b ∈ l, b = 32 ∨ b = 9 ∨ b = 13)) (fun _ i _ => (intOf i).toNat)
        case atStart => exact ⟨[], q0, rfl, rfl, hq0, by simpa using hq0, Lib.hid ⟨M0.out, fun _ h => by simp at h⟩⟩
        case round =>
          obtain ⟨l, q, rfl, rfl, hq3, hlq, hr⟩ := hrel
          obtain ⟨wp, rfl⟩ : ∃ wp : World, wp = wr := ⟨_, rfl⟩
          clear M0
          by_cases h0 : 0 < q
          · have i3 : (q : Int) > 0 := by omega
            obtain ⟨q', hq'⟩ : ∃ q', q = q' + 1 := ⟨q - 1, by omega⟩
            have hqi : (q : Int) - 1 = (q' : Int) := by omega
            have hqw : IntKind.i64.wrap (q' : Int) = (q' : Int) := IntWalk.i64_in _ (by omega)
            obtain ⟨b, hb, gi⟩ := gap_idx (q % 3) (by omega)
            have hrm : (q : Int).tmod 3 = ((q % 3 : Nat) : Int) := by rw [Int.tmod_eq_emod_of_nonneg (by omega)]; omega
            have hrw : IntKind.i64.wrap ((q % 3 : Nat) : Int) = ((q % 3 : Nat) : Int) := IntWalk.i64_in _ (by omega)
            obtain ⟨rr, hrr⟩ : ∃ rr, rr = q % 3 := ⟨_, rfl⟩
            rw [← hrr] at gi hrm hrw
            have eq1 : bs (32 :: l) ++ bs [b] = bs (32 :: (l ++ [b])) := bs_append (32 :: l) [b]
            have hsz : (bs (32 :: l)).size + (bs [b]).size ≤ 9223372036854775807 := by rw [bs_size, bs_size]; simp; omega
            have NX := Lib.hid (show (∀ x ∈ l ++ [b], x = 32 ∨ x = 9 ∨ x = 13) ∧ (l ++ [b]).length + q' ≤ 3 from ⟨fun x hx => by
              rcases List.mem_append.1 hx with h | h
              · exact hr.out.2 x h
              · rw [List.mem_singleton] at h; subst h; exact hb, by rw [List.length_append]; simp; omega⟩)
            have HQ := Lib.hid hq'
            clear hb hrr hq'
            go_wp2_with fail
            go_roundw
            case rel => exact ⟨l ++ [b], q', rfl, rfl, by have := HQ.out; omega, NX.out.2, Lib.hid ⟨hr.out.1, NX.out.1⟩⟩
            case measure => have := HQ.out; simp [intOf]; omega
          · have i3 : ¬ (q : Int) > 0 := by omega
            have hl3 : l.length ≤ 3 := by omega
            have NX := Lib.hid (hr.out.1.next hj hr.out.2 hl3)
            have cp := hr.out.1.cell hj
            have hp3 := bPart_le j
            have hls := hr.out.1.ls
            have hlt := hr.out.1.lt
            have E1 : bFlat (qs ++ [(j, l)]) = bFlat qs ++ (bPart j).1 ++ [32] := by simp [bFlat]
            have E2 : bFlatT (qs ++ [(j, l)]) = bFlatT qs ++ bText (j, l) := by simp [bFlatT]
            obtain ⟨F, hF⟩ : ∃ F, F = bFlat qs := ⟨_, rfl⟩
            obtain ⟨F', hF'⟩ : ∃ F', F' = bFlat (qs ++ [(j, l)]) := ⟨_, rfl⟩
            obtain ⟨T, hT⟩ : ∃ T, T = bFlatT qs := ⟨_, rfl⟩
            obtain ⟨T', hT'⟩ : ∃ T', T' = bFlatT (qs ++ [(j, l)]) := ⟨_, rfl⟩
            rw [← hF, ← hF'] at E1
            rw [← hT, ← hT'] at E2
            rw [← hF] at hls ⊢
            rw [← hT] at hlt ⊢
            obtain ⟨p, hp⟩ : ∃ p, p = (bPart j).1 := ⟨_, rfl⟩
            rw [← hp] at cp hp3 E1
            have HF' := Lib.hid hF'
            have HT' := Lib.hid hT'
            have e1 := bs_append F p
            have e2 : bs (F ++ p) ++ { data := #[32] } = bs F' := by rw [E1]; exact bs_append (F ++ p) [32]
            have z1 : (bs F).size + (bs p).size ≤ 9223372036854775807 := by rw [bs_size, bs_size]; omega
            have z2 : (bs (F ++ p)).size + 1 ≤ 9223372036854775807 := by rw [bs_size, List.length_append]; omega
            have hj0 : (j : Int) < 12 := by omega
            obtain ⟨gl, hgl⟩ : ∃ gl, gl = l.length + 1 := ⟨_, rfl⟩
            have hgz : (bs (32 :: l)).size = gl := by rw [bs_size, hgl]; rfl
            by_cases hc : j = 11 ∧ 1 < l.length
            · have f1 : ((j : Int) == 11) = true := by rw [hc.1]; rfl
              have f2 : ((gl : Int) > 2) := by omega
              have f3 : decide ((gl : Int) > 2) = true := dec_of f2
              have e3 : bs T ++ { data := #[32, 47, 47, 32, 102, 111, 114, 32, 34, 10] } = bs T' := by
                rw [E2, bText, if_pos hc]; exact bs_append T [32, 47, 47, 32, 102, 111, 114, 32, 34, 10]
              have z3 : (bs T).size + 10 ≤ 9223372036854775807 := by rw [bs_size]; omega
              clear E1 E2 hF hF' hT hT' hc hp hgl
              go_wp2_with fail
              go_roundw
              case rel => exact ⟨k + 1, qs ++ [(j, l)], by omega, by omega, by go_num, by rw [HF'.out], by rw [HT'.out], NX⟩
              case measure => simp [intOf]; omega
            · have e3 := bs_append T p
              have e4 : bs (T ++ p) ++ bs (32 :: l) = bs T' := by
                rw [E2, bText, if_neg hc, ← hp, ← List.append_assoc]; exact bs_append (T ++ p) (32 :: l)
              have z3 : (bs T).size + (bs p).size ≤ 9223372036854775807 := by rw [bs_size, bs_size]; omega
              have z4 : (bs (T ++ p)).size + (bs (32 :: l)).size ≤ 9223372036854775807 := by rw [bs_size, bs_size, List.length_append]; simp; omega
              by_cases h11 : j = 11
              · have f1 : ((j : Int) == 11) = true := by rw [h11]; rfl
                have f2 : ¬ ((gl : Int) > 2) := by omega
                have f3 : decide ((gl : Int) > 2) = false := dec_not f2
                clear E1 E2 hF hF' hT hT' hc hp hgl h11
                go_wp2_with fail
                go_roundw
                case rel => exact ⟨k + 1, qs ++ [(j, l)], by omega, by omega, by go_num, by rw [HF'.out], by rw [HT'.out], NX⟩
                case measure => simp [intOf]; omega
              · have f1 : ((j : Int) == 11) = false := by simp; omega
                clear E1 E2 hF hF' hT hT' hc hp hgl
                go_wp2_with fail
                go_roundw
                case rel => exact ⟨k + 1, qs ++ [(j, l)], by omega, by omega, by go_num, by rw [HF'.out], by rw [HT'.out], NX⟩
                case measure => simp [intOf]; omega
    · by_cases h2 : k < n0
      · have i1 : (k : Int) < (n0 : Int) := by omega
        have i2 : ¬ (k : Int) < 40 := by omega
        clear h1
        obtain ⟨X, Y, L1, L2, hxy, hX⟩ := blanks_lex qs hm.out.good (by rw [hm.out.len]; exact hk40) (by have := hm.out.ls; omega) (by have := hm.out.lt; omega)
        have LX1 := Lib.hid L1
        have LX2 := Lib.hid L2
        have XY := Lib.hid hxy
        have U0 := Lib.hid hm.out.up
        have hlen : X.length = Y.length := by have := congrArg List.length hxy; simpa using this
        obtain ⟨n, hn⟩ : ∃ n, n = X.length := ⟨_, rfl⟩
        have HN := Lib.hid hn
        have HM := Lib.hid (show Y.length = n by rw [hn, hlen])
        rw [← hn] at hX
        clear L1 L2 hxy hlen hn hm
        generalize bFlat qs = ta at *
        generalize bFlatT qs = tb at *
        go_wp2_with fail
        refine (all_okn LX1.out HN.out.symm (LL.out.kept U0.out (fun h => h) (fun h => h)) (Nat.le_trans hw U0.out.size)).mono ?_
        rintro e w1 ⟨hu1, B1, d1, rfl, hp1⟩
        have P1 := Lib.hid hp1
        have U1 := Lib.hid (show Up w w1 from Fr.trans U0.out hu1 (fun _ _ e => e))
        have g1 := hp1.le
        have g1b := hp1.big
        clear hu1 hp1
        unfold tokA
        go_wp2_with fail
        change Calls _ _ _ (w1.alloc zeroTok) _
        have U2 := Lib.hid (show Up w (w1.alloc zeroTok) from U1.out.alloc _)
        have V2 := Lib.hid (show Up w1 (w1.alloc zeroTok) from (Fr.refl _ _).alloc _)
        generalize w1.alloc zeroTok = w2 at U2 V2 ⊢
        refine (all_okn LX2.out HM.out (LL.out.kept U2.out (fun h => h) (fun h => h)) (Nat.le_trans hw U2.out.size)).mono ?_
        rintro e w3 ⟨hu3, B2, d2, rfl, hp2⟩
        have P2 := Lib.hid hp2
        have U3 := Lib.hid (show Up w w3 from Fr.trans U2.out hu3 (fun _ _ e => e))
        have V3 := Lib.hid (show Up w1 w3 from Fr.trans V2.out hu3 (fun _ _ e => e))
        have g2 := hp2.le
        have g2b := hp2.big
        clear hu3 hp2
        unfold tokA
        go_wp2_with fail
        change Calls _ _ _ (w3.alloc zeroTok) _
        have U6 := Lib.hid (show Up w (w3.alloc zeroTok) from U3.out.alloc _)
        have V6 := Lib.hid (show Up w1 (w3.alloc zeroTok) from V3.out.alloc _)
        have S6 := Lib.hid (show Up w3 (w3.alloc zeroTok) from (Fr.refl _ _).alloc _)
        generalize w3.alloc zeroTok = w6 at U6 V6 S6 ⊢
        refine (known_any (LL.out.kept U6.out (fun h => h) (fun h => h)) (Nat.le_trans hw U6.out.size)).mono ?_
        rintro e w7 ⟨rfl, hu7⟩
        have U7 := Lib.hid (show Up w w7 from Fr.trans U6.out hu7 (fun _ _ e => e))
        have Q1 := Lib.hid (P1.out.kept (show Up w1 w7 from Fr.trans V6.out hu7 (fun _ _ e => e)) (fun _ _ h => h) (fun _ h => h) (fun _ _ _ h => h))
        have Q2 := Lib.hid (P2.out.kept (show Up w3 w7 from Fr.trans S6.out hu7 (fun _ _ e => e)) (fun _ _ h => h) (fun _ h => h) (fun _ _ _ h => h))
        rw [← HN.out] at g1
        rw [HM.out] at g2
        clear hu7 P1 P2 U0 U1 V2 U2 U3 V3 U6 V6 S6
        have a3 : ((n : Int) != (n : Int)) = false := by simp
        go_wp2_with fail
        go_loopw [18] (fun i wr => ∃ k : Nat, k ≤ n ∧ i = .int .i64 k ∧ Hid (Up w7 wr)) (fun i _ => n - (intOf i).toNat)
        case atStart => exact ⟨0, Nat.zero_le _, rfl, Lib.hid (Fr.refl _ _)⟩
        case round =>
          obtain ⟨r, hr, rfl, hu⟩ := hrel
          obtain ⟨wo, rfl⟩ : ∃ wo : World, wo = wr := ⟨_, rfl⟩
          by_cases hlt : r < n
          · have hki : (r : Int) < (n : Int) := by omega
            have h1' : r < X.length := by rw [← HN.out]; exact hlt
            have h2' : r < Y.length := by rw [HM.out]; exact hlt
            obtain ⟨b, o, hA, y0, y1, y2, y3, y4⟩ := tok_at (Q1.out.kept hu.out (fun _ _ h => h) (fun _ h => h) (fun _ _ _ h => h)) (k := r) h1'
            obtain ⟨b', o', hA', v0, v1, v2, v3, v4⟩ := tok_at (Q2.out.kept hu.out (fun _ _ h => h) (fun _ h => h) (fun _ _ _ h => h)) (k := r) h2'
            have he : nc X[r] = nc Y[r] := by
              have := congrArg (fun l => l[r]?) XY.out
              simpa [List.getElem?_map, List.getElem?_eq_getElem h1', List.getElem?_eq_getElem h2'] using this
            simp only [nc, Tok.mk.injEq, and_true] at he
            obtain ⟨m1, m2, m3, m4⟩ := he
            clear y4 v4
            rw [← m1] at v0
            rw [← m2] at v1
            rw [← m3] at v2
            rw [← m4] at v3
            clear m1 m2 m3 m4
            subst hA hA'
            obtain ⟨t, ht⟩ : ∃ t, t = X[r] := ⟨_, rfl⟩
            rw [← ht] at y0 y1 y2 y3 v0 v1 v2 v3
            have j1 := fun w => idx_tok b o n d1 r hlt w
            have j2 := fun w => idx_tok b' o' n d2 r hlt w
            have c1 : ((t.kind : Int) != (t.kind : Int)) = false := by simp
            have c2 : ((t.n : Int) != (t.n : Int)) = false := by simp
            have c3 : ((t.line : Int) != (t.line : Int)) = false := by simp
            have c4 : ((bs t.text).toList != (bs t.text).toList) = false := by simp
            clear ht
            go_wp2_with fail
            go_quiet (fail)
            go_wp2_with fail
            go_roundw
            case rel => exact ⟨r + 1, by omega, by go_num, Lib.hid (Fr.drewN hu.out _)⟩
            case measure => simp [intOf]; omega
          · have hki : ¬ (r : Int) < (n : Int) := by omega
            have UU := Lib.hid (show Up w wo from Fr.trans U7.out hu.out (fun _ _ e => e))
            go_wp2_with fail
            go_ret
            exact ⟨rfl, UU.out⟩

      · have i1 : ¬ (k : Int) < (n0 : Int) := by omega
        clear h1
        obtain ⟨X, Y, L1, L2, hxy, hX⟩ := blanks_lex qs hm.out.good (by rw [hm.out.len]; exact hk40) (by have := hm.out.ls; omega) (by have := hm.out.lt; omega)
        have LX1 := Lib.hid L1
        have LX2 := Lib.hid L2
        have XY := Lib.hid hxy
        have U0 := Lib.hid hm.out.up
        have hlen : X.length = Y.length := by have := congrArg List.length hxy; simpa using this
        obtain ⟨n, hn⟩ : ∃ n, n = X.length := ⟨_, rfl⟩
        have HN := Lib.hid hn
        have HM := Lib.hid (show Y.length = n by rw [hn, hlen])
        rw [← hn] at hX
        clear L1 L2 hxy hlen hn hm
        generalize bFlat qs = ta at *
        generalize bFlatT qs = tb at *
        go_wp2_with fail
        refine (all_okn LX1.out HN.out.symm (LL.out.kept U0.out (fun h => h) (fun h => h)) (Nat.le_trans hw U0.out.size)).mono ?_
        rintro e w1 ⟨hu1, B1, d1, rfl, hp1⟩
        have P1 := Lib.hid hp1
        have U1 := Lib.hid (show Up w w1 from Fr.trans U0.out hu1 (fun _ _ e => e))
        have g1 := hp1.le
        have g1b := hp1.big
        clear hu1 hp1
        unfold tokA
        go_wp2_with fail
        change Calls _ _ _ (w1.alloc zeroTok) _
        have U2 := Lib.hid (show Up w (w1.alloc zeroTok) from U1.out.alloc _)
        have V2 := Lib.hid (show Up w1 (w1.alloc zeroTok) from (Fr.refl _ _).alloc _)
        generalize w1.alloc zeroTok = w2 at U2 V2 ⊢
        refine (all_okn LX2.out HM.out (LL.out.kept U2.out (fun h => h) (fun h => h)) (Nat.le_trans hw U2.out.size)).mono ?_
        rintro e w3 ⟨hu3, B2, d2, rfl, hp2⟩
        have P2 := Lib.hid hp2
        have U3 := Lib.hid (show Up w w3 from Fr.trans U2.out hu3 (fun _ _ e => e))
        have V3 := Lib.hid (show Up w1 w3 from Fr.trans V2.out hu3 (fun _ _ e => e))
        have g2 := hp2.le
        have g2b := hp2.big
        clear hu3 hp2
        unfold tokA
        go_wp2_with fail
        change Calls _ _ _ (w3.alloc zeroTok) _
        have U6 := Lib.hid (show Up w (w3.alloc zeroTok) from U3.out.alloc _)
        have V6 := Lib.hid (show Up w1 (w3.alloc zeroTok) from V3.out.alloc _)
        have S6 := Lib.hid (show Up w3 (w3.alloc zeroTok) from (Fr.refl _ _).alloc _)
        generalize w3.alloc zeroTok = w6 at U6 V6 S6 ⊢
        refine (known_any (LL.out.kept U6.out (fun h => h) (fun h => h)) (Nat.le_trans hw U6.out.size)).mono ?_
        rintro e w7 ⟨rfl, hu7⟩
        have U7 := Lib.hid (show Up w w7 from Fr.trans U6.out hu7 (fun _ _ e => e))
        have Q1 := Lib.hid (P1.out.kept (show Up w1 w7 from Fr.trans V6.out hu7 (fun _ _ e => e)) (fun _ _ h => h) (fun _ h => h) (fun _ _ _ h => h))
        have Q2 := Lib.hid (P2.out.kept (show Up w3 w7 from Fr.trans S6.out hu7 (fun _ _ e => e)) (fun _ _ h => h) (fun _ h => h) (fun _ _ _ h => h))
        rw [← HN.out] at g1
        rw [HM.out] at g2
        clear hu7 P1 P2 U0 U1 V2 U2 U3 V3 U6 V6 S6
        have a3 : ((n : Int) != (n : Int)) = false := by simp
        go_wp2_with fail
        go_loopw [18] (fun i wr => ∃ k : Nat, k ≤ n ∧ i = .int .i64 k ∧ Hid (Up w7 wr)) (fun i _ => n - (intOf i).toNat)
        case atStart => exact ⟨0, Nat.zero_le _, rfl, Lib.hid (Fr.refl _ _)⟩
        case round =>
          obtain ⟨r, hr, rfl, hu⟩ := hrel
          obtain ⟨wo, rfl⟩ : ∃ wo : World, wo = wr := ⟨_, rfl⟩
          by_cases hlt : r < n
          · have hki : (r : Int) < (n : Int) := by omega
            have h1' : r < X.length := by rw [← HN.out]; exact hlt
            have h2' : r < Y.length := by rw [HM.out]; exact hlt
            obtain ⟨b, o, hA, y0, y1, y2, y3, y4⟩ := tok_at (Q1.out.kept hu.out (fun _ _ h => h) (fun _ h => h) (fun _ _ _ h => h)) (k := r) h1'
            obtain ⟨b', o', hA', v0, v1, v2, v3, v4⟩ := tok_at (Q2.out.kept hu.out (fun _ _ h => h) (fun _ h => h) (fun _ _ _ h => h)) (k := r) h2'
            have he : nc X[r] = nc Y[r] := by
              have := congrArg (fun l => l[r]?) XY.out
              simpa [List.getElem?_map, List.getElem?_eq_getElem h1', List.getElem?_eq_getElem h2'] using this
            simp only [nc, Tok.mk.injEq, and_true] at he
            obtain ⟨m1, m2, m3, m4⟩ := he
            clear y4 v4
            rw [← m1] at v0
            rw [← m2] at v1
            rw [← m3] at v2
            rw [← m4] at v3
            clear m1 m2 m3 m4
            subst hA hA'
            obtain ⟨t, ht⟩ : ∃ t, t = X[r] := ⟨_, rfl⟩
            rw [← ht] at y0 y1 y2 y3 v0 v1 v2 v3
            have j1 := fun w => idx_tok b o n d1 r hlt w
            have j2 := fun w => idx_tok b' o' n d2 r hlt w
            have c1 : ((t.kind : Int) != (t.kind : Int)) = false := by simp
            have c2 : ((t.n : Int) != (t.n : Int)) = false := by simp
            have c3 : ((t.line : Int) != (t.line : Int)) = false := by simp
            have c4 : ((bs t.text).toList != (bs t.text).toList) = false := by simp
            clear ht
            go_wp2_with fail
            go_quiet (fail)
            go_wp2_with fail
            go_roundw
            case rel => exact ⟨r + 1, by omega, by go_num, Lib.hid (Fr.drewN hu.out _)⟩
            case measure => simp [intOf]; omega
          · have hki : ¬ (r : Int) < (n : Int) := by omega
            have UU := Lib.hid (show Up w wo from Fr.trans U7.out hu.out (fun _ _ e => e))
            go_wp2_with fail
            go_ret
            exact ⟨rfl, UU.out⟩
end Go.Proofs.YtjkpimohgbkjoaaDoor
