/-
  WorldNumbers: the walk.
-/
import Derived.Test.YtbnnjbdiiaoopaaDoorWdQ
namespace Go.Proofs.YtbnnjbdiiaoopaaDoor
open Go.RowKit
set_option maxRecDepth 100000

def uw (x : Int) : Int := IntKind.u64.wrap x
theorem uw_bd (x : Int) : u64b (uw x) := by unfold uw u64b; simp only [IntKind.wrap, IntKind.bits, IntKind.signed]; simp; omega
theorem uw_back {x : Int} (h : i64b x) : IntKind.i64.wrap (uw x) = x := by
  unfold uw i64b at *
  rw [IntKind.wrap_i64]
  simp only [IntKind.wrap, IntKind.bits, IntKind.signed]; simp; omega

/-- Both lines of a number. -/
def twoOf (x : Int) : List ByteArray := [bsv (Lib.itoa x), boolT (uw x % 2 != 0)]
def numLines (xs : List Int) (k : Nat) : List ByteArray := ((xs.take k).map twoOf).flatten
theorem length_numLines (xs : List Int) : ∀ k, k ≤ xs.length → (numLines xs k).length = 2 * k := by
  intro k hk
  unfold numLines
  have : ∀ l : List Int, ((l.map twoOf).flatten).length = 2 * l.length := by
    intro l; induction l with
    | nil => rfl
    | cons x l ih => simp only [List.map_cons, List.flatten_cons, List.length_append, ih, List.length_cons]; show 2 + _ = _; omega
  rw [this, List.length_take]; omega
theorem numLines_step (xs : List Int) (k : Nat) (h : k < xs.length) : numLines xs (k + 1) = (numLines xs k ++ [bsv (Lib.itoa xs[k])]) ++ [boolT (uw xs[k] % 2 != 0)] := by
  unfold numLines
  rw [List.take_add_one, List.getElem?_eq_getElem h]
  simp only [Option.toList_some, List.map_append, List.flatten_append, List.map_cons, List.map_nil, List.flatten_cons, List.flatten_nil, List.append_nil, twoOf, List.append_assoc]
  rfl
theorem numLines_at (xs : List Int) (n k : Nat) (hn : n ≤ xs.length) (h : k < n) : (numLines xs n)[2 * k]? = some (bsv (Lib.itoa (xs[k]'(by omega)))) ∧ (numLines xs n)[2 * k + 1]? = some (boolT (uw (xs[k]'(by omega)) % 2 != 0)) := by
  have e : numLines xs n = numLines xs (k + 1) ++ (((xs.take n).drop (k + 1)).map twoOf).flatten := by
    unfold numLines
    rw [← List.flatten_append, ← List.map_append]
    congr 2
    have : xs.take (k + 1) = (xs.take n).take (k + 1) := by rw [List.take_take]; congr 1; omega
    rw [this, List.take_append_drop]
  have l0 := length_numLines xs k (by omega)
  have l1 := length_numLines xs (k + 1) (by omega)
  rw [e, numLines_step xs k (by omega)] at *
  constructor
  · rw [List.getElem?_append_left (by simp; omega), List.getElem?_append_left (by simp; omega), List.getElem?_append_right (by omega), l0]; simp
  · rw [List.getElem?_append_left (by simp; omega), List.getElem?_append_right (by simp; omega)]; simp [l0]

theorem printed_int {s : WSt} {x : Int} (h : s.lines.length < 4096) (hx : i64b x) : printed s 1 (uw x) = s.lines ++ [bsv (Lib.itoa x)] := by
  unfold printed lineText; rw [if_pos h, if_pos rfl, uw_back hx]
theorem printed_bool {s : WSt} {v : Int} (h : s.lines.length < 4096) : printed s 2 v = s.lines ++ [boolT (v != 0)] := by
  unfold printed lineText; rw [if_pos h, if_neg (by decide), if_pos rfl]

/-- The first loop's state. -/
structure NumAt (W wr : World) (N q : Nat) (xs : List Int) (k : Nat) (s : WSt) : Prop where
  at_ : At W wr N s
  q : s.q = q
  lines : s.lines = numLines xs k

set_option maxHeartbeats 4000000 in
theorem worldnumbers_any {W : World} {A : Option Addr} {cap len : Nat} {xs : List Int} (hlk : Lk W) (hx : SlP W (fun _ => True) 1 I64C A cap xs) (hl : xs.length = len) :
    Calls Tryd.prog 7 #[.slice A len cap] W fun e W' => e = .returned (.bool true) ∧ Below W.heap.size W W' := by
  have HX := Lib.hid hx
  have LK := Lib.hid hlk
  have hle := hx.le
  have hbig := hx.big
  clear hx hlk
  go_enter Tryd.func7, Tryd.ntmps7
  go_wp2_with fail
  refine (prog_any W 0 (Nat.zero_le _) none 0 0).mono ?_
  rintro e w1 ⟨gt, ct, rfl, hty, u1⟩
  have HTY := Lib.hid (And.intro hty u1)
  clear hty u1
  go_wp2_with fail
  refine (new_nil LK.out (below_up HTY.out.2 (Nat.le_refl _)) HTY.out.1 (by omega) (by omega)).mono ?_
  rintro e w2 ⟨q, p, g, c, vl, vs, vi, rfl, ha⟩
  have HA := Lib.hid ha
  clear ha HTY
  generalize w1.heap.size = N at *
  go_wp2_with fail
  refine (known_any HA.out.lk).mono ?_
  rintro e w3 ⟨rfl, u3⟩
  have H3 := Lib.hid (HA.out.up u3)
  clear u3 HA
  go_wp2_with fail
  have hn1 : min len 60 ≤ len := Nat.min_le_left _ _
  have hn2 : min len 60 ≤ 60 := Nat.min_le_right _ _
  rw [show min (len : Int) 60 = ((min len 60 : Nat) : Int) by omega]
  generalize min len 60 = n at *
  have H4 : Hid (NumAt W w3 N q xs 0 (Fresh q p g c 50 vl vs vi)) := Lib.hid ⟨H3.out, rfl, rfl⟩
  clear H3
  go_loopw [6] (fun i wr => ∃ (k : Nat) (s : WSt), i = .int .i64 k ∧ k ≤ n ∧ Hid (NumAt W wr N q xs k s)) (fun i _ => n - (Go.RowKit.intOf i).toNat)
  case atStart => exact ⟨0, _, rfl, Nat.zero_le _, H4⟩
  case round =>
    obtain ⟨k, s, rfl, hkn, hR⟩ := hrel
    clear H4
    by_cases hk : k < n
    · have hk' : k < xs.length := by omega
      obtain ⟨b, o, cs, rfl, hb, _, ⟨rfl, hxi⟩, _, hcell⟩ := HX.out.inside.elem (k := k) hk'
      have d0 : wr.cell? ⟨b, o + k, none⟩ = some (.int .i64 (xs[k]'hk')) := by have := (hR.out.at_.bel.cell (p := ⟨b, o + k * 1 + 0, none⟩) hb).trans (hcell 0 _ rfl); simpa using this
      have hq := hR.out.q
      have hln := hR.out.lines
      have hll := length_numLines xs k (by omega)
      have hstep := numLines_step xs k hk'
      generalize xs[k]'hk' = x at *
      obtain ⟨y, hy⟩ : ∃ y, IntKind.u64.wrap x = y := ⟨_, rfl⟩
      have HY := Lib.hid (show uw x = y from hy)
      have HI := Lib.hid hxi
      have HS := Lib.hid (And.intro hln (And.intro hll hstep))
      subst hq
      have hyb : u64b y := by rw [← HY.out]; exact uw_bd x
      have hy0 := hyb.1
      have hy1 := hyb.2
      clear hcell hxi hln hll hstep hyb
      go_wp2_with fail
      refine (print_at hR.out.at_ 1 y ⟨hy0, hy1⟩).mono ?_
      rintro e w4 ⟨rfl, vt, h4⟩
      have e4 : printed s 1 y = s.lines ++ [bsv (Lib.itoa x)] := by
        have h := printed_int (s := s) (x := x) (by rw [HS.out.1, HS.out.2.1]; omega) HI.out
        rwa [HY.out] at h
      rw [e4] at h4
      have H4 := Lib.hid h4
      have d4 : w4.cell? ⟨b, o + k, none⟩ = some (.int .i64 x) := by
        have h0 := World.block_lt_of_cell? wr ⟨b, o + k, none⟩ d0
        exact (h4.bel.cell (p := ⟨b, o + k, none⟩) hb).trans ((hR.out.at_.bel.cell (p := ⟨b, o + k, none⟩) hb).symm.trans d0)
      clear h4 e4 d0
      go_wp2_with fail
      refine (print_at H4.out 2 (y % 2) ⟨by omega, by omega⟩).mono ?_
      rintro e w5 ⟨rfl, vt5, h5⟩
      have HN : Hid (NumAt W w5 N s.q xs (k + 1) { s with vt := vt5, lines := (s.lines ++ [bsv (Lib.itoa x)]) ++ [boolT (y % 2 != 0)] }) := Lib.hid (by
        have e5 : printed { s with vt := vt, lines := s.lines ++ [bsv (Lib.itoa x)] } 2 (y % 2) = (s.lines ++ [bsv (Lib.itoa x)]) ++ [boolT (y % 2 != 0)] :=
          printed_bool (s := { s with vt := vt, lines := s.lines ++ [bsv (Lib.itoa x)] }) (by simp only [List.length_append, HS.out.1, HS.out.2.1, List.length_cons, List.length_nil]; omega)
        rw [e5] at h5
        refine ⟨h5, rfl, ?_⟩
        rw [HS.out.2.2, HY.out, HS.out.1])
      clear h5 d4
      go_wp2_with fail
      go_roundw
      case rel => exact ⟨k + 1, _, by go_num, by omega, HN⟩
      case measure => simp [Go.RowKit.intOf]; omega
    · obtain rfl : k = n := by omega
      have hq := hR.out.q
      subst hq
      go_wp2_with fail
      refine (trace_any hR.out.at_.wd).mono ?_
      rintro e w5 ⟨v', rfl, ho, u5⟩
      have HL := Lib.hid hR.out.lines
      have hll := length_numLines xs k (by omega)
      rw [HL.out] at ho
      rw [hll] at ho
      obtain ⟨at', ct', rfl, hc1, hc2, hx⟩ := row_parts ho
      have HROW := Lib.hid hx
      have HB5 := Lib.hid (hR.out.at_.up u5)
      clear ho u5 hx hll
      go_wp2_with fail
      generalize hL : 2 * k = L at *
      have HL2 := Lib.hid hL
      clear hL
      have HU0 : Hid (Up w5 w5) := Lib.hid (Fr.refl _ _)
      go_loopw [8] (fun i wz => ∃ (j : Nat), i = .int .i64 j ∧ j ≤ k ∧ Hid (Up w5 wz)) (fun i _ => k - (Go.RowKit.intOf i).toNat)
      case atStart => exact ⟨0, rfl, Nat.zero_le _, HU0⟩
      case round =>
        obtain ⟨j, rfl, hjk, hU⟩ := hrel
        clear HU0
        by_cases hj : j < k
        · have hk' : j < xs.length := by omega
          obtain ⟨b, o, cs, rfl, hb, _, ⟨rfl, hxi⟩, _, hcell⟩ := HX.out.inside.elem (k := j) hk'
          obtain ⟨gT, rfl, _, hgT, hcT⟩ := HROW.out (by have := HL2.out; omega)
          have d5 : w5.cell? ⟨b, o + j, none⟩ = some (.int .i64 (xs[j]'hk')) := by have := (HB5.out.bel.cell (p := ⟨b, o + j * 1 + 0, none⟩) hb).trans (hcell 0 _ rfl); simpa using this
          have hb5 := World.block_lt_of_cell? w5 ⟨b, o + j, none⟩ d5
          have d0 := (hU.out.cell (p := ⟨b, o + j, none⟩) hb5 (fun h => h)).trans d5
          obtain ⟨ha1, ha2⟩ := numLines_at xs k j (by omega) hj
          generalize xs[j]'hk' = x at *
          obtain ⟨y, hy⟩ : ∃ y, IntKind.u64.wrap x = y := ⟨_, rfl⟩
          have HY := Lib.hid (show uw x = y from hy)
          rw [HY.out] at ha2
          obtain ⟨m, hm⟩ : ∃ m : Nat, m = 2 * j := ⟨_, rfl⟩
          rw [← hm] at ha1 ha2
          have t1 := (hU.out.cell (p := ⟨gT, m, none⟩) hgT (fun h => h)).trans (hcT m _ (by rw [List.getElem?_map, ha1]; rfl))
          have t2 := (hU.out.cell (p := ⟨gT, m + 1, none⟩) hgT (fun h => h)).trans (hcT (m + 1) _ (by rw [List.getElem?_map, ha2]; rfl))
          have hyb : u64b y := by rw [← HY.out]; exact uw_bd x
          have hy0 := hyb.1
          have hy1 := hyb.2
          have DG : ∀ w, _ := fun w => digits_any x hxi.1 hxi.2 w
          have DG1 := Lib.hid DG
          have M := Lib.hid hm
          have h2k : 2 * (j : Int) = (m : Int) := by omega
          have hm1 : (m : Int) ≤ 120 := by omega
          have hm2 : (m : Int) < (L : Int) := by have := HL2.out; omega
          have hm3 : (m : Int) + 1 < (L : Int) := by have := HL2.out; omega
          have hm4 : (0 : Int) ≤ (m : Int) + 1 := by omega
          have hjl : (j : Int) < (len : Int) := by omega
          have wm : IntKind.i64.wrap (m : Int) = m := IntWalk.i64_in _ (by omega)
          have wm1 : IntKind.i64.wrap ((m : Int) + 1) = (m : Int) + 1 := IntWalk.i64_in _ (by omega)
          generalize bsv (Lib.itoa x) = tx at *
          have U1 : Hid (Up w5 (wr.drewN 1)) := Lib.hid (hU.out.drewN 1)
          have lt1 := Lib.hid (And.intro hgT hb5)
          clear hcell hxi hyb DG hm ha1 ha2 d5 hb5
          by_cases hodd : y % 2 = 1
          · rw [show boolT (y % 2 != 0) = ⟨#[116, 114, 117, 101]⟩ by rw [hodd]; rfl] at t2
            go_wp2_with fail
            go_region_held3 (fun W' => W'.cell? ⟨gT, m, none⟩ = some (.string tx) ∧ W'.cell? ⟨gT, m + 1, none⟩ = some (.string ⟨#[116, 114, 117, 101]⟩) ∧ W'.cell? ⟨b, o + j, none⟩ = some (.int .i64 x)) (first | exact ⟨t1b, t2b, d0b⟩ | exact ⟨t1, t2, d0⟩)
              (first | (go_at_call 38; refine (DG1.out _).mono ?_; rintro e w6 ⟨rfl, u6⟩; have U6 := Lib.hid (up_trans U1.out u6); have t1b := (u6.cell (p := ⟨gT, m, none⟩) (Nat.lt_of_lt_of_le lt1.out.1 hU.out.size) (fun h => h)).trans t1; have t2b := (u6.cell (p := ⟨gT, m + 1, none⟩) (Nat.lt_of_lt_of_le lt1.out.1 hU.out.size) (fun h => h)).trans t2; have d0b := (u6.cell (p := ⟨b, o + j, none⟩) (Nat.lt_of_lt_of_le lt1.out.2 hU.out.size) (fun h => h)).trans d0; clear u6))
            all_goals
              go_wp2_with fail
              go_roundw
              case rel => exact ⟨j + 1, by go_num, by omega, U6⟩
              case measure => simp [Go.RowKit.intOf]; omega
          · have hev : y % 2 = 0 := by omega
            rw [show boolT (y % 2 != 0) = ⟨#[102, 97, 108, 115, 101]⟩ by rw [hev]; rfl] at t2
            clear hodd
            go_wp2_with fail
            go_region_held3 (fun W' => W'.cell? ⟨gT, m, none⟩ = some (.string tx) ∧ W'.cell? ⟨gT, m + 1, none⟩ = some (.string ⟨#[102, 97, 108, 115, 101]⟩) ∧ W'.cell? ⟨b, o + j, none⟩ = some (.int .i64 x)) (first | exact ⟨t1b, t2b, d0b⟩ | exact ⟨t1, t2, d0⟩)
              (first | (go_at_call 38; refine (DG1.out _).mono ?_; rintro e w6 ⟨rfl, u6⟩; have U6 := Lib.hid (up_trans U1.out u6); have t1b := (u6.cell (p := ⟨gT, m, none⟩) (Nat.lt_of_lt_of_le lt1.out.1 hU.out.size) (fun h => h)).trans t1; have t2b := (u6.cell (p := ⟨gT, m + 1, none⟩) (Nat.lt_of_lt_of_le lt1.out.1 hU.out.size) (fun h => h)).trans t2; have d0b := (u6.cell (p := ⟨b, o + j, none⟩) (Nat.lt_of_lt_of_le lt1.out.2 hU.out.size) (fun h => h)).trans d0; clear u6))
            all_goals
              go_wp2_with fail
              go_roundw
              case rel => exact ⟨j + 1, by go_num, by omega, U6⟩
              case measure => simp [Go.RowKit.intOf]; omega
        · go_wp2_with fail
          go_ret
          exact ⟨rfl, HB5.out.bel.trans (below_up hU.out HB5.out.bel.size)⟩
end Go.Proofs.YtbnnjbdiiaoopaaDoor
