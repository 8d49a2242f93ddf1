/-
  The reference's 'text'.
-/
import Derived.Test.YtjkpimohgbkjoaaDoorTkRefC
import Derived.Test.YtjkpimohgbkjoaaDoorTkQ
import Derived.Test.YtjkpimohgbkjoaaDoorTkW
namespace Go.Proofs.YtjkpimohgbkjoaaDoor
open Go.RowKit

/-- The zero token in a block of its own, in a call that turns nothing else. -/
structure Zc (w w' : World) (q : Nat) : Prop where
  fr : Up w w'
  q0 : w.heap.size ≤ q
  blk : w'.heap[q]? = some zeroTok
theorem Zc.start {w : World} : Zc w (w.alloc zeroTok) w.heap.size := ⟨(Fr.refl _ _).alloc _, Nat.le_refl _, heap_alloc_new _ _⟩
theorem Zc.up {w w' w2 : World} {q : Nat} (h : Zc w w' q) (f : Up w' w2) : Zc w w2 q :=
  ⟨Fr.trans h.fr f (fun _ _ e => e), h.q0, (f.block q (heap_lt h.blk) (fun e => e)).trans h.blk⟩
theorem Zc.cells {w w' : World} {q : Nat} (h : Zc w w' q) : w'.cell? ⟨q, 0, none⟩ = some (.int .i64 0) ∧ w'.cell? ⟨q, 1, none⟩ = some (.string { data := #[] }) ∧ w'.cell? ⟨q, 2, none⟩ = some (.int .i64 0) ∧
    w'.cell? ⟨q, 3, none⟩ = some (.int .i64 0) ∧ w'.cell? ⟨q, 4, none⟩ = some (.int .i64 0) := by
  have := h.blk
  unfold zeroTok at this
  refine ⟨?_, ?_, ?_, ?_, ?_⟩ <;> (rw [cell_of_row _ _ _ _ _ _ this]; rfl)
theorem Zc.frz {w w' : World} {q : Nat} (h : Zc w w' q) (j : Nat) : w'.frozen? ⟨q, j, none⟩ = false := frozen_of_row w' q j _ _ h.blk
theorem Zc.set {w w' : World} {q : Nat} (h : Zc w w' q) (u0 u1 u2 u3 u4 : Value) :
    Up w (set5 w' q u0 u1 u2 u3 u4) ∧ (set5 w' q u0 u1 u2 u3 u4).heap[q]? = some (.cells #[u0, u1, u2, u3, u4] 24 (0, 0)) :=
  ⟨Fr.trans h.fr (set5_fr w' q u0 u1 u2 u3 u4) (fun i hi e => by have := h.q0; omega), set5_blk h.blk u0 u1 u2 u3 u4⟩

/-- A token, a number and an error number, handed back. -/
theorem res_tok3 {fn : Func} {c t u : Nat} (hr : fn.results = #[.cell c 24, .tmp t, .tmp u]) {tmps : Array Value} {w : World} {q : Nat} {cs : Array Value} {e e' : Value} (h2 : tmps.getD c undef = .pointer (some ⟨q, 0, none⟩)) (h3 : tmps.getD t undef = e) (h4 : tmps.getD u undef = e')
    (hb : w.heap[q]? = some (.cells cs 24 (0, 0))) (hs : cs.size = 5) : (results fn tmps).run Tryd.prog w = .ok (.tuple #[.agg cs, e, e']) w := by
  have := run_loadVar_row (P := Tryd.prog) w q 24 24 cs (0, 0) _ hb Tryd.underlying24 rfl (by rw [hs]; kernel_rfl)
  rw [Array.getD_eq_getD_getElem?] at h2 h3 h4
  simp [results, hr, h2, h3, h4, asAddr, this]

def gotV : Got → Value
  | .tok kind text n used => .tuple #[tokV kind text n, .int .i64 used, .int .i64 0]
  | .err c => .tuple #[tokV 0 [] 0, .int .i64 0, .int .i64 c]

def txtGot (T : List UInt8) : Got := match txtGo T.length (T.drop 1) [] 1 with
  | none => .err 11
  | some (t, n) => .tok 5 t 0 n

/-- In the midst of a text: f is what fuel is left. -/
structure TInv (w wr : World) (q : Nat) (T : List UInt8) (j : Nat) (acc : List UInt8) (f : Nat) : Prop where
  zc : Zc w wr q
  jT : j ≤ T.length
  an : acc.length ≤ j
  fuel : T.length - j < f
  go : txtGo T.length (T.drop 1) [] 1 = txtGo f (T.drop j) acc j
theorem TInv.up {w wr w' : World} {q : Nat} {T : List UInt8} {j : Nat} {acc : List UInt8} {f : Nat} (h : TInv w wr q T j acc f) (u : Up wr w') : TInv w w' q T j acc f :=
  ⟨h.zc.up u, h.jT, h.an, h.fuel, h.go⟩
/-- One byte told more. -/
theorem TInv.next {w wr : World} {q : Nat} {T : List UInt8} {j : Nat} {acc : List UInt8} {f : Nat} (h : TInv w wr q T j acc f) {b c : UInt8} {n : Nat} (hb : T[j]? = some b) (h34 : b ≠ 34) (hd : denoted (T.drop j) = some (c, n)) :
    ∃ f', TInv w wr q T (j + n) (acc ++ [c]) f' := by
  obtain ⟨hn1, hn2⟩ := den_len hd
  rw [List.length_drop] at hn2
  have hj := (List.getElem?_eq_some_iff.1 hb).1
  have hf := h.fuel
  cases f with
  | zero => omega
  | succ f =>
    refine ⟨f, h.zc, by omega, by have := h.an; rw [List.length_append]; simp; omega, by omega, ?_⟩
    rw [h.go, txtGo_step (drop_at hb), if_neg h34, hd]
    show txtGo f (List.drop n (List.drop j T)) _ _ = _
    rw [List.drop_drop]
theorem TInv.bad {w wr : World} {q : Nat} {T : List UInt8} {j : Nat} {acc : List UInt8} {f : Nat} (h : TInv w wr q T j acc f) {b : UInt8} (hb : T[j]? = some b) (h34 : b ≠ 34) (hd : denoted (T.drop j) = none) : txtGot T = .err 11 := by
  have hj := (List.getElem?_eq_some_iff.1 hb).1
  have hf := h.fuel
  cases f with
  | zero => omega
  | succ f => rw [txtGot, h.go, txtGo_step (drop_at hb), if_neg h34, hd]

set_option maxRecDepth 10000 in
set_option maxHeartbeats 4000000 in
theorem rtext_any {w : World} (T : List UInt8) (hl : T.length ≤ 16384) (h1 : 1 ≤ T.length) :
    Calls Tryd.prog 53 #[.string (bs T)] w fun e w' => e = .returned (gotV (txtGot T)) ∧ Up w w' := by
  have hsz := bs_size T
  obtain ⟨G, hG⟩ : ∃ G, G = txtGot T := ⟨_, rfl⟩
  rw [← hG]
  have HG := Lib.hid hG
  clear hG
  have V0 := Lib.hid (show TInv w (w.alloc zeroTok) w.heap.size T 1 [] T.length from ⟨Zc.start, h1, Nat.zero_le _, by omega, rfl⟩)
  go_enter Tryd.func53, Tryd.ntmps53
  go_wp2_with fail
  change Code.wp _ _ _ _ (w.alloc zeroTok)
  generalize w.heap.size = q at V0 ⊢
  generalize w.alloc zeroTok = w1 at V0 ⊢
  go_loopw [5, 6] (fun s i wr => ∃ (j : Nat) (acc : List UInt8) (f : Nat), s = .string (bs acc) ∧ i = .int .i64 j ∧ Hid (TInv w wr q T j acc f)) (fun _ i _ => T.length + 1 - (intOf i).toNat)
  case atStart => exact ⟨1, [], _, rfl, rfl, V0⟩
  case round =>
    obtain ⟨j, acc, f, rfl, rfl, hm⟩ := hrel
    have hjT := hm.out.jT
    have hnj := hm.out.an
    by_cases hlt : j < T.length
    · obtain ⟨b, hb⟩ : ∃ b, T[j]? = some b := ⟨_, List.getElem?_eq_getElem hlt⟩
      have hjs : j < (bs T).size := by rw [hsz]; exact hlt
      have gj := get_bs hjs hb
      have C := Lib.hid hb
      have d0 : ((j : Int) < ((bs T).size : Int)) := by omega
      obtain ⟨n, hn⟩ : ∃ n, n = acc.length := ⟨_, rfl⟩
      have hsa : (bs acc).size = n := by rw [bs_size, hn]
      rw [← hn] at hnj
      obtain ⟨m, hm1⟩ : ∃ m, m = j + 1 := ⟨_, rfl⟩
      have hw : (j : Int) + 1 = (m : Int) := by omega
      have hw2 : IntKind.i64.wrap (m : Int) = (m : Int) := IntWalk.i64_in _ (by omega)
      have Hm := Lib.hid hm1
      have Hn := Lib.hid hn
      clear hb hm1 hn
      by_cases h34 : b = 34
      · have q1 : ((b.toNat : Int) == 34) = true := by subst h34; rfl
        by_cases h2k : 2000 < n
        · have a1 : ((n : Int) > 2000) := by omega
          have e : G = .err 11 := by
            rw [HG.out, txtGot, hm.out.go]
            cases f with
            | zero => have := hm.out.fuel; omega
            | succ f => rw [txtGo_step (drop_at C.out), if_pos h34, if_pos (by rw [← Hn.out]; exact h2k)]
          subst e
          clear HG h34
          obtain ⟨r0, r1, r2, r3, r4⟩ := hm.out.zc.cells
          have z0 := hm.out.zc.frz 0
          have z1 := hm.out.zc.frz 1
          have z2 := hm.out.zc.frz 2
          have z3 := hm.out.zc.frz 3
          have z4 := hm.out.zc.frz 4
          go_wp2_with fail
          obtain ⟨f2, b2⟩ := hm.out.zc.set (.int .i64 0) (.string (bs [])) (.int .i64 0) (.int .i64 0) (.int .i64 0)
          exact bodyPost_ret (res_tok3 (c := 2) (t := 3) (u := 4) (by kernel_rfl) rfl rfl rfl b2 rfl) rfl ⟨rfl, f2⟩
        · have a1 : ¬ ((n : Int) > 2000) := by omega
          have e : G = .tok 5 acc 0 m := by
            rw [HG.out, txtGot, hm.out.go]
            cases f with
            | zero => have := hm.out.fuel; omega
            | succ f => rw [txtGo_step (drop_at C.out), if_pos h34, if_neg (by rw [← Hn.out]; exact h2k), Hm.out]
          subst e
          clear HG h34
          obtain ⟨r0, r1, r2, r3, r4⟩ := hm.out.zc.cells
          have z0 := hm.out.zc.frz 0
          have z1 := hm.out.zc.frz 1
          have z2 := hm.out.zc.frz 2
          have z3 := hm.out.zc.frz 3
          have z4 := hm.out.zc.frz 4
          go_wp2_with fail
          obtain ⟨f2, b2⟩ := hm.out.zc.set (.int .i64 5) (.string (bs acc)) (.int .i64 0) (.int .i64 0) (.int .i64 0)
          exact bodyPost_ret (res_tok3 (c := 2) (t := 3) (u := 4) (by kernel_rfl) rfl rfl rfl b2 rfl) rfl ⟨rfl, f2⟩
      have q34 : ((b.toNat : Int) == 34) = false := by rw [show ((b.toNat : Int) == 34) = decide (b = 34) from beqU b 34]; exact dec_not h34
      by_cases h92 : b = 92
      · have q92 : ((b.toNat : Int) == 92) = true := by subst h92; rfl
        by_cases hmT : m < T.length
        · obtain ⟨c, hc⟩ : ∃ c, T[m]? = some c := ⟨_, List.getElem?_eq_getElem hmT⟩
          have hms : m < (bs T).size := by rw [hsz]; exact hmT
          have gm := get_bs hms hc
          have d1 : ((m : Int) < ((bs T).size : Int)) := by omega
          have DD : T.drop j = 92 :: c :: T.drop (j + 2) := by rw [drop_at C.out, h92, ← Hm.out, drop_at hc, Hm.out]
          obtain ⟨m2, hm2⟩ : ∃ m2, m2 = m + 1 := ⟨_, rfl⟩
          have hw3 : (m : Int) + 1 = (m2 : Int) := by omega
          have hw4 : IntKind.i64.wrap (m2 : Int) = (m2 : Int) := IntWalk.i64_in _ (by omega)
          have Hm2 := Lib.hid hm2
          clear hm2 hc
          by_cases h110 : c = 110
          · have p110 : ((c.toNat : Int) == 110) = true := by subst h110; rfl
            have hd : denoted (T.drop j) = some (10, 2) := by rw [DD, h110]; rfl
            obtain ⟨f', N⟩ := hm.out.next C.out h34 hd
            have N := Lib.hid N
            have eq1 : bs acc ++ ⟨#[10]⟩ = bs (acc ++ [10]) := bs_append acc [10]
            have s1 : (bs acc).size + 1 ≤ 9223372036854775807 := by omega
            have s1' : (bs acc).size + (bs [10]).size ≤ 9223372036854775807 := s1
            clear h110 hd DD HG h92
            go_wp2_with fail
            refine ⟨⟨m2, acc ++ [10], f', congrArg Value.string (bs_append acc [10]), rfl, Lib.hid (by rw [Hm2.out, Hm.out]; exact N.out)⟩, by simp [intOf]; have := Hm.out; have := Hm2.out; omega⟩
          have p110 : ((c.toNat : Int) == 110) = false := by rw [show ((c.toNat : Int) == 110) = decide (c = 110) from beqU c 110]; exact dec_not h110
          by_cases h116 : c = 116
          · have p116 : ((c.toNat : Int) == 116) = true := by subst h116; rfl
            have hd : denoted (T.drop j) = some (9, 2) := by rw [DD, h116]; rfl
            obtain ⟨f', N⟩ := hm.out.next C.out h34 hd
            have N := Lib.hid N
            have eq1 : bs acc ++ ⟨#[9]⟩ = bs (acc ++ [9]) := bs_append acc [9]
            have s1 : (bs acc).size + 1 ≤ 9223372036854775807 := by omega
            have s1' : (bs acc).size + (bs [9]).size ≤ 9223372036854775807 := s1
            clear h116 hd DD HG h92
            go_wp2_with fail
            refine ⟨⟨m2, acc ++ [9], f', congrArg Value.string (bs_append acc [9]), rfl, Lib.hid (by rw [Hm2.out, Hm.out]; exact N.out)⟩, by simp [intOf]; have := Hm.out; have := Hm2.out; omega⟩
          have p116 : ((c.toNat : Int) == 116) = false := by rw [show ((c.toNat : Int) == 116) = decide (c = 116) from beqU c 116]; exact dec_not h116
          by_cases h34' : c = 34
          · have p34 : ((c.toNat : Int) == 34) = true := by subst h34'; rfl
            have hd : denoted (T.drop j) = some (34, 2) := by rw [DD, h34']; rfl
            obtain ⟨f', N⟩ := hm.out.next C.out h34 hd
            have N := Lib.hid N
            have eq1 : bs acc ++ ⟨#[34]⟩ = bs (acc ++ [34]) := bs_append acc [34]
            have s1 : (bs acc).size + 1 ≤ 9223372036854775807 := by omega
            have s1' : (bs acc).size + (bs [34]).size ≤ 9223372036854775807 := s1
            clear h34' hd DD HG h92
            go_wp2_with fail
            refine ⟨⟨m2, acc ++ [34], f', congrArg Value.string (bs_append acc [34]), rfl, Lib.hid (by rw [Hm2.out, Hm.out]; exact N.out)⟩, by simp [intOf]; have := Hm.out; have := Hm2.out; omega⟩
          have p34 : ((c.toNat : Int) == 34) = false := by rw [show ((c.toNat : Int) == 34) = decide (c = 34) from beqU c 34]; exact dec_not h34'
          by_cases h92' : c = 92
          · have p92 : ((c.toNat : Int) == 92) = true := by subst h92'; rfl
            have hd : denoted (T.drop j) = some (92, 2) := by rw [DD, h92']; rfl
            obtain ⟨f', N⟩ := hm.out.next C.out h34 hd
            have N := Lib.hid N
            have eq1 : bs acc ++ ⟨#[92]⟩ = bs (acc ++ [92]) := bs_append acc [92]
            have s1 : (bs acc).size + 1 ≤ 9223372036854775807 := by omega
            have s1' : (bs acc).size + (bs [92]).size ≤ 9223372036854775807 := s1
            clear h92' hd DD HG h92
            go_wp2_with fail
            refine ⟨⟨m2, acc ++ [92], f', congrArg Value.string (bs_append acc [92]), rfl, Lib.hid (by rw [Hm2.out, Hm.out]; exact N.out)⟩, by simp [intOf]; have := Hm.out; have := Hm2.out; omega⟩
          have p92 : ((c.toNat : Int) == 92) = false := by rw [show ((c.toNat : Int) == 92) = decide (c = 92) from beqU c 92]; exact dec_not h92'
          have e : G = .err 11 := by
            rw [HG.out]
            exact hm.out.bad C.out h34 (by rw [DD]; simp [denoted, h110, h116, h34', h92'])
          subst e
          clear HG h110 h116 DD h92
          obtain ⟨r0, r1, r2, r3, r4⟩ := hm.out.zc.cells
          have z0 := hm.out.zc.frz 0
          have z1 := hm.out.zc.frz 1
          have z2 := hm.out.zc.frz 2
          have z3 := hm.out.zc.frz 3
          have z4 := hm.out.zc.frz 4
          go_wp2_with fail
          obtain ⟨f2, b2⟩ := hm.out.zc.set (.int .i64 0) (.string (bs [])) (.int .i64 0) (.int .i64 0) (.int .i64 0)
          exact bodyPost_ret (res_tok3 (c := 2) (t := 3) (u := 4) (by kernel_rfl) rfl rfl rfl b2 rfl) rfl ⟨rfl, f2⟩
        · have d1 : ¬ ((m : Int) < ((bs T).size : Int)) := by omega
          have e : G = .err 11 := by
            rw [HG.out]
            exact hm.out.bad C.out h34 (by rw [drop_at C.out, h92, List.drop_eq_nil_of_le (by have := Hm.out; omega)]; rfl)
          subst e
          clear HG h92
          obtain ⟨r0, r1, r2, r3, r4⟩ := hm.out.zc.cells
          have z0 := hm.out.zc.frz 0
          have z1 := hm.out.zc.frz 1
          have z2 := hm.out.zc.frz 2
          have z3 := hm.out.zc.frz 3
          have z4 := hm.out.zc.frz 4
          go_wp2_with fail
          obtain ⟨f2, b2⟩ := hm.out.zc.set (.int .i64 0) (.string (bs [])) (.int .i64 0) (.int .i64 0) (.int .i64 0)
          exact bodyPost_ret (res_tok3 (c := 2) (t := 3) (u := 4) (by kernel_rfl) rfl rfl rfl b2 rfl) rfl ⟨rfl, f2⟩
      have q92 : ((b.toNat : Int) == 92) = false := by rw [show ((b.toNat : Int) == 92) = decide (b = 92) from beqU b 92]; exact dec_not h92
      by_cases h32 : b.toNat < 32
      · have l1 : ((b.toNat : Int) < 32) := by omega
        have e : G = .err 11 := by
          rw [HG.out]
          exact hm.out.bad C.out h34 (by rw [drop_at C.out]; simp only [denoted]; rw [if_pos (.inl h32)])
        subst e
        clear HG h34 h92
        obtain ⟨r0, r1, r2, r3, r4⟩ := hm.out.zc.cells
        have z0 := hm.out.zc.frz 0
        have z1 := hm.out.zc.frz 1
        have z2 := hm.out.zc.frz 2
        have z3 := hm.out.zc.frz 3
        have z4 := hm.out.zc.frz 4
        go_wp2_with fail
        obtain ⟨f2, b2⟩ := hm.out.zc.set (.int .i64 0) (.string (bs [])) (.int .i64 0) (.int .i64 0) (.int .i64 0)
        exact bodyPost_ret (res_tok3 (c := 2) (t := 3) (u := 4) (by kernel_rfl) rfl rfl rfl b2 rfl) rfl ⟨rfl, f2⟩
      have l1 : ¬ ((b.toNat : Int) < 32) := by omega
      by_cases h126 : 126 < b.toNat
      · have l2 : ((b.toNat : Int) > 126) := by omega
        have e : G = .err 11 := by
          rw [HG.out]
          exact hm.out.bad C.out h34 (by rw [drop_at C.out]; simp only [denoted]; rw [if_pos (.inr h126)])
        subst e
        clear HG h34 h92
        obtain ⟨r0, r1, r2, r3, r4⟩ := hm.out.zc.cells
        have z0 := hm.out.zc.frz 0
        have z1 := hm.out.zc.frz 1
        have z2 := hm.out.zc.frz 2
        have z3 := hm.out.zc.frz 3
        have z4 := hm.out.zc.frz 4
        go_wp2_with fail
        obtain ⟨f2, b2⟩ := hm.out.zc.set (.int .i64 0) (.string (bs [])) (.int .i64 0) (.int .i64 0) (.int .i64 0)
        exact bodyPost_ret (res_tok3 (c := 2) (t := 3) (u := 4) (by kernel_rfl) rfl rfl rfl b2 rfl) rfl ⟨rfl, f2⟩
      have l2 : ¬ ((b.toNat : Int) > 126) := by omega
      have hd : denoted (T.drop j) = some (b, 1) := by
        rw [drop_at C.out]
        simp only [denoted]
        rw [if_neg (by omega), if_pos h92]
      obtain ⟨f', N⟩ := hm.out.next C.out h34 hd
      have N := Lib.hid N
      have E : (bs T).extract j m = bs [b] := by
        rw [bs_extract, drop_at C.out, Hm.out, Nat.add_sub_cancel_left]; rfl
      have eq1 := bs_append acc [b]
      have s1 : (bs acc).size + (bs [b]).size ≤ 9223372036854775807 := by rw [bs_size [b]]; simp; omega
      have hj0 : (0 : Int) ≤ (j : Int) := by omega
      have hjm : (j : Int) ≤ (m : Int) := by omega
      have hjm' : j ≤ m := by omega
      have hmT : (m : Int) ≤ ((bs T).size : Int) := by omega
      have hmT' : m ≤ (bs T).size := by omega
      clear h34 h92 hd HG
      go_wp2_with fail
      refine ⟨⟨m, acc ++ [b], f', congrArg Value.string eq1, rfl, Lib.hid (by rw [Hm.out]; exact N.out)⟩, by simp [intOf]; have := Hm.out; omega⟩
    · have d0 : ¬ ((j : Int) < ((bs T).size : Int)) := by omega
      have e : G = .err 11 := by
        rw [HG.out, txtGot, hm.out.go, List.drop_eq_nil_of_le (by omega)]
        cases f <;> rfl
      subst e
      clear HG
      obtain ⟨r0, r1, r2, r3, r4⟩ := hm.out.zc.cells
      have z0 := hm.out.zc.frz 0
      have z1 := hm.out.zc.frz 1
      have z2 := hm.out.zc.frz 2
      have z3 := hm.out.zc.frz 3
      have z4 := hm.out.zc.frz 4
      go_wp2_with fail
      obtain ⟨f2, b2⟩ := hm.out.zc.set (.int .i64 0) (.string (bs [])) (.int .i64 0) (.int .i64 0) (.int .i64 0)
      exact bodyPost_ret (res_tok3 (c := 2) (t := 3) (u := 4) (by kernel_rfl) rfl rfl rfl b2 rfl) rfl ⟨rfl, f2⟩
end Go.Proofs.YtjkpimohgbkjoaaDoor
