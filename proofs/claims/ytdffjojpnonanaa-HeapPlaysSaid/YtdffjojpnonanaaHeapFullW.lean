/-
  HeapFull: the walk.
-/
import Derived.Test.YtdffjojpnonanaaHeapE
import Derived.OpenShut
namespace Go.Proofs.Ytdffjojpnonanaa
open Go.RowKit

/-- A slice of integers that came in: nil, or a row of cap cells, the numbers zs. -/
def IsRow (k : IntKind) (w : World) (a : Option Addr) (len cap : Nat) (zs : List Int) : Prop :=
  (a = none ∧ len = 0 ∧ cap = 0 ∧ zs = []) ∨
  ∃ x, a = some x ∧ len ≤ cap ∧ cap ≤ maxLen ∧ zs.length = cap ∧ (∀ i, i < zs.length → w.cell? (x.add i) = some (.int k (zs.getD i 0))) ∧ ∀ n ∈ zs, (Lit.int k n).wf = true

theorem IsRow.len {k : IntKind} {w : World} {a : Option Addr} {len cap : Nat} {zs : List Int} (h : IsRow k w a len cap zs) : len ≤ 9223372036854775807 := by
  rcases h with ⟨_, rfl, _⟩ | ⟨x, _, h1, h2, _⟩
  · omega
  · unfold maxLen at h2; omega

/-- The cell of an element. -/
theorem IsRow.at {k : IntKind} {w : World} {a : Option Addr} {len cap : Nat} {zs : List Int} (h : IsRow k w a len cap zs) {i : Nat} (hi : i < len) :
    ∃ b o y, a = some ⟨b, o, none⟩ ∧ b < w.heap.size ∧ w.cell? ⟨b, o + i, none⟩ = some (.int k y) ∧ y = zs.getD i 0 ∧ (Lit.int k y).wf = true := by
  rcases h with ⟨_, rfl, _⟩ | ⟨x, rfl, h1, h2, h3, h4, h5⟩
  · omega
  · obtain ⟨b, o, rfl, hc⟩ := ints_at h4 (by omega : 0 < zs.length)
    have hci := hc i (by omega)
    refine ⟨b, o, _, rfl, World.block_lt_of_cell? w ⟨b, o + i, none⟩ hci, hci, rfl, ?_⟩
    rw [List.getD_eq_getElem?_getD, List.getElem?_eq_getElem (by omega)]
    exact h5 _ (List.getElem_mem _)

theorem part5 : isPartB 5 = true := by decide

theorem allocB5 {ws : List Int} {room n : Int} (h0 : 0 ≤ n) (h1 : n ≤ 1048576) : allocB ws room 5 n = decide (n < room - ws.length) := by
  have : isPartB n = true := by simp [isPartB, h0, h1]
  simp [allocB, part5, this]

theorem length_alloc (ws : List Int) (t n : Int) (h : 0 ≤ n) : ((allocWs ws t n).length : Int) = ws.length + n + 1 := by
  simp only [allocWs, List.length_append, List.length_cons, List.length_replicate]
  omega

/-- What holds at the head of each round. -/
structure FullRel (w : World) (q : Int) (len k : Nat) (u : Value) (wr : World) (g c : Nat) (ws : List Int) : Prop where
  k1 : k ≤ len
  k2 : k ≤ 60
  u : u = .int .i64 ws.length
  heap : HeapAt wr (w.heap.size + 1) g c (1 + q) ws
  hg : w.heap.size ≤ g
  bel : Below w.heap.size w wr

theorem FullRel.step {w wr w' : World} {q : Int} {len k : Nat} {u : Value} {g c g' c' : Nat} {ws : List Int} (h : FullRel w q len k u wr g c ws) (hk : k < len) (hk' : k < 60) (t n : Int)
    (ha : HeapAt w' (w.heap.size + 1) g' c' (1 + q) (allocWs ws t n)) (hne : g' = g ∨ wr.heap.size ≤ g') (hf : Fr (fun k => k = w.heap.size + 1 ∨ k = g) wr w') (u' : Value)
    (hu : u' = .int .i64 (allocWs ws t n).length) : FullRel w q len (k + 1) u' w' g' c' (allocWs ws t n) := by
  have hs := h.bel.size
  have hg := h.hg
  refine ⟨hk, hk', hu, ha, by omega, h.bel.trans (hf.below hs ?_)⟩
  intro i hi hh
  omega

theorem FullRel.stay {w wr : World} {q : Int} {len k : Nat} {u : Value} {g c : Nat} {ws : List Int} (h : FullRel w q len k u wr g c ws) (hk : k < len) (hk' : k < 60) (m : Nat) :
    FullRel w q len (k + 1) u (wr.drewN m) g c ws :=
  ⟨hk, hk', h.u, h.heap.drewN m, h.hg, ⟨h.bel.os, h.bel.tape, h.bel.output, h.bel.size, h.bel.block⟩⟩

set_option maxHeartbeats 2000000 in
theorem heapfull_any (r : Int) (a : Option Addr) (len cap : Nat) (zs : List Int) (w : World) (hr : IsRow .i64 w a len cap zs) :
    Calls Try.prog 7 #[.int .i64 r, .slice a len cap] w fun e w' => e = .returned (.bool true) ∧ Below w.heap.size w w' := by
  have hlen := hr.len
  have HR := Lib.hid hr
  clear hr
  go_enter Try.func7, Try.ntmps7
  go_wp2_with fail
  refine (pick_any r 200 w (by omega) (by omega)).mono ?_
  rintro e w' ⟨rfl, rfl⟩
  have hq0 : 0 ≤ r % 200 := by omega
  have hq1 : r % 200 < 200 := by omega
  generalize r % 200 = q at *
  go_wp2_with fail
  refine (new_any (1 + q) w (by omega) (by omega)).mono ?_
  rintro e w1 ⟨rfl, h1, f1⟩
  have H1 := Lib.hid h1
  have F1 := Lib.hid f1
  clear h1 f1
  go_wp2_with fail
  refine (known_any w1).mono ?_
  rintro e w2 ⟨rfl, f2⟩
  have F2 := Lib.hid f2
  clear f2
  go_wp2_with fail
  have H2 : Hid (FullRel w q len 0 (.int .i64 1) w2 w.heap.size 1 [0]) := Lib.hid (by
    refine ⟨Nat.zero_le _, Nat.zero_le _, rfl, H1.out.kept F2.out (fun h => h) (fun h => h), Nat.le_refl _, ?_⟩
    exact (F1.out.trans F2.out (fun i _ h => h)).below (Nat.le_refl _) (fun _ _ h => h))
  clear H1 F1 F2
  go_loopw [7, 8] (fun u i wr => ∃ (k g c : Nat) (ws : List Int), i = .int .i64 k ∧ Hid (FullRel w q len k u wr g c ws)) (fun _ i _ => 60 - (intOf i).toNat)
  case atStart => exact ⟨0, _, _, _, rfl, H2⟩
  case round =>
    obtain ⟨k, g, c, ws, rfl, hR⟩ := hrel
    have hk1 := hR.out.k1
    have hk2 := hR.out.k2
    obtain rfl := hR.out.u
    have hs := hR.out.heap.small
    have hfit := hR.out.heap.fits
    by_cases hk : k < len
    · by_cases hk' : k < 60
      · obtain ⟨b, o, y, rfl, hb, hc, hy, hwf⟩ := HR.out.at hk
        have hcw := (hR.out.bel.cell (p := ⟨b, o + k, none⟩) hb).trans hc
        clear hy hwf hc
        go_wp2_with fail
        refine (pick_any y 30 wr (by omega) (by omega)).mono ?_
        rintro e w' ⟨rfl, rfl⟩
        have hn0 : 0 ≤ y % 30 := by omega
        have hn1 : y % 30 < 30 := by omega
        generalize y % 30 = n at *
        go_wp2_with fail
        by_cases hroom : n < (1 + q) - ws.length
        · have hd1 : decide ((ws.length : Int) + n + 1 ≤ 1 + q) = true := by simp; omega
          have hla := length_alloc ws 5 n hn0
          refine (alloc_y hR.out.heap 5 n (by rw [allocB5 hn0 (by omega)]; simp; omega)).mono ?_
          rintro e w3 ⟨rfl, g', c', h3, hg3, f3⟩
          have hS := Lib.hid (hR.out.step hk hk' 5 n h3 hg3 f3 _ rfl)
          clear h3 hg3 f3
          go_wp2_with fail
          refine (used_any hS.out.heap).mono ?_
          rintro e w4 ⟨rfl, rfl⟩
          have Hla := Lib.hid hla
          rw [hla]
          clear hla
          go_wp2_with fail
          go_roundw
          case rel => exact ⟨k + 1, g', c', allocWs ws 5 n, by go_num, by rw [← Hla.out]; exact hS⟩
          case measure => simp [intOf]; omega
        · have hd1 : decide ((ws.length : Int) + n + 1 ≤ 1 + q) = false := by simp; omega
          refine (alloc_n hR.out.heap 5 n (by rw [allocB5 hn0 (by omega)]; simp; omega)).mono ?_
          rintro e w3 ⟨rfl, m, rfl⟩
          have hS := Lib.hid (hR.out.stay hk hk' m)
          go_wp2_with fail
          refine (used_any hS.out.heap).mono ?_
          rintro e w4 ⟨rfl, rfl⟩
          go_wp2_with fail
          go_roundw
          case rel => exact ⟨k + 1, g, c, ws, by go_num, hS⟩
          case measure => simp [intOf]; omega
      · go_wp2_with fail
        go_ret
        exact ⟨rfl, hR.out.bel⟩
    · go_wp2_with fail
      go_ret
      exact ⟨rfl, hR.out.bel⟩
end Go.Proofs.Ytdffjojpnonanaa
