/-
  CodeShows: its walk.
-/
import Derived.Test.YtomononppbjnnaaDoorCdRShow
import Derived.Test.YtomononppbjnnaaDoorCdK
import Derived.Test.YtomononppbjnnaaDoorPickT
import Derived.Test.YtomononppbjnnaaDoorOwn
namespace Go.Proofs.YtomononppbjnnaaDoor
open Go.RowKit

def InsC (x : Ins) (cs : List Value) : Prop := cs = [.int .i64 x.op, .int .i64 x.a, .int .i64 x.b] ∧ i64 x.op ∧ i64 x.a ∧ i64 x.b
theorem code_of {w : World} {G : Nat → Prop} {A : Option Addr} {c : Nat} {xs : List Ins} (h : SlP w G 3 InsC A c xs) : CodeAt w A xs :=
  ⟨fun k x hk => by
    have hlt := (List.getElem?_eq_some_iff.1 hk).1
    obtain ⟨b, o, cs, rfl, _, hb, ⟨hcs, h1, h2, h3⟩, _, hc⟩ := h.elem hlt
    obtain rfl : xs[k] = x := by rw [List.getElem?_eq_getElem hlt] at hk; exact Option.some.inj hk
    subst hcs
    exact ⟨h1, h2, h3, b, o, rfl, hb, hc 0 _ rfl, hc 1 _ rfl, hc 2 _ rfl⟩⟩
def adj (near : Bool) (x : Ins) : Ins := if near then ⟨x.op % 44 - 1, x.a, x.b⟩ else x
theorem adj_i64 {near : Bool} {x : Ins} (h : i64 x.op) : i64 (adj near x).op := by
  unfold adj; split
  · exact ⟨by simp only; omega, by simp only; omega⟩
  · exact h
theorem instr_info : ∃ i z, Tryd.prog.info? 24 = some i ∧ i.zero = some z ∧ i.size = 3 ∧ i.bytes = 24 ∧ z.cells.size = 3 := by
  have h : (Tryd.prog.info? 24).map (fun i => (i.size, i.bytes)) = some (3, 24) := by kernel_rfl
  have z : ((Tryd.prog.info? 24).bind (·.zero)).map (·.cells.size) = some 3 := by kernel_rfl
  cases hi : Tryd.prog.info? 24 with
  | none => rw [hi] at h; cases h
  | some i =>
    rw [hi] at h z
    simp only [Option.map_some, Option.some.injEq, Prod.mk.injEq, Option.bind_some] at h z
    cases hz : i.zero with
    | none => rw [hz] at z; cases z
    | some u => rw [hz] at z; exact ⟨i, u, rfl, hz, h.1, h.2, by simpa using z⟩

theorem take_succ_map {near : Bool} {xs : List Ins} {k : Nat} {x : Ins} (h : xs[k]? = some x) : (xs.take k).map (adj near) ++ [adj near x] = (xs.take (k + 1)).map (adj near) := by
  rw [List.take_add_one, h]; simp
/-- One instruction more. -/
theorem more {wo : World} {B k : Nat} {v : Value} {ys : List Ins} {y : Ins} (h : OwnSl wo B 24 3 InsC v ys) (hl : ys.length = k) (hk : k < 60) (hy : i64 y.op ∧ i64 y.a ∧ i64 y.b) (hB : B ≤ wo.heap.size) :
    ∃ g cap w', (Builtin.append_ #[25, 25] 25 #[v, .slice (some ⟨wo.heap.size, 0, none⟩) 1 1]).run Tryd.prog (wo.alloc (.cells #[.int .i64 y.op, .int .i64 y.a, .int .i64 y.b] 24)) = .ok (.slice (some ⟨g, 0, none⟩) (k + 1) cap) w' ∧
      OwnSl w' B 24 3 InsC (.slice (some ⟨g, 0, none⟩) (k + 1) cap) (ys ++ [y]) ∧ wo.grownBy w' v.ownBlock := by
  obtain ⟨i, z, hi, hz, h1, h2, h3⟩ := instr_info
  obtain ⟨g, cap, w', a1, a2, a3, _⟩ := own_append (P := Tryd.prog) wo B 25 25 24 i z 3 24 Tryd.underlying25 hi hz h1 h2 h3 (by decide) h [y] [[.int .i64 y.op, .int .i64 y.a, .int .i64 y.b]]
    ⟨rfl, by simp, fun j x cs hx hc => by
      match j, hx, hc with
      | 0, hx, hc => simp at hx hc; subst hx hc; exact ⟨rfl, hy⟩⟩ #[.int .i64 y.op, .int .i64 y.a, .int .i64 y.b] rfl k 1 (k + 1) hl rfl rfl (by decide)
    (by simp [Value.oneCell']) (by unfold maxLen; omega) (by omega) hB (fun _ => InsC) (fun _ _ _ _ _ h => h)
  exact ⟨g, cap, w', a1, a2, a3⟩
set_option maxRecDepth 20000 in
set_option maxHeartbeats 4000000 in
theorem codeshows_any {w : World} {A : Option Addr} {c : Nat} {xs : List Ins} (h : SlP w (fun _ => True) 3 InsC A c xs) (near : Bool) (t : Tab w) (hR : w.rangeAt 0 0 namesV) :
    Calls Tryd.prog 5 #[.slice A xs.length c, .bool near] w fun e w' => e = .returned (.bool true) ∧ Up w w' := by
  have HX := Lib.hid h
  have T := Lib.hid t
  have R := Lib.hid hR
  have hle := h.le
  have hbig := h.big
  clear h t hR
  obtain ⟨n, hN⟩ : ∃ n, n = xs.length := ⟨_, rfl⟩
  rw [← hN] at hle
  simp only [← hN]
  have HN := Lib.hid hN
  clear hN
  go_enter Tryd.func5, Tryd.ntmps5
  go_wp2_with fail
  go_loopw [5, 6] (fun v i wr => ∃ k : Nat, k ≤ n ∧ k ≤ 60 ∧ i = .int .i64 k ∧ Hid (OwnSl wr w.heap.size 24 3 InsC v ((xs.take k).map (adj near)) ∧ Fr (fun i => w.heap.size ≤ i) w wr)) (fun _ i _ => n - natOf i)
  case atStart => exact ⟨0, Nat.zero_le _, Nat.zero_le _, rfl, Lib.hid ⟨OwnSl.none_, Fr.refl _ _⟩⟩
  case round =>
    obtain ⟨wo, rfl⟩ : ∃ wo : World, wo = wr := ⟨_, rfl⟩
    obtain ⟨k, hk, hk2, rfl, hm⟩ := hrel
    by_cases h1 : k < n ∧ k < 60
    · obtain ⟨h1, h2⟩ := h1
      have k1 : (k : Int) < (n : Int) := by omega
      have k2 : (k : Int) < 60 := by omega
      have hx : xs[k]? = some (xs[k]'(by rw [← HN.out]; exact h1)) := List.getElem?_eq_getElem _
      obtain ⟨⟨op, a, b⟩, hx⟩ : ∃ x, xs[k]? = some x := ⟨_, hx⟩
      obtain ⟨i1, i2, i3, g, o, rfl, hg, q0, q1, q2⟩ := ((code_of HX.out).kept hm.out.2 (fun i hi h => by omega)).at_ k _ hx
      simp only at i1 i2 i3 q0 q1 q2
      have I := Lib.hid (And.intro i1 (And.intro i2 (And.intro i3 hx)))
      clear i1 i2 i3 hx
      have hB : w.heap.size ≤ wo.heap.size := hm.out.2.size
      have hlen : ((xs.take k).map (adj near)).length = k := by rw [List.length_map, List.length_take]; have := HN.out; omega
      cases near
      · have hW : Up wo (wo.alloc (.cells #[.int .i64 op, .int .i64 a, .int .i64 b] 24)) := (Fr.refl _ _).alloc _
        obtain ⟨g2, c2, w2, hrun, hown, hgrow⟩ := more (y := ⟨op, a, b⟩) (hm.out.1.kept hW (fun _ _ h => h) (fun _ _ _ h => h)) hlen h2 ⟨I.out.1, I.out.2.1, I.out.2.2.1⟩ (Nat.le_trans hB hW.size)
        have ht := take_succ_map (near := false) I.out.2.2.2
        rw [show adj false ⟨op, a, b⟩ = ⟨op, a, b⟩ from rfl] at ht
        rw [ht] at hown
        have e1 : (wo.alloc (.cells #[.int .i64 op, .int .i64 a, .int .i64 b] 24)).heap.size = wo.heap.size + 1 := by simp
        rw [e1] at hrun
        have HA := Lib.hid hrun
        have HOW := Lib.hid (And.intro hown hgrow)
        have HWU := Lib.hid hW
        clear hrun hown hgrow hlen hB hW e1 ht
        go_wp2_with (at_builtin; refine Lib.wpList_append_run _ rfl (.tmp 28) (.tmp 30) 25 25 rfl _ _ rfl rfl _ _ HA.out ?_)
        go_wp2_with fail
        refine ⟨⟨k + 1, by omega, by omega, by go_num, Lib.hid ⟨HOW.out.1, ?_⟩⟩, by simp [natOf]; omega⟩
        exact (hm.out.2.trans HWU.out (fun _ _ h => h.elim)).grown HOW.out.2 (fun b hb _ => (hm.out.1.lt b hb).1)
      · go_wp2_with fail
        refine (pick_any _ 44 _ (by decide) (by decide)).mono ?_
        rintro e w' ⟨rfl, rfl⟩
        have hz : IntKind.i64.wrap (op % 44 - 1) = op % 44 - 1 := IntWalk.i64_in _ (by omega)
        have hz0 : 0 ≤ op % 44 ∧ op % 44 < 44 := by omega
        have hW : Up wo (wo.alloc (.cells #[.int .i64 (op % 44 - 1), .int .i64 a, .int .i64 b] 24)) := (Fr.refl _ _).alloc _
        obtain ⟨g2, c2, w2, hrun, hown, hgrow⟩ := more (y := ⟨op % 44 - 1, a, b⟩) (hm.out.1.kept hW (fun _ _ h => h) (fun _ _ _ h => h)) hlen h2 ⟨⟨by simp only; omega, by simp only; omega⟩, I.out.2.1, I.out.2.2.1⟩ (Nat.le_trans hB hW.size)
        have ht := take_succ_map (near := true) I.out.2.2.2
        rw [show adj true ⟨op, a, b⟩ = ⟨op % 44 - 1, a, b⟩ from rfl] at ht
        rw [ht] at hown
        have e1 : (wo.alloc (.cells #[.int .i64 (op % 44 - 1), .int .i64 a, .int .i64 b] 24)).heap.size = wo.heap.size + 1 := by simp
        rw [e1] at hrun
        have HA := Lib.hid hrun
        have HOW := Lib.hid (And.intro hown hgrow)
        have HWU := Lib.hid hW
        clear hrun hown hgrow hlen hB hW e1 ht
        go_wp2_with (at_builtin; refine Lib.wpList_append_run _ rfl (.tmp 28) (.tmp 30) 25 25 rfl _ _ rfl rfl _ _ HA.out ?_)
        go_wp2_with fail
        refine ⟨⟨k + 1, by omega, by omega, by go_num, Lib.hid ⟨HOW.out.1, ?_⟩⟩, by simp [natOf]; omega⟩
        exact (hm.out.2.trans HWU.out (fun _ _ h => h.elim)).grown HOW.out.2 (fun b hb _ => (hm.out.1.lt b hb).1)
    · have hk3 : k = n ∨ (k < n ∧ k = 60) := by omega
      obtain ⟨A2, c2, hv, hp⟩ := hm.out.1.reads.parts
      have hlen : ((xs.take k).map (adj near)).length = k := by rw [List.length_map, List.length_take]; have := HN.out; omega
      rw [hlen] at hv
      subst hv
      have HP := Lib.hid hp
      have HL := Lib.hid hlen
      clear hp hlen
      rcases hk3 with hk3 | ⟨hk3, hk4⟩
      · have k1 : ¬ (k : Int) < (n : Int) := by omega
        clear hk3 h1
        go_wp2_with fail
        refine (known_any _).mono ?_
        rintro e w1 ⟨rfl, v1⟩
        have V1 := Lib.hid v1
        clear v1
        have T1 := Lib.hid ((T.out.kept' hm.out.2 (fun i hi h => by omega)).kept V1.out)
        have R1 := Lib.hid (range_kept (S := fun _ => False) (range_kept R.out hm.out.2 (fun h => by have := World.block_lt_of_cell? _ _ (R.out 0 _ rfl); simp at this; omega)) V1.out (fun h => h))
        go_wp2_with fail
        have hs := show_any (u1 := .string ⟨#[]⟩) (u2 := .slice none 0 0) (u3 := .int .i64 0) (u4 := .slice none 0 0) (w := w1) ((code_of HP.out).kept V1.out (fun _ _ h => h)) (by rw [HL.out]; omega) HP.out.le T1.out
        rw [HL.out] at hs
        refine hs.mono ?_
        rintro e w2 ⟨rfl, v2⟩
        have V2 := Lib.hid v2
        clear v2 hs
        obtain ⟨x, hx⟩ : ∃ x, x = bsv (showUpto ((xs.take k).map (adj near)) k) := ⟨_, rfl⟩
        have HXX := Lib.hid hx
        simp only [← hx]
        clear hx
        go_wp2_with fail
        have hs := rshow_any (u1 := .string ⟨#[]⟩) (u2 := .slice none 0 0) (u3 := .int .i64 0) (u4 := .slice none 0 0) (w := w2) (((code_of HP.out).kept V1.out (fun _ _ h => h)).kept V2.out (fun _ _ h => h)) (by rw [HL.out]; omega) HP.out.le (range_kept (S := fun _ => False) R1.out V2.out (fun h => h))
        rw [HL.out] at hs
        refine hs.mono ?_
        rintro e w3 ⟨rfl, v3⟩
        have V3 := Lib.hid v3
        clear v3 hs
        simp only [← HXX.out]
        go_wp2_with fail
        go_ret
        refine ⟨rfl, ?_⟩
        have F := ((hm.out.2.trans V1.out (fun _ _ h => h.elim)).trans V2.out (fun _ _ h => h.elim)).trans V3.out (fun _ _ h => h.elim)
        exact ⟨F.os, F.tape, F.output, F.size, fun i hi _ => F.block i hi (by omega)⟩
      · have k1 : (k : Int) < (n : Int) := by omega
        have k2 : ¬ (k : Int) < 60 := by omega
        clear hk3 hk4 h1
        go_wp2_with fail
        refine (known_any _).mono ?_
        rintro e w1 ⟨rfl, v1⟩
        have V1 := Lib.hid v1
        clear v1
        have T1 := Lib.hid ((T.out.kept' hm.out.2 (fun i hi h => by omega)).kept V1.out)
        have R1 := Lib.hid (range_kept (S := fun _ => False) (range_kept R.out hm.out.2 (fun h => by have := World.block_lt_of_cell? _ _ (R.out 0 _ rfl); simp at this; omega)) V1.out (fun h => h))
        go_wp2_with fail
        have hs := show_any (u1 := .string ⟨#[]⟩) (u2 := .slice none 0 0) (u3 := .int .i64 0) (u4 := .slice none 0 0) (w := w1) ((code_of HP.out).kept V1.out (fun _ _ h => h)) (by rw [HL.out]; omega) HP.out.le T1.out
        rw [HL.out] at hs
        refine hs.mono ?_
        rintro e w2 ⟨rfl, v2⟩
        have V2 := Lib.hid v2
        clear v2 hs
        obtain ⟨x, hx⟩ : ∃ x, x = bsv (showUpto ((xs.take k).map (adj near)) k) := ⟨_, rfl⟩
        have HXX := Lib.hid hx
        simp only [← hx]
        clear hx
        go_wp2_with fail
        have hs := rshow_any (u1 := .string ⟨#[]⟩) (u2 := .slice none 0 0) (u3 := .int .i64 0) (u4 := .slice none 0 0) (w := w2) (((code_of HP.out).kept V1.out (fun _ _ h => h)).kept V2.out (fun _ _ h => h)) (by rw [HL.out]; omega) HP.out.le (range_kept (S := fun _ => False) R1.out V2.out (fun h => h))
        rw [HL.out] at hs
        refine hs.mono ?_
        rintro e w3 ⟨rfl, v3⟩
        have V3 := Lib.hid v3
        clear v3 hs
        simp only [← HXX.out]
        go_wp2_with fail
        go_ret
        refine ⟨rfl, ?_⟩
        have F := ((hm.out.2.trans V1.out (fun _ _ h => h.elim)).trans V2.out (fun _ _ h => h.elim)).trans V3.out (fun _ _ h => h.elim)
        exact ⟨F.os, F.tape, F.output, F.size, fun i hi _ => F.block i hi (by omega)⟩
end Go.Proofs.YtomononppbjnnaaDoor
