/-
  The law's own 'types': the walk.
-/
import Derived.Test.YtjlljfeledapaaaDoorTypesA
import Derived.IntWalk
namespace Go.Proofs.YtjlljfeledapaaaDoor
open Go.RowKit

/-- At the head of a round: k types more than Base's. -/
structure TInv (w wr : World) (nb n k : Nat) (v : Value) (ts : List Typ) : Prop where
  up : Up w wr
  nlo : w.heap.size ≤ nb
  nbox : wr.heap[nb]? = some (.cells #[.int .i64 n] 3 (0, 0))
  own : OwnSl wr w.heap.size 25 5 (TypC wr (fun b => w.heap.size ≤ b ∧ b < wr.heap.size ∧ v.ownBlock ≠ some b)) v ts
  len : ts.length = 5 + k
  base : ts.take 5 = baseT
  named : ∀ x ∈ ts, Named x

theorem base_named : ∀ x ∈ baseT, Named x := by
  intro x hx
  have := (base_plain x hx).2.1
  refine ⟨by rw [this]; decide, fun j m hj => by rw [this] at hj; simp at hj⟩

theorem TInv.start {w w1 : World} {g c1 n : Nat} (hown : OwnSl w1 w.heap.size 25 5 (TypC w1 (fun b => w.heap.size ≤ b)) (.slice (some ⟨g, 0, none⟩) 5 c1) baseT) (u1 : Up w w1) :
    TInv w (w1.alloc (.cells #[.int .i64 n] 3)) w1.heap.size n 0 (.slice (some ⟨g, 0, none⟩) 5 c1) baseT := by
  refine ⟨u1.alloc _, u1.size, heap_alloc_new _ _, ?_, rfl, rfl, base_named⟩
  exact hown.kept (up_.alloc _) (fun _ _ h => h) (fun x hx cs hc => hc.plain (base_plain x hx).1 (base_plain x hx).2.1)

/-- append of one type to what 'types' has. -/
theorem app_typ {w wo w3 : World} {nb n k : Nat} {v : Value} {ts : List Typ} {xb tb : Nat} {xcs : Array Value} {kind elem : Int} {name : ByteArray} {vf vm : Value} {fs : List Fld} {ms : List Mth}
    (hT : TInv w wo nb n k v ts) (h : Tin wo w3 xb tb xcs kind name elem vf vm fs ms) (hk : k < 100) :
    ∃ g cap w', (Builtin.append_ #[27, 27] 27 #[v, .slice (some ⟨w3.heap.size, 0, none⟩) 1 1]).run Tryd.prog (w3.alloc (.cells #[.int .i64 kind, .string name, .int .i64 elem, vf, vm] 25)) = .ok (.slice (some ⟨g, 0, none⟩) (5 + k + 1) cap) w' ∧
      TInv w w' nb n (k + 1) (.slice (some ⟨g, 0, none⟩) (5 + k + 1) cap) (ts ++ [⟨kind, name, elem, fs, ms⟩]) := by
  obtain ⟨i, hi, hz, hz1, hz2⟩ := info_parts info_typ
  have s1 := hT.up.size
  have s2 := h.up.size
  have hvlt : ∀ b, v.ownBlock = some b → w.heap.size ≤ b ∧ b < wo.heap.size := hT.own.lt
  have hn : ∀ b, wo.heap.size ≤ b → v.ownBlock ≠ some b := fun b hb e => by have := (hvlt b e).2; omega
  have hfl : FldsAt w3 (fun b => w.heap.size ≤ b ∧ b < w3.heap.size ∧ v.ownBlock ≠ some b) vf fs :=
    h.fl.reads.wide (fun b hb => ⟨by have := hb.1; omega, (h.fl.lt b hb.2).2, hn b hb.1⟩) (fun _ _ _ h => h)
  have hml : MthsAt w3 (fun b => w.heap.size ≤ b ∧ b < w3.heap.size ∧ v.ownBlock ≠ some b) vm ms :=
    h.ml.reads.wide (fun b hb => ⟨by have := hb.1; omega, (h.ml.lt b hb.2).2, hn b hb.1⟩) (fun _ _ _ hc => hc.kept (up_ (w := w3)) (fun _ _ h => h) (fun b hb => ⟨by have := hb.1; omega, hb.2.1, hn b hb.1⟩))
  have hown : OwnSl w3 w.heap.size 25 5 (TypC w3 (fun b => w.heap.size ≤ b ∧ b < w3.heap.size ∧ v.ownBlock ≠ some b)) v ts :=
    hT.own.kept h.up (fun _ _ h => h) (fun _ _ _ hc => hc.kept h.up (fun _ _ h => h) (fun b hb => ⟨hb.1, by have := hb.2.1; omega, hb.2.2⟩))
  obtain ⟨g, cap, w', h1, h2, h3, h5⟩ := own_append (P := Tryd.prog) w3 w.heap.size 27 27 25 i _ 5 80 Tryd.underlying27 hi hz hz1 hz2 rfl (by decide) hown [⟨kind, name, elem, fs, ms⟩] [[.int .i64 kind, .string name, .int .i64 elem, vf, vm]]
    ⟨rfl, by simp, by intro j x cs hj hc; match j, hj, hc with | 0, hj, hc => simp at hj hc; subst hj hc; exact ⟨vf, vm, rfl, hfl, hml, h.nlen⟩⟩ #[.int .i64 kind, .string name, .int .i64 elem, vf, vm] rfl (5 + k) 1 (5 + k + 1) hT.len rfl rfl (by decide)
    (by
      intro u hu
      obtain ⟨A, c, rfl, _⟩ := hfl
      obtain ⟨A', c', rfl, _⟩ := hml
      simp at hu
      rcases hu with rfl | rfl | rfl | rfl | rfl <;> rfl) (by unfold maxLen; omega) (by omega) (by omega)
    (fun w' => TypC w' (fun b => w.heap.size ≤ b ∧ b < w3.heap.size ∧ v.ownBlock ≠ some b)) (fun w' hgr x _ cs hc => hc.kept (fr_grown hgr) (fun b hb e => hb.2.2 e) (fun _ h => h))
  have hsz := h3.size
  have f1 := fr_grown h3
  have hnl := heap_lt hT.nbox
  refine ⟨g, cap, w', h1, ⟨Fr.trans (Up.trans hT.up h.up) f1 (fun b hb he => by have := (hvlt b he).1; omega), hT.nlo, ?_, ?_, by rw [List.length_append, hT.len]; rfl, ?_, ?_⟩⟩
  · exact (f1.block nb (Nat.lt_of_lt_of_le hnl s2) (own_ne hT.own hT.nbox (by decide))).trans ((h.up.block nb hnl (fun h => h)).trans hT.nbox)
  · refine h2.kept (up_ (w := w')) (fun _ _ h => h) (fun x _ cs hc => hc.kept (up_ (w := w')) (fun _ _ h => h) (fun b hb => ⟨hb.1, by omega, fun e => ?_⟩))
    simp [Value.ownBlock] at e
    subst e
    rcases h5 with e | e
    · exact hb.2.2 e
    · omega
  · rw [List.take_append_of_le_length (by rw [hT.len]; omega)]; exact hT.base
  · intro x hx
    rcases List.mem_append.1 hx with hx | hx
    · exact hT.named x hx
    · simp at hx; subst hx; exact h.mn

/-- What 'types' answers. -/
def TypesDone (w : World) (e : Ending) (w' : World) : Prop :=
  ∃ (v : Value) (ts : List Typ), e = .returned v ∧ TypsAt w' (fun b => w.heap.size ≤ b) v ts ∧ Up w w' ∧ 5 ≤ ts.length ∧ ts.length ≤ 13 ∧ ts.take 5 = baseT ∧ ∀ x ∈ ts, Named x

theorem names_up {w w' : World} (h : Names w) (hu : Up w w') : Names w' := fun j hj => (hu.cell (p := ⟨0, j, none⟩) (World.block_lt_of_cell? w _ (h j hj)) (fun h => h)).trans (h j hj)

set_option maxRecDepth 100000 in
set_option maxHeartbeats 200000000 in
theorem types_any {w : World} {A : Option Addr} {c : Nat} {rs : List RawV} (hr : RawsP w (fun _ => True) A c rs) (hn : Names w) :
    Calls Tryd.prog 5 #[.slice A rs.length c] w (TypesDone w) := by
  have R := Lib.hid hr
  have hl := hr.le
  have hb := hr.big
  have N := Lib.hid hn
  clear hr hn
  go_enter Tryd.func5, Tryd.ntmps5
  go_wp2_with fail
  refine rbase_any.mono ?_
  rintro e w1 ⟨g, c1, rfl, _, hg, hown, u1⟩
  obtain ⟨n, hn⟩ : ∃ n, n = min rs.length 8 := ⟨_, rfl⟩
  have T0 := Lib.hid (TInv.start (n := n) hown u1)
  have hn8 : n ≤ 8 := by omega
  have hnr : n ≤ rs.length := by omega
  have hmin : min (rs.length : Int) 8 = (n : Int) := by omega
  have lnb : w1.heap.size < (w1.alloc (.cells #[.int .i64 n] 3)).heap.size := by simp
  clear hg hown u1 hn
  go_wp2_with fail
  generalize w1.alloc (.cells #[.int .i64 n] 3) = w2 at T0 lnb
  generalize w1.heap.size = nb at T0 lnb
  generalize hv0 : Value.slice (some ⟨g, 0, none⟩) 5 c1 = v0 at T0
  clear hmin hv0
  go_loopw [6, 3] (fun i vv wr => ∃ (k : Nat) (v : Value) (ts : List Typ), k ≤ n ∧ i = .int .i64 k ∧ vv = v ∧ Hid (TInv w wr nb n k v ts)) (fun i _ _ => n - (intOf i).toNat)
  case atStart => exact ⟨0, _, _, Nat.zero_le _, rfl, rfl, T0⟩
  case round =>
    obtain ⟨k, v, ts, hk, rfl, rfl, hT⟩ := hrel
    obtain ⟨wo, rfl⟩ : ∃ wo : World, wo = wr := ⟨_, rfl⟩
    have cn : wo.cell? ⟨nb, 0, none⟩ = some (.int .i64 n) := by rw [cell_of_row _ _ _ _ _ _ hT.out.nbox]; rfl
    by_cases hlt : k < n
    · obtain ⟨b, o, xcs, rfl, _, _, ⟨vf, vm, rfl, dk, de, dn, db, hf, hm⟩, _, hx⟩ := (RawsP.kept R.out hT.out.up (fun _ _ h => h) (fun _ h => h)).elem (show k < rs.length by omega)
      obtain ⟨Af, cf, rfl, qf⟩ := hf.parts
      obtain ⟨Am, cm, rfl, qm⟩ := hm.parts
      have x0 := hx 0 _ rfl
      have x1 := hx 1 _ rfl
      have x2 := hx 2 _ rfl
      have x3 := hx 3 _ rfl
      have x4 := hx 4 _ rfl
      have x5 := hx 5 _ rfl
      simp only [Nat.add_zero] at x0
      have F := Lib.hid qf
      have M := Lib.hid qm
      clear hx hf hm qf qm
      go_wp2_with fail
      obtain ⟨x, hx⟩ : ∃ x, x = rs[k] := ⟨_, rfl⟩
      rw [← hx] at dk de dn db F M
      rw [← hx]
      obtain ⟨w3, hw3, u3', nc⟩ := name_new wo 46 #[.int .i64 x.kind, .int .i64 x.elem, .int .i64 x.name, .slice Af x.fields.length cf, .slice Am x.methods.length cm, .int .i64 x.bad]
      have xb3 : w3.heap[wo.heap.size]? = some (.cells #[.int .i64 x.kind, .int .i64 x.elem, .int .i64 x.name, .slice Af x.fields.length cf, .slice Am x.methods.length cm, .int .i64 x.bad] 46 (0, 0)) := by rw [hw3]; exact heap_alloc_new _ _
      rw [← hw3]
      obtain ⟨j1, hj1, p1, _⟩ := pick_nat x.kind 3 (by decide) (by decide)
      obtain ⟨j2, hj2, p2, _⟩ := pick_nat x.name 3 (by decide) (by decide)
      obtain ⟨j3, hj3, p3, _⟩ := pick_nat (k : Int) 4 (by decide) (by decide)
      have P1 := Lib.hid (show ∀ w, Calls Tryd.prog 6 #[.int .i64 x.kind, .int .i64 3] w fun e w' => e = .returned (.int .i64 j1) ∧ w' = w from p1)
      have P2 := Lib.hid (show ∀ w, Calls Tryd.prog 6 #[.int .i64 x.name, .int .i64 3] w fun e w' => e = .returned (.int .i64 j2) ∧ w' = w from p2)
      have P3 := Lib.hid (show ∀ w, Calls Tryd.prog 6 #[.int .i64 k, .int .i64 4] w fun e w' => e = .returned (.int .i64 j3) ∧ w' = w from p3)
      have nn := names_up N.out (Up.trans hT.out.up u3')
      have n2 := nn j2 (by omega)
      have n3 := nn j3 (by omega)
      have y0 := nc 0 _ rfl
      have y2 := nc 2 _ rfl
      have hsz : (nm j2).size + (nm j3).size ≤ 9223372036854775807 := by have := nm_size j2; have := nm_size j3; omega
      have hsz3 : (nm j2 ++ nm j3).size ≤ 9223372036854775807 := by rw [ByteArray.size_append]; exact hsz
      have i2 : (j2 : Int) < 8 := by omega
      have i3 : (j3 : Int) < 8 := by omega
      have e1 : IntKind.i64.wrap (5 + (j1 : Int)) = 5 + (j1 : Int) := IntWalk.i64_in _ (by omega)
      have hsz2 : ¬ 9223372036854775807 < (nm j2).size + (nm j3).size := Nat.not_lt.2 hsz
      have U3 := Lib.hid u3'
      have T3 := Lib.hid ((Tin.start (kind := 5 + (j1 : Int)) u3' xb3 hsz3).over (Fr.drew up_))
      clear p1 p2 p3 nn nc hw3 u3' xb3 hx x0 x1 x2 x3 x4 x5 cn hsz hsz3
      go_upto_region 8 with fail
      go_cut [8] (fun s wc => s = .pointer (some ⟨w3.heap.size, 0, none⟩) ∧ Hid (Tin wo wc wo.heap.size w3.heap.size #[.int .i64 x.kind, .int .i64 x.elem, .int .i64 x.name, .slice Af x.fields.length cf, .slice Am x.methods.length cm, .int .i64 x.bad] (5 + (j1 : Int)) (nm j2 ++ nm j3) 0 (.slice none 0 0) (.slice none 0 0) [] []))
      case first => as_aux_lemma =>
        go_region_held3 (fun W' => W'.cell? ⟨wo.heap.size, 0, none⟩ = some (.int .i64 x.kind) ∧ W'.cell? ⟨wo.heap.size, 2, none⟩ = some (.int .i64 x.name) ∧ W'.cell? ⟨0, j2, none⟩ = some (.string (nm j2)) ∧ W'.cell? ⟨0, j3, none⟩ = some (.string (nm j3)))
          (first | exact ⟨y0, y2, n2, n3⟩ | go_keep)
          (first
            | (go_at_call 6; ((with_reducible refine (P1.out _).mono ?_); rintro e w' ⟨rfl, rfl⟩))
            | (go_at_call 6; ((with_reducible refine (P2.out _).mono ?_); rintro e w' ⟨rfl, rfl⟩))
            | (go_at_call 6; ((with_reducible refine (P3.out _).mono ?_); rintro e w' ⟨rfl, rfl⟩)))
        all_goals go_wp2_with fail
        all_goals go_meet
        all_goals exact ⟨rfl, T3⟩
      case rest => as_aux_lemma =>
        obtain ⟨rfl, hT1⟩ := hcut
        clear T3
        have O : ∃ x1, OneIs n x.elem x1 := one_any n hn8 x.elem de.1 de.2
        obtain ⟨x1, hx1⟩ := O
        have X1 := Lib.hid hx1
        obtain ⟨xcs, hxcs⟩ : ∃ xcs, xcs = (#[.int .i64 x.kind, .int .i64 x.elem, .int .i64 x.name, .slice Af x.fields.length cf, .slice Am x.methods.length cm, .int .i64 x.bad] : Array Value) := ⟨_, rfl⟩
        have Xc := Lib.hid (show xcs[0]? = some (.int .i64 x.kind) ∧ xcs[1]? = some (.int .i64 x.elem) ∧ xcs[2]? = some (.int .i64 x.name) ∧ xcs[3]? = some (.slice Af x.fields.length cf) ∧ xcs[4]? = some (.slice Am x.methods.length cm) ∧ xcs[5]? = some (.int .i64 x.bad) by rw [hxcs]; exact ⟨rfl, rfl, rfl, rfl, rfl, rfl⟩)
        rw [← hxcs] at hT1
        clear hx1 hxcs y0 y2 n2 n3 i2 i3 e1 hsz2 P1 P2 P3
        generalize w3.heap.size = tb at hT1 ⊢
        generalize nm j2 ++ nm j3 = name at hT1
        have t0 := hT1.out.tcell 0
        have t1 := hT1.out.tcell 1
        have f1 := hT1.out.tfree 1
        simp only [List.getElem?_toArray, List.getElem?_cons_zero, List.getElem?_cons_succ] at t0 t1
        go_upto_if 44 with fail
        go_cut [44] (fun _ wd => ∃ (name : ByteArray) (elem : Int), Hid (Tin wo wd wo.heap.size tb xcs (5 + (j1 : Int)) name elem (.slice none 0 0) (.slice none 0 0) [] []))
        case first => as_aux_lemma =>
          by_cases h6 : j1 = 1
          · subst h6
            have hT2 := Lib.hid (hT1.out.put 1 (.string { data := #[] }) (5 + ((1 : Nat) : Int)) 0 { data := #[] } rfl (by decide))
            have s2 := hT2.out.tcell 2
            have g2 := hT2.out.tfree 2
            have q1 := (hT2.out.xcell 1).trans Xc.out.2.1
            have cn2 : (wc.setCell ⟨tb, 1, none⟩ (.string { data := #[] })).cell? ⟨nb, 0, none⟩ = some (.int .i64 n) := by
              have hnl := heap_lt hT.out.nbox
              rw [hT2.out.up.cell (p := ⟨nb, 0, none⟩) hnl (fun h => h), cell_of_row _ _ _ _ _ _ hT.out.nbox]; rfl
            have hT3 := Lib.hid (hT2.out.put 2 (.int .i64 x1) (5 + ((1 : Nat) : Int)) x1 { data := #[] } rfl (by decide))
            simp only [List.getElem?_toArray, List.getElem?_cons_zero, List.getElem?_cons_succ] at s2
            have Cn2 := Lib.hid cn2
            clear cn2
            go_wp2_with fail
            refine (X1.out _ nb Cn2.out).mono ?_
            rintro e w' ⟨rfl, rfl⟩
            go_wp2_with fail
            go_meet
            exact ⟨_, _, hT3⟩
          · have b6 : ((5 + (j1 : Int)) == 6) = false := beq_eq_false_iff_ne.2 (by omega)
            go_wp2_with fail
            go_meet
            exact ⟨_, _, hT1⟩
        case rest => as_aux_lemma =>
          obtain ⟨name, elem, hT2⟩ := hcut
          clear t0 t1 f1 hT1 X1
          go_upto_block 2 with fail
          go_cut [9] (fun _ we => ∃ (vf : Value) (fs : List Fld), Hid (Tin wo we wo.heap.size tb xcs (5 + (j1 : Int)) name elem vf (.slice none 0 0) fs []))
          case first => as_aux_lemma =>
            go_wp2_with fail
            go_loopw [9] (fun i wr => ∃ (q : Nat) (vf : Value) (fs : List Fld), q ≤ 4 ∧ q ≤ x.fields.length ∧ i = .int .i64 q ∧ fs.length = q ∧ Hid (Tin wo wr wo.heap.size tb xcs (5 + (j1 : Int)) name elem vf (.slice none 0 0) fs [])) (fun i _ => 4 - (intOf i).toNat)
            case atStart => exact ⟨0, _, _, by decide, Nat.zero_le _, rfl, rfl, hT2⟩
            case round =>
              obtain ⟨q, vf, fs, hq4, hqx, rfl, hfl, hT3⟩ := hrel
              have t0 := hT3.out.tcell 0
              have t3 := hT3.out.tcell 3
              have y3 := (hT3.out.xcell 3).trans Xc.out.2.2.2.1
              simp only [List.getElem?_toArray, List.getElem?_cons_zero, List.getElem?_cons_succ] at t0 t3
              have hcf := F.out.le
              have hcb := F.out.big
              have Hfl := Lib.hid hfl
              clear hfl
              by_cases c1 : q < x.fields.length
              · by_cases c2 : q < 4
                · by_cases c3 : j1 = 0
                  · subst c3
                    obtain ⟨b2, o2, y, rfl, wy, cyo⟩ := F.out.intB c1
                    have cy := (hT3.out.up.cell (p := ⟨b2, o2 + q, none⟩) (World.block_lt_of_cell? wo _ cyo) (fun h => h)).trans cyo
                    obtain ⟨j4, hj4, p4, _⟩ := pick_nat y 2 (by decide) (by decide)
                    obtain ⟨j5, hj5, p5, _⟩ := pick_nat (q : Int) 4 (by decide) (by decide)
                    obtain ⟨x2, hx2⟩ := one_any n hn8 (y.tdiv 2) (wide_half wy).1 (wide_half wy).2
                    have P4 := Lib.hid (show ∀ w, Calls Tryd.prog 6 #[.int .i64 y, .int .i64 2] w fun e w' => e = .returned (.int .i64 j4) ∧ w' = w from p4)
                    have P5 := Lib.hid (show ∀ w, Calls Tryd.prog 6 #[.int .i64 q, .int .i64 4] w fun e w' => e = .returned (.int .i64 j5) ∧ w' = w from p5)
                    have X2 := Lib.hid hx2
                    have nn := names_up N.out (Up.trans hT.out.up hT3.out.up)
                    have n4 := nn (4 + j4) (by omega)
                    have n5 := nn j5 (by omega)
                    have hnl := heap_lt hT.out.nbox
                    have cn : wr.cell? ⟨nb, 0, none⟩ = some (.int .i64 n) := by rw [hT3.out.up.cell (p := ⟨nb, 0, none⟩) hnl (fun h => h), cell_of_row _ _ _ _ _ _ hT.out.nbox]; rfl
                    have i4 : (4 + (j4 : Int)) < 8 := by omega
                    have i4' : (4 + (j4 : Int)).toNat = 4 + j4 := by omega
                    have i4z : 0 ≤ 4 + (j4 : Int) := by omega
                    have i5 : (j5 : Int) < 8 := by omega
                    have e4 : IntKind.i64.wrap (4 + (j4 : Int)) = 4 + (j4 : Int) := IntWalk.i64_in _ (by omega)
                    have e5 : IntKind.i64.wrap (y.tdiv 2) = y.tdiv 2 := IntWalk.i64_in _ (wide_half wy)
                    have hsz : (nm (4 + j4)).size + (nm j5).size ≤ 9223372036854775807 := by have := nm_size (4 + j4); have := nm_size j5; omega
                    have hsz2 : ¬ 9223372036854775807 < (nm (4 + j4)).size + (nm j5).size := Nat.not_lt.2 hsz
                    have hsz3 : (nm (4 + j4) ++ nm j5).size ≤ 9223372036854775807 := by rw [ByteArray.size_append]; exact hsz
                    have HT4 := Lib.hid (hT3.out.over (Fr.drew up_))
                    obtain ⟨g4, cap4, w4, hrun, ho4, hgr4, hg4⟩ := app_field (wr := wo) HT4.out.fl ⟨nm (4 + j4) ++ nm j5, x2⟩ hsz3 q Hfl.out (by omega) HT4.out.up.size
                    have HA := Lib.hid hrun
                    have HN := Lib.hid (HT4.out.addField _ ho4 hgr4 hg4)
                    have h1 := fr_grown hgr4
                    have hlo := hT.out.up.size
                    have z2 := World.block_lt_of_cell? wo _ cyo
                    have hf0 : ∀ b, vf.ownBlock = some b → wo.heap.size ≤ b := fun b hb => (HT4.out.fl.lt b hb).1
                    have s3 := (h1.cell (p := ⟨tb, 3, none⟩) HT4.out.tlt HT4.out.fne).trans (HT4.out.tcell 3)
                    have g3 := (h1.frozen (p := ⟨tb, 3, none⟩) HT4.out.tlt HT4.out.fne).trans (HT4.out.tfree 3)
                    have y3b := (h1.cell (p := ⟨wo.heap.size, 3, none⟩) HT4.out.xlt HT4.out.fnx).trans y3
                    have cyb := (h1.cell (p := ⟨b2, o2 + q, none⟩) (Nat.lt_of_lt_of_le z2 HT4.out.up.size) (fun e => by have : wo.heap.size ≤ b2 := hf0 _ e; have : b2 < wo.heap.size := z2; omega)).trans cy
                    have n4b := (h1.cell (p := ⟨0, 4 + j4, none⟩) (World.block_lt_of_cell? wr _ n4) (fun e => by have : wo.heap.size ≤ 0 := hf0 _ e; omega)).trans n4
                    have n5b := (h1.cell (p := ⟨0, j5, none⟩) (World.block_lt_of_cell? wr _ n5) (fun e => by have : wo.heap.size ≤ 0 := hf0 _ e; omega)).trans n5
                    have cnb := (h1.cell (p := ⟨nb, 0, none⟩) (World.block_lt_of_cell? wr _ cn) (fun e => by have : wo.heap.size ≤ nb := hf0 _ e; omega)).trans cn
                    have tlo := HT4.out.tlo
                    have far : ∀ (p : Addr) (u : Value), p.block < wo.heap.size → (w4.setCell ⟨tb, 3, none⟩ u).cell? p = w4.cell? p := fun p u hp => World.cell?_setCell_other _ _ _ _ (fun e => by subst e; simp at hp; omega)
                    have y3c := fun u => (World.cell?_setCell_other w4 ⟨tb, 3, none⟩ ⟨wo.heap.size, 3, none⟩ u (fun e => HT4.out.xne (by injection e with e1 _; exact e1.symm))).trans y3b
                    have cyc := fun u => (far ⟨b2, o2 + q, none⟩ u z2).trans cyb
                    have n4c := fun u => (far ⟨0, 4 + j4, none⟩ u (by have := hT.out.nlo; simp; omega)).trans n4b
                    have n5c := fun u => (far ⟨0, j5, none⟩ u (by have := hT.out.nlo; simp; omega)).trans n5b
                    have cnc := fun u => (far ⟨nb, 0, none⟩ u hnl).trans cnb
                    have Hb := Lib.hid (And.intro y3b (And.intro cyb (And.intro n4b (And.intro n5b cnb))))
                    have Hc := Lib.hid (fun u => And.intro (y3c u) (And.intro (cyc u) (And.intro (n4c u) (And.intro (n5c u) (cnc u)))))
                    have Ha := Lib.hid (And.intro y3 (And.intro cy (And.intro n4 (And.intro n5 cn))))
                    have Hal := Lib.hid (show ∀ o, ((wr.alloc o).drew).cell? ⟨wo.heap.size, 3, none⟩ = some (.slice (some ⟨b2, o2, none⟩) x.fields.length cf) ∧ ((wr.alloc o).drew).cell? ⟨b2, o2 + q, none⟩ = some (.int .i64 y) ∧ ((wr.alloc o).drew).cell? ⟨0, 4 + j4, none⟩ = some (.string (nm (4 + j4))) ∧ ((wr.alloc o).drew).cell? ⟨0, j5, none⟩ = some (.string (nm j5)) ∧ ((wr.alloc o).drew).cell? ⟨nb, 0, none⟩ = some (.int .i64 n) from
                      fun o => ⟨(World.cell?_alloc_lt _ _ _ (World.block_lt_of_cell? wr _ y3)).trans y3, (World.cell?_alloc_lt _ _ _ (World.block_lt_of_cell? wr _ cy)).trans cy, (World.cell?_alloc_lt _ _ _ (World.block_lt_of_cell? wr _ n4)).trans n4, (World.cell?_alloc_lt _ _ _ (World.block_lt_of_cell? wr _ n5)).trans n5, (World.cell?_alloc_lt _ _ _ (World.block_lt_of_cell? wr _ cn)).trans cn⟩)
                    simp only [List.getElem?_toArray, List.getElem?_cons_zero, List.getElem?_cons_succ] at s3
                    have t3al := (World.cell?_alloc_lt wr (.cells #[.string (nm (4 + j4) ++ nm j5), .int .i64 x2] 49) ⟨tb, 3, none⟩ HT4.out.tlt).trans t3
                    have HA2 := Lib.hid (show (Builtin.append_ #[22, 22] 22 #[vf, .slice (some ⟨wr.heap.size, 0, none⟩) 1 1]).run Tryd.prog ((wr.alloc (.cells #[.string (nm (4 + j4) ++ nm j5), .int .i64 x2] 49)).drew) = .ok (.slice (some ⟨g4, 0, none⟩) (q + 1) cap4) w4 from hrun)
                    clear p4 p5 hx2 nn hnl hsz hsz3 hrun ho4 hgr4 hg4 h1 wy HA y3b cyb n4b n5b cnb y3c cyc n4c n5c cnc far hlo z2 hf0 tlo cyo HT4
                    go_wp2_with fail
                    refine wp_region_held_drew (S := (fun W' => W'.cell? ⟨wo.heap.size, 3, none⟩ = some (.slice (some ⟨b2, o2, none⟩) x.fields.length cf) ∧ W'.cell? ⟨b2, o2 + q, none⟩ = some (.int .i64 y) ∧ W'.cell? ⟨0, 4 + j4, none⟩ = some (.string (nm (4 + j4))) ∧ W'.cell? ⟨0, j5, none⟩ = some (.string (nm j5)) ∧ W'.cell? ⟨nb, 0, none⟩ = some (.int .i64 n))) (by kernel_rfl) (by exact Ha.out) (fun hHeld => ?_)
                    refine held_take (i := 0) (d := some 67) (v := ?_) rfl rfl (by kernel_rfl) (by kernel_rfl) (by kernel_rfl) (fun _ _ _ h => h) (by rfl) ?_ (by assumption) ?_
                    rotate_left 1
                    focus (intro w hSw; (try dsimp only at hSw); go_simp; first | done | with_reducible rfl)
                    simp only [Act.put, List.setIfInBounds_toArray, List.set_cons_zero, List.set_cons_succ]
                    refine held_take (i := 2) (d := some 69) (v := ?_) rfl rfl (by kernel_rfl) (by kernel_rfl) (by kernel_rfl) (fun _ _ _ h => h) (by rfl) ?_ (by assumption) ?_
                    rotate_left 1
                    focus (intro w hSw; (try dsimp only at hSw); go_simp; first | done | with_reducible rfl)
                    simp only [Act.put, List.setIfInBounds_toArray, List.set_cons_zero, List.set_cons_succ]
                    refine held_take (i := 3) (d := some 70) (v := ?_) rfl rfl (by kernel_rfl) (by kernel_rfl) (by kernel_rfl) (fun _ _ _ h => h) (by rfl) ?_ (by assumption) ?_
                    rotate_left 1
                    focus (intro w hSw; (try dsimp only at hSw); go_simp; first | done | with_reducible rfl)
                    simp only [Act.put, List.setIfInBounds_toArray, List.set_cons_zero, List.set_cons_succ]
                    refine held_take (i := 4) (d := some 71) (v := ?_) rfl rfl (by kernel_rfl) (by kernel_rfl) (by kernel_rfl) (fun _ _ _ h => h) (by rfl) ?_ (by assumption) ?_
                    rotate_left 1
                    focus (intro w hSw; (try dsimp only at hSw); go_simp; first | done | with_reducible rfl)
                    simp only [Act.put, List.setIfInBounds_toArray, List.set_cons_zero, List.set_cons_succ]
                    refine held_take (i := 5) (d := some 72) (v := ?_) rfl rfl (by kernel_rfl) (by kernel_rfl) (by kernel_rfl) (fun _ _ _ h => h) (by rfl) ?_ (by assumption) ?_
                    rotate_left 1
                    focus (intro w hSw; (try dsimp only at hSw); go_simp; first | done | with_reducible rfl)
                    simp only [Act.put, List.setIfInBounds_toArray, List.set_cons_zero, List.set_cons_succ]
                    refine held_take (i := 6) (d := some 73) (v := ?_) rfl rfl (by kernel_rfl) (by kernel_rfl) (by kernel_rfl) (fun _ _ _ h => h) (by rfl) ?_ (by assumption) ?_
                    rotate_left 1
                    focus (intro w hSw; (try dsimp only at hSw); go_simp; first | done | with_reducible rfl)
                    simp only [Act.put, List.setIfInBounds_toArray, List.set_cons_zero, List.set_cons_succ]
                    refine held_take (i := 11) (d := some 78) (v := ?_) rfl rfl (by kernel_rfl) (by kernel_rfl) (by kernel_rfl) (fun _ _ _ h => h) (by rfl) ?_ (by assumption) ?_
                    rotate_left 1
                    focus (intro w hSw; (try dsimp only at hSw); go_simp; first | done | with_reducible rfl)
                    simp only [Act.put, List.setIfInBounds_toArray, List.set_cons_zero, List.set_cons_succ]
                    refine held_take (i := 16) (d := some 83) (v := ?_) rfl rfl (by kernel_rfl) (by kernel_rfl) (by kernel_rfl) (fun _ _ _ h => h) (by rfl) ?_ (by assumption) ?_
                    rotate_left 1
                    focus (intro w hSw; (try dsimp only at hSw); go_simp; first | done | with_reducible rfl)
                    simp only [Act.put, List.setIfInBounds_toArray, List.set_cons_zero, List.set_cons_succ]
                    refine held_take (i := 17) (d := some 84) (v := ?_) rfl rfl (by kernel_rfl) (by kernel_rfl) (by kernel_rfl) (fun _ _ _ h => h) (by rfl) ?_ (by assumption) ?_
                    rotate_left 1
                    focus (intro w hSw; (try dsimp only at hSw); go_simp; first | done | with_reducible rfl)
                    simp only [Act.put, List.setIfInBounds_toArray, List.set_cons_zero, List.set_cons_succ]
                    refine held_take (i := 18) (d := some 85) (v := ?_) rfl rfl (by kernel_rfl) (by kernel_rfl) (by kernel_rfl) (fun _ _ _ h => h) (by rfl) ?_ (by assumption) ?_
                    rotate_left 1
                    focus (intro w hSw; (try dsimp only at hSw); go_simp; first | done | with_reducible rfl)
                    simp only [Act.put, List.setIfInBounds_toArray, List.set_cons_zero, List.set_cons_succ]
                    refine held_take (i := 19) (d := some 86) (v := ?_) rfl rfl (by kernel_rfl) (by kernel_rfl) (by kernel_rfl) (fun _ _ _ h => h) (by rfl) ?_ (by assumption) ?_
                    rotate_left 1
                    focus (intro w hSw; (try dsimp only at hSw); go_simp; first | done | with_reducible rfl)
                    simp only [Act.put, List.setIfInBounds_toArray, List.set_cons_zero, List.set_cons_succ]
                    refine held_take (i := 20) (d := some 87) (v := ?_) rfl rfl (by kernel_rfl) (by kernel_rfl) (by kernel_rfl) (fun _ _ _ h => h) (by rfl) ?_ (by assumption) ?_
                    rotate_left 1
                    focus (intro w hSw; (try dsimp only at hSw); go_simp; first | done | with_reducible rfl)
                    simp only [Act.put, List.setIfInBounds_toArray, List.set_cons_zero, List.set_cons_succ]
                    refine held_take (i := 21) (d := some 88) (v := ?_) rfl rfl (by kernel_rfl) (by kernel_rfl) (by kernel_rfl) (fun _ _ _ h => h) (by rfl) ?_ (by assumption) ?_
                    rotate_left 1
                    focus (intro w hSw; (try dsimp only at hSw); go_simp; first | done | with_reducible rfl)
                    simp only [Act.put, List.setIfInBounds_toArray, List.set_cons_zero, List.set_cons_succ]
                    refine held_take (i := 22) (d := some 89) (v := ?_) rfl rfl (by kernel_rfl) (by kernel_rfl) (by kernel_rfl) (fun _ _ _ h => h) (by rfl) ?_ (by assumption) ?_
                    rotate_left 1
                    focus (intro w hSw; (try dsimp only at hSw); go_simp; first | done | with_reducible rfl)
                    simp only [Act.put, List.setIfInBounds_toArray, List.set_cons_zero, List.set_cons_succ]
                    refine wpAnyH_ready (rs := [1, 7]) (by kernel_rfl) (by simp) ?_
                    refine (AllReadyH.cons (o := _) rfl (fun K hK => ?_) (AllReadyH.cons (o := _) rfl (fun K hK => ?_) AllReadyH.nil))
                    · go_simp
                      refine hK.out _ _ (by first | exact Ha.out | exact Hal.out _) (fun hHeld => ?_)
                      clear hK K
                      refine wpAnyH_ready (rs := [7]) (by kernel_rfl) (by simp) ?_
                      refine (AllReadyH.cons (o := _) rfl (fun K hK => ?_) AllReadyH.nil)
                      go_simp
                      refine (P4.out _).mono ?_
                      rintro e w' ⟨rfl, rfl⟩
                      go_simp
                      refine hK.out _ _ (by exact Ha.out) (fun hHeld => ?_)
                      clear hK K
                      refine held_take (i := 8) (d := some 75) (v := ?_) rfl rfl (by kernel_rfl) (by kernel_rfl) (by kernel_rfl) (fun _ _ _ h => h) (by rfl) ?_ (by assumption) ?_
                      rotate_left 1
                      focus (intro w hSw; (try dsimp only at hSw); go_simp; first | done | with_reducible rfl)
                      simp only [Act.put, List.setIfInBounds_toArray, List.set_cons_zero, List.set_cons_succ]
                      refine held_take (i := 9) (d := some 76) (v := ?_) rfl rfl (by kernel_rfl) (by kernel_rfl) (by kernel_rfl) (fun _ _ _ h => h) (by rfl) ?_ (by assumption) ?_
                      rotate_left 1
                      focus (intro w hSw; (try dsimp only at hSw); go_simp; first | done | with_reducible rfl)
                      simp only [Act.put, List.setIfInBounds_toArray, List.set_cons_zero, List.set_cons_succ]
                      refine held_take (i := 10) (d := some 77) (v := ?_) rfl rfl (by kernel_rfl) (by kernel_rfl) (by kernel_rfl) (fun _ _ _ h => h) (by rfl) ?_ (by assumption) ?_
                      rotate_left 1
                      focus (intro w hSw; (try dsimp only at hSw); go_simp; first | done | with_reducible rfl)
                      simp only [Act.put, List.setIfInBounds_toArray, List.set_cons_zero, List.set_cons_succ]
                      refine wpAnyH_ready (rs := [12]) (by kernel_rfl) (by simp) ?_
                      refine (AllReadyH.cons (o := _) rfl (fun K hK => ?_) AllReadyH.nil)
                      go_simp
                      refine (P5.out _).mono ?_
                      rintro e w' ⟨rfl, rfl⟩
                      go_simp
                      refine hK.out _ _ (by exact Ha.out) (fun hHeld => ?_)
                      clear hK K
                      refine held_take (i := 13) (d := some 80) (v := ?_) rfl rfl (by kernel_rfl) (by kernel_rfl) (by kernel_rfl) (fun _ _ _ h => h) (by rfl) ?_ (by assumption) ?_
                      rotate_left 1
                      focus (intro w hSw; (try dsimp only at hSw); go_simp; first | done | with_reducible rfl)
                      simp only [Act.put, List.setIfInBounds_toArray, List.set_cons_zero, List.set_cons_succ]
                      refine held_take (i := 14) (d := some 81) (v := ?_) rfl rfl (by kernel_rfl) (by kernel_rfl) (by kernel_rfl) (fun _ _ _ h => h) (by rfl) ?_ (by assumption) ?_
                      rotate_left 1
                      focus (intro w hSw; (try dsimp only at hSw); go_simp; first | done | with_reducible rfl)
                      simp only [Act.put, List.setIfInBounds_toArray, List.set_cons_zero, List.set_cons_succ]
                      refine held_take (i := 15) (d := some 82) (v := ?_) rfl rfl (by kernel_rfl) (by kernel_rfl) (by kernel_rfl) (fun _ _ _ h => h) (by rfl) ?_ (by assumption) ?_
                      rotate_left 1
                      focus (intro w hSw; (try dsimp only at hSw); go_simp; first | done | with_reducible rfl)
                      simp only [Act.put, List.setIfInBounds_toArray, List.set_cons_zero, List.set_cons_succ]
                      refine wpAnyH_ready (rs := [23]) (by kernel_rfl) (by simp) ?_
                      refine (AllReadyH.cons (o := _) rfl (fun K hK => ?_) AllReadyH.nil)
                      go_simp
                      refine (X2.out _ nb (show wr.drew.cell? ⟨nb, 0, none⟩ = some (.int .i64 n) from cn)).mono ?_
                      rintro e w' ⟨rfl, rfl⟩
                      go_simp
                      refine hK.out _ _ (by exact Ha.out) (fun hHeld => ?_)
                      clear hK K
                      refine held_take (i := 24) (d := some 91) (v := ?_) rfl rfl (by kernel_rfl) (by kernel_rfl) (by kernel_rfl) (fun _ _ _ h => h) (by rfl) ?_ (by assumption) ?_
                      rotate_left 1
                      focus (intro w hSw; (try dsimp only at hSw); go_simp; first | done | with_reducible rfl)
                      simp only [Act.put, List.setIfInBounds_toArray, List.set_cons_zero, List.set_cons_succ]
                      refine wpAnyH_ready (rs := [25]) (by kernel_rfl) (by simp) ?_
                      refine (AllReadyH.cons (o := _) rfl (fun K hK => ?_) AllReadyH.nil)
                      go_simp
                      refine hK.out _ _ (by exact Hal.out _) (fun hHeld => ?_)
                      clear hK K
                      refine wpAnyH_ready (rs := [26]) (by kernel_rfl) (by simp) ?_
                      refine (AllReadyH.cons (o := _) rfl (fun K hK => ?_) AllReadyH.nil)
                      refine step_append_run rfl (.tmp 68) (.tmp 92) 22 rfl rfl rfl HA2.out ?_
                      go_simp
                      refine hK.out _ _ (by exact Hb.out) (fun hHeld => ?_)
                      clear hK K
                      refine held_take (i := 27) (d := some 94) (v := ?_) rfl rfl (by kernel_rfl) (by kernel_rfl) (by kernel_rfl) (fun _ _ _ h => h) (by rfl) ?_ (by assumption) ?_
                      rotate_left 1
                      focus (intro w hSw; (try dsimp only at hSw); go_simp; first | done | with_reducible rfl)
                      simp only [Act.put, List.setIfInBounds_toArray, List.set_cons_zero, List.set_cons_succ]
                      refine wpAnyH_ready (rs := [28]) (by kernel_rfl) (by simp) ?_
                      refine (AllReadyH.cons (o := _) rfl (fun K hK => ?_) AllReadyH.nil)
                      go_simp
                      refine hK.out _ _ (by exact Hc.out _) (fun hHeld => ?_)
                      clear hK K
                      refine wpAnyH_done (by kernel_rfl) ?_ _
                      go_wp2_with fail
                      go_roundw
                      case rel => exact ⟨q + 1, _, _, by omega, by omega, by go_num, by rw [List.length_append, Hfl.out]; rfl, HN⟩
                      case measure => simp [intOf]; omega
                    · go_simp
                      refine (P4.out _).mono ?_
                      rintro e w' ⟨rfl, rfl⟩
                      go_simp
                      refine hK.out _ _ (by exact Ha.out) (fun hHeld => ?_)
                      clear hK K
                      refine held_take (i := 8) (d := some 75) (v := ?_) rfl rfl (by kernel_rfl) (by kernel_rfl) (by kernel_rfl) (fun _ _ _ h => h) (by rfl) ?_ (by assumption) ?_
                      rotate_left 1
                      focus (intro w hSw; (try dsimp only at hSw); go_simp; first | done | with_reducible rfl)
                      simp only [Act.put, List.setIfInBounds_toArray, List.set_cons_zero, List.set_cons_succ]
                      refine held_take (i := 9) (d := some 76) (v := ?_) rfl rfl (by kernel_rfl) (by kernel_rfl) (by kernel_rfl) (fun _ _ _ h => h) (by rfl) ?_ (by assumption) ?_
                      rotate_left 1
                      focus (intro w hSw; (try dsimp only at hSw); go_simp; first | done | with_reducible rfl)
                      simp only [Act.put, List.setIfInBounds_toArray, List.set_cons_zero, List.set_cons_succ]
                      refine held_take (i := 10) (d := some 77) (v := ?_) rfl rfl (by kernel_rfl) (by kernel_rfl) (by kernel_rfl) (fun _ _ _ h => h) (by rfl) ?_ (by assumption) ?_
                      rotate_left 1
                      focus (intro w hSw; (try dsimp only at hSw); go_simp; first | done | with_reducible rfl)
                      simp only [Act.put, List.setIfInBounds_toArray, List.set_cons_zero, List.set_cons_succ]
                      refine wpAnyH_ready (rs := [1, 12]) (by kernel_rfl) (by simp) ?_
                      refine (AllReadyH.cons (o := _) rfl (fun K hK => ?_) (AllReadyH.cons (o := _) rfl (fun K hK => ?_) AllReadyH.nil))
                      · go_simp
                        refine hK.out _ _ (by first | exact Ha.out | exact Hal.out _) (fun hHeld => ?_)
                        clear hK K
                        refine wpAnyH_ready (rs := [12]) (by kernel_rfl) (by simp) ?_
                        refine (AllReadyH.cons (o := _) rfl (fun K hK => ?_) AllReadyH.nil)
                        go_simp
                        refine (P5.out _).mono ?_
                        rintro e w' ⟨rfl, rfl⟩
                        go_simp
                        refine hK.out _ _ (by exact Ha.out) (fun hHeld => ?_)
                        clear hK K
                        refine held_take (i := 13) (d := some 80) (v := ?_) rfl rfl (by kernel_rfl) (by kernel_rfl) (by kernel_rfl) (fun _ _ _ h => h) (by rfl) ?_ (by assumption) ?_
                        rotate_left 1
                        focus (intro w hSw; (try dsimp only at hSw); go_simp; first | done | with_reducible rfl)
                        simp only [Act.put, List.setIfInBounds_toArray, List.set_cons_zero, List.set_cons_succ]
                        refine held_take (i := 14) (d := some 81) (v := ?_) rfl rfl (by kernel_rfl) (by kernel_rfl) (by kernel_rfl) (fun _ _ _ h => h) (by rfl) ?_ (by assumption) ?_
                        rotate_left 1
                        focus (intro w hSw; (try dsimp only at hSw); go_simp; first | done | with_reducible rfl)
                        simp only [Act.put, List.setIfInBounds_toArray, List.set_cons_zero, List.set_cons_succ]
                        refine held_take (i := 15) (d := some 82) (v := ?_) rfl rfl (by kernel_rfl) (by kernel_rfl) (by kernel_rfl) (fun _ _ _ h => h) (by rfl) ?_ (by assumption) ?_
                        rotate_left 1
                        focus (intro w hSw; (try dsimp only at hSw); go_simp; first | done | with_reducible rfl)
                        simp only [Act.put, List.setIfInBounds_toArray, List.set_cons_zero, List.set_cons_succ]
                        refine wpAnyH_ready (rs := [23]) (by kernel_rfl) (by simp) ?_
                        refine (AllReadyH.cons (o := _) rfl (fun K hK => ?_) AllReadyH.nil)
                        go_simp
                        refine (X2.out _ nb (show wr.drew.cell? ⟨nb, 0, none⟩ = some (.int .i64 n) from cn)).mono ?_
                        rintro e w' ⟨rfl, rfl⟩
                        go_simp
                        refine hK.out _ _ (by exact Ha.out) (fun hHeld => ?_)
                        clear hK K
                        refine held_take (i := 24) (d := some 91) (v := ?_) rfl rfl (by kernel_rfl) (by kernel_rfl) (by kernel_rfl) (fun _ _ _ h => h) (by rfl) ?_ (by assumption) ?_
                        rotate_left 1
                        focus (intro w hSw; (try dsimp only at hSw); go_simp; first | done | with_reducible rfl)
                        simp only [Act.put, List.setIfInBounds_toArray, List.set_cons_zero, List.set_cons_succ]
                        refine wpAnyH_ready (rs := [25]) (by kernel_rfl) (by simp) ?_
                        refine (AllReadyH.cons (o := _) rfl (fun K hK => ?_) AllReadyH.nil)
                        go_simp
                        refine hK.out _ _ (by exact Hal.out _) (fun hHeld => ?_)
                        clear hK K
                        refine wpAnyH_ready (rs := [26]) (by kernel_rfl) (by simp) ?_
                        refine (AllReadyH.cons (o := _) rfl (fun K hK => ?_) AllReadyH.nil)
                        refine step_append_run rfl (.tmp 68) (.tmp 92) 22 rfl rfl rfl HA2.out ?_
                        go_simp
                        refine hK.out _ _ (by exact Hb.out) (fun hHeld => ?_)
                        clear hK K
                        refine held_take (i := 27) (d := some 94) (v := ?_) rfl rfl (by kernel_rfl) (by kernel_rfl) (by kernel_rfl) (fun _ _ _ h => h) (by rfl) ?_ (by assumption) ?_
                        rotate_left 1
                        focus (intro w hSw; (try dsimp only at hSw); go_simp; first | done | with_reducible rfl)
                        simp only [Act.put, List.setIfInBounds_toArray, List.set_cons_zero, List.set_cons_succ]
                        refine wpAnyH_ready (rs := [28]) (by kernel_rfl) (by simp) ?_
                        refine (AllReadyH.cons (o := _) rfl (fun K hK => ?_) AllReadyH.nil)
                        go_simp
                        refine hK.out _ _ (by exact Hc.out _) (fun hHeld => ?_)
                        clear hK K
                        refine wpAnyH_done (by kernel_rfl) ?_ _
                        go_wp2_with fail
                        go_roundw
                        case rel => exact ⟨q + 1, _, _, by omega, by omega, by go_num, by rw [List.length_append, Hfl.out]; rfl, HN⟩
                        case measure => simp [intOf]; omega
                      · go_simp
                        refine (P5.out _).mono ?_
                        rintro e w' ⟨rfl, rfl⟩
                        go_simp
                        refine hK.out _ _ (by exact Ha.out) (fun hHeld => ?_)
                        clear hK K
                        refine held_take (i := 13) (d := some 80) (v := ?_) rfl rfl (by kernel_rfl) (by kernel_rfl) (by kernel_rfl) (fun _ _ _ h => h) (by rfl) ?_ (by assumption) ?_
                        rotate_left 1
                        focus (intro w hSw; (try dsimp only at hSw); go_simp; first | done | with_reducible rfl)
                        simp only [Act.put, List.setIfInBounds_toArray, List.set_cons_zero, List.set_cons_succ]
                        refine held_take (i := 14) (d := some 81) (v := ?_) rfl rfl (by kernel_rfl) (by kernel_rfl) (by kernel_rfl) (fun _ _ _ h => h) (by rfl) ?_ (by assumption) ?_
                        rotate_left 1
                        focus (intro w hSw; (try dsimp only at hSw); go_simp; first | done | with_reducible rfl)
                        simp only [Act.put, List.setIfInBounds_toArray, List.set_cons_zero, List.set_cons_succ]
                        refine held_take (i := 15) (d := some 82) (v := ?_) rfl rfl (by kernel_rfl) (by kernel_rfl) (by kernel_rfl) (fun _ _ _ h => h) (by rfl) ?_ (by assumption) ?_
                        rotate_left 1
                        focus (intro w hSw; (try dsimp only at hSw); go_simp; first | done | with_reducible rfl)
                        simp only [Act.put, List.setIfInBounds_toArray, List.set_cons_zero, List.set_cons_succ]
                        refine wpAnyH_ready (rs := [1, 23]) (by kernel_rfl) (by simp) ?_
                        refine (AllReadyH.cons (o := _) rfl (fun K hK => ?_) (AllReadyH.cons (o := _) rfl (fun K hK => ?_) AllReadyH.nil))
                        · go_simp
                          refine hK.out _ _ (by first | exact Ha.out | exact Hal.out _) (fun hHeld => ?_)
                          clear hK K
                          refine wpAnyH_ready (rs := [23]) (by kernel_rfl) (by simp) ?_
                          refine (AllReadyH.cons (o := _) rfl (fun K hK => ?_) AllReadyH.nil)
                          go_simp
                          refine (X2.out _ nb (show wr.drew.cell? ⟨nb, 0, none⟩ = some (.int .i64 n) from cn)).mono ?_
                          rintro e w' ⟨rfl, rfl⟩
                          go_simp
                          refine hK.out _ _ (by exact Ha.out) (fun hHeld => ?_)
                          clear hK K
                          refine held_take (i := 24) (d := some 91) (v := ?_) rfl rfl (by kernel_rfl) (by kernel_rfl) (by kernel_rfl) (fun _ _ _ h => h) (by rfl) ?_ (by assumption) ?_
                          rotate_left 1
                          focus (intro w hSw; (try dsimp only at hSw); go_simp; first | done | with_reducible rfl)
                          simp only [Act.put, List.setIfInBounds_toArray, List.set_cons_zero, List.set_cons_succ]
                          refine wpAnyH_ready (rs := [25]) (by kernel_rfl) (by simp) ?_
                          refine (AllReadyH.cons (o := _) rfl (fun K hK => ?_) AllReadyH.nil)
                          go_simp
                          refine hK.out _ _ (by exact Hal.out _) (fun hHeld => ?_)
                          clear hK K
                          refine wpAnyH_ready (rs := [26]) (by kernel_rfl) (by simp) ?_
                          refine (AllReadyH.cons (o := _) rfl (fun K hK => ?_) AllReadyH.nil)
                          refine step_append_run rfl (.tmp 68) (.tmp 92) 22 rfl rfl rfl HA2.out ?_
                          go_simp
                          refine hK.out _ _ (by exact Hb.out) (fun hHeld => ?_)
                          clear hK K
                          refine held_take (i := 27) (d := some 94) (v := ?_) rfl rfl (by kernel_rfl) (by kernel_rfl) (by kernel_rfl) (fun _ _ _ h => h) (by rfl) ?_ (by assumption) ?_
                          rotate_left 1
                          focus (intro w hSw; (try dsimp only at hSw); go_simp; first | done | with_reducible rfl)
                          simp only [Act.put, List.setIfInBounds_toArray, List.set_cons_zero, List.set_cons_succ]
                          refine wpAnyH_ready (rs := [28]) (by kernel_rfl) (by simp) ?_
                          refine (AllReadyH.cons (o := _) rfl (fun K hK => ?_) AllReadyH.nil)
                          go_simp
                          refine hK.out _ _ (by exact Hc.out _) (fun hHeld => ?_)
                          clear hK K
                          refine wpAnyH_done (by kernel_rfl) ?_ _
                          go_wp2_with fail
                          go_roundw
                          case rel => exact ⟨q + 1, _, _, by omega, by omega, by go_num, by rw [List.length_append, Hfl.out]; rfl, HN⟩
                          case measure => simp [intOf]; omega
                        · go_simp
                          refine (X2.out _ nb (show wr.drew.cell? ⟨nb, 0, none⟩ = some (.int .i64 n) from cn)).mono ?_
                          rintro e w' ⟨rfl, rfl⟩
                          go_simp
                          refine hK.out _ _ (by exact Ha.out) (fun hHeld => ?_)
                          clear hK K
                          refine held_take (i := 24) (d := some 91) (v := ?_) rfl rfl (by kernel_rfl) (by kernel_rfl) (by kernel_rfl) (fun _ _ _ h => h) (by rfl) ?_ (by assumption) ?_
                          rotate_left 1
                          focus (intro w hSw; (try dsimp only at hSw); go_simp; first | done | with_reducible rfl)
                          simp only [Act.put, List.setIfInBounds_toArray, List.set_cons_zero, List.set_cons_succ]
                          refine wpAnyH_ready (rs := [1, 25]) (by kernel_rfl) (by simp) ?_
                          refine (AllReadyH.cons (o := _) rfl (fun K hK => ?_) (AllReadyH.cons (o := _) rfl (fun K hK => ?_) AllReadyH.nil))
                          · go_simp
                            refine hK.out _ _ (by first | exact Ha.out | exact Hal.out _) (fun hHeld => ?_)
                            clear hK K
                            refine wpAnyH_ready (rs := [25]) (by kernel_rfl) (by simp) ?_
                            refine (AllReadyH.cons (o := _) rfl (fun K hK => ?_) AllReadyH.nil)
                            go_simp
                            refine hK.out _ _ (by exact Hal.out _) (fun hHeld => ?_)
                            clear hK K
                            refine wpAnyH_ready (rs := [26]) (by kernel_rfl) (by simp) ?_
                            refine (AllReadyH.cons (o := _) rfl (fun K hK => ?_) AllReadyH.nil)
                            refine step_append_run rfl (.tmp 68) (.tmp 92) 22 rfl rfl rfl HA2.out ?_
                            go_simp
                            refine hK.out _ _ (by exact Hb.out) (fun hHeld => ?_)
                            clear hK K
                            refine held_take (i := 27) (d := some 94) (v := ?_) rfl rfl (by kernel_rfl) (by kernel_rfl) (by kernel_rfl) (fun _ _ _ h => h) (by rfl) ?_ (by assumption) ?_
                            rotate_left 1
                            focus (intro w hSw; (try dsimp only at hSw); go_simp; first | done | with_reducible rfl)
                            simp only [Act.put, List.setIfInBounds_toArray, List.set_cons_zero, List.set_cons_succ]
                            refine wpAnyH_ready (rs := [28]) (by kernel_rfl) (by simp) ?_
                            refine (AllReadyH.cons (o := _) rfl (fun K hK => ?_) AllReadyH.nil)
                            go_simp
                            refine hK.out _ _ (by exact Hc.out _) (fun hHeld => ?_)
                            clear hK K
                            refine wpAnyH_done (by kernel_rfl) ?_ _
                            go_wp2_with fail
                            go_roundw
                            case rel => exact ⟨q + 1, _, _, by omega, by omega, by go_num, by rw [List.length_append, Hfl.out]; rfl, HN⟩
                            case measure => simp [intOf]; omega
                          · go_simp
                            refine hK.out _ _ (by exact Hal.out _) (fun hHeld => ?_)
                            clear hK K
                            refine wpAnyH_ready (rs := [1]) (by kernel_rfl) (by simp) ?_
                            refine (AllReadyH.cons (o := _) rfl (fun K hK => ?_) AllReadyH.nil)
                            go_simp
                            refine hK.out _ _ (by first | exact Ha.out | exact Hal.out _) (fun hHeld => ?_)
                            clear hK K
                            refine wpAnyH_ready (rs := [26]) (by kernel_rfl) (by simp) ?_
                            refine (AllReadyH.cons (o := _) rfl (fun K hK => ?_) AllReadyH.nil)
                            refine step_append_run rfl (.tmp 68) (.tmp 92) 22 rfl rfl rfl HA2.out ?_
                            go_simp
                            refine hK.out _ _ (by exact Hb.out) (fun hHeld => ?_)
                            clear hK K
                            refine held_take (i := 27) (d := some 94) (v := ?_) rfl rfl (by kernel_rfl) (by kernel_rfl) (by kernel_rfl) (fun _ _ _ h => h) (by rfl) ?_ (by assumption) ?_
                            rotate_left 1
                            focus (intro w hSw; (try dsimp only at hSw); go_simp; first | done | with_reducible rfl)
                            simp only [Act.put, List.setIfInBounds_toArray, List.set_cons_zero, List.set_cons_succ]
                            refine wpAnyH_ready (rs := [28]) (by kernel_rfl) (by simp) ?_
                            refine (AllReadyH.cons (o := _) rfl (fun K hK => ?_) AllReadyH.nil)
                            go_simp
                            refine hK.out _ _ (by exact Hc.out _) (fun hHeld => ?_)
                            clear hK K
                            refine wpAnyH_done (by kernel_rfl) ?_ _
                            go_wp2_with fail
                            go_roundw
                            case rel => exact ⟨q + 1, _, _, by omega, by omega, by go_num, by rw [List.length_append, Hfl.out]; rfl, HN⟩
                            case measure => simp [intOf]; omega
                  · have b5 : ((5 + (j1 : Int)) == 5) = false := beq_eq_false_iff_ne.2 (by omega)
                    go_wp2_with fail
                    go_meet
                    exact ⟨_, _, hT3⟩
                · go_wp2_with fail
                  go_meet
                  exact ⟨_, _, hT3⟩
              · go_wp2_with fail
                go_meet
                exact ⟨_, _, hT3⟩
          case rest => as_aux_lemma =>
            obtain ⟨vf, fs, hT3⟩ := hcut
            clear hT2
            go_upto_block 4 with fail
            go_cut [10] (fun _ wd => ∃ (vm : Value) (ms : List Mth), Hid (Tin wo wd wo.heap.size tb xcs (5 + (j1 : Int)) name elem vf vm fs ms))
            case first => as_aux_lemma =>
              go_wp2_with fail
              go_loopw [10] (fun i wr => ∃ (q : Nat) (vm : Value) (ms : List Mth), q ≤ 3 ∧ q ≤ x.methods.length ∧ i = .int .i64 q ∧ ms.length = q ∧ Hid (Tin wo wr wo.heap.size tb xcs (5 + (j1 : Int)) name elem vf vm fs ms)) (fun i _ => 3 - (intOf i).toNat)
              case atStart => exact ⟨0, _, _, by decide, Nat.zero_le _, rfl, rfl, hT3⟩
              case round =>
                obtain ⟨q, vm, ms, hq3, hqx, rfl, hml, hT4⟩ := hrel
                obtain ⟨wm, rfl⟩ : ∃ wm : World, wm = wr := ⟨_, rfl⟩
                have t0 := hT4.out.tcell 0
                have y4 := (hT4.out.xcell 4).trans Xc.out.2.2.2.2.1
                simp only [List.getElem?_toArray, List.getElem?_cons_zero] at t0
                have hcl := M.out.le
                have hcb := M.out.big
                have Hml := Lib.hid hml
                clear hml
                by_cases c1 : q < x.methods.length
                · by_cases c2 : q < 3
                  · by_cases c3 : j1 = 1
                    · have b6 : ((5 + (j1 : Int)) != 6) = false := by subst c3; rfl
                      have b6' : ((5 + (j1 : Int)) == 6) = true := by subst c3; rfl
                      go_wp2_with fail
                      go_meet
                      exact ⟨_, _, hT4⟩
                    · have b6 : ((5 + (j1 : Int)) != 6) = true := by simp; omega
                      have b6' : ((5 + (j1 : Int)) == 6) = false := beq_eq_false_iff_ne.2 (by omega)
                      obtain ⟨bm, om, Ap, cp, rfl, hpr, cpo⟩ := M.out.rowB c1
                      have cpm := (hT4.out.up.cell (p := ⟨bm, om + q, none⟩) (World.block_lt_of_cell? wo _ cpo) (fun h => h)).trans cpo
                      have Pr := Lib.hid hpr
                      obtain ⟨j6, hj6, p6, hq6⟩ := pick_nat (q : Int) 4 (by decide) (by decide)
                      obtain rfl : j6 = q := by omega
                      have P6 := Lib.hid (show ∀ w, Calls Tryd.prog 6 #[.int .i64 j6, .int .i64 4] w fun e w' => e = .returned (.int .i64 j6) ∧ w' = w from p6)
                      have n6 := names_up N.out (Up.trans hT.out.up hT4.out.up) j6 (by omega)
                      have i6 : (j6 : Int) < 8 := by omega
                      have hsz : (1 : Nat) + (nm j6).size ≤ 9223372036854775807 := by have := nm_size j6; omega
                      have hsz2 : ¬ 9223372036854775807 < 1 + (nm j6).size := Nat.not_lt.2 hsz
                      clear p6 hq6 hpr
                      go_wp2_with fail
                      refine (P6.out _).mono ?_
                      rintro e w' ⟨rfl, hw6⟩
                      have hw7 := hw6.symm
                      subst hw7
                      have t0al := (World.cell?_alloc_lt wm (.cells #[.string ({ data := #[109] } ++ nm j6), .slice none 0 0, .int .i64 0, .int .i64 (-1)] 38) ⟨tb, 0, none⟩ hT4.out.tlt).trans t0
                      have M0 := Lib.hid (Min.start (name := { data := #[109] } ++ nm j6) (res := 0) (func := -1) (up_ (w := wm)))
                      have T5 := Lib.hid (hT4.out.over (up_.alloc (.cells #[.string ({ data := #[109] } ++ nm j6), .slice none 0 0, .int .i64 0, .int .i64 (-1)] 38)))
                      have m3 := M0.out.mcell 3
                      have g3 := M0.out.mfree 3
                      simp only [List.getElem?_toArray, List.getElem?_cons_zero, List.getElem?_cons_succ] at m3
                      clear hw6
                      go_upto_if 119 with fail
                      generalize wm.alloc (.cells #[.string ({ data := #[109] } ++ nm j6), .slice none 0 0, .int .i64 0, .int .i64 (-1)] 38) = w5 at M0 T5 t0al m3 g3 ⊢
                      generalize hmb : wm.heap.size = mb at M0 m3 g3 ⊢
                      have Hmb := Lib.hid hmb
                      clear hmb
                      go_cut [119] (fun _ we => ∃ func : Int, Hid (Tin wo we wo.heap.size tb xcs (5 + (j1 : Int)) name elem vf vm fs ms ∧ Min wm we mb ({ data := #[109] } ++ nm j6) (.slice none 0 0) 0 func []))
                      case first => as_aux_lemma =>
                        by_cases h5 : j1 = 0
                        · subst h5
                          have M1 := Lib.hid (M0.out.put 3 (.int .i64 j6) 0 j6 rfl)
                          have T6 := Lib.hid (show Tin wo (w5.setCell ⟨mb, 3, none⟩ (.int .i64 j6)) wo.heap.size tb xcs (5 + ((0 : Nat) : Int)) name elem vf vm fs ms from hT4.out.over M1.out.up)
                          go_wp2_with fail
                          go_meet
                          exact ⟨_, Lib.hid ⟨T6.out, M1.out⟩⟩
                        · have b5 : ((5 + (j1 : Int)) == 5) = false := beq_eq_false_iff_ne.2 (by omega)
                          go_wp2_with fail
                          go_meet
                          exact ⟨_, Lib.hid ⟨T5.out, M0.out⟩⟩
                      case rest => as_aux_lemma =>
                        obtain ⟨func, hM⟩ := hcut
                        clear M0 T5 t0al m3 g3
                        go_upto_block 6 with fail
                        go_cut [12] (fun _ wd => ∃ (vp : Value) (res : Int) (ps : List Int), Hid (Min wm wd mb ({ data := #[109] } ++ nm j6) vp res func ps))
                        case first => as_aux_lemma =>
                          have hpl0 := Pr.out.le
                          have hpb0 := Pr.out.big
                          go_wp2_with fail
                          go_loopw [12] (fun i wr => ∃ (r : Nat) (vp : Value) (res : Int) (ps : List Int), r ≤ 3 ∧ r ≤ x.methods[j6].length ∧ i = .int .i64 r ∧ ps.length = r - 1 ∧ Hid (Min wm wr mb ({ data := #[109] } ++ nm j6) vp res func ps)) (fun i _ => 3 - (intOf i).toNat)
                          case atStart => exact ⟨0, _, _, _, by decide, Nat.zero_le _, rfl, rfl, Lib.hid hM.out.2⟩
                          case round =>
                            obtain ⟨r, vp, res, ps, hr3, hrx, rfl, hpl, hM2⟩ := hrel
                            have hT6 := Lib.hid (hT4.out.over hM2.out.up)
                            have y4 := (hT6.out.xcell 4).trans Xc.out.2.2.2.2.1
                            have cpm := (hT6.out.up.cell (p := ⟨bm, om + j6, none⟩) (World.block_lt_of_cell? wo _ cpo) (fun h => h)).trans cpo
                            have Hpl := Lib.hid hpl
                            clear hpl
                            by_cases d1 : r < x.methods[j6].length
                            · by_cases d2 : r < 3
                              · obtain ⟨bp, op, y, rfl, wy, cyo⟩ := Pr.out.intB d1
                                have cy := (hT6.out.up.cell (p := ⟨bp, op + r, none⟩) (World.block_lt_of_cell? wo _ cyo) (fun h => h)).trans cyo
                                by_cases d3 : r = 0
                                · subst d3
                                  obtain ⟨j7, hj7, p7, _⟩ := pick_nat y 2 (by decide) (by decide)
                                  have P7 := Lib.hid (show ∀ w, Calls Tryd.prog 6 #[.int .i64 y, .int .i64 2] w fun e w' => e = .returned (.int .i64 j7) ∧ w' = w from p7)
                                  obtain ⟨x7, hx7⟩ := two_idx j7 hj7
                                  have m2 := hM2.out.mcell 2
                                  have g2 := hM2.out.mfree 2
                                  simp only [List.getElem?_toArray, List.getElem?_cons_zero, List.getElem?_cons_succ] at m2
                                  have HN := Lib.hid (hM2.out.put 2 (.int .i64 x7) x7 func rfl)
                                  simp only [Nat.add_zero] at cy
                                  clear p7
                                  go_wp2_with fail
                                  refine (P7.out _).mono ?_
                                  rintro e w' ⟨rfl, hw6⟩
                                  have hw7 := hw6.symm
                                  subst hw7
                                  clear hw6
                                  go_wp2_with fail
                                  go_roundw
                                  case rel => exact ⟨0 + 1, _, _, _, by omega, by omega, by go_num, by rw [Hpl.out], HN⟩
                                  case measure => simp [intOf]
                                · have d3' : ((r : Int) == 0) = false := beq_eq_false_iff_ne.2 (by omega)
                                  obtain ⟨x3, hx3⟩ := one_any n hn8 y wy.1 wy.2
                                  have X3 := Lib.hid hx3
                                  have hnl := heap_lt hT.out.nbox
                                  have cn : wr.cell? ⟨nb, 0, none⟩ = some (.int .i64 n) := by rw [hT6.out.up.cell (p := ⟨nb, 0, none⟩) hnl (fun h => h), cell_of_row _ _ _ _ _ _ hT.out.nbox]; rfl
                                  have m1 := hM2.out.mcell 1
                                  simp only [List.getElem?_toArray, List.getElem?_cons_zero, List.getElem?_cons_succ] at m1
                                  have HT4 := Lib.hid (hM2.out.over (Fr.drew up_))
                                  obtain ⟨g4, cap4, w4, hrun, ho4, hgr4, hg4⟩ := app_int (wm := wm) HT4.out.pl x3 (r - 1) Hpl.out (by omega) HT4.out.up.size
                                  have HN := Lib.hid (HT4.out.addParam _ ho4 hgr4 hg4)
                                  have h1 := fr_grown hgr4
                                  have wmlo : wo.heap.size ≤ wm.heap.size := hT4.out.up.size
                                  have z1 : bm < wo.heap.size := World.block_lt_of_cell? wo _ cpo
                                  have z2 : bp < wo.heap.size := World.block_lt_of_cell? wo _ cyo
                                  have zx : wo.heap.size < wm.heap.size := hT4.out.xlt
                                  have hf0 : ∀ b, vp.ownBlock = some b → wm.heap.size ≤ b := fun b hb => (HT4.out.pl.lt b hb).1
                                  have tlo : wm.heap.size ≤ mb := hM2.out.mlo
                                  have hwr : wm.heap.size ≤ wr.heap.size := hM2.out.up.size
                                  have at4 : ∀ (p : Addr) (v : Value), p.block < wm.heap.size → wr.cell? p = some v → w4.cell? p = some v := fun p v hp hc => (h1.cell (p := p) (Nat.lt_of_lt_of_le hp hwr) (fun e => absurd (hf0 _ e) (Nat.not_le.2 hp))).trans hc
                                  have far : ∀ (p : Addr) (u : Value), p.block < wm.heap.size → (w4.setCell ⟨mb, 1, none⟩ u).cell? p = w4.cell? p := fun p u hp => World.cell?_setCell_other _ _ _ _ (fun e => by subst e; exact absurd hp (Nat.not_lt.2 tlo))
                                  have b4 : wo.heap.size < wm.heap.size ∧ bm < wm.heap.size ∧ bp < wm.heap.size ∧ nb < wm.heap.size := ⟨zx, by omega, by omega, by omega⟩
                                  have Ha := Lib.hid (And.intro y4 (And.intro cpm (And.intro cy cn)))
                                  have Hb := Lib.hid (And.intro (at4 ⟨wo.heap.size, 4, none⟩ _ b4.1 y4) (And.intro (at4 ⟨bm, om + j6, none⟩ _ b4.2.1 cpm) (And.intro (at4 ⟨bp, op + r, none⟩ _ b4.2.2.1 cy) (at4 ⟨nb, 0, none⟩ _ b4.2.2.2 cn))))
                                  have Hc := Lib.hid (fun u => And.intro ((far ⟨wo.heap.size, 4, none⟩ u b4.1).trans Hb.out.1) (And.intro ((far ⟨bm, om + j6, none⟩ u b4.2.1).trans Hb.out.2.1) (And.intro ((far ⟨bp, op + r, none⟩ u b4.2.2.1).trans Hb.out.2.2.1) ((far ⟨nb, 0, none⟩ u b4.2.2.2).trans Hb.out.2.2.2))))
                                  have al : ∀ (o : Obj) (p : Addr) (v : Value), wr.cell? p = some v → ((wr.alloc o).drew).cell? p = some v := fun o p v hc => (World.cell?_alloc_lt _ _ _ (World.block_lt_of_cell? wr _ hc)).trans hc
                                  have Hal := Lib.hid (fun o => And.intro (al o _ _ y4) (And.intro (al o _ _ cpm) (And.intro (al o _ _ cy) (al o _ _ cn))))
                                  have m1al := al (.cells #[.int .i64 x3] 3) _ _ m1
                                  have s3 := (h1.cell (p := ⟨mb, 1, none⟩) HT4.out.mlt HT4.out.pne).trans m1
                                  have g3 := (h1.frozen (p := ⟨mb, 1, none⟩) HT4.out.mlt HT4.out.pne).trans (HT4.out.mfree 1)
                                  have HA2 := Lib.hid (show (Builtin.append_ #[36, 36] 36 #[vp, .slice (some ⟨wr.heap.size, 0, none⟩) 1 1]).run Tryd.prog ((wr.alloc (.cells #[.int .i64 x3] 3)).drew) = .ok (.slice (some ⟨g4, 0, none⟩) (r - 1 + 1) cap4) w4 from hrun)
                                  have hr1 : 1 ≤ r := by omega
                                  clear hx3 hnl hrun ho4 hgr4 hg4 h1 wy wmlo z1 z2 zx hf0 tlo hwr at4 far b4 al cyo HT4 d3
                                  go_wp2_with fail
                                  refine wp_region_held_drew (S := (fun W' => W'.cell? ⟨wo.heap.size, 4, none⟩ = some (.slice (some ⟨bm, om, none⟩) x.methods.length cm) ∧ W'.cell? ⟨bm, om + j6, none⟩ = some (.slice (some ⟨bp, op, none⟩) x.methods[j6].length cp) ∧ W'.cell? ⟨bp, op + r, none⟩ = some (.int .i64 y) ∧ W'.cell? ⟨nb, 0, none⟩ = some (.int .i64 n))) (by kernel_rfl) (by exact Ha.out) (fun hHeld => ?_)
                                  refine held_take (i := 0) (d := some 150) (v := ?_) rfl rfl (by kernel_rfl) (by kernel_rfl) (by kernel_rfl) (fun _ _ _ h => h) (by rfl) ?_ (by assumption) ?_
                                  rotate_left 1
                                  focus (intro w hSw; (try dsimp only at hSw); go_simp; first | done | with_reducible rfl)
                                  simp only [Act.put, List.setIfInBounds_toArray, List.set_cons_zero, List.set_cons_succ]
                                  refine held_take (i := 2) (d := some 152) (v := ?_) rfl rfl (by kernel_rfl) (by kernel_rfl) (by kernel_rfl) (fun _ _ _ h => h) (by rfl) ?_ (by assumption) ?_
                                  rotate_left 1
                                  focus (intro w hSw; (try dsimp only at hSw); go_simp; first | done | with_reducible rfl)
                                  simp only [Act.put, List.setIfInBounds_toArray, List.set_cons_zero, List.set_cons_succ]
                                  refine held_take (i := 3) (d := some 153) (v := ?_) rfl rfl (by kernel_rfl) (by kernel_rfl) (by kernel_rfl) (fun _ _ _ h => h) (by rfl) ?_ (by assumption) ?_
                                  rotate_left 1
                                  focus (intro w hSw; (try dsimp only at hSw); go_simp; first | done | with_reducible rfl)
                                  simp only [Act.put, List.setIfInBounds_toArray, List.set_cons_zero, List.set_cons_succ]
                                  refine held_take (i := 4) (d := some 154) (v := ?_) rfl rfl (by kernel_rfl) (by kernel_rfl) (by kernel_rfl) (fun _ _ _ h => h) (by rfl) ?_ (by assumption) ?_
                                  rotate_left 1
                                  focus (intro w hSw; (try dsimp only at hSw); go_simp; first | done | with_reducible rfl)
                                  simp only [Act.put, List.setIfInBounds_toArray, List.set_cons_zero, List.set_cons_succ]
                                  refine held_take (i := 5) (d := some 155) (v := ?_) rfl rfl (by kernel_rfl) (by kernel_rfl) (by kernel_rfl) (fun _ _ _ h => h) (by rfl) ?_ (by assumption) ?_
                                  rotate_left 1
                                  focus (intro w hSw; (try dsimp only at hSw); go_simp; first | done | with_reducible rfl)
                                  simp only [Act.put, List.setIfInBounds_toArray, List.set_cons_zero, List.set_cons_succ]
                                  refine held_take (i := 6) (d := some 156) (v := ?_) rfl rfl (by kernel_rfl) (by kernel_rfl) (by kernel_rfl) (fun _ _ _ h => h) (by rfl) ?_ (by assumption) ?_
                                  rotate_left 1
                                  focus (intro w hSw; (try dsimp only at hSw); go_simp; first | done | with_reducible rfl)
                                  simp only [Act.put, List.setIfInBounds_toArray, List.set_cons_zero, List.set_cons_succ]
                                  refine held_take (i := 7) (d := some 157) (v := ?_) rfl rfl (by kernel_rfl) (by kernel_rfl) (by kernel_rfl) (fun _ _ _ h => h) (by rfl) ?_ (by assumption) ?_
                                  rotate_left 1
                                  focus (intro w hSw; (try dsimp only at hSw); go_simp; first | done | with_reducible rfl)
                                  simp only [Act.put, List.setIfInBounds_toArray, List.set_cons_zero, List.set_cons_succ]
                                  refine held_take (i := 8) (d := some 158) (v := ?_) rfl rfl (by kernel_rfl) (by kernel_rfl) (by kernel_rfl) (fun _ _ _ h => h) (by rfl) ?_ (by assumption) ?_
                                  rotate_left 1
                                  focus (intro w hSw; (try dsimp only at hSw); go_simp; first | done | with_reducible rfl)
                                  simp only [Act.put, List.setIfInBounds_toArray, List.set_cons_zero, List.set_cons_succ]
                                  refine held_take (i := 9) (d := some 159) (v := ?_) rfl rfl (by kernel_rfl) (by kernel_rfl) (by kernel_rfl) (fun _ _ _ h => h) (by rfl) ?_ (by assumption) ?_
                                  rotate_left 1
                                  focus (intro w hSw; (try dsimp only at hSw); go_simp; first | done | with_reducible rfl)
                                  simp only [Act.put, List.setIfInBounds_toArray, List.set_cons_zero, List.set_cons_succ]
                                  refine held_take (i := 10) (d := some 160) (v := ?_) rfl rfl (by kernel_rfl) (by kernel_rfl) (by kernel_rfl) (fun _ _ _ h => h) (by rfl) ?_ (by assumption) ?_
                                  rotate_left 1
                                  focus (intro w hSw; (try dsimp only at hSw); go_simp; first | done | with_reducible rfl)
                                  simp only [Act.put, List.setIfInBounds_toArray, List.set_cons_zero, List.set_cons_succ]
                                  refine wpAnyH_ready (rs := [1, 11]) (by kernel_rfl) (by simp) ?_
                                  refine (AllReadyH.cons (o := _) rfl (fun K hK => ?_) (AllReadyH.cons (o := _) rfl (fun K hK => ?_) AllReadyH.nil))
                                  · go_simp
                                    refine hK.out _ _ (by first | exact Ha.out | exact Hal.out _) (fun hHeld => ?_)
                                    clear hK K
                                    refine wpAnyH_ready (rs := [11]) (by kernel_rfl) (by simp) ?_
                                    refine (AllReadyH.cons (o := _) rfl (fun K hK => ?_) AllReadyH.nil)
                                    go_simp
                                    refine (X3.out _ nb (show wr.drew.cell? ⟨nb, 0, none⟩ = some (.int .i64 n) from cn)).mono ?_
                                    rintro e w' ⟨rfl, rfl⟩
                                    go_simp
                                    refine hK.out _ _ (by exact Ha.out) (fun hHeld => ?_)
                                    clear hK K
                                    refine wpAnyH_ready (rs := [12]) (by kernel_rfl) (by simp) ?_
                                    refine (AllReadyH.cons (o := _) rfl (fun K hK => ?_) AllReadyH.nil)
                                    go_simp
                                    refine hK.out _ _ (by exact Hal.out _) (fun hHeld => ?_)
                                    clear hK K
                                    refine wpAnyH_ready (rs := [13]) (by kernel_rfl) (by simp) ?_
                                    refine (AllReadyH.cons (o := _) rfl (fun K hK => ?_) AllReadyH.nil)
                                    refine step_append_run rfl (.tmp 151) (.tmp 162) 36 rfl rfl rfl HA2.out ?_
                                    go_simp
                                    refine hK.out _ _ (by exact Hb.out) (fun hHeld => ?_)
                                    clear hK K
                                    refine held_take (i := 14) (d := some 164) (v := ?_) rfl rfl (by kernel_rfl) (by kernel_rfl) (by kernel_rfl) (fun _ _ _ h => h) (by rfl) ?_ (by assumption) ?_
                                    rotate_left 1
                                    focus (intro w hSw; (try dsimp only at hSw); go_simp; first | done | with_reducible rfl)
                                    simp only [Act.put, List.setIfInBounds_toArray, List.set_cons_zero, List.set_cons_succ]
                                    refine wpAnyH_ready (rs := [15]) (by kernel_rfl) (by simp) ?_
                                    refine (AllReadyH.cons (o := _) rfl (fun K hK => ?_) AllReadyH.nil)
                                    go_simp
                                    refine hK.out _ _ (by exact Hc.out _) (fun hHeld => ?_)
                                    clear hK K
                                    refine wpAnyH_done (by kernel_rfl) ?_ _
                                    go_wp2_with fail
                                    rw [show r - 1 + 1 = r by omega] at HN
                                    go_roundw
                                    case rel => exact ⟨r + 1, _, _, _, by omega, by omega, by go_num, by rw [List.length_append, Hpl.out]; simp; omega, HN⟩
                                    case measure => simp [intOf]; omega
                                  · go_simp
                                    refine (X3.out _ nb (show wr.drew.cell? ⟨nb, 0, none⟩ = some (.int .i64 n) from cn)).mono ?_
                                    rintro e w' ⟨rfl, rfl⟩
                                    go_simp
                                    refine hK.out _ _ (by exact Ha.out) (fun hHeld => ?_)
                                    clear hK K
                                    refine wpAnyH_ready (rs := [1, 12]) (by kernel_rfl) (by simp) ?_
                                    refine (AllReadyH.cons (o := _) rfl (fun K hK => ?_) (AllReadyH.cons (o := _) rfl (fun K hK => ?_) AllReadyH.nil))
                                    · go_simp
                                      refine hK.out _ _ (by first | exact Ha.out | exact Hal.out _) (fun hHeld => ?_)
                                      clear hK K
                                      refine wpAnyH_ready (rs := [12]) (by kernel_rfl) (by simp) ?_
                                      refine (AllReadyH.cons (o := _) rfl (fun K hK => ?_) AllReadyH.nil)
                                      go_simp
                                      refine hK.out _ _ (by exact Hal.out _) (fun hHeld => ?_)
                                      clear hK K
                                      refine wpAnyH_ready (rs := [13]) (by kernel_rfl) (by simp) ?_
                                      refine (AllReadyH.cons (o := _) rfl (fun K hK => ?_) AllReadyH.nil)
                                      refine step_append_run rfl (.tmp 151) (.tmp 162) 36 rfl rfl rfl HA2.out ?_
                                      go_simp
                                      refine hK.out _ _ (by exact Hb.out) (fun hHeld => ?_)
                                      clear hK K
                                      refine held_take (i := 14) (d := some 164) (v := ?_) rfl rfl (by kernel_rfl) (by kernel_rfl) (by kernel_rfl) (fun _ _ _ h => h) (by rfl) ?_ (by assumption) ?_
                                      rotate_left 1
                                      focus (intro w hSw; (try dsimp only at hSw); go_simp; first | done | with_reducible rfl)
                                      simp only [Act.put, List.setIfInBounds_toArray, List.set_cons_zero, List.set_cons_succ]
                                      refine wpAnyH_ready (rs := [15]) (by kernel_rfl) (by simp) ?_
                                      refine (AllReadyH.cons (o := _) rfl (fun K hK => ?_) AllReadyH.nil)
                                      go_simp
                                      refine hK.out _ _ (by exact Hc.out _) (fun hHeld => ?_)
                                      clear hK K
                                      refine wpAnyH_done (by kernel_rfl) ?_ _
                                      go_wp2_with fail
                                      rw [show r - 1 + 1 = r by omega] at HN
                                      go_roundw
                                      case rel => exact ⟨r + 1, _, _, _, by omega, by omega, by go_num, by rw [List.length_append, Hpl.out]; simp; omega, HN⟩
                                      case measure => simp [intOf]; omega
                                    · go_simp
                                      refine hK.out _ _ (by exact Hal.out _) (fun hHeld => ?_)
                                      clear hK K
                                      refine wpAnyH_ready (rs := [1]) (by kernel_rfl) (by simp) ?_
                                      refine (AllReadyH.cons (o := _) rfl (fun K hK => ?_) AllReadyH.nil)
                                      go_simp
                                      refine hK.out _ _ (by first | exact Ha.out | exact Hal.out _) (fun hHeld => ?_)
                                      clear hK K
                                      refine wpAnyH_ready (rs := [13]) (by kernel_rfl) (by simp) ?_
                                      refine (AllReadyH.cons (o := _) rfl (fun K hK => ?_) AllReadyH.nil)
                                      refine step_append_run rfl (.tmp 151) (.tmp 162) 36 rfl rfl rfl HA2.out ?_
                                      go_simp
                                      refine hK.out _ _ (by exact Hb.out) (fun hHeld => ?_)
                                      clear hK K
                                      refine held_take (i := 14) (d := some 164) (v := ?_) rfl rfl (by kernel_rfl) (by kernel_rfl) (by kernel_rfl) (fun _ _ _ h => h) (by rfl) ?_ (by assumption) ?_
                                      rotate_left 1
                                      focus (intro w hSw; (try dsimp only at hSw); go_simp; first | done | with_reducible rfl)
                                      simp only [Act.put, List.setIfInBounds_toArray, List.set_cons_zero, List.set_cons_succ]
                                      refine wpAnyH_ready (rs := [15]) (by kernel_rfl) (by simp) ?_
                                      refine (AllReadyH.cons (o := _) rfl (fun K hK => ?_) AllReadyH.nil)
                                      go_simp
                                      refine hK.out _ _ (by exact Hc.out _) (fun hHeld => ?_)
                                      clear hK K
                                      refine wpAnyH_done (by kernel_rfl) ?_ _
                                      go_wp2_with fail
                                      rw [show r - 1 + 1 = r by omega] at HN
                                      go_roundw
                                      case rel => exact ⟨r + 1, _, _, _, by omega, by omega, by go_num, by rw [List.length_append, Hpl.out]; simp; omega, HN⟩
                                      case measure => simp [intOf]; omega
                              · go_wp2_with fail
                                go_meet
                                exact ⟨_, _, _, hM2⟩
                            · go_wp2_with fail
                              go_meet
                              exact ⟨_, _, _, hM2⟩
                        case rest => as_aux_lemma =>
                          obtain ⟨vp, res, ps, hM3⟩ := hcut
                          obtain ⟨Av, cv, rfl, _⟩ := hM3.out.pl.reads.parts
                          have T7 := Lib.hid (hT4.out.over hM3.out.up)
                          have hsz7 : ({ data := #[109] } ++ nm j6 : ByteArray).size ≤ 9223372036854775807 := by rw [ByteArray.size_append]; exact hsz
                          obtain ⟨g4, cap4, w4, hrun, ho4, hgr4, hg4⟩ := app_method T7.out hM3.out hT4.out hsz7 j6 Hml.out (by omega)
                          have HA := Lib.hid hrun
                          have HN := Lib.hid (T7.out.addMethod _ ho4 hgr4 hg4 (by rw [Hml.out]; omega) (by rw [Hml.out]; rfl))
                          have h1 := fr_grown hgr4
                          have t4 := T7.out.tcell 4
                          have s4 := (h1.cell (p := ⟨tb, 4, none⟩) T7.out.tlt T7.out.mne).trans t4
                          have g4' := (h1.frozen (p := ⟨tb, 4, none⟩) T7.out.tlt T7.out.mne).trans (T7.out.tfree 4)
                          have m0 := hM3.out.mcell 0
                          have m1 := hM3.out.mcell 1
                          have m2 := hM3.out.mcell 2
                          have m3 := hM3.out.mcell 3
                          simp only [List.getElem?_toArray, List.getElem?_cons_zero, List.getElem?_cons_succ] at t4 s4 m0 m1 m2 m3
                          clear hrun ho4 hgr4 hg4 h1 hM hsz7
                          go_wp2_with (at_builtin; refine Lib.wpList_append_run _ rfl (.tmp 166) (.tmp 168) 23 23 rfl _ _ rfl rfl _ _ HA.out ?_)
                          go_roundw
                          case rel => exact ⟨j6 + 1, _, _, by omega, by omega, by go_num, by rw [List.length_append, Hml.out]; rfl, HN⟩
                          case measure => simp [intOf]; omega
                  · go_wp2_with fail
                    go_meet
                    exact ⟨_, _, hT4⟩
                · go_wp2_with fail
                  go_meet
                  exact ⟨_, _, hT4⟩
            case rest => as_aux_lemma =>
              obtain ⟨vm, ms, hT4⟩ := hcut
              clear hT3
              obtain ⟨j8, hj8, p8, _⟩ := pick_nat x.bad 30 (by decide) (by decide)
              have P8 := Lib.hid (show ∀ w, Calls Tryd.prog 6 #[.int .i64 x.bad, .int .i64 30] w fun e w' => e = .returned (.int .i64 j8) ∧ w' = w from p8)
              have y5 := (hT4.out.xcell 5).trans Xc.out.2.2.2.2.2
              have y1 := (hT4.out.xcell 1).trans Xc.out.2.1
              obtain ⟨Av, cv, rfl, _⟩ := hT4.out.fl.reads.parts
              obtain ⟨Aw, cw, rfl, _⟩ := hT4.out.ml.reads.parts
              have t0 := hT4.out.tcell 0
              have t1 := hT4.out.tcell 1
              have t2 := hT4.out.tcell 2
              have t3 := hT4.out.tcell 3
              have t4 := hT4.out.tcell 4
              have f0 := hT4.out.tfree 0
              have f1 := hT4.out.tfree 1
              have f2 := hT4.out.tfree 2
              simp only [List.getElem?_toArray, List.getElem?_cons_zero, List.getElem?_cons_succ] at t0 t1 t2 t3 t4
              clear p8
              go_wp2_with fail
              refine (P8.out _).mono ?_
              rintro e w' ⟨rfl, hw6⟩
              have hw7 := hw6.symm
              subst hw7
              clear hw6
              by_cases e0 : j8 = 0
              · subst e0
                obtain ⟨j9, hj9, p9, _⟩ := pick_nat x.elem 10 (by decide) (by decide)
                have P9 := Lib.hid (show ∀ w, Calls Tryd.prog 6 #[.int .i64 x.elem, .int .i64 10] w fun e w' => e = .returned (.int .i64 j9) ∧ w' = w from p9)
                clear p9
                go_wp2_with fail
                refine (P9.out _).mono ?_
                rintro e w' ⟨rfl, hw6⟩
                have hw7 := hw6.symm
                subst hw7
                clear hw6
                have HT5 := Lib.hid (hT4.out.put 0 (.int .i64 ((j9 : Int) - 1)) ((j9 : Int) - 1) elem name rfl hT4.out.nlen)
                obtain ⟨gz, capz, wz, hrun, hZ⟩ := app_typ hT.out HT5.out (by omega)
                rw [show (wc.setCell ⟨tb, 0, none⟩ (.int .i64 ((j9 : Int) - 1))).heap.size = wc.heap.size by simp [World.setCell]] at hrun
                have HA := Lib.hid hrun
                have HZ := Lib.hid hZ
                have q0 := HT5.out.tcell 0
                have q1 := HT5.out.tcell 1
                have q2 := HT5.out.tcell 2
                have q3 := HT5.out.tcell 3
                have q4 := HT5.out.tcell 4
                simp only [List.getElem?_toArray, List.getElem?_cons_zero, List.getElem?_cons_succ] at q0 q1 q2 q3 q4
                clear hrun hZ
                go_wp2_with (at_builtin; refine Lib.wpList_append_run _ rfl (.tmp 208) (.tmp 210) 27 27 rfl _ _ rfl rfl _ _ HA.out ?_)
                go_roundw
                case rel => exact ⟨k + 1, _, _, by omega, by go_num, rfl, HZ⟩
                case measure => simp [intOf]; omega
              · by_cases e1 : j8 = 1
                · subst e1
                  have HT5 := Lib.hid (hT4.out.put 2 (.int .i64 x.elem) (5 + (j1 : Int)) x.elem name rfl hT4.out.nlen)
                  obtain ⟨gz, capz, wz, hrun, hZ⟩ := app_typ hT.out HT5.out (by omega)
                  rw [show (wc.setCell ⟨tb, 2, none⟩ (.int .i64 x.elem)).heap.size = wc.heap.size by simp [World.setCell]] at hrun
                  have HA := Lib.hid hrun
                  have HZ := Lib.hid hZ
                  have q0 := HT5.out.tcell 0
                  have q1 := HT5.out.tcell 1
                  have q2 := HT5.out.tcell 2
                  have q3 := HT5.out.tcell 3
                  have q4 := HT5.out.tcell 4
                  simp only [List.getElem?_toArray, List.getElem?_cons_zero, List.getElem?_cons_succ] at q0 q1 q2 q3 q4
                  clear hrun hZ
                  go_wp2_with (at_builtin; refine Lib.wpList_append_run _ rfl (.tmp 208) (.tmp 210) 27 27 rfl _ _ rfl rfl _ _ HA.out ?_)
                  go_roundw
                  case rel => exact ⟨k + 1, _, _, by omega, by go_num, rfl, HZ⟩
                  case measure => simp [intOf]; omega
                · by_cases e2 : j8 = 2
                  · subst e2
                    obtain ⟨j9, hj9, p9, _⟩ := pick_nat x.elem 8 (by decide) (by decide)
                    have P9 := Lib.hid (show ∀ w, Calls Tryd.prog 6 #[.int .i64 x.elem, .int .i64 8] w fun e w' => e = .returned (.int .i64 j9) ∧ w' = w from p9)
                    have n9 := names_up N.out (Up.trans hT.out.up hT4.out.up) j9 hj9
                    have i9 : (j9 : Int) < 8 := by omega
                    clear p9
                    go_wp2_with fail
                    refine (P9.out _).mono ?_
                    rintro e w' ⟨rfl, hw6⟩
                    have hw7 := hw6.symm
                    subst hw7
                    clear hw6
                    have HT5 := Lib.hid (hT4.out.put 1 (.string (nm j9)) (5 + (j1 : Int)) elem (nm j9) rfl (by have := nm_size j9; omega))
                    obtain ⟨gz, capz, wz, hrun, hZ⟩ := app_typ hT.out HT5.out (by omega)
                    rw [show (wc.setCell ⟨tb, 1, none⟩ (.string (nm j9))).heap.size = wc.heap.size by simp [World.setCell]] at hrun
                    have HA := Lib.hid hrun
                    have HZ := Lib.hid hZ
                    have q0 := HT5.out.tcell 0
                    have q1 := HT5.out.tcell 1
                    have q2 := HT5.out.tcell 2
                    have q3 := HT5.out.tcell 3
                    have q4 := HT5.out.tcell 4
                    simp only [List.getElem?_toArray, List.getElem?_cons_zero, List.getElem?_cons_succ] at q0 q1 q2 q3 q4
                    clear hrun hZ
                    go_wp2_with (at_builtin; refine Lib.wpList_append_run _ rfl (.tmp 208) (.tmp 210) 27 27 rfl _ _ rfl rfl _ _ HA.out ?_)
                    go_roundw
                    case rel => exact ⟨k + 1, _, _, by omega, by go_num, rfl, HZ⟩
                    case measure => simp [intOf]; omega
                  · by_cases e3 : j8 = 3
                    · subst e3
                      by_cases hm0 : 0 < ms.length
                      · obtain ⟨gm, hgm⟩ : ∃ gm, Aw = some ⟨gm, 0, none⟩ := by
                          obtain ⟨css, _, ho⟩ := hT4.out.ml
                          rcases ho.2 with ⟨_, h0⟩ | ⟨g, cap, cur, e, _⟩
                          · omega
                          · injection e with e1 _ _; exact ⟨g, e1⟩
                        subst hgm
                        obtain ⟨j9, hj9, p9, _⟩ := pick_nat x.elem 3 (by decide) (by decide)
                        have P9 := Lib.hid (show ∀ w, Calls Tryd.prog 6 #[.int .i64 x.elem, .int .i64 3] w fun e w' => e = .returned (.int .i64 j9) ∧ w' = w from p9)
                        obtain ⟨ms', hml', hT6, ⟨v9, c9⟩, f9, glo⟩ := hT4.out.setFunc hm0 ((j9 : Int) - 1)
                        rw [← hml'] at hT6
                        have HT5 := Lib.hid (hT6.over (Fr.drew up_))
                        obtain ⟨gz, capz, wz, hrun, hZ⟩ := app_typ hT.out HT5.out (by omega)
                        have HZ := Lib.hid hZ
                        have q0 := hT6.tcell 0
                        have q1 := hT6.tcell 1
                        have q2 := hT6.tcell 2
                        have q3 := hT6.tcell 3
                        have q4 := hT6.tcell 4
                        have e9 : IntKind.i64.wrap ((j9 : Int) - 1) = (j9 : Int) - 1 := IntWalk.i64_in _ (by omega)
                        have y1b := (hT6.xcell 1).trans Xc.out.2.1
                        have hzs : ((wc.setCell ⟨gm, 3, none⟩ (.int .i64 ((j9 : Int) - 1))).drew).heap.size = wc.heap.size := by simp [World.setCell]
                        rw [hzs, hml'] at hrun
                        rw [hml'] at q4
                        simp only [List.getElem?_toArray, List.getElem?_cons_zero, List.getElem?_cons_succ] at q0 q1 q2 q3 q4
                        have hm1 : (0 : Int) < (ms.length : Int) := by omega
                        have HA := Lib.hid (show (Builtin.append_ #[27, 27] 27 #[u3, .slice (some ⟨wc.heap.size, 0, none⟩) 1 1]).run Tryd.prog (((wc.setCell ⟨gm, 3, none⟩ (.int .i64 ((j9 : Int) - 1))).alloc (.cells #[.int .i64 (5 + (j1 : Int)), .string name, .int .i64 elem, .slice Av fs.length cv, .slice (some ⟨gm, 0, none⟩) ms.length cw] 25)).drew) = .ok (.slice (some ⟨gz, 0, none⟩) (5 + k + 1) capz) wz from hrun)
                        clear p9 hT6 hrun hZ hml' glo hzs
                        go_wp2_with fail
                        go_region_held3 (fun W' => W'.cell? ⟨tb, 4, none⟩ = some (.slice (some ⟨gm, 0, none⟩) ms.length cw) ∧ W'.cell? ⟨wo.heap.size, 1, none⟩ = some (.int .i64 x.elem))
                          (first | exact ⟨t4, y1⟩ | exact ⟨q4, y1b⟩)
                          (first | (go_at_call 6; ((with_reducible refine (P9.out _).mono ?_); rintro e w' ⟨rfl, rfl⟩)))
                        go_wp2_with (at_builtin; refine Lib.wpList_append_run _ rfl (.tmp 208) (.tmp 210) 27 27 rfl _ _ rfl rfl _ _ HA.out ?_)
                        go_roundw
                        case rel => exact ⟨k + 1, _, _, by omega, by go_num, rfl, HZ⟩
                        case measure => simp [intOf]; omega
                      · have hm2 : ms.length = 0 := by omega
                        have hm1 : ¬ (0 : Int) < (ms.length : Int) := by omega
                        have hm3 : decide ((0 : Int) < (ms.length : Int)) = false := by simpa using hm2
                        have hm4 : decide (0 < ms.length) = false := by simpa using hm2
                        obtain ⟨gz, capz, wz, hrun, hZ⟩ := app_typ hT.out hT4.out (by omega)
                        have HA := Lib.hid hrun
                        have HZ := Lib.hid hZ
                        clear hrun hZ f0 f1 f2 y1 y5 hm0 hm2
                        go_wp2_with (at_builtin; refine Lib.wpList_append_run _ rfl (.tmp 208) (.tmp 210) 27 27 rfl _ _ rfl rfl _ _ HA.out ?_)
                        go_roundw
                        case rel => exact ⟨k + 1, _, _, by omega, by go_num, rfl, HZ⟩
                        case measure => simp [intOf]; omega
                    · have b0 : ((j8 : Int) == 0) = false := beq_eq_false_iff_ne.2 (by omega)
                      have b1 : ((j8 : Int) == 1) = false := beq_eq_false_iff_ne.2 (by omega)
                      have b2 : ((j8 : Int) == 2) = false := beq_eq_false_iff_ne.2 (by omega)
                      have b3 : ((j8 : Int) == 3) = false := beq_eq_false_iff_ne.2 (by omega)
                      obtain ⟨gz, capz, wz, hrun, hZ⟩ := app_typ hT.out hT4.out (by omega)
                      have HA := Lib.hid hrun
                      have HZ := Lib.hid hZ
                      clear hrun hZ f0 f1 f2 y1 y5
                      go_wp2_with (at_builtin; refine Lib.wpList_append_run _ rfl (.tmp 208) (.tmp 210) 27 27 rfl _ _ rfl rfl _ _ HA.out ?_)
                      go_roundw
                      case rel => exact ⟨k + 1, _, _, by omega, by go_num, rfl, HZ⟩
                      case measure => simp [intOf]; omega
    · obtain rfl : k = n := by omega
      go_wp2_with fail
      go_ret
      have hl5 := hT.out.len
      exact ⟨_, ts, rfl, hT.out.own.reads.wide (fun b hb => hb.1) (fun _ _ _ hc => hc.kept (up_ (w := wo)) (fun _ _ h => h) (fun b hb => hb.1)), hT.out.up, by omega, by omega, hT.out.base, hT.out.named⟩
end Go.Proofs.YtjlljfeledapaaaDoor
