/-
  A run that is reckoned over blocks with names of its own: append, copy, calls, all operations: no function of a program is named here.
-/
import Derived.Test.YtjeplkbdgphfoaaDoorEvG
import Derived.Laws.Append
import Derived.Laws.AppendOwn
import Derived.Lib.SlBytesRow
namespace Go.Proofs.YtjeplkbdgphfoaaDoor
open Go.RowKit

section
variable {P : Program} {ρ : Rho} {w : World}

/-- The cells of a slice that is handed in are read. -/
def srcP (sz : Nat) (x : Value) (k : Nat → List Value → Prog) : Prog := match x with
  | .slice (some ⟨b, o, none⟩) m _ => rdN b (m * sz) o [] (k m)
  | .slice none m _ => if Nat.beq m 0 then k 0 [] else .fail
  | _ => .fail
theorem src_sound {H : Hp} {sz : Nat} {x x' : Value} (hx : V ρ x x') (hw : WR P ρ H w) {k : Nat → List Value → Prog} {r : Out} {t : List Ac} (h : PR (srcP sz x k) t r) (hv : Valid H t) :
    ∃ (A : Option Addr) (m c : Nat) (us us' : List Value) (t1 t2 : List Ac), x' = .slice A m c ∧ t = t1 ++ t2 ∧ PR (k m us) t2 r ∧ VL ρ us us' ∧ us.length = m * sz ∧ (m ≠ 0 → ∃ c o, A = some ⟨c, o, none⟩ ∧ w.rangeAt c o us') ∧ apps H t1 = H ∧ wrote t1 = [] ∧ Valid H t2 := by
  unfold srcP at h
  split at h
  · rename_i b o m k'
    cases hx with
    | slc _ c κ _ _ _ k' hr hk =>
      obtain ⟨us, us', t1, t2, rfl, q1, q2, q3, q4, q5, q6, q7⟩ := rdN_sound hr hw h hv
      exact ⟨_, _, _, us, us', t1, t2, rfl, rfl, by simpa using q2, q3, q1, fun _ => ⟨c, o, rfl, q4⟩, q5, q6, q7⟩
    | slc0 _ c κ _ o' k' hr =>
      obtain ⟨us, us', t1, t2, rfl, q1, q2, q3, q4, q5, q6, q7⟩ := rdN_sound hr hw h hv
      exact ⟨_, _, _, us, us', t1, t2, rfl, rfl, by simpa using q2, q3, q1, fun h => absurd rfl h, q5, q6, q7⟩
  · rename_i m k'
    cases hx
    split at h
    · rename_i hm
      obtain rfl : m = 0 := Nat.eq_of_beq_eq_true hm
      exact ⟨none, 0, _, [], [], [], t, rfl, rfl, h, VL.nil, by simp, fun h => absurd rfl h, rfl, rfl, hv⟩
    · cases h
  · cases h

/-- append. -/
def appendP (P : Program) (t : TypeId) (s x : Value) : Prog := match P.underlying t with
  | some (.slice e) => match P.info? e, zeroP P e with
    | some inf, some z =>
      if 0 < inf.size ∧ z.cells.size = inf.size ∧ inf.size < ro then
        srcP inf.size x fun m us =>
          if Nat.beq m 0 then (match s with
            | .slice none n k => if Nat.ble n k then .val (.slice none n k) else .fail
            | .slice (some ⟨a, o, none⟩) n k => if Nat.beq k unk2 then .fail else if Nat.ble n k then .val (.slice (some ⟨a, o, none⟩) n k) else .fail
            | _ => .fail)
          else match s with
          | .slice none n k => if Nat.beq n 0 && Nat.beq k 0 && Nat.ble m 4294967296 && Nat.ble (m * inf.bytes) 140737488355328 && us.all one then .nw (e, inf.size) us fun b => .val (.slice (some ⟨b, 0, none⟩) m unk) else .fail
          | .slice (some ⟨a, o, none⟩) n k =>
            if Nat.ble (n + m) 4294967296 && Nat.ble ((n + m) * inf.bytes) 140737488355328 && us.all one then
              if Nat.beq k unk then .mv a (e, inf.size) (n * inf.size) us fun b => .val (.slice (some ⟨b, 0, none⟩) (n + m) unk)
              else if Nat.beq k unk2 then .fail
              else if Nat.ble (n + m) k then wrL a (o + n * inf.size) us (.val (.slice (some ⟨a, o, none⟩) (n + m) k))
              else rdN a (n * inf.size) o [] fun olds => .nw (e, inf.size) (olds ++ us) fun b => .val (.slice (some ⟨b, 0, none⟩) (n + m) unk)
            else .fail
          | _ => .fail
      else .fail
    | _, _ => .fail
  | _ => .fail

theorem size_zeroC (z : Array Value) (n : Nat) : (Builtin.zeroCells z n).size = n * z.size := by simp [Builtin.zeroCells]

theorem run_append_zero {t ty e : TypeId} {i : TypeInfo} (ht : P.underlying t = some (.slice e)) (hi : P.info? e = some i) {B A : Option Addr} {n k c : Nat} (h : n ≤ k) :
    (Builtin.append_ #[t, t] ty #[.slice B n k, .slice A 0 c]).run P w = .ok (.slice B n k) w := by
  have hf : (Builtin.firstCells i.size 0 (.slice A 0 c)).run P w = .ok #[] w := by
    cases A <;> simp [Builtin.firstCells, loadCells, loadCellsFrom]
  simp [Builtin.append_, run_underlying ht, sizeOf, typeInfo, hi, Builtin.lenOf, h, hf]
  cases B <;> simp [storeCells]

theorem run_append_in {t ty e : TypeId} {i : TypeInfo} (ht : P.underlying t = some (.slice e)) (hi : P.info? e = some i) {b a : Addr} {n k m c : Nat} {us : List Value} {w' : World} (hl : us.length = m * i.size)
    (hus : ∀ j v, us[j]? = some v → w.cell? (a.add j) = some v) (h : n + m ≤ k) (hst : (storeCells (b.add (n * i.size)) us).run P w = .ok () w') :
    (Builtin.append_ #[t, t] ty #[.slice (some b) n k, .slice (some a) m c]).run P w = .ok (.slice (some b) (n + m) k) w' := by
  have hf := run_firstCells_some (P := P) w i.size m a m c us hl hus
  simp [Builtin.append_, run_underlying ht, sizeOf, typeInfo, hi, Builtin.lenOf, h, hf, hst]

theorem le_grownCap (w : World) (need old : Nat) (e : TypeId) : need ≤ grownCap w need old e := by
  unfold grownCap Question.cut
  exact Nat.le_add_right _ _

theorem Fr.setRow {S : Nat → Prop} {w w' : World} (h : Fr S w w') (g : Nat) (hg : g < w.heap.size → S g) (cs : Array Value) : Fr S w (w'.setRow g cs) :=
  ⟨h.os, h.tape, h.output, by rw [size_setRow]; exact h.size, fun i hi hs => by
    rw [← h.block i hi hs]
    simp only [World.setRow, Array.getElem?_modify]
    rw [if_neg (fun e => hs (by subst e; exact hg hi))]⟩

theorem all_one {us us' : List Value} (h : VL ρ us us') (ha : us.all one = true) : ∀ u ∈ us', u.oneCell' = true := by
  intro u hu
  obtain ⟨j, hj⟩ := List.mem_iff_getElem?.1 hu
  have hlt : j < us.length := by rw [h.1]; exact (List.getElem?_eq_some_iff.1 hj).1
  have := h.2 j _ u (List.getElem?_eq_getElem hlt) hj
  rw [← one_eq, this.one]
  exact List.all_eq_true.1 ha _ (List.getElem_mem hlt)

theorem append_sim {t ty : TypeId} {s s' x x' : Value} (hs : V ρ s s') (hx : V ρ x x') : Sim P (appendP P t s x) (do pure (.value (← Builtin.append_ #[t, t] ty #[s', x']))) ρ w := by
  refine Sim.v fun H tr r hpr hval hw => ?_
  unfold appendP at hpr
  split at hpr
  case h_2 => cases hpr
  rename_i e hu
  split at hpr
  case h_2 => cases hpr
  rename_i inf z hinf hz
  obtain ⟨inf', hinf', hz', _⟩ := zeroP_spec hz
  rw [hinf] at hinf'; cases hinf'
  split at hpr
  case isFalse => cases hpr
  rename_i hsz
  obtain ⟨hsz, hzs, hro⟩ := hsz
  obtain ⟨A, m, c, us, us', t1, t2, rfl, rfl, q2, q3, q4, q5, q6, q7, q8⟩ := src_sound hx hw hpr hval
  have e1 : Went P ρ H w t1 ρ w := (Went.refl hw).congr (by rw [q6]; rfl) (fun b hb => by cases hb)
  have back : ∀ {t ρ' w'}, Went P ρ H w t ρ' w' → Went P ρ H w (t1 ++ t) ρ' w' := fun h => h.congr (by rw [apps_append, q6]) (fun b hb => by rw [wrote_append, q7]; exact hb)
  clear hval hpr hx
  split at q2
  · rename_i hm
    obtain rfl : m = 0 := Nat.eq_of_beq_eq_true hm
    split at q2
    · rename_i n k
      cases hs
      split at q2
      · rename_i hn
        cases q2
        exact ⟨_, _, w, ρ, rfl, run_append_zero hu hinf (Nat.le_of_ble_eq_true hn), by simpa using e1, .nils _ _⟩
      · cases q2
    · rename_i a o n k
      split at q2
      · cases q2
      · rename_i hk2
        split at q2
        · rename_i hn
          have hn := Nat.le_of_ble_eq_true hn
          cases q2
          cases hs with
          | slc0 => exact absurd rfl hk2
          | slc _ c κ _ _ _ k' hr hk =>
            refine ⟨_, _, w, ρ, rfl, run_append_zero hu hinf ?_, by simpa using e1, .slc _ c κ _ _ _ k' hr hk⟩
            cases hk with
            | same => exact hn
            | whole _ h => exact h
            | some_ => exact absurd rfl hk2
        · cases q2
    · cases q2
  · rename_i hm
    have hm0 : m ≠ 0 := fun e => hm (by rw [e]; rfl)
    obtain ⟨cx, ox, rfl, hrange⟩ := q5 hm0
    have hul : us'.length = m * inf.size := by rw [← q3.1]; exact q4
    have hus : ∀ j v, us'[j]? = some v → w.cell? ((⟨cx, ox, none⟩ : Addr).add j) = some v := fun j v h => by rw [Addr.add_mid]; exact hrange j v h
    split at q2
    · rename_i n k
      split at q2
      · rename_i hb
        simp only [Bool.and_eq_true] at hb
        obtain ⟨⟨⟨⟨b1, b2⟩, b3⟩, b4⟩, b5⟩ := hb
        obtain rfl : n = 0 := Nat.eq_of_beq_eq_true b1
        obtain rfl : k = 0 := Nat.eq_of_beq_eq_true b2
        have b3 := Nat.le_of_ble_eq_true b3
        have b4 := Nat.le_of_ble_eq_true b4
        cases hs
        cases q2 with
        | nw h =>
          rename_i b tr hnm
          cases h
          have hrun := run_append_nil (P := P) w t ty e inf z hu hinf hz' ⟨cx, ox, none⟩ m c us' hul hus (by omega) (by omega) (by omega)
          have hle := le_grownCap w m 0 e
          have hmx := grownCap_le_maxLen w m 0 e (by unfold maxLen; omega)
          have wd := Went.drew hw
          have hw2 := wd.wr.nw (b := b) (ty := (e, inf.size)) (cs := us) (κ := grownCap w m 0 e) (cs' := us'.toArray ++ Builtin.zeroCells z.cells (grownCap w m 0 e - m)) (by assumption) q8.1 (by simp [q3.1]) (fun j v v' h1 h2 => q3.2 j v v' h1 (by
            rw [Array.getElem?_append_left (by have := (List.getElem?_eq_some_iff.1 h1).1; simp; rw [← q3.1]; exact this)] at h2
            simpa using h2)) (.inr ⟨hmx, by simp only [Array.size_append, size_zeroC, List.size_toArray, hul, hzs]; rw [← Nat.add_mul]; congr 1; omega⟩)
          exact ⟨_, _, _, _, rfl, hrun, back (wd.trans hw2), .slc _ _ _ _ _ _ _ Rho.add_eq (.whole rfl hle)⟩
      · cases q2
    · rename_i a o n k
      split at q2
      case isFalse => cases q2
      rename_i hb
      simp only [Bool.and_eq_true] at hb
      obtain ⟨⟨b3, b4⟩, b5⟩ := hb
      have b3 := Nat.le_of_ble_eq_true b3
      have b4 := Nat.le_of_ble_eq_true b4
      have h1 := all_one q3 b5
      split at q2
      · rename_i hk
        obtain rfl : k = unk := Nat.eq_of_beq_eq_true hk
        cases hs with
        | slc _ c0 κ _ _ _ k' hr hk =>
          cases hk with
          | same _ h _ => exact absurd rfl h
          | whole ho hn =>
            subst ho
            cases q2 with
            | mv h =>
              rename_i b tr
              cases h
              obtain ⟨hok, _⟩ := q8
              obtain ⟨⟨cell, m0, hlive, hz2, hcells⟩, hub, _⟩ := hok
              obtain ⟨z1, z2, z4, z3⟩ := hz2
              have hz2 : inf.size ≠ 0 ∧ inf.size ≠ ro := ⟨by omega, by omega⟩
              obtain rfl : m0 = inf.size := by rcases z3 with h | h; exact h.symm; exact absurd h hz2.2
              obtain ⟨k1, κ1, cs, t1', fz1, hr1, hheap, hq1, hx1⟩ := hw.blk a _ _ hlive z4
              obtain ⟨ht1, hfz1, hR⟩ := hq1 hz2.2
              rw [ht1, hfz1] at hheap
              rw [hr] at hr1; cases hr1
              have hR2 : κ ≤ maxLen ∧ cs.size = κ * inf.size := by
                rcases hR with h0 | h0
                · exact absurd h0 hz2.1
                · exact h0
              have hmul : n * inf.size ≤ κ * inf.size := Nat.mul_le_mul_right _ hn
              by_cases hroom : n + m ≤ κ
              · have hmul2 : n * inf.size + us'.length ≤ cs.size := by rw [hul, ← Nat.add_mul, hR2.2]; exact Nat.mul_le_mul_right _ hroom
                have hrun := run_append_room (P := P) w t ty e inf hu hinf c0 n κ cs hheap ⟨cx, ox, none⟩ m c us' hul hus h1 hroom hmul2
                have hlt : (cs.toList.take (n * inf.size)).length = n * inf.size := by rw [List.length_take]; simp; omega
                have hw2 := hw.mv (b := b) (n := n * inf.size) (cs := us) (cs' := us') (g := c0) (κ' := κ) (cur := (cs.toList.take (n * inf.size) ++ us' ++ cs.toList.drop (n * inf.size + us'.length)).toArray) ⟨⟨cell, _, hlive, ⟨z1, z2, z4, z3⟩, hcells⟩, hub, ‹_›⟩ hlive hr (.inl rfl) q3
                  (fun j v hj hv => by
                    obtain ⟨v', y1, y2⟩ := (hx1 j v hv).resolve_left (fun h => hz2.1 h.2.1)
                    refine ⟨v', ?_, y2⟩
                    rw [List.getElem?_toArray, List.append_assoc, List.getElem?_append_left (by omega), List.getElem?_take, if_pos hj]
                    simpa using y1)
                  (fun j v' hj => by
                    rw [List.getElem?_toArray, List.append_assoc, List.getElem?_append_right (by omega), hlt, Nat.add_sub_cancel_left, List.getElem?_append_left (List.getElem?_eq_some_iff.1 hj).1]
                    exact hj)
                  (setRow_heap w c0 cs _ e (0, 0) hheap) (fun _ => ⟨rfl, .inr ⟨hR2.1, by simp; omega⟩⟩) ((Fr.refl (fun i => i = c0) w).setRow c0 (fun _ => rfl) _)
                exact ⟨_, _, _, _, rfl, hrun, back hw2, .slc _ _ _ _ _ _ _ Rho.add_eq (.whole rfl hroom)⟩
              · have hlt : (cs.toList.take (n * inf.size)).length = n * inf.size := by rw [List.length_take]; simp; omega
                have hrun := run_append_grow (P := P) w t ty e inf z hu hinf hz' ⟨c0, 0, none⟩ n κ (cs.toList.take (n * inf.size)) hlt (fun j v hj => by
                    rw [Addr.add_mid, Nat.zero_add, cell_of_row _ _ _ _ _ _ hheap]
                    rw [List.getElem?_take] at hj
                    split at hj
                    · simpa using hj
                    · cases hj) ⟨cx, ox, none⟩ m c us' hul hus (by omega) (by omega) (growslice_fits (by omega) b4)
                have hle := le_grownCap w (n + m) κ e
                have hmx := grownCap_le_maxLen w (n + m) κ e (by unfold maxLen; omega)
                generalize grownCap w (n + m) κ e = κ' at hrun hle hmx
                have hw2 := hw.mv (b := b) (n := n * inf.size) (cs := us) (cs' := us') (g := w.heap.size) (κ' := κ') (cur := (cs.toList.take (n * inf.size)).toArray ++ us'.toArray ++ Builtin.zeroCells z.cells (κ' - (n + m)))
                  (w' := w.drew.alloc (.cells ((cs.toList.take (n * inf.size)).toArray ++ us'.toArray ++ Builtin.zeroCells z.cells (κ' - (n + m))) e)) ⟨⟨cell, _, hlive, ⟨z1, z2, z4, z3⟩, hcells⟩, hub, ‹_›⟩ hlive hr (.inr (Nat.le_refl _)) q3
                  (fun j v hj hv => by
                    obtain ⟨v', y1, y2⟩ := (hx1 j v hv).resolve_left (fun h => hz2.1 h.2.1)
                    refine ⟨v', ?_, y2⟩
                    rw [Array.getElem?_append_left (by simp; omega), Array.getElem?_append_left (by simp; omega), List.getElem?_toArray, List.getElem?_take, if_pos hj]
                    simpa using y1)
                  (fun j v' hj => by
                    have hjl := (List.getElem?_eq_some_iff.1 hj).1
                    rw [Array.getElem?_append_left (by simp; omega), Array.getElem?_append_right (by simp; omega), List.getElem?_toArray]
                    rw [show n * inf.size + j - (cs.toList.take (n * inf.size)).toArray.size = j by simp; omega]
                    exact hj)
                  (show (w.drew.alloc _).heap[w.drew.heap.size]? = _ from heap_alloc_new w.drew _) (fun _ => ⟨rfl, .inr ⟨hmx, by
                    simp only [Array.size_append, size_zeroC, List.size_toArray, hul, hzs, hlt]
                    rw [← Nat.add_mul, ← Nat.add_mul, Nat.add_sub_cancel' hle]⟩⟩) (Fr.alloc (Fr.drew (Fr.refl (fun i => i = c0) w)) _)
                exact ⟨_, _, _, _, rfl, hrun, back hw2, .slc _ _ _ _ _ _ _ Rho.add_eq (.whole rfl hle)⟩
      · rename_i hku
        split at q2
        · cases q2
        · rename_i hku2
          cases hs with
          | slc0 => exact absurd rfl hku2
          | slc _ c0 κ _ _ _ k' hr hk =>
            cases hk with
            | whole => exact absurd rfl hku
            | some_ => exact absurd rfl hku2
            | same _ g1 g2 =>
              split at q2
              · rename_i hroom
                have hroom := Nat.le_of_ble_eq_true hroom
                have q2' : PR (wrL a (o + n * inf.size + 0) us (.val (.slice (some ⟨a, o, none⟩) (n + m) k))) t2 r := q2
                obtain ⟨w', s1, s2, rfl, p1, p2, p3, p4⟩ := wrL_sound (o0 := o + n * inf.size) (i := 0) hr q3 q2' q8 hw
                cases p1
                refine ⟨_, _, w', ρ, rfl, run_append_in hu hinf hul hus hroom ?_, by simpa using back p3, .slc _ c0 κ _ _ _ _ hr (.same _ g1 g2)⟩
                rw [Addr.add_mid]; exact p2
              · rename_i hroom
                have hroom : ¬ n + m ≤ k := fun h => hroom (Nat.ble_eq_true_of_le h)
                obtain ⟨os, os', s1, s2, rfl, p1, p2, p3, p4, p5, p6, p7⟩ := rdN_sound hr hw q2 q8
                cases p2 with
                | nw h =>
                  rename_i b tr hnm
                  cases h
                  have hol : os'.length = n * inf.size := by rw [← p3.1]; exact p1
                  have hrun := run_append_grow (P := P) w t ty e inf z hu hinf hz' ⟨c0, o, none⟩ n k os' hol (fun j v hj => by rw [Addr.add_mid]; exact p4 j v hj) ⟨cx, ox, none⟩ m c us' hul hus (by omega) (by omega) (growslice_fits (by omega) b4)
                  have hle := le_grownCap w (n + m) k e
                  have hmx := grownCap_le_maxLen w (n + m) k e (by unfold maxLen; omega)
                  have wd := Went.drew hw
                  have hap : VL ρ (os ++ us) (os' ++ us') := p3.append q3
                  have hw2 := wd.wr.nw (b := b) (ty := (e, inf.size)) (cs := [].reverse ++ os ++ us) (κ := grownCap w (n + m) k e) (cs' := os'.toArray ++ us'.toArray ++ Builtin.zeroCells z.cells (grownCap w (n + m) k e - (n + m))) (by assumption) p7.1 (by simp [q3.1, p3.1])
                    (fun j v v' h1 h2 => hap.2 j v v' (by simpa using h1) (by
                      rw [Array.getElem?_append_left (by have h3 := (List.getElem?_eq_some_iff.1 h1).1; have := hap.1; simp at h3 this ⊢; omega)] at h2
                      rw [← List.getElem?_toArray]
                      simpa using h2)) (.inr ⟨hmx, by
                      simp only [Array.size_append, size_zeroC, List.size_toArray, hul, hzs, hol]
                      rw [← Nat.add_mul, ← Nat.add_mul]; congr 1; omega⟩)
                  refine ⟨_, _, _, _, rfl, hrun, back ((wd.trans hw2).congr (by rw [apps_append (t := s1), p5]; rfl) fun b hb => ?_), .slc _ _ _ _ _ _ _ Rho.add_eq (.whole rfl hle)⟩
                  rw [wrote_append, p6]; exact hb
    · cases q2
end
end Go.Proofs.YtjeplkbdgphfoaaDoor
