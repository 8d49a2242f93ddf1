/-
  A run that is reckoned over blocks with names of its own: what package strings' Builder does besides: no function of a program is named here.
-/
import Derived.Test.YtmphiefdoaihhaaGreatDoorM1
import Derived.Lib.Builder
import Derived.Lib.UnsafeStr
import Derived.Lib.AppendStr
import Derived.Laws.Externs
import Derived.Laws.IdiomCopy
namespace Go.Proofs.YtmphiefdoaihhaaGreatDoor
open Go.RowKit

section
variable {P : Program} {ρ : Rho} {H : Hp} {w : World}

theorem WR.rdx (h : WR P ρ H w) {b o : Nat} {v : Value} (ho : o ≠ tyOff) (hk : Ok H (.rd b o v)) : ∃ k κ cs t' fz v', ρ b = some (k, κ) ∧ w.heap[k]? = some (.cells cs t' fz) ∧ cs[o]? = some v' ∧ V ρ v v' := by
  obtain ⟨ty, c, e, hc⟩ := hk
  obtain ⟨k, κ, cs, t', fz, hr, hw, _, hx⟩ := h.blk b ty c e (h.row e hc (.inl ho))
  obtain ⟨v', h1, h2⟩ := (hx o v hc).resolve_left (fun h => ho h.1)
  exact ⟨k, κ, cs, t', fz, v', hr, hw, h1, h2⟩
theorem shape_of {k : Nat} {cs : Array Value} {t : TypeId} {fz : Nat × Nat} (h : w.heap[k]? = some (.cells cs t fz)) : w.shape? k = some (t, cs.size) := by
  simp [World.shape?, h]
theorem rowAt_more {fits : TypeId → Bool} {count count' : Nat} (hn : count ≤ count') : ∀ (d : Nat) (e off n : Nat), rowAt P fits d e count off n = true → rowAt P fits d e count' off n = true
  | 0, _, _, _, h => by simp [rowAt] at h
  | d + 1, e, off, n, h => by
    unfold rowAt at h ⊢
    simp only at h ⊢
    split at h
    · cases h
    rename_i hs
    rw [if_neg hs]
    rw [Bool.or_eq_true] at h ⊢
    rcases h with h | h
    · left
      simp only [Bool.and_eq_true, decide_eq_true_eq] at h ⊢
      exact ⟨⟨h.1.1, by omega⟩, h.2⟩
    · right
      rw [Bool.and_eq_true] at h ⊢
      refine ⟨?_, h.2⟩
      have := h.1
      simp only [decide_eq_true_eq] at this ⊢
      omega
theorem liesAt_more {count count' : Nat} (hn : count ≤ count') : ∀ (d e off u n : Nat), liesAt P d e count off u n = true → liesAt P d e count' off u n = true
  | 0, _, _, _, _, h => by simp [liesAt] at h
  | d + 1, e, off, u, n, h => by
    unfold liesAt at h ⊢
    rw [Bool.or_eq_true] at h ⊢
    rcases h with h | h
    · exact .inl (rowAt_more hn _ _ _ _ h)
    · right
      split at h
      · rename_i m u' hu
        exact liesAt_more hn d e off u' _ h
      · cases h

/-- A pointer made unsafe, and back. -/
def uptrP (P : Program) (src dst : TypeId) (v : Value) : Prog := match v, P.underlying src, P.underlying dst with
  | .pointer (some ⟨b, o, none⟩), some (.pointer t), some .unsafePointer => (match P.info? t with
    | some j => if Nat.beq j.size 0 then .fail else .rd b o fun _ => .val (.pointer (some ⟨b, o, none⟩))
    | none => .fail)
  | .pointer (some ⟨b, o, none⟩), some .unsafePointer, some (.pointer u) => (match P.info? u with
    | some _ => .tq b fun e => (match P.info? e with
      | some i => if Nat.beq i.size 0 then .fail else (match liesAt P P.depth e 1 o u 1 with
        | true => .rd b (i.size - 1) fun _ => .val (.pointer (some ⟨b, o, none⟩))
        | false => .fail)
      | none => .fail)
    | none => .fail)
  | _, _, _ => .fail
theorem uptr_sim {src dst : TypeId} {v v' : Value} (hv : V ρ v v') : Sim P (uptrP P src dst v) (do pure (.value (← convert src dst v'))) ρ w := by
  unfold uptrP
  split
  · rename_i b o t hs hd
    cases hv with
    | ptr _ c κ _ hr =>
      split
      · rename_i j hj
        split
        · exact Sim.fail
        · rename_i h0
          have h0 : j.size ≠ 0 := fun e => h0 (by rw [e]; rfl)
          refine Sim.v fun H tr r hpr hval hw => ?_
          cases hpr with
          | rd ho h =>
            cases h
            obtain ⟨k, κ', cs, t', fz, u', e1, e2, e3, _⟩ := hw.rdx ho hval.1
            rw [hr] at e1; cases e1
            exact ⟨_, _, w, ρ, rfl, Lib.run_to_unsafe w ⟨c, o, none⟩ hs hd hj h0 (shape_of e2) (Array.getElem?_eq_some_iff.1 e3).1, (Went.refl hw).congr rfl (fun b hb => by cases hb), .ptr b c κ o hr⟩
      · exact Sim.fail
  · rename_i b o u hs hd
    cases hv with
    | ptr _ c κ _ hr =>
      split
      · rename_i j hj
        refine Sim.v fun H tr r hpr hval hw => ?_
        cases hpr with
        | tq h =>
          rename_i e tr
          simp only at h
          split at h
          case h_2 => cases h
          rename_i i hi
          split at h
          · cases h
          rename_i h0
          have h0 : i.size ≠ 0 := fun e => h0 (by rw [e]; rfl)
          split at h
          case h_2 => cases h
          rename_i hlies
          cases h with
          | rd ho h =>
            cases h
            obtain ⟨k, κ', cs, fz, e1, e2⟩ := hw.tq hval.1
            obtain ⟨k2, κ2, cs2, t2, fz2, u', f1, f2, f3, _⟩ := hw.rdx ho hval.2.1
            rw [hr] at e1 f1; cases e1; cases f1
            rw [e2] at f2; cases f2
            have hc : P.cellsOf e = i.size := by simp [Program.cellsOf, hi]
            have hlt := (Array.getElem?_eq_some_iff.1 f3).1
            have hn : 1 ≤ cs.size / P.cellsOf e := by rw [hc]; exact (Nat.le_div_iff_mul_le (by omega)).2 (by omega)
            exact ⟨_, _, w, ρ, rfl, Lib.run_from_unsafe w ⟨c, o, none⟩ hs hd hj (shape_of e2) (liesAt_more hn _ _ _ _ _ hlies), (Went.refl hw).congr rfl (fun b hb => by cases hb), .ptr b c κ o hr⟩
      · exact Sim.fail
  · exact Sim.fail

/-- unsafe.SliceData. -/
def uDataP (v : Value) : Prog := match v with
  | .slice (some ⟨b, o, none⟩) n k => if Nat.blt 0 n && (Nat.beq k unk || Nat.beq k unk2 || Nat.blt 0 k) then .val (.pointer (some ⟨b, o, none⟩)) else .fail
  | .slice none _ _ => .val (.pointer none)
  | _ => .fail
theorem uData_sim {ts : Array TypeId} {ty : TypeId} {v v' : Value} (hv : V ρ v v') : Sim P (uDataP v) (do pure (.value (← Builtin.unsafeSliceData_ ts ty #[v']))) ρ w := by
  unfold uDataP
  split
  · rename_i b o n k
    split
    · rename_i hb
      simp only [Bool.and_eq_true, Bool.or_eq_true] at hb
      obtain ⟨hn, hk⟩ := hb
      have hn : 0 < n := by simpa [Nat.blt_eq] using hn
      cases hv with
      | slc0 => omega
      | slc _ c κ _ _ _ k' hr hc =>
        refine Sim.vv rfl (v' := .pointer (some ⟨c, o, none⟩)) (Lib.run_unsafeSliceData_row w ts ty _ n k' ?_) (.ptr b c κ o hr)
        cases hc with
        | same _ q1 q2 =>
          rcases hk with (h | h) | h
          · exact absurd (Nat.eq_of_beq_eq_true h) q1
          · exact absurd (Nat.eq_of_beq_eq_true h) q2
          · have : 0 < k := by simpa [Nat.blt_eq] using h
            omega
        | whole _ h => omega
        | some_ _ h => omega
    · exact Sim.fail
  · cases hv
    exact Sim.vv rfl (Lib.run_unsafeSliceData_nil w ts ty _ _) .nilp
  · exact Sim.fail

theorem freeze_heap {k n : Nat} {cs : Array Value} {t : TypeId} {fz : Nat × Nat} (h : w.heap[k]? = some (.cells cs t fz)) (hn : n ≠ 0) : ∃ fz', (w.freeze ⟨k, 0, none⟩ n).heap[k]? = some (.cells cs t fz') := by
  obtain ⟨lo, hi⟩ := fz
  refine ⟨if lo == hi then (0, 0 + n) else (min lo 0, max hi (0 + n)), ?_⟩
  unfold World.freeze
  rw [if_neg hn]
  simp [Array.getElem?_modify, h]
theorem freeze_fr {k n : Nat} : Fr (fun i => i = k) w (w.freeze ⟨k, 0, none⟩ n) := by
  unfold World.freeze
  split
  · exact Fr.refl _ _
  · exact ⟨rfl, rfl, rfl, by simp, fun i hi hne => by
      simp only [Array.getElem?_modify]
      rw [if_neg (fun e => hne e.symm)]⟩

/-- A text of bytes, as it is read. -/
def byteL : List Value → Option (List UInt8)
  | [] => some []
  | .int .u8 n :: l => if 0 ≤ n ∧ n < 256 then (byteL l).map (UInt8.ofNat n.toNat :: ·) else none
  | _ => none
theorem byteL_spec : ∀ {l : List Value} {s : List UInt8}, byteL l = some s → l.length = s.length ∧ ∀ (i : Nat) (h : i < s.length), l[i]? = some (.int .u8 (s[i].toNat : Int))
  | [], s, h => by cases h; exact ⟨rfl, fun i h => by simp at h⟩
  | v :: l, s, h => by
    unfold byteL at h
    split at h
    · cases h; rename_i e; cases e
    case h_3 => cases h
    rename_i n l' e
    cases e
    split at h
    · rename_i hn
      cases hb : byteL l with
      | none => rw [hb] at h; cases h
      | some r =>
        rw [hb] at h
        cases h
        obtain ⟨h1, h2⟩ := byteL_spec hb
        refine ⟨by simp [h1], fun i hi => ?_⟩
        cases i with
        | zero =>
          simp only [List.getElem?_cons_zero, List.getElem_cons_zero]
          congr 2
          rw [UInt8.toNat_ofNat']
          omega
        | succ i => simpa using h2 i (by simpa using hi)
    · cases h

/-- unsafe.String: the block is only read from here on. -/
def uStrP (P : Program) (pt : TypeId) (p n : Value) : Prog := match p, n, P.underlying pt with
  | .pointer none, .int .i64 (.ofNat 0), some (.pointer _) => .val (.string ⟨⟨[]⟩⟩)
  | .pointer (some ⟨b, o, none⟩), .int .i64 (.ofNat n), some (.pointer e) => (match P.info? e with
    | some inf => if Nat.beq inf.size 1 && Nat.beq o 0 && Nat.blt 0 n && Nat.ble n 4294967296 then rdN b n 0 [] fun l => (match byteL l with
        | some s => .mv b (e, ro) n [] fun _ => .val (.string ⟨⟨s⟩⟩)
        | none => .fail) else .fail
    | none => .fail)
  | _, _, _ => .fail
theorem uStr_sim {pt it ty : TypeId} {p p' n n' : Value} (hp : V ρ p p') (hn : V ρ n n') : Sim P (uStrP P pt p n) (do pure (.value (← Builtin.unsafeString_ #[pt, it] ty #[p', n']))) ρ w := by
  unfold uStrP
  split
  · cases hp
    cases hn
    exact Sim.vv rfl (Lib.run_unsafeString_none w pt it ty none) (.string _)
  · rename_i b o n e hu
    cases hn
    cases hp with
    | ptr _ c κ _ hr =>
      split
      · rename_i inf hi
        split
        · rename_i hb
          simp only [Bool.and_eq_true] at hb
          obtain ⟨⟨⟨b1, b2⟩, b3⟩, b4⟩ := hb
          have b1 := Nat.eq_of_beq_eq_true b1
          obtain rfl : o = 0 := Nat.eq_of_beq_eq_true b2
          have b3 : 0 < n := by simpa [Nat.blt_eq] using b3
          have b4 := Nat.le_of_ble_eq_true b4
          refine Sim.v fun H tr r hpr hval hw => ?_
          obtain ⟨us, us', t1, t2, rfl, q1, q2, q3, q4, q5, q6, q7⟩ := rdN_sound hr hw hpr hval
          simp only [List.reverse_nil, List.nil_append] at q2
          cases hs : byteL us with
          | none => rw [hs] at q2; cases q2
          | some s =>
            rw [hs] at q2
            simp only at q2
            obtain ⟨h1, h2⟩ := byteL_spec hs
            cases q2 with
            | mv h =>
              rename_i b' tr
              cases h
              obtain ⟨hok, _⟩ := q7
              have hok' := hok
              obtain ⟨⟨cell, m0, hlive, hz, hcells⟩, hub, hone⟩ := hok
              obtain ⟨k1, κ1, cs, t1', fz1, hr1, hheap, hq1, hx1⟩ := hw.blk b _ _ hlive hz.2.2.1
              obtain ⟨ht1, hfz1, hR⟩ := hq1 hz.2.1
              rw [hr] at hr1; cases hr1
              simp only at ht1
              rw [ht1, hfz1] at hheap
              have hsl : s.length = n := by rw [← h1, q1]
              have hcell : ∀ j x, s[j]? = some x → w.cell? ((⟨c, 0, none⟩ : Addr).add j) = some (.int .u8 x.toNat) := fun j x hj => by
                have hjl := (List.getElem?_eq_some_iff.1 hj).1
                have hv := h2 j hjl
                have hv' : us'[j]? = some (.int .u8 (s[j].toNat : Int)) := by
                  obtain ⟨u, hu1, hu2⟩ := q3.get hv
                  cases hu2
                  exact hu1
                have := q4 j _ hv'
                rw [List.getElem?_eq_getElem hjl] at hj
                cases hj
                rw [Addr.add_mid]
                exact this
              have hcs : n ≤ cs.size := by
                have hj : n - 1 < s.length := by omega
                have := hcell (n - 1) _ (List.getElem?_eq_getElem hj)
                rw [Addr.add_mid, Nat.zero_add, cell_of_row _ _ _ _ _ _ hheap] at this
                have := (Array.getElem?_eq_some_iff.1 this).1
                omega
              have hc1 : P.cellsOf e = 1 := by simp [Program.cellsOf, hi, b1]
              have hrun := Lib.run_unsafeString_row (P := P) w pt it ty e hu hc1 c cs.size (shape_of hheap) s (by intro h; subst h; simp at hsl; omega) (by omega) (by omega) hcell
              rw [hsl] at hrun
              obtain ⟨fz', hfr⟩ := freeze_heap (w := w) hheap (show n ≠ 0 by omega)
              have hw2 := hw.mv (w' := w.freeze ⟨c, 0, none⟩ n) (b := b') (n := n) (cs := []) (cs' := []) (g := c) (κ' := κ) (cur := cs) (fz := fz') (ty := (e, ro)) hok' hlive hr (.inl rfl) VL.nil
                (fun j v hj hv => (hx1 j v hv).resolve_left (fun h => hz.1 h.2.1)) (fun j v hj => by simp at hj) hfr (fun h => absurd rfl h) freeze_fr
              refine ⟨_, _, _, _, rfl, hrun, hw2.congr ?_ ?_, .string _⟩
              · rw [apps_append, q5]
              · intro x hx; rw [wrote_append, q6]; exact hx
        · exact Sim.fail
      · exact Sim.fail
  · exact Sim.fail

/-- append of a text. -/
def bytesV (s : List UInt8) : List Value := s.map fun b => .int .u8 b.toNat
def appendSP (P : Program) (t u : TypeId) (s : Value) (str : List UInt8) : Prog := match P.underlying t, P.underlying u with
  | some (.slice e), some .string => (match P.info? e, zeroP P e with
    | some inf, some z =>
      if inf.size = 1 ∧ inf.bytes = 1 ∧ z.cells.size = 1 then (match s with
        | .slice none n k => if Nat.beq str.length 0 then (if Nat.ble n k then .val (.slice none n k) else .fail)
          else if Nat.beq n 0 && Nat.beq k 0 && Nat.ble str.length 4294967296 then .nw (e, 1) (bytesV str) fun b => .val (.slice (some ⟨b, 0, none⟩) str.length unk) else .fail
        | .slice (some ⟨a, o, none⟩) n k => if Nat.beq k unk && Nat.ble (n + str.length) 4294967296 then (if Nat.beq str.length 0 then .val (.slice (some ⟨a, o, none⟩) n k) else .mv a (e, 1) n (bytesV str) fun b => .val (.slice (some ⟨b, 0, none⟩) (n + str.length) unk)) else .fail
        | _ => .fail)
      else .fail
    | _, _ => .fail)
  | _, _ => .fail

theorem run_append_none {t u ty e : TypeId} {i : TypeInfo} (ht : P.underlying t = some (.slice e)) (hu : P.underlying u = some .string) (hi : P.info? e = some i) {B : Option Addr} {n k : Nat} (h : n ≤ k) :
    (Builtin.append_ #[t, u] ty #[.slice B n k, .string ⟨⟨[]⟩⟩]).run P w = .ok (.slice B n k) w := by
  have hsz : (⟨⟨[]⟩⟩ : ByteArray).size = 0 := rfl
  simp [Builtin.append_, run_underlying ht, run_underlying hu, sizeOf, typeInfo, hi, Builtin.lenOf, hsz, h, Builtin.firstCells]
  cases B <;> simp [storeCells]
theorem bytesV_eq (s : List UInt8) : Lib.strCells ⟨⟨s⟩⟩ = bytesV s := rfl
theorem bytesV_rel (s : List UInt8) : VL ρ (bytesV s) (bytesV s) := ⟨rfl, fun i v v' h1 h2 => by
  rw [h1] at h2; cases h2
  unfold bytesV at h1
  rw [List.getElem?_map] at h1
  cases hs : s[i]? with
  | none => rw [hs] at h1; cases h1
  | some b => rw [hs] at h1; cases h1; exact .int _ _⟩
theorem bytesV_length (s : List UInt8) : (bytesV s).length = s.length := by simp [bytesV]
theorem bytesV_one (s : List UInt8) : ∀ v ∈ bytesV s, v.oneCell' = true := fun v hv => by
  obtain ⟨b, _, rfl⟩ := List.mem_map.1 hv
  rfl

theorem appendS_sim {t u ty : TypeId} {s s' : Value} {str : List UInt8} (hs : V ρ s s') : Sim P (appendSP P t u s str) (do pure (.value (← Builtin.append_ #[t, u] ty #[s', .string ⟨⟨str⟩⟩]))) ρ w := by
  unfold appendSP
  split
  case h_2 => exact Sim.fail
  rename_i e ht hu
  split
  case h_2 => exact Sim.fail
  rename_i inf z hinf hz
  split
  case isFalse => exact Sim.fail
  rename_i hb
  obtain ⟨b1, b2, hzs⟩ := hb
  obtain ⟨inf', hinf', hz', _⟩ := zeroP_spec hz
  rw [hinf] at hinf'; cases hinf'
  have hsz : (⟨⟨str⟩⟩ : ByteArray).size = str.length := rfl
  split
  · rename_i n k
    split
    · rename_i h0
      obtain rfl : str = [] := List.eq_nil_of_length_eq_zero (Nat.eq_of_beq_eq_true h0)
      split
      · rename_i hn
        cases hs
        exact Sim.vv rfl (run_append_none ht hu hinf (Nat.le_of_ble_eq_true hn)) (.nils _ _)
      · exact Sim.fail
    · rename_i h0
      have h0 : str.length ≠ 0 := fun e => h0 (by rw [e]; rfl)
      split
      · rename_i hb
        simp only [Bool.and_eq_true] at hb
        obtain ⟨⟨b3, b4⟩, b5⟩ := hb
        obtain rfl : n = 0 := Nat.eq_of_beq_eq_true b3
        obtain rfl : k = 0 := Nat.eq_of_beq_eq_true b4
        have b5 := Nat.le_of_ble_eq_true b5
        cases hs
        refine Sim.v fun H tr r hpr hval hw => ?_
        cases hpr with
        | nw h =>
          rename_i b tr hnm
          cases h
          have hrun := run_append_nil_string (P := P) (w := w) t u ty e inf z ht hu hinf hz' ⟨⟨str⟩⟩ (by omega) (by omega) (by rw [b2]; omega)
          have hle := le_grownCap w str.length 0 e
          have hmx := grownCap_le_maxLen w str.length 0 e (by unfold maxLen; omega)
          have wd := Went.drew hw
          have hw2 := wd.wr.nw (b := b) (ty := (e, 1)) (cs := bytesV str) (κ := grownCap w str.length 0 e) (cs' := (bytesV str).toArray ++ Builtin.zeroCells z.cells (grownCap w str.length 0 e - str.length)) (by assumption) hval.1 (by simp) (fun j v v' h1 h2 => (bytesV_rel str).2 j v v' h1 (by
            rw [Array.getElem?_append_left (by have := (List.getElem?_eq_some_iff.1 h1).1; simpa using this)] at h2
            simpa using h2)) (.inr ⟨hmx, by simp only [Array.size_append, size_zeroC, List.size_toArray, bytesV_length, hzs]; omega⟩)
          refine ⟨_, _, _, _, rfl, ?_, wd.trans hw2, .slc _ _ _ _ _ _ _ Rho.add_eq (.whole rfl hle)⟩
          rw [hrun]
          have e1 : (⟨⟨str⟩⟩ : ByteArray).data.map (fun b => Value.int .u8 b.toNat) = (bytesV str).toArray := by simp [bytesV]
          rw [e1, hsz]
          rfl
      · exact Sim.fail
  · rename_i a o n k
    split
    case isFalse => exact Sim.fail
    rename_i hb
    simp only [Bool.and_eq_true] at hb
    obtain ⟨b3, b4⟩ := hb
    obtain rfl : k = unk := Nat.eq_of_beq_eq_true b3
    have b4 := Nat.le_of_ble_eq_true b4
    cases hs with
    | slc _ c0 κ _ _ _ k' hr hk =>
      cases hk with
      | same _ h _ => exact absurd rfl h
      | whole ho hn =>
        subst ho
        split
        · rename_i h0
          obtain rfl : str = [] := List.eq_nil_of_length_eq_zero (Nat.eq_of_beq_eq_true h0)
          exact Sim.vv rfl (run_append_none ht hu hinf hn) (.slc _ c0 κ _ _ _ _ hr (.whole rfl hn))
        · rename_i h0
          have h0 : str.length ≠ 0 := fun e => h0 (by rw [e]; rfl)
          refine Sim.v fun H tr r hpr hval hw => ?_
          cases hpr with
          | mv h =>
            rename_i b tr
            cases h
            obtain ⟨hok, _⟩ := hval
            have hok' := hok
            obtain ⟨⟨cell, m0, hlive, hz2, hcells⟩, hub, hone⟩ := hok
            obtain ⟨z1, z2, z4, z3⟩ := hz2
            obtain rfl : m0 = 1 := by
              rcases z3 with h | h
              · exact h.symm
              · exact absurd (show (1 : Nat) = ro from h) (by decide)
            obtain ⟨k1, κ1, cs, t1', fz1, hr1, hheap, hq1, hx1⟩ := hw.blk a _ _ hlive z4
            obtain ⟨ht1, hfz1, hR⟩ := hq1 z2
            simp only at ht1
            rw [ht1, hfz1] at hheap
            rw [hr] at hr1; cases hr1
            have hR2 : κ ≤ maxLen ∧ cs.size = κ * 1 := by
              rcases hR with h0 | h0
              · exact absurd (show (1 : Nat) = 0 from h0) (by decide)
              · exact h0
            have hold : ∀ (j : Nat) (v : Value), j < n → cell j = some v → ∃ v', cs[j]? = some v' ∧ V ρ v v' := fun j v _ hv => (hx1 j v hv).resolve_left (fun h => z1 h.2.1)
            have hlt : (cs.toList.take n).length = n := by rw [List.length_take]; simp; omega
            by_cases hroom : n + str.length ≤ κ
            · have hrun := Lib.run_append_room_string (P := P) w t u ty e inf ht hu hinf b1 c0 n κ cs hheap ⟨⟨str⟩⟩ (by rw [hsz]; exact hroom) (by rw [hsz]; omega)
              rw [bytesV_eq, hsz] at hrun
              have hw2 := hw.mv (b := b) (n := n) (cs := bytesV str) (cs' := bytesV str) (g := c0) (κ' := κ) (cur := (cs.toList.take n ++ bytesV str ++ cs.toList.drop (n + str.length)).toArray) (fz := (0, 0)) (ty := (e, 1)) hok' hlive hr (.inl rfl) (bytesV_rel str)
                (fun j v hj hv => by
                  obtain ⟨v', y1, y2⟩ := hold j v hj hv
                  refine ⟨v', ?_, y2⟩
                  rw [List.getElem?_toArray, List.append_assoc, List.getElem?_append_left (by omega), List.getElem?_take, if_pos hj]
                  simpa using y1)
                (fun j v' hj => by
                  rw [List.getElem?_toArray, List.append_assoc, List.getElem?_append_right (by omega), hlt, Nat.add_sub_cancel_left, List.getElem?_append_left (List.getElem?_eq_some_iff.1 hj).1]
                  exact hj)
                (setRow_heap w c0 cs _ e (0, 0) hheap) (fun _ => ⟨rfl, .inr ⟨hR2.1, by simp [bytesV_length]; omega⟩⟩) ((Fr.refl (fun i => i = c0) w).setRow c0 (fun _ => rfl) _)
              exact ⟨_, _, _, _, rfl, hrun, hw2, .slc _ _ _ _ _ _ _ Rho.add_eq (.whole rfl hroom)⟩
            · have hrun := Lib.run_append_grow_string (P := P) w t u ty e inf z ht hu hinf hz' ⟨c0, 0, none⟩ n κ (cs.toList.take n) (by rw [hlt, b1]; omega) (fun j v hj => by
                  rw [Addr.add_mid, Nat.zero_add, cell_of_row _ _ _ _ _ _ hheap]
                  rw [List.getElem?_take] at hj
                  split at hj
                  · simpa using hj
                  · cases hj) ⟨⟨str⟩⟩ (by rw [hsz]; omega) (by rw [hsz]; omega) (growslice_fits (by rw [hsz]; omega) (by rw [hsz, b2]; omega))
              rw [bytesV_eq, hsz] at hrun
              have hle := le_grownCap w (n + str.length) κ e
              have hmx := grownCap_le_maxLen w (n + str.length) κ e (by unfold maxLen; omega)
              generalize grownCap w (n + str.length) κ e = κ' at hrun hle hmx
              have hw2 := hw.mv (b := b) (n := n) (cs := bytesV str) (cs' := bytesV str) (g := w.heap.size) (κ' := κ') (cur := (cs.toList.take n).toArray ++ (bytesV str).toArray ++ Builtin.zeroCells z.cells (κ' - (n + str.length))) (fz := (0, 0)) (ty := (e, 1))
                (w' := w.drew.alloc (.cells ((cs.toList.take n).toArray ++ (bytesV str).toArray ++ Builtin.zeroCells z.cells (κ' - (n + str.length))) e)) hok' hlive hr (.inr (Nat.le_refl _)) (bytesV_rel str)
                (fun j v hj hv => by
                  obtain ⟨v', y1, y2⟩ := hold j v hj hv
                  refine ⟨v', ?_, y2⟩
                  rw [Array.getElem?_append_left (by simp; omega), Array.getElem?_append_left (by simp; omega), List.getElem?_toArray, List.getElem?_take, if_pos hj]
                  simpa using y1)
                (fun j v' hj => by
                  have hjl := (List.getElem?_eq_some_iff.1 hj).1
                  rw [Array.getElem?_append_left (by simp; omega), Array.getElem?_append_right (by simp; omega), List.getElem?_toArray]
                  rw [show n + j - (cs.toList.take n).toArray.size = j by simp; omega]
                  exact hj)
                (show (w.drew.alloc _).heap[w.drew.heap.size]? = _ from heap_alloc_new w.drew _) (fun _ => ⟨rfl, .inr ⟨hmx, by
                  simp only [Array.size_append, size_zeroC, List.size_toArray, bytesV_length, hzs, hlt]
                  omega⟩⟩) (Fr.alloc (Fr.drew (Fr.refl (fun i => i = c0) w)) _)
              exact ⟨_, _, _, _, rfl, hrun, hw2, .slc _ _ _ _ _ _ _ Rho.add_eq (.whole rfl hle)⟩
  · exact Sim.fail

/-- A pointer held against itself. -/
def ptrB (P : Program) (t : TypeId) (op : BinOp) (a b : Addr) : Prog :=
  if Nat.beq a.block b.block && Nat.beq a.off b.off && a.spot.isNone && b.spot.isNone then (match P.underlying t with
    | some (.pointer te) => (match P.info? te with
      | some _ => (match op with
        | .eql => .val (.bool true)
        | .neq => .val (.bool false)
        | _ => .fail)
      | none => .fail)
    | _ => .fail) else .fail
theorem run_eql_ptr_same {tp te : TypeId} {j : TypeInfo} (a : Addr) (hp : P.underlying tp = some (.pointer te)) (hte : P.info? te = some j) :
    (Op.equal tp (.pointer (some a)) (.pointer (some a))).run P w = .ok true w := by
  have h : ∀ d : Nat, (Op.equalIn (d + 1) tp (.pointer (some a)) (.pointer (some a))).run P w = .ok true w := fun d => by
    simp [Op.equalIn, run_underlying hp, sizeOf, typeInfo, hte, run_sameAddr_same]
  exact h 9999
theorem eql_ptr_run {tp te : TypeId} {j : TypeInfo} {x y : Operand} (a : Addr) (hp : P.underlying tp = some (.pointer te)) (hte : P.info? te = some j) :
    (do eqGuard .eql tp x y (.pointer (some a)) (.pointer (some a)); binOp .eql tp (.pointer (some a)) (.pointer (some a))).run P w = .ok (.bool true) w := by
  have := run_eql_ptr_same (w := w) a hp hte
  rw [show eqGuard .eql tp x y (.pointer (some a)) (.pointer (some a)) = pure () from rfl]
  simp only [binOp]
  simp [this]
theorem neq_ptr_run {tp te : TypeId} {j : TypeInfo} {x y : Operand} (a : Addr) (hp : P.underlying tp = some (.pointer te)) (hte : P.info? te = some j) :
    (do eqGuard .neq tp x y (.pointer (some a)) (.pointer (some a)); binOp .neq tp (.pointer (some a)) (.pointer (some a))).run P w = .ok (.bool false) w := by
  have := run_eql_ptr_same (w := w) a hp hte
  rw [show eqGuard .neq tp x y (.pointer (some a)) (.pointer (some a)) = pure () from rfl]
  simp only [binOp]
  simp [this]
theorem ptr_sim {t : TypeId} {op : BinOp} {x y : Operand} {a b : Addr} {a' b' : Value} (ha : V ρ (.pointer (some a)) a') (hb : V ρ (.pointer (some b)) b') : Sim P (ptrB P t op a b) (do pure (.value (← (do eqGuard op t x y a' b'; binOp op t a' b')))) ρ w := by
  unfold ptrB
  split
  case isFalse => exact Sim.fail
  rename_i hab
  simp only [Bool.and_eq_true] at hab
  obtain ⟨⟨⟨h1, h2⟩, h3⟩, h4⟩ := hab
  replace h1 := Nat.eq_of_beq_eq_true h1
  replace h2 := Nat.eq_of_beq_eq_true h2
  cases ha with
  | ptr _ c κ _ hr =>
    cases hb with
    | ptr _ c' κ' _ hr' =>
      simp only at h1 h2
      subst h1 h2
      rw [hr] at hr'; cases hr'
      split
      · rename_i te hu
        split
        · rename_i j hj
          split
          · refine Sim.vv rfl (v' := .bool true) ?_ (.bool _)
            exact eql_ptr_run _ hu hj
          · refine Sim.vv rfl (v' := .bool false) ?_ (.bool _)
            exact neq_ptr_run _ hu hj
          · exact Sim.fail
        · exact Sim.fail
      · exact Sim.fail

/-- internal/abi.NoEscape. -/
def isEsc (fn : Func) : Bool := fn.body.isNone && fn.name == "internal/abi.NoEscape" && fn.origin == ""
theorem esc_find {fn : Func} (h : isEsc fn = true) : fn.body.isNone = true ∧ (fn.name == "runtime.NumGoroutine") = false ∧ Extern.findNext fn = none ∧ Extern.find fn = some Extern.AbiNoEscape.same := by
  unfold isEsc at h
  simp only [Bool.and_eq_true, beq_iff_eq] at h
  obtain ⟨⟨h1, h2⟩, h3⟩ := h
  obtain ⟨_⟩ := fn
  simp only at h1 h2 h3
  subst h2 h3
  exact ⟨h1, show ("internal/abi.NoEscape" == "runtime.NumGoroutine") = false by decide, by kernel_rfl, by kernel_rfl⟩
/-- copy: all is read ahead of what is written. -/
def copyP (P : Program) (t : TypeId) (d s : Value) : Prog := match P.underlying t with
  | some (.slice e) => match P.info? e with
    | some inf => match d, s with
      | .slice (some ⟨b, o, none⟩) n _, .slice (some ⟨a, p, none⟩) m _ => if Nat.beq (Nat.min m n) 0 then .val (goInt 0) else rdN a (Nat.min m n * inf.size) p [] fun us => wrL b o us (.val (goInt (Nat.min m n)))
      | .slice _ n _, .slice none m _ => if Nat.beq (Nat.min m n) 0 then .val (goInt 0) else .fail
      | .slice none n _, .slice _ m _ => if Nat.beq (Nat.min m n) 0 then .val (goInt 0) else .fail
      | _, _ => .fail
    | none => .fail
  | _ => .fail
theorem run_copy_zero {ats : Array TypeId} {t ty e : TypeId} {inf : TypeInfo} (h0 : ats[0]? = some t) (hu : P.underlying t = some (.slice e)) (hi : P.info? e = some inf) (A B : Option Addr) (n k m k2 : Nat) (hz : Nat.min m n = 0) (w : World) :
    (Builtin.copy_ ats ty #[.slice A n k, .slice B m k2]).run P w = .ok (goInt 0) w := by
  have hl : ∀ (x : Addr), (loadCells x 0).run P w = .ok #[] w := fun x => by simpa using run_loadCells_list (P := P) w x [] (by simp)
  cases A <;> cases B <;> simp [Builtin.copy_, h0, run_underlying hu, Builtin.lenOf, Builtin.firstCells, sizeOf, typeInfo, hi, hz, storeCells, hl]
theorem run_copy_some {ats : Array TypeId} {t ty e : TypeId} {inf : TypeInfo} (h0 : ats[0]? = some t) (hu : P.underlying t = some (.slice e)) (hi : P.info? e = some inf) (A : Addr) (c p n k m k2 : Nat) (cs : List Value) (hl : cs.length = Nat.min m n * inf.size) {w w' : World} (hr : w.rangeAt c p cs)
    (hs : (storeCells A cs 0).run P w = .ok () w') :
    (Builtin.copy_ ats ty #[.slice (some A) n k, .slice (some ⟨c, p, none⟩) m k2]).run P w = .ok (goInt (Nat.min m n)) w' := by
  have h1 := run_loadCells_list (P := P) w ⟨c, p, none⟩ cs (fun j v hj => by rw [Addr.add_mid]; exact hr j v hj)
  rw [hl] at h1
  simp [Builtin.copy_, h0, run_underlying hu, Builtin.lenOf, Builtin.firstCells, sizeOf, typeInfo, hi, h1, hs]
theorem V.sl_of {A : Option Addr} {n k : Nat} {v' : Value} (h : V ρ (.slice A n k) v') : ∃ A' k', v' = .slice A' n k' := by
  cases h with
  | nils => exact ⟨_, _, rfl⟩
  | slc => exact ⟨_, _, rfl⟩
  | slc0 => exact ⟨_, _, rfl⟩
theorem copy_sim {ats : Array TypeId} {t ty : TypeId} {d s d' s' : Value} (h0 : ats[0]? = some t) (hd : V ρ d d') (hs : V ρ s s') : Sim P (copyP P t d s) (do pure (.value (← Builtin.copy_ ats ty #[d', s']))) ρ w := by
  unfold copyP
  split
  case h_2 => exact Sim.fail
  rename_i e hu
  split
  case h_2 => exact Sim.fail
  rename_i inf hi
  have zero : ∀ {A B : Option Addr} {n k m k2 : Nat}, V ρ (.slice A n k) d' → V ρ (.slice B m k2) s' → Nat.min m n = 0 → Sim P (.val (goInt 0)) (do pure (.value (← Builtin.copy_ ats ty #[d', s']))) ρ w := fun h1 h2 hz => by
    obtain ⟨A', k', rfl⟩ := h1.sl_of
    obtain ⟨B', k2', rfl⟩ := h2.sl_of
    refine Sim.val rfl (v' := goInt 0) (fun w => ?_) (.int _ _)
    simp [run_copy_zero h0 hu hi _ _ _ _ _ _ hz]
  split
  · rename_i b o n k a p m k2
    split
    · rename_i hz
      exact zero hd hs (Nat.eq_of_beq_eq_true hz)
    · rename_i hz
      have hz : Nat.min m n ≠ 0 := fun e => hz (by rw [e]; rfl)
      cases hd with
      | slc0 => exact absurd (Nat.min_zero _) hz
      | slc _ c κ _ _ _ k' hr hk =>
        cases hs with
        | slc0 => exact absurd (Nat.zero_min _) hz
        | slc _ c2 κ2 _ _ _ k2' hr2 hk2 =>
          intro H tr r hpr hval hw
          obtain ⟨us, us', t1, t2, rfl, q1, q2, q3, q4, q5, q6, q7⟩ := rdN_sound hr2 hw hpr hval
          have q2' : PR (wrL b (o + 0) us (.val (goInt (Nat.min m n)))) t2 r := by simpa using q2
          obtain ⟨w', s1, s2, rfl, p1, p2, p3, p4⟩ := wrL_sound (o0 := o) (i := 0) hr q3 q2' q7 hw
          cases p1
          refine ⟨.value (goInt (Nat.min m n)), w', ρ, ?_, ?_, .int _ _⟩
          · have := run_copy_some (ty := ty) (k := k') (k2 := k2') h0 hu hi ⟨c, o, none⟩ c2 p n m us' (by rw [← q3.1, q1]) q4 p2
            simp [this]
          · refine p3.congr ?_ fun b hb => ?_
            · rw [apps_append (t := t1), q5, List.append_nil]
            · rw [wrote_append, List.append_nil]; exact List.mem_append_right _ hb
  · rename_i A n k m k2 _
    split
    · rename_i hz; exact zero hd hs (Nat.eq_of_beq_eq_true hz)
    · exact Sim.fail
  · rename_i n k B m k2 _ _
    split
    · rename_i hz; exact zero hd hs (Nat.eq_of_beq_eq_true hz)
    · exact Sim.fail
  · exact Sim.fail
end
end Go.Proofs.YtmphiefdoaihhaaGreatDoor

/-
  A run that is reckoned over blocks with names of its own: maps, interfaces: no function of a program is named here.
-/
namespace Go.Proofs.YtmphiefdoaihhaaGreatDoor
open Go.RowKit
noncomputable section

/-- Numbers of one kind. -/
def sameK : IntKind → IntKind → Bool
  | .i64, .i64 => true
  | .u8, .u8 => true
  | .u64, .u64 => true
  | .i32, .i32 => true
  | .u32, .u32 => true
  | _, _ => false
theorem sameK_eq {k k' : IntKind} (h : sameK k k' = true) : k = k' := by cases k <;> cases k' <;> first | rfl | cases h
def leq : List UInt8 → List UInt8 → Bool
  | [], [] => true
  | a :: l, b :: m => match Nat.beq a.toNat b.toNat with
    | true => leq l m
    | false => false
  | _, _ => false
theorem leq_eq : ∀ (l m : List UInt8), leq l m = (l == m)
  | [], [] => rfl
  | [], b :: m => rfl
  | a :: l, [] => rfl
  | a :: l, b :: m => by
    simp only [leq]
    cases hb : Nat.beq a.toNat b.toNat with
    | true =>
      have : a = b := UInt8.toNat_inj.1 (Nat.eq_of_beq_eq_true hb)
      subst this
      rw [leq_eq l m]
      simp
    | false =>
      have : a ≠ b := fun e => by subst e; rw [Nat.beq_refl] at hb; cases hb
      simp [this]
theorem bytes_list (b : ByteArray) : b.toList = b.data.toList := by first | rfl | exact ByteArray.toList_eq b | simp
def lenY (l : List UInt8) : Nat := List.rec (motive := fun _ => Nat) 0 (fun _ _ ih => Nat.succ ih) l
theorem lenY_eq : ∀ l : List UInt8, lenY l = l.length
  | [] => rfl
  | _ :: l => by show Nat.succ (lenY l) = _; rw [lenY_eq l]; rfl
def appY (a b : List UInt8) : List UInt8 := List.rec (motive := fun _ => List UInt8) b (fun x _ ih => List.cons x ih) a
theorem appY_eq : ∀ a b : List UInt8, appY a b = a ++ b
  | [], _ => rfl
  | x :: a, b => by show x :: appY a b = _; rw [appY_eq a b]; rfl
def leqY (a : List UInt8) : List UInt8 → Bool := List.rec (motive := fun _ => List UInt8 → Bool) (fun b => List.rec (motive := fun _ => Bool) true (fun _ _ _ => false) b) (fun x _ ih b => List.rec (motive := fun _ => Bool) false (fun y m _ => Bool.rec (motive := fun _ => Bool) false (ih m) (Nat.beq x.toNat y.toNat)) b) a
theorem leqY_eq : ∀ a b : List UInt8, leqY a b = leq a b
  | [], [] => rfl
  | [], _ :: _ => rfl
  | _ :: _, [] => rfl
  | x :: a, y :: b => by
    show Bool.rec (motive := fun _ => Bool) false (leqY a b) (Nat.beq x.toNat y.toNat) = _
    rw [leqY_eq a b]
    simp only [leq]
    cases Nat.beq x.toNat y.toNat <;> rfl

theorem bytes_beq (x y : ByteArray) : (x == y) = (x.data.toList == y.data.toList) := by
  cases x; cases y
  rename_i a b
  have h : (ByteArray.mk a == ByteArray.mk b) = (a == b) := rfl
  rw [h]
  by_cases e : a = b
  · subst e; simp
  · have h1 : (a == b) = false := by simpa using e
    have h2 : a.toList ≠ b.toList := fun h => e (Array.toList_inj.1 h)
    rw [h1]; exact (beq_eq_false_iff_ne.2 h2).symm
section
variable {P : Program} {ρ : Rho} {w : World}

/-- Is a key met? -/
def keyIs (d : TypeDesc) (k e : Value) : Option Bool := match d, k, e with
  | .int _, .int j a, .int j' b => (match sameK j j' with
    | true => some (a == b)
    | false => none)
  | .string, .string a, .string b => some (leqY a.data.toList b.data.toList)
  | _, _, _ => none
theorem keyIs_rel {d : TypeDesc} {k k' e e' : Value} {b : Bool} (hk : V ρ k k') (he : V ρ e e') (h : keyIs d k e = some b) : Instr.sameNow d k' e' = some b ∧ (b = true → Instr.sameBits 10000 e' k' = true) := by
  unfold keyIs at h
  split at h
  · split at h
    · rename_i hs
      have := sameK_eq hs
      subst this
      cases hk; cases he; cases h
      refine ⟨by simp [Instr.sameNow], fun hb => ?_⟩
      simp only [Instr.sameBits]
      simp at hb ⊢
      exact hb.symm
    · cases h
  · cases hk; cases he; cases h
    rename_i x y
    have e1 : leqY x.data.toList y.data.toList = (x == y) := by
      rw [leqY_eq, leq_eq]
      show (x.data.toList == y.data.toList) = _
      exact (bytes_beq x y).symm
    rw [e1]
    refine ⟨by simp [Instr.sameNow], fun hb => ?_⟩
    have hxy : x = y := by
      rw [bytes_beq] at hb
      exact ByteArray.ext (Array.toList_inj.1 (eq_of_beq hb))
    subst hxy
    generalize 10000 = m
    have hb2 : (x == x) = true := by rw [bytes_beq]; simp
    cases m <;> simpa [Instr.sameBits] using hb2
  · cases h

def findL (d : TypeDesc) (k : Value) : List Value → Option (Option Value)
  | e :: v :: _ :: l => (match keyIs d k e with
    | some true => some (some v)
    | some false => findL d k l
    | none => none)
  | [] => some none
  | _ => none
theorem flatM_cases {l : List Value} {es : List MapEntry} (h : VL ρ l (flatM es)) : (l = [] ∧ es = []) ∨ ∃ k v b r e es', l = k :: v :: b :: r ∧ es = e :: es' ∧ V ρ k e.key ∧ V ρ v e.val ∧ V ρ b (.int .u64 e.born) ∧ VL ρ r (flatM es') := by
  cases es with
  | nil =>
    left
    have := h.1
    simp only [flatM, List.length_nil] at this
    exact ⟨List.eq_nil_of_length_eq_zero this, rfl⟩
  | cons e es' =>
    right
    have hl := h.1
    simp only [flatM, List.length_cons] at hl
    match l, h, hl with
    | k :: v :: b :: r, h, _ => exact ⟨k, v, b, r, e, es', rfl, rfl, h.head, h.tail.head, h.tail.tail.head, h.tail.tail.tail⟩
    | [], _, hl => simp at hl
    | [_], _, hl => simp at hl
    | [_, _], _, hl => simp at hl
theorem findL_rel {d : TypeDesc} {k k' : Value} (hk : V ρ k k') : ∀ {es : List MapEntry} {l : List Value} {r : Option Value} (i : Nat), VL ρ l (flatM es) → findL d k l = some r →
    (r = none ∧ Instr.findNow d k' es i = some none) ∨ ∃ v j v', r = some v ∧ Instr.findNow d k' es i = some (some (j, v')) ∧ V ρ v v'
  | [], l, r, i, hl, h => by
    rcases flatM_cases hl with ⟨rfl, _⟩ | ⟨_, _, _, _, _, _, _, h2, _⟩
    · simp only [findL] at h; cases h; exact .inl ⟨rfl, rfl⟩
    · cases h2
  | e :: es, l, r, i, hl, h => by
    rcases flatM_cases hl with ⟨_, h2⟩ | ⟨x, v, b, t, e', es', rfl, h2, h3, h4, h5, h6⟩
    · cases h2
    cases h2
    simp only [findL] at h
    split at h
    · rename_i hb
      cases h
      have := (keyIs_rel hk h3 hb).1
      exact .inr ⟨v, i, e.val, rfl, by simp only [Instr.findNow, this], h4⟩
    · rename_i hb
      have := (keyIs_rel hk h3 hb).1
      rcases findL_rel hk (i + 1) h6 h with ⟨g1, g2⟩ | ⟨v2, j, v', g1, g2, g3⟩
      · exact .inl ⟨g1, by simp only [Instr.findNow, this, g2]⟩
      · exact .inr ⟨v2, j, v', g1, by simp only [Instr.findNow, this, g2], g3⟩
    · cases h

/-- An entry is laid into a map. -/
def entL (d : TypeDesc) (k v : Value) (cl : Nat) : List Value → Option (List Value × Nat)
  | e :: u :: b :: l => (match keyIs d k e with
    | some true => some (k :: v :: b :: l, cl)
    | some false => (match entL d k v cl l with
      | some (m, c) => some (e :: u :: b :: m, c)
      | none => none)
    | none => none)
  | [] => some ([k, v, .int .u64 cl], cl + 1)
  | _ => none
theorem entL_rel {d : TypeDesc} {k k' v v' : Value} {cl : Nat} (hk : V ρ k k') (hv : V ρ v v') : ∀ {es : List MapEntry} {l m : List Value} {c : Nat} (i : Nat), VL ρ l (flatM es) → entL d k v cl l = some (m, c) →
    (Instr.findNow d k' es i = some none ∧ c = cl + 1 ∧ VL ρ m (flatM (es ++ [{ key := k', val := v', born := cl }]))) ∨
    ∃ j u e, Instr.findNow d k' es i = some (some (i + j, u)) ∧ c = cl ∧ es[j]? = some e ∧ Instr.sameBits 10000 e.key k' = true ∧ VL ρ m (flatM (es.modify j fun e => { e with key := k', val := v' }))
  | [], l, m, c, i, hl, h => by
    rcases flatM_cases hl with ⟨rfl, _⟩ | ⟨_, _, _, _, _, _, _, h2, _⟩
    · simp only [entL] at h; cases h
      exact .inl ⟨rfl, rfl, VL.cons hk (VL.cons hv (VL.cons (.int _ _) VL.nil))⟩
    · cases h2
  | e :: es, l, m, c, i, hl, h => by
    rcases flatM_cases hl with ⟨_, h2⟩ | ⟨x, y, b, t, e', es', rfl, h2, h3, h4, h5, h6⟩
    · cases h2
    cases h2
    simp only [entL] at h
    split at h
    · rename_i hb
      cases h
      have hq := keyIs_rel hk h3 hb
      exact .inr ⟨0, e.val, e, by simp only [Instr.findNow, hq.1, Nat.add_zero], rfl, rfl, hq.2 rfl, VL.cons hk (VL.cons hv (VL.cons h5 h6))⟩
    · rename_i hb
      have hq := keyIs_rel hk h3 hb
      split at h
      · rename_i m' c' hp
        cases h
        rcases entL_rel hk hv (i + 1) h6 hp with ⟨g1, g2, g3⟩ | ⟨j, u, e2, g1, g2, g3, g4, g5⟩
        · exact .inl ⟨by simp only [Instr.findNow, hq.1, g1], g2, VL.cons h3 (VL.cons h4 (VL.cons h5 g3))⟩
        · refine .inr ⟨j + 1, u, e2, by simp only [Instr.findNow, hq.1, g1]; congr 3; omega, g2, by simpa using g3, g4, ?_⟩
          rw [List.modify_succ_cons]
          exact VL.cons h3 (VL.cons h4 (VL.cons h5 g5))
      · cases h
    · cases h

/-- Keys of which it is seen at once whether they are the same. -/
def keyKind (P : Program) (t : TypeId) : Option TypeDesc := match P.underlying t with
  | some (.int k) => some (.int k)
  | some .string => some .string
  | _ => none
theorem keyKind_spec {t : TypeId} {d : TypeDesc} (h : keyKind P t = some d) : P.underlying t = some d ∧ ∀ (emp : Bool) (v : Value) (w : World), (Instr.checkKey emp 10000 t v).run P w = .ok () w := by
  unfold keyKind at h
  split at h <;> cases h
  · rename_i k hu
    refine ⟨hu, fun emp v w => ?_⟩
    generalize hn : 10000 = m
    obtain ⟨m, rfl⟩ : ∃ j, m = j + 1 := ⟨9999, hn.symm⟩
    unfold Instr.checkKey
    simp only [Sem.run_bind, run_underlying hu, Result.andThen_ok, Sem.run_pure]
  · rename_i hu
    refine ⟨hu, fun emp v w => ?_⟩
    generalize hn : 10000 = m
    obtain ⟨m, rfl⟩ : ∃ j, m = j + 1 := ⟨9999, hn.symm⟩
    unfold Instr.checkKey
    simp only [Sem.run_bind, run_underlying hu, Result.andThen_ok, Sem.run_pure]
theorem findKey_run {t : TypeId} {d : TypeDesc} {k : Value} {es : List MapEntry} {r : Option (Nat × Value)} (hu : P.underlying t = some d) (h : Instr.findNow d k es 0 = some r) (w : World) : (Instr.findKey t k es).run P w = .ok r w := by
  simp only [Instr.findKey, Sem.run_bind, run_underlying hu, Result.andThen_ok, h, Sem.run_pure]
theorem zero_run {t : TypeId} {z : Value} (h : zeroP P t = some z) (w : World) : (zeroValue t).run P w = .ok z w ∧ ground z = true := by
  obtain ⟨i, h1, h2, h3⟩ := zeroP_spec h
  refine ⟨?_, h3⟩
  simp only [zeroValue, typeInfo, Sem.run_bind]
  simp [h1, h2, program, Sem.run]

def okV (ok : Bool) (v : Value) (b : Bool) : Value := match ok with
  | true => .tuple ⟨[v, .bool b]⟩
  | false => v
theorem okV_rel {ok b : Bool} {v v' : Value} (h : V ρ v v') : V ρ (okV ok v b) (if ok then .tuple #[v', .bool b] else v') := by
  cases ok with
  | false => exact h
  | true =>
    have := VL.cons h (VL.cons (.bool b) VL.nil)
    exact .tuple _ _ this.1 this.2
theorem run_getObj {k : Nat} {es : Array MapEntry} {cl : Nat} (h : w.heap[k]? = some (.map es cl)) : (getObj k).run P w = .ok (.map es cl) w := by
  simp [getObj, Sem.run, h]
theorem run_setObj {k : Nat} {es es' : Array MapEntry} {cl cl' : Nat} (h : w.heap[k]? = some (.map es cl)) : (setObj k (.map es' cl')).run P w = .ok () { w with heap := w.heap.setIfInBounds k (.map es' cl') } := by
  simp [setObj, Sem.run, h]

def lookP (P : Program) (t : TypeId) (x k : Value) (ok : Bool) : Prog := match P.underlying t with
  | some (.map kt et) => (match keyKind P kt with
    | some d => (match x with
      | .map (some b) => .mrd b fun _ l => (match findL d k l with
        | some (some v) => .val (okV ok v true)
        | some none => (match zeroP P et with
          | some z => .val (okV ok z false)
          | none => .fail)
        | none => .fail)
      | .map none => (match zeroP P et with
        | some z => .val (okV ok z false)
        | none => .fail)
      | _ => .fail)
    | none => .fail)
  | _ => .fail
theorem look_sim {t : TypeId} {x x' k k' : Value} {ok : Bool} (hx : V ρ x x') (hk : V ρ k k') : Sim P (lookP P t x k ok) (do pure (.value (← Instr.lookup t x' k' ok))) ρ w := by
  unfold lookP
  split
  case h_2 => exact Sim.fail
  rename_i kt et hu
  split
  case h_2 => exact Sim.fail
  rename_i d hd
  obtain ⟨hd1, hd2⟩ := keyKind_spec hd
  split
  · rename_i b
    cases hx
    rename_i c κ hr
    refine Sim.v fun H tr r hpr hval hw => ?_
    cases hpr with
    | mrd h =>
      rename_i cl l tr
      obtain ⟨c', κ', es, e1, e2, e3⟩ := hw.mrd hval.1
      rw [hr] at e1; cases e1
      have hw2 : Went P ρ H w [.rd b tyOff (mapV cl l)] ρ w := (Went.refl hw).congr rfl (fun b hb => by cases hb)
      dsimp only at h
      split at h
      · rename_i v hf
        cases h
        rcases findL_rel hk 0 e3 hf with ⟨g1, _⟩ | ⟨v2, j, v', g1, g2, g3⟩
        · cases g1
        · cases g1
          refine ⟨_, _, w, ρ, rfl, ?_, hw2, okV_rel g3⟩
          simp only [Instr.lookup, Sem.run_bind, run_underlying hu, Result.andThen_ok, run_getObj e2, Sem.run_pure, hd2, findKey_run hd1 g2]
      · rename_i hf
        rcases findL_rel hk 0 e3 hf with ⟨_, g2⟩ | ⟨v2, j, v', g1, _⟩
        · split at h
          · rename_i z hz
            cases h
            obtain ⟨hz1, hz2⟩ := zero_run hz w
            refine ⟨_, _, w, ρ, rfl, ?_, hw2, okV_rel (V.ground hz2)⟩
            simp only [Instr.lookup, Sem.run_bind, run_underlying hu, Result.andThen_ok, run_getObj e2, Sem.run_pure, hd2, findKey_run hd1 g2, hz1]
          · cases h
        · cases g1
      · cases h
  · cases hx
    split
    · rename_i z hz
      obtain ⟨hz1, hz2⟩ := zero_run hz w
      refine Sim.vv rfl ?_ (okV_rel (V.ground hz2))
      simp only [Instr.lookup, Sem.run_bind, run_underlying hu, Result.andThen_ok, Sem.run_pure, hd2, findKey_run (es := []) (k := k') hd1 rfl, hz1]
    · exact Sim.fail
  · exact Sim.fail

def updP (P : Program) (t : TypeId) (x k v : Value) : Prog := match P.underlying t with
  | some (.map kt _) => (match keyKind P kt with
    | some d => (match x with
      | .map (some b) => .mrd b fun cl l => (match entL d k v cl l with
        | some (m, c) => .mwr b c m .skip
        | none => .fail)
      | _ => .fail)
    | none => .fail)
  | _ => .fail
theorem upd_sim {t : TypeId} {x x' k k' v v' : Value} (hx : V ρ x x') (hk : V ρ k k') (hv : V ρ v v') : Sim P (updP P t x k v) (do Instr.mapUpdate t x' k' v'; pure .skip) ρ w := by
  unfold updP
  split
  case h_2 => exact Sim.fail
  rename_i kt et hu
  split
  case h_2 => exact Sim.fail
  rename_i d hd
  obtain ⟨hd1, hd2⟩ := keyKind_spec hd
  split
  case h_2 => exact Sim.fail
  rename_i b
  cases hx
  rename_i c κ hr
  intro H tr r hpr hval hw
  cases hpr with
  | mrd h =>
    rename_i cl l tr
    obtain ⟨hval1, hval2⟩ := hval
    obtain ⟨c', κ', es, e1, e2, e3⟩ := hw.mrd hval1
    rw [hr] at e1; cases e1
    dsimp only at h
    split at h
    case h_2 => cases h
    rename_i m c2 hp
    cases h with
    | mwr h =>
      cases h
      have hval3 := hval2.1
      rcases entL_rel hk hv 0 e3 hp with ⟨g1, g2, g3⟩ | ⟨j, u, e, g1, g2, g3, g4, g5⟩
      · subst g2
        have hw2 := hw.mwr (es := es.push { key := k', val := v', born := cl }) hval3 hr e2 (by simpa using g3)
        refine ⟨.skip, _, ρ, ?_, hw2.congr rfl (fun b hb => hb), trivial⟩
        simp only [Instr.mapUpdate, Sem.run_bind, run_underlying hu, Result.andThen_ok, run_getObj e2, Sem.run_pure, hd2, findKey_run hd1 g1, run_setObj e2]
      · subst g2
        rw [Nat.zero_add] at g1
        have hmod : (es.modify j fun e => { e with key := k', val := v' }).toList = es.toList.modify j fun e => { e with key := k', val := v' } := by simp
        have hw2 := hw.mwr (es := es.modify j fun e => { e with key := k', val := v' }) hval3 hr e2 (by rw [hmod]; exact g5)
        refine ⟨.skip, _, ρ, ?_, hw2.congr rfl (fun b hb => hb), trivial⟩
        have g3' : es[j]? = some e := by rw [← Array.getElem?_toList]; exact g3
        simp only [Instr.mapUpdate, Sem.run_bind, run_underlying hu, Result.andThen_ok, run_getObj e2, Sem.run_pure, hd2, findKey_run hd1 g1, g3', Option.map_some, Option.getD_some, Instr.keyThatStays, g4, if_true, run_setObj e2]

def mkMP (t : TypeId) (r : Option Value) : Prog := match r with
  | none => .mnw t fun b => .val (.map (some b))
  | _ => .fail
theorem mkM_sim {t : TypeId} {r r' : Option Value} (h : r.isSome = r'.isSome) : Sim P (mkMP t r) (do pure (.value (← Instr.makeMap t r'))) ρ w := by
  unfold mkMP
  split
  case h_2 => exact Sim.fail
  obtain rfl : r' = none := by cases r' with | none => rfl | some => cases h
  refine Sim.v fun H tr r hpr hval hw => ?_
  cases hpr with
  | mnw h =>
    rename_i b tr
    cases h
    have hw2 := hw.mnw rfl hval.1
    refine ⟨_, _, _, _, rfl, ?_, hw2, .map _ _ _ Rho.add_eq⟩
    simp only [Instr.makeMap, Sem.run_bind, Sem.run_pure, newObj]
    rfl

/-- Values behind interfaces. -/
def mkIP (P : Program) (t : TypeId) (v : Value) : Prog := match P.underlying t with
  | some (.interface _) => .fail
  | some _ => .val (.iface t v)
  | none => .fail
theorem mkI_sim {t : TypeId} {v v' : Value} (hv : V ρ v v') : Sim P (mkIP P t v) (do pure (.value (← Instr.makeInterface t v'))) ρ w := by
  unfold mkIP
  split
  · exact Sim.fail
  · rename_i d hne hu
    refine Sim.vv rfl (v' := .iface t v') ?_ (.iface t _ _ hv)
    simp only [Instr.makeInterface, Sem.run_bind, run_underlying hu, Result.andThen_ok]
    first
      | (split
         · rename_i m hm; exact absurd hm (hne _)
         · rfl)
      | (cases d <;> first | rfl | exact absurd rfl (hne _))
  · exact Sim.fail

def assertP (P : Program) (x : Value) (t : TypeId) (ok : Bool) : Prog := match P.underlying t with
  | some (.interface _) => .fail
  | some _ => (match x with
    | .iface u v => (match Nat.beq u t with
      | true => .val (okV ok v true)
      | false => (match ok, zeroP P t with
        | true, some z => .val (okV true z false)
        | _, _ => .fail))
    | .nilIface => (match ok, zeroP P t with
      | true, some z => .val (okV true z false)
      | _, _ => .fail)
    | _ => .fail)
  | none => .fail
theorem assert_sim {x x' : Value} {xt t : TypeId} {ok : Bool} (hx : V ρ x x') : Sim P (assertP P x t ok) (do pure (.value (← Instr.typeAssert x' xt t ok))) ρ w := by
  unfold assertP
  split
  · exact Sim.fail
  · rename_i d hne hu
    have hni : ∀ m, d ≠ .interface m := fun m e => hne m e
    split
    · rename_i u v
      cases hx
      rename_i v' hv
      split
      · rename_i hb
        obtain rfl := Nat.eq_of_beq_eq_true hb
        refine Sim.vv rfl ?_ (okV_rel hv)
        simp only [Instr.typeAssert, Sem.run_bind, run_underlying hu, Result.andThen_ok]
        cases d <;> first | exact absurd rfl (hni _) | simp
      · rename_i hb
        have hut : ¬ u = t := fun e => by rw [e, Nat.beq_refl] at hb; cases hb
        split
        · rename_i z hz
          obtain ⟨hz1, hz2⟩ := zero_run hz w
          refine Sim.vv rfl ?_ (okV_rel (ok := true) (V.ground hz2))
          simp only [Instr.typeAssert, Sem.run_bind, run_underlying hu, Result.andThen_ok]
          cases d <;> first | exact absurd rfl (hni _) | simp [hut, hz1]
        · exact Sim.fail
    · cases hx
      split
      · rename_i z hz
        obtain ⟨hz1, hz2⟩ := zero_run hz w
        refine Sim.vv rfl ?_ (okV_rel (ok := true) (V.ground hz2))
        simp only [Instr.typeAssert, Sem.run_bind, run_underlying hu, Result.andThen_ok]
        cases d <;> first | exact absurd rfl (hni _) | simp [hz1]
      · exact Sim.fail
    · exact Sim.fail
  · exact Sim.fail

/-- A method of the value behind an interface, that needs no way to it. -/
def methP (P : Program) (t : TypeId) (name : String) : Option (FuncId × Option TypeId) := match P.info? t with
  | some i => (match i.methods.toList.find? (·.name == name) with
    | some m => (match m.path.toList, m.func, P.underlying t with
      | [], some (f, false), some (.pointer el) => some (f, some el)
      | [], some (f, false), some _ => some (f, none)
      | [], some (f, true), some (.pointer _) => some (f, none)
      | _, _, _ => none)
    | none => none)
  | none => none
theorem meth_run {t : TypeId} {name : String} {f : FuncId} (h : methP P t name = some (f, none)) (n : Nat) (v : Value) (w : World) : (method (n + 1) t v name).run P w = .ok (f, v) w := by
  unfold methP at h
  split at h
  case h_2 => cases h
  rename_i i hi
  split at h
  case h_2 => cases h
  rename_i m hm
  have hm' : i.methods.find? (·.name == name) = some m := by rw [← hm]; simp
  have hti : (typeInfo t).run P w = .ok i w := by simp [typeInfo, program, Sem.run, hi]
  split at h
  · cases h
  · rename_i f' d hne hp hf hu
    cases h
    simp only [method, Sem.run_bind, hti, Result.andThen_ok, hm', hp, follow, Sem.run_pure, hf, receiverAt, run_underlying hu]
    cases d <;> first | exact absurd rfl (hne _) | simp [Place.get]
  · rename_i f' el hp hf hu
    cases h
    simp only [method, Sem.run_bind, hti, Result.andThen_ok, hm', hp, follow, Sem.run_pure, hf, receiverAt, run_underlying hu]
    simp [Place.get]
  · cases h
/-- A method of the value that the pointer behind an interface points to. -/
theorem meth_run2 {t el : TypeId} {name : String} {f : FuncId} (h : methP P t name = some (f, some el)) (n : Nat) {a : Addr} {u : Value} {w : World} (hl : (loadVar el a).run P w = .ok u w) : (method (n + 1) t (.pointer (some a)) name).run P w = .ok (f, u) w := by
  unfold methP at h
  split at h
  case h_2 => cases h
  rename_i i hi
  split at h
  case h_2 => cases h
  rename_i m hm
  have hm' : i.methods.find? (·.name == name) = some m := by rw [← hm]; simp
  have hti : (typeInfo t).run P w = .ok i w := by simp [typeInfo, program, Sem.run, hi]
  split at h
  · rename_i f' el' hp hf hu
    cases h
    simp only [method, Sem.run_bind, hti, Result.andThen_ok, hm', hp, follow, Sem.run_pure, hf, receiverAt, run_underlying hu]
    have hchk : ∀ (n : String), Builtin.ssaWrapNilChk_ #[t] t #[.pointer (some a), strVal "", strVal n] = pure (.pointer (some a)) := fun _ => rfl
    have hp2 : m.path = #[] := Array.toList_inj.1 hp
    simp [Place.get, hp2, hchk, asAddr, hl]
  · cases h
  · cases h
  · cases h
end
end
end Go.Proofs.YtmphiefdoaihhaaGreatDoor

/-
  A run that is reckoned over blocks with names of its own: all operations: no function of a program is named here.
-/
namespace Go.Proofs.YtmphiefdoaihhaaGreatDoor
open Go.RowKit
noncomputable section

section
variable {P : Program} {ρ : Rho} {w : World}

/-- Held against nil. -/
def nilB (P : Program) (t : TypeId) (x y : Value) : Option Bool := match x, y with
  | .pointer (some _), .pointer none => (match P.underlying t with | some (.pointer _) => some false | _ => none)
  | .pointer none, .pointer (some _) => (match P.underlying t with | some (.pointer _) => some false | _ => none)
  | .slice (some _) _ _, .slice none _ _ => (match P.underlying t with | some (.slice _) => some false | _ => none)
  | .slice none _ _, .slice (some _) _ _ => (match P.underlying t with | some (.slice _) => some false | _ => none)
  | .func _ _ _, .nilFunc => (match P.underlying t with | some (.func _ _ _) => some false | _ => none)
  | .nilFunc, .func _ _ _ => (match P.underlying t with | some (.func _ _ _) => some false | _ => none)
  | .map (some _), .map none => (match P.underlying t with | some (.map _ _) => some false | _ => none)
  | .map none, .map (some _) => (match P.underlying t with | some (.map _ _) => some false | _ => none)
  | .iface _ _, .nilIface => (match P.underlying t with | some (.interface _) => some false | _ => none)
  | .nilIface, .iface _ _ => (match P.underlying t with | some (.interface _) => some false | _ => none)
  | _, _ => none
theorem nil_equal {t : TypeId} {a b a' b' : Value} {r : Bool} (ha : V ρ a a') (hb : V ρ b b') (h : nilB P t a b = some r) (d : Nat) : (Op.equalIn (d + 1) t a' b').run P w = .ok r w := by
  unfold nilB at h
  split at h <;> (try cases h) <;> split at h <;> (try cases h) <;> rename_i hu <;> cases ha <;> cases hb <;>
    simp [Op.equalIn, run_underlying hu]
theorem nil_guard {t : TypeId} {x y : Operand} {a b a' b' : Value} {r : Bool} (ha : V ρ a a') (hb : V ρ b b') (h : nilB P t a b = some r) (op : BinOp) : eqGuard op t x y a' b' = pure () := by
  unfold nilB at h
  split at h <;> (try cases h) <;> cases ha <;> cases hb <;> cases op <;> rfl
theorem nil_binOp {t : TypeId} {a b a' b' : Value} {r : Bool} (ha : V ρ a a') (hb : V ρ b b') (h : nilB P t a b = some r) : binOp .eql t a' b' = (do pure (.bool (← Op.equal t a' b'))) ∧ binOp .neq t a' b' = (do pure (.bool (!(← Op.equal t a' b')))) := by
  unfold nilB at h
  split at h <;> (try cases h) <;> cases ha <;> cases hb <;> exact ⟨rfl, rfl⟩
theorem nil_run {t : TypeId} {x y : Operand} {a b a' b' : Value} {r : Bool} (ha : V ρ a a') (hb : V ρ b b') (h : nilB P t a b = some r) :
    (do eqGuard .eql t x y a' b'; binOp .eql t a' b').run P w = .ok (.bool r) w ∧ (do eqGuard .neq t x y a' b'; binOp .neq t a' b').run P w = .ok (.bool (!r)) w := by
  have he : (Op.equal t a' b').run P w = .ok r w := nil_equal ha hb h 9999
  obtain ⟨h1, h2⟩ := nil_binOp ha hb h
  rw [nil_guard ha hb h, nil_guard ha hb h, h1, h2]
  simp only [Sem.run_bind, Sem.run_pure, Result.andThen_ok, he]
  exact ⟨trivial, trivial⟩

/-- A text of bytes. -/
def bytesOf : List Value → Option (List UInt8)
  | [] => some []
  | .int .u8 n :: l => if 0 ≤ n ∧ n < 256 then (bytesOf l).map (UInt8.ofNat n.toNat :: ·) else none
  | _ => none
def bytesP (P : Program) (src dst : TypeId) (x : Value) : Prog := match x, P.underlying src, P.underlying dst with
  | .slice (some ⟨b, o, none⟩) n _, some (.slice e), some .string => match P.underlying e with
    | some (.int .u8) => rdN b n o [] fun l => match bytesOf l with
      | some s => .val (.string ⟨⟨s⟩⟩)
      | none => .fail
    | _ => .fail
  | _, _, _ => .fail
theorem bytesOf_spec : ∀ {l : List Value} {s : List UInt8}, bytesOf l = some s → l.length = s.length ∧ ∀ (i : Nat) (h : i < s.length), l[i]? = some (.int .u8 (s[i].toNat : Int))
  | [], s, h => by cases h; exact ⟨rfl, fun i h => by simp at h⟩
  | v :: l, s, h => by
    unfold bytesOf at h
    split at h
    · cases h; rename_i e; cases e
    case h_3 => cases h
    rename_i n l' e
    cases e
    split at h
    · rename_i hn
      cases hb : bytesOf l with
      | none => rw [hb] at h; cases h
      | some r =>
        rw [hb] at h
        cases h
        obtain ⟨h1, h2⟩ := bytesOf_spec hb
        refine ⟨by simp [h1], fun i hi => ?_⟩
        cases i with
        | zero =>
          simp only [List.getElem?_cons_zero, List.getElem_cons_zero]
          congr 2
          rw [UInt8.toNat_ofNat']
          omega
        | succ i => simpa using h2 i (by simpa using hi)
    · cases h
theorem ints_eq {l l' : List Value} (h : VL ρ l l') {i : Nat} {k : IntKind} {n : Int} (hi : l[i]? = some (.int k n)) : l'[i]? = some (.int k n) := by
  obtain ⟨v', h1, h2⟩ := h.get hi
  cases h2
  exact h1
theorem bytes_sim {src dst : TypeId} {x x' : Value} (hx : V ρ x x') : Sim P (bytesP P src dst x) (do pure (.value (← convert src dst x'))) ρ w := by
  refine Sim.v fun H tr r hpr hval hw => ?_
  unfold bytesP at hpr
  split at hpr
  case h_2 => cases hpr
  rename_i b o n k e hs hd
  split at hpr
  case h_2 => cases hpr
  rename_i he
  have key : ∀ (c κ o' k' : Nat), ρ b = some (c, κ) → x' = .slice (some ⟨c, o', none⟩) n k' → (n ≠ 0 → o' = o) → ∃ v v' w' ρ', r = .val v ∧ (convert src dst x').run P w = .ok v' w' ∧ Went P ρ H w tr ρ' w' ∧ V ρ' v v' := by
    intro c κ o' k' hr hxe ho
    obtain ⟨us, us', t1, t2, rfl, q1, q2, q3, q4, q5, q6, q7⟩ := rdN_sound hr hw hpr hval
    simp only [List.reverse_nil, List.nil_append] at q2
    cases hb : bytesOf us with
    | none => rw [hb] at q2; cases q2
    | some s =>
      rw [hb] at q2
      cases q2
      obtain ⟨h1, h2⟩ := bytesOf_spec hb
      have hsz : (⟨⟨s⟩⟩ : ByteArray).size = n := by rw [← q1, h1]; rfl
      refine ⟨_, _, w, ρ, rfl, ?_, (Went.refl hw).congr (by rw [List.append_nil, q5]; rfl) (fun b hb => by cases hb), .string _⟩
      rw [hxe, ← hsz]
      refine Lib.run_convert_whole (P := P) w src e dst hs he hd c o' ⟨⟨s⟩⟩ (fun i hi => ?_) k'
      have hi' : i < s.length := hi
      rw [ho (by omega)]
      exact q4 i _ (ints_eq q3 (h2 i hi'))
  cases hx with
  | slc _ c κ _ _ _ k' hr hk => exact key c κ o k' hr rfl (fun _ => rfl)
  | slc0 _ c κ _ o' k' hr => exact key c κ o' k' hr rfl (fun h => absurd rfl h)

/-- What hangs on the values alone. -/
def groundP (P : Program) (o : Oper) (ev : Operand → Value) : Prog :=
  match o.op with
  | .select _ _ => .fail
  | _ => if o.op.operands.toList.all fun x => ground (ev x) then (match pureRun P (execOp ev o) with
      | some (.value v) => if ground v then .val v else .fail
      | _ => .fail) else .fail
theorem ground_sim {o : Oper} {e a : Act} (h : ∀ x ∈ o.op.operands, V ρ (e.eval x) (a.eval x)) : Sim P (groundP P o e.eval) (execOp a.eval o) ρ w := by
  unfold groundP
  split
  · exact Sim.fail
  · rename_i hsel
    split
    · rename_i hall
      split
      · rename_i v hv
        split
        · rename_i hg
          have he : execOp a.eval o = execOp e.eval o := execOp_congr o hsel fun x hx => (h x hx).ground_eq (List.all_eq_true.1 hall x (Array.mem_toList_iff.2 hx))
          exact Sim.val rfl (fun w => by rw [he]; exact pureRun_run hv w) (V.ground hg)
        · exact Sim.fail
      · exact Sim.fail
    · exact Sim.fail
theorem ground_congr {o : Oper} {ev ev' : Operand → Value} (h : ∀ x ∈ o.op.operands, ev x = ev' x) : groundP P o ev = groundP P o ev' := by
  unfold groundP
  split
  · rfl
  · rename_i hsel
    rw [execOp_congr o hsel h]
    have : (o.op.operands.toList.all fun x => ground (ev x)) = (o.op.operands.toList.all fun x => ground (ev' x)) := by
      rw [Bool.eq_iff_iff, List.all_eq_true, List.all_eq_true]
      exact ⟨fun k x hx => by rw [← h x (Array.mem_toList_iff.1 hx)]; exact k x hx, fun k x hx => by rw [h x (Array.mem_toList_iff.1 hx)]; exact k x hx⟩
    rw [this]

/-- Calls. -/
def callP (P : Program) (o : Oper) (c : Call) (ev : Operand → Value) : Prog :=
  match c.callee with
  | .value f => match ev f with
    | .func (.func g) ⟨fs⟩ ⟨cs⟩ => match P.funcs[g]? with
      | some fn => if fn.body.isSome then .enter g (fs ++ c.args.toList.map ev ++ cs) else if isEsc fn then (match fs ++ c.args.toList.map ev ++ cs with
        | [x] => .val x
        | _ => .fail) else .fail
      | none => .fail
    | _ => .fail
  | .builtin .len => match c.args.toList.map ev, c.argTypes.toList with
    | [.slice (some _) n _], t :: _ => (match P.underlying t with | some (.slice _) => .val (goInt n) | _ => .fail)
    | [.string s], t :: _ => (match P.underlying t with | some .string => .val (goInt s.size) | _ => .fail)
    | _, _ => groundP P o ev
  | .builtin .append => match c.args.toList.map ev, c.argTypes.toList with
    | [s, x], [t, u] => if Nat.beq t u then appendP P t s x else (match x with
      | .string ⟨⟨str⟩⟩ => appendSP P t u s str
      | _ => .fail)
    | _, _ => .fail
  | .builtin .unsafeSliceData => match c.args.toList.map ev with
    | [s] => uDataP s
    | _ => .fail
  | .builtin .unsafeString => match c.args.toList.map ev, c.argTypes.toList with
    | [p, n], [t, _] => uStrP P t p n
    | _, _ => .fail
  | .builtin .copy => match c.args.toList.map ev, c.argTypes.toList with
    | [d, s], t :: _ => copyP P t d s
    | _, _ => .fail
  | .invoke recv name => (match ev recv with
    | .iface t v => (match methP P t name with
      | some (g, el) => (match P.funcs[g]? with
        | some fn => if fn.body.isSome then (match el with
          | none => .enter g (v :: c.args.toList.map ev)
          | some e => loadP P e v fun u => .enter g (u :: c.args.toList.map ev)) else .fail
        | none => .fail)
      | none => .fail)
    | _ => .fail)
  | _ => groundP P o ev

theorem maps_rel {e a : Act} {l : List Operand} (h : ∀ x ∈ l, V ρ (e.eval x) (a.eval x)) : VL ρ (l.map e.eval) (l.map a.eval) :=
  ⟨by simp, fun i v v' hv hv' => by
    rw [List.getElem?_map] at hv hv'
    cases hx : l[i]? with
    | none => rw [hx] at hv; cases hv
    | some x =>
      rw [hx] at hv hv'
      cases hv; cases hv'
      exact h x (List.mem_of_getElem? hx)⟩
theorem parts_rel {e a : Act} {ps : Array (Nat × Operand)} (h : ∀ p ∈ ps, V ρ (e.eval p.2) (a.eval p.2)) : (partsOf e.eval ps).length = (ps.map fun (i, x) => (i, a.eval x)).toList.length ∧
    ∀ (i : Nat) (p p' : Nat × Value), (partsOf e.eval ps)[i]? = some p → (ps.map fun (i, x) => (i, a.eval x)).toList[i]? = some p' → p.1 = p'.1 ∧ V ρ p.2 p'.2 := by
  refine ⟨by simp [partsOf], fun i p p' h1 h2 => ?_⟩
  simp only [partsOf, Array.toList_map, List.getElem?_map] at h1 h2
  cases hx : ps.toList[i]? with
  | none => rw [hx] at h1; cases h1
  | some q =>
    rw [hx] at h1 h2
    cases h1; cases h2
    exact ⟨rfl, h q (Array.mem_toList_iff.1 (List.mem_of_getElem? hx))⟩

/-- No function has a body and the name of one that the model knows. -/
def NamesOk (P : Program) : Prop := ∀ (f : FuncId) (fn : Func), P.funcs[f]? = some fn → fn.body.isSome = true → (fn.name == "runtime.NumGoroutine") = false

theorem call_sim (hN : NamesOk P) {o : Oper} {c : Call} (ho : o.op = .call c) {e a : Act} (h : ∀ x ∈ o.op.operands, V ρ (e.eval x) (a.eval x)) : Sim P (callP P o c e.eval) (execOp a.eval o) ρ w := by
  have hg := ground_sim (P := P) (w := w) h
  have hc : ∀ x ∈ c.operands, V ρ (e.eval x) (a.eval x) := by rw [ho] at h; exact h
  have hex : execOp a.eval o = (do let d ← resolve a.eval c o.type; invoke d.target d.args) := by unfold execOp; rw [ho]
  have hargs : VL ρ (c.args.toList.map e.eval) (c.args.toList.map a.eval) := maps_rel fun x hx => hc x (by simp only [Call.operands]; exact Array.mem_append_right _ (Array.mem_toList_iff.1 hx))
  unfold callP
  split
  · rename_i f hf
    have hfv : V ρ (e.eval f) (a.eval f) := hc f (by simp [Call.operands, hf])
    split
    · rename_i g fs cs hev
      rw [hev] at hfv
      split
      · rename_i fn hfn
        split
        · rename_i hb
          rw [hex]
          intro H t r hpr _ hw
          cases hpr
          cases hfe : a.eval f <;> rw [hfe] at hfv <;> cases hfv
          rename_i l' m' hl hm h1 h2
          have hres : (resolve a.eval c o.type).run P w = .ok { target := .fn (.func g) ⟨m'⟩, args := ⟨l'⟩ ++ c.args.map a.eval } w := by
            simp only [resolve, hf, hfe, Deferred.ofValue]
            rfl
          have hne : fn.body.isNone = false := by cases hbb : fn.body <;> simp_all
          have hcall : (callFunc g ((⟨l'⟩ ++ c.args.map a.eval) ++ ⟨m'⟩)).run P w = .ok (.enter g ((⟨l'⟩ ++ c.args.map a.eval) ++ ⟨m'⟩)) w := by
            simp only [callFunc, Sem.run_bind]
            simp only [program, Sem.run, Result.andThen_ok, hfn, hN g fn hfn hb, hne]
            rfl
          refine ⟨.enter g ((⟨l'⟩ ++ c.args.map a.eval) ++ ⟨m'⟩), w, ρ, ?_, Went.refl hw, rfl, ?_⟩
          · simp only [Sem.run_bind, hres, Result.andThen_ok, invoke, hcall]
          · have := (VL.append (ρ := ρ) ⟨hl, hm⟩ hargs).append (⟨h1, h2⟩ : VL ρ cs m')
            simpa using this
        · split
          · rename_i hesc
            split
            · rename_i x hx
              obtain ⟨e1, e2, e3, e4⟩ := esc_find hesc
              cases hfe : a.eval f <;> rw [hfe] at hfv <;> cases hfv
              rename_i l' m' hl hm h1 h2
              have hres : ∀ w, (resolve a.eval c o.type).run P w = .ok { target := .fn (.func g) ⟨m'⟩, args := ⟨l'⟩ ++ c.args.map a.eval } w := fun w => by
                simp only [resolve, hf, hfe, Deferred.ofValue]
                rfl
              have hv := (VL.append (ρ := ρ) ⟨hl, hm⟩ hargs).append (⟨h1, h2⟩ : VL ρ cs m')
              rw [hx] at hv
              obtain ⟨x', r', hx1, hx2, hx3⟩ := hv.cases_cons
              have hx4 := hx3.cases_nil
              subst hx4
              have hall : (⟨l'⟩ ++ c.args.map a.eval) ++ ⟨m'⟩ = #[x'] := by
                apply Array.toList_inj.1
                have := hx1
                simpa using this
              rw [hex]
              refine Sim.val rfl (v' := x') (fun w => ?_) hx2
              have hcall := run_callFunc_extern hfn e2 e1 e3 e4 #[x'] w
              rw [Lib.run_noEscape] at hcall
              simp only [Sem.run_bind, hres, Result.andThen_ok, invoke, hall, hcall]
            · exact Sim.fail
          · exact Sim.fail
      · exact Sim.fail
    · exact Sim.fail
  · rename_i hb
    split
    · rename_i b n k t ts h1 h2
      rw [h1] at hargs
      obtain ⟨v', r', e1, hv, hr⟩ := hargs.cases_cons
      have hr' := hr.cases_nil
      subst hr'
      have e2 : c.args.map a.eval = #[v'] := by apply Array.toList_inj.1; rw [Array.toList_map, e1]
      have e3 : c.argTypes = (t :: ts).toArray := by apply Array.toList_inj.1; rw [h2]
      split
      · rename_i e hu
        rw [hex]
        refine Sim.val rfl (v' := goInt n) (fun w => ?_) (.int _ _)
        simp only [resolve, hb, Sem.run_bind, Sem.run_pure, Result.andThen_ok, invoke, builtin, e2, e3]
        cases hv <;> simp [Builtin.len_, run_underlying hu]
      · exact Sim.fail
    · rename_i s t ts h1 h2
      rw [h1] at hargs
      obtain ⟨v', r', e1, hv, hr⟩ := hargs.cases_cons
      have hr' := hr.cases_nil
      subst hr'
      have e2 : c.args.map a.eval = #[v'] := by apply Array.toList_inj.1; rw [Array.toList_map, e1]
      have e3 : c.argTypes = (t :: ts).toArray := by apply Array.toList_inj.1; rw [h2]
      split
      · rename_i hu
        rw [hex]
        refine Sim.val rfl (v' := goInt s.size) (fun w => ?_) (.int _ _)
        simp only [resolve, hb, Sem.run_bind, Sem.run_pure, Result.andThen_ok, invoke, builtin, e2, e3]
        cases hv
        simp [Builtin.len_, run_underlying hu]
      · exact Sim.fail
    · exact hg
  · rename_i hb
    split
    · rename_i s x t u h1 h2
      split
      · rename_i htu
        have htu := Nat.eq_of_beq_eq_true htu
        subst htu
        rw [h1] at hargs
        obtain ⟨s', r', e1, hs, hr⟩ := hargs.cases_cons
        obtain ⟨x', r'', e4, hx, hr2⟩ := hr.cases_cons
        have hr' := hr2.cases_nil
        subst hr'
        subst e4
        have e2 : c.args.map a.eval = #[s', x'] := by apply Array.toList_inj.1; rw [Array.toList_map, e1]
        have e3 : c.argTypes = #[t, t] := by apply Array.toList_inj.1; rw [h2]
        have := append_sim (P := P) (w := w) (t := t) (ty := o.type) hs hx
        intro H tr r hpr hval hw
        obtain ⟨n, w', ρ', g1, g2, g3⟩ := this H tr r hpr hval hw
        refine ⟨n, w', ρ', ?_, g2, g3⟩
        rw [hex]
        simp only [resolve, hb, Sem.run_bind, Sem.run_pure, Result.andThen_ok, invoke, builtin, e2, e3]
        simpa [Sem.run_bind] using g1
      · split
        · rename_i str
          rw [h1] at hargs
          obtain ⟨s', r', e1, hs, hr⟩ := hargs.cases_cons
          obtain ⟨x', r'', e4, hx, hr2⟩ := hr.cases_cons
          have hr' := hr2.cases_nil
          subst hr'
          subst e4
          cases hx
          have e2 : c.args.map a.eval = #[s', .string ⟨⟨str⟩⟩] := by apply Array.toList_inj.1; rw [Array.toList_map, e1]
          have e3 : c.argTypes = #[t, u] := by apply Array.toList_inj.1; rw [h2]
          have := appendS_sim (P := P) (w := w) (t := t) (u := u) (ty := o.type) (str := str) hs
          intro H tr r hpr hval hw
          obtain ⟨n, w', ρ', g1, g2, g3⟩ := this H tr r hpr hval hw
          refine ⟨n, w', ρ', ?_, g2, g3⟩
          rw [hex]
          simp only [resolve, hb, Sem.run_bind, Sem.run_pure, Result.andThen_ok, invoke, builtin, e2, e3]
          simpa [Sem.run_bind] using g1
        · exact Sim.fail
    · exact Sim.fail
  · rename_i hb
    split
    · rename_i s h1
      rw [h1] at hargs
      obtain ⟨s', r', e1, hs, hr⟩ := hargs.cases_cons
      have hr' := hr.cases_nil
      subst hr'
      have e2 : c.args.map a.eval = #[s'] := by apply Array.toList_inj.1; rw [Array.toList_map, e1]
      have := uData_sim (P := P) (w := w) (ts := c.argTypes) (ty := o.type) hs
      intro H tr r hpr hval hw
      obtain ⟨n, w', ρ', g1, g2, g3⟩ := this H tr r hpr hval hw
      refine ⟨n, w', ρ', ?_, g2, g3⟩
      rw [hex]
      simp only [resolve, hb, Sem.run_bind, Sem.run_pure, Result.andThen_ok, invoke, builtin, e2]
      simpa [Sem.run_bind] using g1
    · exact Sim.fail
  · rename_i hb
    split
    · rename_i p n t u h1 h2
      rw [h1] at hargs
      obtain ⟨p', r', e1, hp, hr⟩ := hargs.cases_cons
      obtain ⟨n', r'', e4, hn, hr2⟩ := hr.cases_cons
      have hr' := hr2.cases_nil
      subst hr'
      subst e4
      have e2 : c.args.map a.eval = #[p', n'] := by apply Array.toList_inj.1; rw [Array.toList_map, e1]
      have e3 : c.argTypes = #[t, u] := by apply Array.toList_inj.1; rw [h2]
      have := uStr_sim (P := P) (w := w) (pt := t) (it := u) (ty := o.type) hp hn
      intro H tr r hpr hval hw
      obtain ⟨m, w', ρ', g1, g2, g3⟩ := this H tr r hpr hval hw
      refine ⟨m, w', ρ', ?_, g2, g3⟩
      rw [hex]
      simp only [resolve, hb, Sem.run_bind, Sem.run_pure, Result.andThen_ok, invoke, builtin, e2, e3]
      simpa [Sem.run_bind] using g1
    · exact Sim.fail
  · rename_i hb
    split
    · rename_i d s t ts h1 h2
      rw [h1] at hargs
      obtain ⟨d', r', e1, hd, hr⟩ := hargs.cases_cons
      obtain ⟨s', r'', e4, hs, hr2⟩ := hr.cases_cons
      have hr' := hr2.cases_nil
      subst hr'
      subst e4
      have e2 : c.args.map a.eval = #[d', s'] := by apply Array.toList_inj.1; rw [Array.toList_map, e1]
      have e3 : c.argTypes = (t :: ts).toArray := by apply Array.toList_inj.1; rw [h2]
      have := copy_sim (P := P) (w := w) (ats := c.argTypes) (t := t) (ty := o.type) (by rw [e3]; rfl) hd hs
      intro H tr r hpr hval hw
      obtain ⟨m, w', ρ', g1, g2, g3⟩ := this H tr r hpr hval hw
      refine ⟨m, w', ρ', ?_, g2, g3⟩
      rw [hex]
      simp only [resolve, hb, Sem.run_bind, Sem.run_pure, Result.andThen_ok, invoke, builtin, e2]
      simpa [Sem.run_bind] using g1
    · exact Sim.fail
  · rename_i recv name hf
    have hrv : V ρ (e.eval recv) (a.eval recv) := hc recv (by simp [Call.operands, hf])
    split
    case h_2 => exact Sim.fail
    rename_i t v hev
    rw [hev] at hrv
    split
    case h_2 => exact Sim.fail
    rename_i g el hmeth
    split
    case h_2 => exact Sim.fail
    rename_i fn hfn
    split
    case isFalse => exact Sim.fail
    rename_i hb
    rw [hex]
    intro H tr r hpr hval hw
    cases hfe : a.eval recv <;> rw [hfe] at hrv <;> cases hrv
    rename_i v' hv
    have hres : (resolve a.eval c o.type).run P w = .ok { target := .fn (.method name) #[], args := #[.iface t v'] ++ c.args.map a.eval } w := by
      simp only [resolve, hf, hfe]
      rfl
    have hne : fn.body.isNone = false := by cases hbb : fn.body <;> simp_all
    have hcall : ∀ v', (callFunc g (#[v'] ++ c.args.map a.eval)).run P w = .ok (.enter g (#[v'] ++ c.args.map a.eval)) w := by
      intro v'
      simp only [callFunc, Sem.run_bind]
      simp only [program, Sem.run, Result.andThen_ok, hfn, hN g fn hfn hb, hne]
      rfl
    have hget : (#[Value.iface t v'] ++ c.args.map a.eval)[0]? = some (.iface t v') := by rw [Array.getElem?_append_left (by simp)]; rfl
    have hext : (#[Value.iface t v'] ++ c.args.map a.eval).extract 1 (#[Value.iface t v'] ++ c.args.map a.eval).size = c.args.map a.eval := by
      apply Array.toList_inj.1
      simp
      rw [List.take_of_length_le (by simp)]
    have hprog : ∀ w, (program).run P w = .ok P w := fun w => rfl
    have hdp : 0 < Made.depth := by decide
    obtain ⟨n, hn⟩ : ∃ n, P.types.size + Made.depth = n + 1 := ⟨P.types.size + Made.depth - 1, by omega⟩
    split at hpr
    · cases hpr
      refine ⟨.enter g (#[v'] ++ c.args.map a.eval), w, ρ, ?_, Went.refl hw, rfl, ?_⟩
      · simp only [Sem.run_bind, hres, Result.andThen_ok, invoke, hget, hext, callMethod, hprog, hn, meth_run hmeth, hcall]
      · have := VL.cons hv hargs
        simpa using this
    · rename_i e
      obtain ⟨c1, o1, u, u', t1, t2, rfl, rfl, q1, q2, q3, q4, q5, q6⟩ := loadP_sound hw hv hpr hval
      cases q1
      refine ⟨.enter g (#[u'] ++ c.args.map a.eval), w, ρ, ?_, (Went.refl hw).congr (by rw [List.append_nil, q4]; rfl) (fun b hb => by cases hb), rfl, ?_⟩
      · simp only [Sem.run_bind, hres, Result.andThen_ok, invoke, hget, hext, callMethod, hprog, hn, meth_run2 hmeth _ q3, hcall]
      · have := VL.cons q2 hargs
        simpa using this
  · exact hg

/-- A byte of a text. -/
def idxP (P : Program) (t : TypeId) (s : ByteArray) (n : Int) : Prog := match P.underlying t with
  | some .string => if 0 ≤ n then (match s.data.toList[n.toNat]? with
    | some b => .val (.int .u8 b.toNat)
    | none => .fail) else .fail
  | _ => .fail
theorem idx_sim {t : TypeId} {s : ByteArray} {k : IntKind} {n : Int} : Sim P (idxP P t s n) (do pure (.value (← Instr.index t (.string s) (.int k n)))) ρ w := by
  unfold idxP
  split
  · rename_i hu
    split
    · rename_i hn
      split
      · rename_i b hb
        refine Sim.vv rfl (v' := .int .u8 b.toNat) ?_ (.int _ _)
        have hg : s[n.toNat]? = some b := by
          obtain ⟨hlt, hb⟩ := List.getElem?_eq_some_iff.1 hb
          have hsz : n.toNat < s.size := hlt
          rw [getElem?_pos s n.toNat hsz]
          congr 1
        simp only [Instr.index, asIntOf, Sem.run_bind, Sem.run_pure, Result.andThen_ok, run_underlying hu]
        rw [if_pos hn, hg]
        rfl
      · exact Sim.fail
    · exact Sim.fail
  · exact Sim.fail
def cvtP (P : Program) (src dst : TypeId) (n : Int) : Prog := match P.underlying src, P.underlying dst with
  | some _, some (.int k) => .val (.int k (k.wrap n))
  | _, _ => .fail
theorem cvt_sim {src dst : TypeId} {k : IntKind} {n : Int} : Sim P (cvtP P src dst n) (do pure (.value (← convert src dst (.int k n)))) ρ w := by
  unfold cvtP
  split
  · rename_i d k' hs hd
    refine Sim.vv rfl (v' := .int k' (k'.wrap n)) ?_ (.int _ _)
    simp [convert, run_underlying hs, run_underlying hd, Conv.intToInt]
  · exact Sim.fail

def intV (op : BinOp) (k : IntKind) (a b : Int) : Option Value := match op with
  | .add => some (.int k (k.wrap (a + b)))
  | .sub => some (.int k (k.wrap (a - b)))
  | .mul => some (.int k (k.wrap (a * b)))
  | .eql => some (.bool (a == b))
  | .neq => some (.bool (a != b))
  | .lss => some (.bool (a < b))
  | .leq => some (.bool (a ≤ b))
  | .gtr => some (.bool (a > b))
  | .geq => some (.bool (a ≥ b))
  | _ => none
theorem intV_run {op : BinOp} {t : TypeId} {x y : Operand} {k : IntKind} {a b : Int} {v : Value} (h : intV op k a b = some v) : (do eqGuard op t x y (.int k a) (.int k b); binOp op t (.int k a) (.int k b)) = (pure v : Sem Value) := by
  have hg : eqGuard op t x y (.int k a) (.int k b) = pure () := by cases op <;> rfl
  rw [hg]
  cases op <;> simp only [intV] at h <;> cases h <;> simp [binOp, Op.intArith, Op.intCmp]
theorem intV_flat {op : BinOp} {k : IntKind} {a b : Int} {v : Value} (h : intV op k a b = some v) : flat v = true := by
  cases op <;> simp only [intV] at h <;> cases h <;> rfl

def strV2 (op : BinOp) (a b : ByteArray) : Option Value := match op with
  | .add => if lenY a.data.toList + lenY b.data.toList ≤ 4294967296 then some (.string ⟨⟨appY a.data.toList b.data.toList⟩⟩) else none
  | .eql => some (.bool (leqY a.data.toList b.data.toList))
  | .neq => some (.bool (!leqY a.data.toList b.data.toList))
  | _ => none
theorem strV2_run {op : BinOp} {t : TypeId} {x y : Operand} {a b : ByteArray} {v : Value} (h : strV2 op a b = some v) : (do eqGuard op t x y (.string a) (.string b); binOp op t (.string a) (.string b)) = (pure v : Sem Value) := by
  have hg : eqGuard op t x y (.string a) (.string b) = pure () := by cases op <;> rfl
  rw [hg]
  cases op <;> simp only [strV2, lenY_eq, appY_eq, leqY_eq] at h <;> try cases h
  · split at h
    · rename_i hl
      cases h
      have h1 : ¬ ((a.size + b.size : Nat) : Int) > IntKind.i64.max := by
        have : a.size + b.size ≤ 4294967296 := hl
        simp [IntKind.max, IntKind.signed, IntKind.bits]
        omega
      have h2 : a ++ b = ⟨⟨a.data.toList ++ b.data.toList⟩⟩ := by
        apply ByteArray.ext
        apply Array.toList_inj.1
        simp
      simp only [pure_bind, binOp, Op.stringOp]
      rw [if_neg h1, h2]
    · cases h
  · simp only [pure_bind, binOp, Op.stringOp]
    rw [leq_eq, bytes_list, bytes_list]
  · simp only [pure_bind, binOp, Op.stringOp]
    rw [leq_eq, bytes_list, bytes_list]
theorem strV2_flat {op : BinOp} {a b : ByteArray} {v : Value} (h : strV2 op a b = some v) : flat v = true := by
  cases op <;> simp only [strV2, lenY_eq, appY_eq, leqY_eq] at h <;> try cases h
  · split at h <;> cases h
    rfl
  · rfl
  · rfl

/-- What two values come to. -/
def binP (P : Program) (o : Oper) (op : BinOp) (t : TypeId) (ev : Operand → Value) (a b : Value) : Prog := match a, b with
  | .int k a, .int k' b => match sameK k k' with
    | true => (match intV op k a b with
      | some v => .val v
      | none => groundP P o ev)
    | false => groundP P o ev
  | .string a, .string b => (match strV2 op a b with
    | some v => .val v
    | none => groundP P o ev)
  | .pointer (some a), .pointer (some b) => ptrB P t op a b
  | a, b => (match nilB P t a b with
    | some r => (match op with
      | .eql => .val (.bool r)
      | .neq => .val (.bool (!r))
      | _ => .fail)
    | none => groundP P o ev)
theorem bin_sim {o : Oper} {op : BinOp} {t : TypeId} {x y : Operand} {z : TypeId} (ho : o.op = .binOp op t x y z) {e a : Act} (h : ∀ x ∈ o.op.operands, V ρ (e.eval x) (a.eval x)) : Sim P (binP P o op t e.eval (e.eval x) (e.eval y)) (execOp a.eval o) ρ w := by
  have hg := ground_sim (P := P) (w := w) h
  rw [ho] at h
  have hx := h x (by simp [Op.operands])
  have hy := h y (by simp [Op.operands])
  have hex : execOp a.eval o = (do pure (.value (← (do eqGuard op t x y (a.eval x) (a.eval y); binOp op t (a.eval x) (a.eval y))))) := by unfold execOp; rw [ho]
  unfold binP
  split
  · rename_i k m k' n hp hq
    rw [hp] at hx
    rw [hq] at hy
    have hxa : a.eval x = .int k m := by generalize a.eval x = v at hx; cases hx; rfl
    have hya : a.eval y = .int k' n := by generalize a.eval y = v at hy; cases hy; rfl
    split
    · rename_i hk
      have hk := sameK_eq hk
      subst hk
      split
      · rename_i v hv
        rw [hex, hxa, hya, intV_run hv]
        exact Sim.val rfl (v' := v) (fun w => rfl) (V.flat (intV_flat hv))
      · exact hg
    · exact hg
  · rename_i m n hp hq
    rw [hp] at hx
    rw [hq] at hy
    have hxa : a.eval x = .string m := by generalize a.eval x = v at hx; cases hx; rfl
    have hya : a.eval y = .string n := by generalize a.eval y = v at hy; cases hy; rfl
    split
    · rename_i v hv
      rw [hex, hxa, hya, strV2_run hv]
      exact Sim.val rfl (v' := v) (fun w => rfl) (V.flat (strV2_flat hv))
    · exact hg
  · rename_i p q hp hq
    rw [hp] at hx
    rw [hq] at hy
    rw [hex]
    exact ptr_sim hx hy
  · split
    · rename_i r hr
      have hn := nil_run (P := P) (w := w) (x := x) (y := y) hx hy hr
      rw [hex]
      cases op <;> first
        | exact Sim.fail
        | (refine Sim.val rfl (v' := .bool r) (fun w => ?_) (.bool r)
           have := (nil_run (P := P) (w := w) (x := x) (y := y) hx hy hr).1
           simp only [Sem.run_bind] at this ⊢
           rw [this]; rfl)
        | (refine Sim.val rfl (v' := .bool (!r)) (fun w => ?_) (.bool (!r))
           have := (nil_run (P := P) (w := w) (x := x) (y := y) hx hy hr).2
           simp only [Sem.run_bind] at this ⊢
           rw [this]; rfl)
    · exact hg

/-- A part of a text. -/
def sstP (P : Program) (t : TypeId) (s : ByteArray) (lo hi : Option Value) : Prog := match P.underlying t with
  | some .string => match boundOf lo 0, boundOf hi s.data.toList.length with
    | some l, some h => if Nat.ble l h && Nat.ble h s.data.toList.length then .val (.string ⟨⟨(s.data.toList.drop l).take (h - l)⟩⟩) else .fail
    | _, _ => .fail
  | _ => .fail
theorem run_boundsF {P : Program} {lo hi : Option Value} {n cap l h : Nat} (hl : (lo = none ∧ l = 0) ∨ ∃ k i, lo = some (.int k i) ∧ 0 ≤ i ∧ l = i.toNat) (hh : (hi = none ∧ h = n) ∨ ∃ k i, hi = some (.int k i) ∧ 0 ≤ i ∧ h = i.toNat)
    (h1 : l ≤ h) (h2 : h ≤ cap) : (Instr.sliceBounds false n cap lo hi none).run P w = .ok (l, h, cap) w := by
  have c1 : ∀ i : Int, 0 ≤ i → h = i.toNat → (0 ≤ i ∧ i ≤ (cap : Int)) := fun i a b => ⟨a, by omega⟩
  have c2 : ∀ i : Int, 0 ≤ i → l = i.toNat → (0 ≤ i ∧ i ≤ (h : Int)) := fun i a b => ⟨a, by omega⟩
  rcases hl with ⟨rfl, rfl⟩ | ⟨k, i, rfl, a, b⟩ <;> rcases hh with ⟨rfl, rfl⟩ | ⟨k', i', rfl, a', b'⟩
  · simp [Instr.sliceBounds]
  · simp [Instr.sliceBounds, Instr.sliceBound, asIntOf, c1 i' a' b', ← b']
  · simp [Instr.sliceBounds, Instr.sliceBound, asIntOf, c2 i a b, ← b]
  · simp [Instr.sliceBounds, Instr.sliceBound, asIntOf, c1 i' a' b', ← b', c2 i a b, ← b]
theorem sst_sim {t : TypeId} {s : ByteArray} {lo hi lo' hi' : Option Value} (hlo : VO ρ lo lo') (hhi : VO ρ hi hi') : Sim P (sstP P t s lo hi) (do pure (.value (← Instr.sliceAt t (.string s) lo' hi' none))) ρ w := by
  unfold sstP
  split
  · rename_i hu
    split
    · rename_i l h hl hh
      split
      · rename_i hb
        rw [Bool.and_eq_true] at hb
        have b1 := Nat.le_of_ble_eq_true hb.1
        have b2 := Nat.le_of_ble_eq_true hb.2
        have hl2 : (lo' = none ∧ l = 0) ∨ ∃ k i, lo' = some (.int k i) ∧ 0 ≤ i ∧ l = i.toNat := by
          rcases boundOf_rel hl hlo with ⟨_, a, b⟩ | h
          · exact .inl ⟨a, b⟩
          · exact .inr h
        have hh2 : (hi' = none ∧ h = s.size) ∨ ∃ k i, hi' = some (.int k i) ∧ 0 ≤ i ∧ h = i.toNat := by
          rcases boundOf_rel hh hhi with ⟨_, a, b⟩ | h
          · exact .inl ⟨a, b⟩
          · exact .inr h
        have hbd := run_boundsF (P := P) (w := w) hl2 hh2 b1 (show h ≤ s.size from b2)
        refine Sim.vv rfl (v' := .string ⟨⟨(s.data.toList.drop l).take (h - l)⟩⟩) ?_ (.string _)
        have he : s.extract l h = ⟨⟨(s.data.toList.drop l).take (h - l)⟩⟩ := by
          apply ByteArray.ext
          apply Array.toList_inj.1
          rw [Lib.extract_data]
        simp only [Instr.sliceAt, Sem.run_bind, run_underlying hu, Result.andThen_ok, Instr.slice, Option.isSome_none, Bool.false_eq_true, if_false, Sem.run_pure, hbd, he]
      · exact Sim.fail
    · exact Sim.fail
  · exact Sim.fail

/-- All operations. -/
def opF (P : Program) (o : Oper) (ev : Operand → Value) : Prog :=
  match o.op with
  | .move x => .val (ev x)
  | .assign x => .val (ev x)
  | .pick c a b => (match ev c with
    | .bool true => .val (ev a)
    | .bool false => .val (ev b)
    | _ => .fail)
  | .alloc t => allocP P t
  | .box t x => newP t (ev x)
  | .load t a => loadP P t (ev a) .val
  | .store t a x => storeP P t (ev a) (ev x)
  | .fieldAddr s x f => fieldP P s (ev x) f
  | .indexAddr t x i => ixP P t (ev x) (ev i)
  | .field t x f => fieldVP P t (ev x) f
  | .extract x i => extractP (ev x) i
  | .makeSlice t l c => mkP P t (ev l) (ev c)
  | .build t parts => buildP P t (partsOf ev parts)
  | .buildSlice t n parts => buildSP P t n (partsOf ev parts)
  | .makeFunc (.func f) first captured => .val (.func (.func f) ⟨first.toList.map ev⟩ ⟨captured.toList.map ev⟩)
  | .nilCheck x => (match ev x with
    | .pointer (some a) => .val (.pointer (some a))
    | .func (.func f) l m => .val (.func (.func f) l m)
    | _ => .fail)
  | .slice t x lo hi none => (match ev x with
    | .slice (some a) n k => slP P t (.slice (some a) n k) (lo.map ev) (hi.map ev)
    | .string s => sstP P t s (lo.map ev) (hi.map ev)
    | _ => groundP P o ev)
  | .binOp op t x y _ => binP P o op t ev (ev x) (ev y)
  | .unOp .not _ x => (match ev x with
    | .bool b => .val (.bool (!b))
    | _ => groundP P o ev)
  | .convert s d x => (match ev x with
    | .slice (some a) n k => bytesP P s d (.slice (some a) n k)
    | .int _ n => cvtP P s d n
    | .pointer (some a) => uptrP P s d (.pointer (some a))
    | _ => groundP P o ev)
  | .index t x i => (match ev x, ev i with
    | .string s, .int _ n => idxP P t s n
    | _, _ => groundP P o ev)
  | .call c => callP P o c ev
  | .lookup t x k ok => lookP P t (ev x) (ev k) ok
  | .mapUpdate t m k x => updP P t (ev m) (ev k) (ev x)
  | .insert t m k x => updP P t (ev m) (ev k) (ev x)
  | .makeMap t r => mkMP t (r.map ev)
  | .makeInterface t x => mkIP P t (ev x)
  | .typeAssert x _ t ok => assertP P (ev x) t ok
  | _ => groundP P o ev

theorem map_opt {ev ev' : Operand → Value} {x : Option Operand} (h : ∀ y ∈ x.toArray, ev y = ev' y) : x.map ev = x.map ev' := by
  cases x with
  | none => rfl
  | some y => simp only [Option.map_some]; rw [h y (by simp)]

theorem opF_congr (o : Oper) (ev ev' : Operand → Value) (h : ∀ x ∈ o.op.operands, ev x = ev' x) : opF P o ev = opF P o ev' := by
  have hg := ground_congr (P := P) h
  unfold opF
  split <;> rename_i ho <;> (try (rw [ho] at h)) <;> (try exact hg)
  case h_1 x => rw [h x (by simp [Op.operands])]
  case h_2 x => rw [h x (by simp [Op.operands])]
  case h_3 c a b => rw [h c (by simp [Op.operands]), h a (by simp [Op.operands]), h b (by simp [Op.operands])]
  case h_5 t x => rw [h x (by simp [Op.operands])]
  case h_6 t x => rw [h x (by simp [Op.operands])]
  case h_7 t a x => rw [h a (by simp [Op.operands]), h x (by simp [Op.operands])]
  case h_8 s x f => rw [h x (by simp [Op.operands])]
  case h_9 t x i => rw [h x (by simp [Op.operands]), h i (by simp [Op.operands])]
  case h_10 t x f => rw [h x (by simp [Op.operands])]
  case h_11 x i => rw [h x (by simp [Op.operands])]
  case h_12 t l c => rw [h l (by simp [Op.operands]), h c (by simp [Op.operands])]
  case h_13 t parts =>
    have : partsOf ev parts = partsOf ev' parts := List.map_congr_left fun p hp => by
      obtain ⟨i, x⟩ := p
      show (i, ev x) = (i, ev' x)
      rw [h x (by simp only [Op.operands]; rw [List.mem_toArray]; exact List.mem_map.2 ⟨(i, x), hp, rfl⟩)]
    rw [this]
  case h_14 t n parts =>
    have : partsOf ev parts = partsOf ev' parts := List.map_congr_left fun p hp => by
      obtain ⟨i, x⟩ := p
      show (i, ev x) = (i, ev' x)
      rw [h x (by simp only [Op.operands]; rw [List.mem_toArray]; exact List.mem_map.2 ⟨(i, x), hp, rfl⟩)]
    rw [this]
  case h_15 f first captured =>
    have h1 : first.toList.map ev = first.toList.map ev' := List.map_congr_left fun x hx => h x (by simp only [Op.operands]; exact Array.mem_append_left _ (Array.mem_toList_iff.1 hx))
    have h2 : captured.toList.map ev = captured.toList.map ev' := List.map_congr_left fun x hx => h x (by simp only [Op.operands]; exact Array.mem_append_right _ (Array.mem_toList_iff.1 hx))
    rw [h1, h2]
  case h_16 x => rw [h x (by simp [Op.operands])]
  case h_17 t x lo hi =>
    have h1 : lo.map ev = lo.map ev' := map_opt fun y hy => h y (by simp only [Op.operands]; simp_all)
    have h2 : hi.map ev = hi.map ev' := map_opt fun y hy => h y (by simp only [Op.operands]; simp_all)
    rw [h x (by simp [Op.operands]), h1, h2, hg]
  case h_18 op t x y _ => unfold binP; rw [h x (by simp [Op.operands]), h y (by simp [Op.operands]), hg]
  case h_19 t x => rw [h x (by simp [Op.operands]), hg]
  case h_20 s d x => rw [h x (by simp [Op.operands]), hg]
  case h_21 t x i => rw [h x (by simp [Op.operands]), h i (by simp [Op.operands]), hg]
  case h_22 c =>
    have hf : ∀ f, c.callee = .value f → ev f = ev' f := fun f hf => h f (by simp [Op.operands, Call.operands, hf])
    have ha : c.args.toList.map ev = c.args.toList.map ev' := List.map_congr_left fun x hx => h x (by simp only [Op.operands, Call.operands]; exact Array.mem_append_right _ (Array.mem_toList_iff.1 hx))
    unfold callP
    rw [ha, hg]
    split
    · rename_i f hcf
      rw [hf f hcf]
    all_goals first
      | rfl
      | (rename_i recv name hcf
         rw [h recv (by simp [Op.operands, Call.operands, hcf])])
  case h_23 t x k ok => rw [h x (by simp [Op.operands]), h k (by simp [Op.operands])]
  case h_24 t m k x => rw [h m (by simp [Op.operands]), h k (by simp [Op.operands]), h x (by simp [Op.operands])]
  case h_25 t m k x => rw [h m (by simp [Op.operands]), h k (by simp [Op.operands]), h x (by simp [Op.operands])]
  case h_26 t r => rw [map_opt (x := r) fun y hy => h y (by simp only [Op.operands]; simp_all)]
  case h_27 t x => rw [h x (by simp [Op.operands])]
  case h_28 x _ t ok => rw [h x (by simp [Op.operands])]

theorem VO.of {e a : Act} {x : Option Operand} (h : ∀ y ∈ x.toArray, V ρ (e.eval y) (a.eval y)) : VO ρ (x.map e.eval) (x.map a.eval) := by
  cases x with
  | none => trivial
  | some y => exact h y (by simp)

theorem opF_sound (hN : NamesOk P) (o : Oper) (e a : Act) (ρ : Rho) (w : World) (h : ∀ x ∈ o.op.operands, V ρ (e.eval x) (a.eval x)) : Sim P (opF P o e.eval) (execOp a.eval o) ρ w := by
  have hg := ground_sim (P := P) (w := w) h
  have hh := h
  unfold opF
  split <;> rename_i ho <;> (try (rw [ho] at h)) <;> (try exact hg)
  case h_1 x => exact Sim.val rfl (v' := a.eval x) (fun w => by simp [execOp, ho]) (h x (by simp [Op.operands]))
  case h_2 x => exact Sim.val rfl (v' := a.eval x) (fun w => by simp [execOp, ho]) (h x (by simp [Op.operands]))
  case h_3 c x y =>
    have hc := h c (by simp [Op.operands])
    have hx := h x (by simp [Op.operands])
    have hy := h y (by simp [Op.operands])
    split
    · rename_i hb
      rw [hb] at hc
      have := hc.bool_eq
      exact Sim.val rfl (v' := a.eval x) (fun w => by simp [execOp, ho, this, asBool]) hx
    · rename_i hb
      rw [hb] at hc
      have := hc.bool_eq
      exact Sim.val rfl (v' := a.eval y) (fun w => by simp [execOp, ho, this, asBool]) hy
    · exact Sim.fail
  case h_4 t => have := alloc_sim (P := P) (ρ := ρ) (w := w) (t := t); unfold execOp; rw [ho]; exact this
  case h_5 t x => have := box_sim (P := P) (w := w) (t := t) (h x (by simp [Op.operands])); unfold execOp; rw [ho]; exact this
  case h_6 t x => have := load_sim (P := P) (w := w) (t := t) (h x (by simp [Op.operands])); unfold execOp; rw [ho]; exact this
  case h_7 t p x => have := storeP_sound (P := P) (w := w) (t := t) (h p (by simp [Op.operands])) (h x (by simp [Op.operands])); unfold execOp; rw [ho]; exact this
  case h_8 s x f => have := field_sim (P := P) (w := w) (s := s) (f := f) (h x (by simp [Op.operands])); unfold execOp; rw [ho]; exact this
  case h_9 t x i => have := ix_sim (P := P) (w := w) (t := t) (h x (by simp [Op.operands])) (h i (by simp [Op.operands])); unfold execOp; rw [ho]; exact this
  case h_10 t x f => have := fieldV_sim (P := P) (w := w) (t := t) (f := f) (h x (by simp [Op.operands])); unfold execOp; rw [ho]; exact this
  case h_11 x i => have := extract_sim (P := P) (w := w) (i := i) (h x (by simp [Op.operands])); unfold execOp; rw [ho]; exact this
  case h_12 t l c => have := mk_sim (P := P) (w := w) (t := t) (h l (by simp [Op.operands])) (h c (by simp [Op.operands])); unfold execOp; rw [ho]; exact this
  case h_13 t parts =>
    have hp := parts_rel (ρ := ρ) (e := e) (a := a) (ps := parts) fun p hp => h p.2 (by simp only [Op.operands]; rw [List.mem_toArray]; exact List.mem_map.2 ⟨p, Array.mem_toList_iff.2 hp, rfl⟩)
    have := build_sim (P := P) (w := w) (t := t) hp.1 hp.2; unfold execOp; rw [ho]; exact this
  case h_14 t n parts =>
    have hp := parts_rel (ρ := ρ) (e := e) (a := a) (ps := parts) fun p hp => h p.2 (by simp only [Op.operands]; rw [List.mem_toArray]; exact List.mem_map.2 ⟨p, Array.mem_toList_iff.2 hp, rfl⟩)
    have := buildS_sim (P := P) (w := w) (t := t) (n := n) hp.1 hp.2; unfold execOp; rw [ho]; exact this
  case h_15 f first captured =>
    have h1 := maps_rel (ρ := ρ) (e := e) (a := a) (l := first.toList) fun x hx => h x (by simp only [Op.operands]; exact Array.mem_append_left _ (Array.mem_toList_iff.1 hx))
    have h2 := maps_rel (ρ := ρ) (e := e) (a := a) (l := captured.toList) fun x hx => h x (by simp only [Op.operands]; exact Array.mem_append_right _ (Array.mem_toList_iff.1 hx))
    refine Sim.val rfl (v' := .func (.func f) (first.map a.eval) (captured.map a.eval)) (fun w => by simp [execOp, ho, Instr.makeFunc]) ?_
    have e1 : first.map a.eval = ⟨first.toList.map a.eval⟩ := by apply Array.toList_inj.1; simp
    have e2 : captured.map a.eval = ⟨captured.toList.map a.eval⟩ := by apply Array.toList_inj.1; simp
    rw [e1, e2]
    exact .func f _ _ _ _ h1.1 h2.1 h1.2 h2.2
  case h_16 x =>
    have hx := h x (by simp [Op.operands])
    split
    · rename_i p hp
      rw [hp] at hx
      cases hxa : a.eval x <;> rw [hxa] at hx <;> cases hx
      rename_i hr
      exact Sim.val rfl (v' := a.eval x) (fun w => by simp [execOp, ho, hxa]) (by rw [hxa]; exact .ptr _ _ _ _ hr)
    · rename_i f l m hp
      rw [hp] at hx
      cases hxa : a.eval x <;> rw [hxa] at hx <;> cases hx
      exact Sim.val rfl (v' := a.eval x) (fun w => by simp [execOp, ho, hxa]) (by rw [hxa]; exact .func _ _ _ _ _ ‹_› ‹_› ‹_› ‹_›)
    · exact Sim.fail
  case h_17 t x lo hi =>
    have hx := h x (by simp [Op.operands])
    have hlo := VO.of (ρ := ρ) (e := e) (a := a) (x := lo) fun y hy => h y (by simp only [Op.operands]; simp_all)
    have hhi := VO.of (ρ := ρ) (e := e) (a := a) (x := hi) fun y hy => h y (by simp only [Op.operands]; simp_all)
    split
    · rename_i p n k hp
      rw [hp] at hx
      have := sl_sim (P := P) (w := w) (t := t) hx hlo hhi; unfold execOp; rw [ho]; exact this
    · rename_i s hp
      rw [hp] at hx
      have hxa : a.eval x = .string s := by generalize a.eval x = v at hx; cases hx; rfl
      have := sst_sim (P := P) (w := w) (t := t) (s := s) hlo hhi; unfold execOp; rw [ho]; simp only; rw [hxa]; exact this
    · exact hg
  case h_18 op t x y _ => exact bin_sim ho hh
  case h_19 t x =>
    have hx := h x (by simp [Op.operands])
    split
    · rename_i b hb
      rw [hb] at hx
      have := hx.bool_eq
      exact Sim.val rfl (v' := .bool (!b)) (fun w => by simp [execOp, ho, this, Op.unary]) (.bool _)
    · exact hg
  case h_20 s d x =>
    have hx := h x (by simp [Op.operands])
    split
    · rename_i p n k hp
      rw [hp] at hx
      have := bytes_sim (P := P) (w := w) (src := s) (dst := d) hx; unfold execOp; rw [ho]; exact this
    · rename_i k n hp
      rw [hp] at hx
      have hxa : a.eval x = .int k n := by generalize a.eval x = v at hx; cases hx; rfl
      have := cvt_sim (P := P) (ρ := ρ) (w := w) (src := s) (dst := d) (k := k) (n := n); unfold execOp; rw [ho]; simp only; rw [hxa]; exact this
    · rename_i p hp
      rw [hp] at hx
      have := uptr_sim (P := P) (ρ := ρ) (w := w) (src := s) (dst := d) hx; unfold execOp; rw [ho]; exact this
    · exact hg
  case h_21 t x i =>
    have hx := h x (by simp [Op.operands])
    have hi := h i (by simp [Op.operands])
    split
    · rename_i s k n hp hq
      rw [hp] at hx
      rw [hq] at hi
      have hxa : a.eval x = .string s := by generalize a.eval x = v at hx; cases hx; rfl
      have hia : a.eval i = .int k n := by generalize a.eval i = v at hi; cases hi; rfl
      have := idx_sim (P := P) (ρ := ρ) (w := w) (t := t) (s := s) (k := k) (n := n); unfold execOp; rw [ho]; simp only; rw [hxa, hia]; exact this
    · exact hg
  case h_22 c => exact call_sim hN ho hh
  case h_23 t x k ok => have := look_sim (P := P) (w := w) (t := t) (ok := ok) (h x (by simp [Op.operands])) (h k (by simp [Op.operands])); unfold execOp; rw [ho]; exact this
  case h_24 t m k x => have := upd_sim (P := P) (w := w) (t := t) (h m (by simp [Op.operands])) (h k (by simp [Op.operands])) (h x (by simp [Op.operands])); unfold execOp; rw [ho]; exact this
  case h_25 t m k x => have := upd_sim (P := P) (w := w) (t := t) (h m (by simp [Op.operands])) (h k (by simp [Op.operands])) (h x (by simp [Op.operands])); unfold execOp; rw [ho]; exact this
  case h_26 t r => have := mkM_sim (P := P) (ρ := ρ) (w := w) (t := t) (r := r.map e.eval) (r' := r.map a.eval) (by cases r <;> rfl); unfold execOp; rw [ho]; exact this
  case h_27 t x => have := mkI_sim (P := P) (w := w) (t := t) (h x (by simp [Op.operands])); unfold execOp; rw [ho]; exact this
  case h_28 x xt t ok => have := assert_sim (P := P) (w := w) (xt := xt) (t := t) (ok := ok) (h x (by simp [Op.operands])); unfold execOp; rw [ho]; exact this

def opA {P : Program} (hN : NamesOk P) (ng : Nat) : OpA P ng := ⟨opF P, opF_congr, opF_sound hN⟩
end
end
end Go.Proofs.YtmphiefdoaihhaaGreatDoor

/-
  A run that is reckoned over blocks with names of its own: nodes of sixteen: no function of a program is named here.
-/
namespace Go.Proofs.YtmphiefdoaihhaaGreatDoor
noncomputable section

inductive D16
  | d0 | d1 | d2 | d3 | d4 | d5 | d6 | d7 | d8 | d9 | d10 | d11 | d12 | d13 | d14 | d15
def D16.of (n : Nat) : D16 := Nat.rec (motive := fun _ => D16) .d0 (fun n _ => Nat.rec (motive := fun _ => D16) .d1 (fun n _ => Nat.rec (motive := fun _ => D16) .d2 (fun n _ => Nat.rec (motive := fun _ => D16) .d3 (fun n _ => Nat.rec (motive := fun _ => D16) .d4 (fun n _ => Nat.rec (motive := fun _ => D16) .d5 (fun n _ => Nat.rec (motive := fun _ => D16) .d6 (fun n _ => Nat.rec (motive := fun _ => D16) .d7 (fun n _ => Nat.rec (motive := fun _ => D16) .d8 (fun n _ => Nat.rec (motive := fun _ => D16) .d9 (fun n _ => Nat.rec (motive := fun _ => D16) .d10 (fun n _ => Nat.rec (motive := fun _ => D16) .d11 (fun n _ => Nat.rec (motive := fun _ => D16) .d12 (fun n _ => Nat.rec (motive := fun _ => D16) .d13 (fun n _ => Nat.rec (motive := fun _ => D16) .d14 (fun _ _ => D16.d15) n) n) n) n) n) n) n) n) n) n) n) n) n) n) n
def D16.n : D16 → Nat
  | .d0 => 0
  | .d1 => 1
  | .d2 => 2
  | .d3 => 3
  | .d4 => 4
  | .d5 => 5
  | .d6 => 6
  | .d7 => 7
  | .d8 => 8
  | .d9 => 9
  | .d10 => 10
  | .d11 => 11
  | .d12 => 12
  | .d13 => 13
  | .d14 => 14
  | .d15 => 15
theorem D16.of_n : ∀ n : Nat, n < 16 → (D16.of n).n = n
  | 0, _ => rfl
  | 1, _ => rfl
  | 2, _ => rfl
  | 3, _ => rfl
  | 4, _ => rfl
  | 5, _ => rfl
  | 6, _ => rfl
  | 7, _ => rfl
  | 8, _ => rfl
  | 9, _ => rfl
  | 10, _ => rfl
  | 11, _ => rfl
  | 12, _ => rfl
  | 13, _ => rfl
  | 14, _ => rfl
  | 15, _ => rfl
  | n + 16, h => absurd h (by omega)
theorem D16.of_inj {a b : Nat} (ha : a < 16) (hb : b < 16) (h : D16.of a = D16.of b) : a = b := by
  have := congrArg D16.n h
  rwa [D16.of_n a ha, D16.of_n b hb] at this
structure N16 (α : Type) where
  a0 : α
  a1 : α
  a2 : α
  a3 : α
  a4 : α
  a5 : α
  a6 : α
  a7 : α
  a8 : α
  a9 : α
  a10 : α
  a11 : α
  a12 : α
  a13 : α
  a14 : α
  a15 : α
structure P16 (α : Type) where
  g : N16 α → α
  s : N16 α → α → N16 α
  m : N16 α → (α → α) → N16 α
def q16_0 (α : Type) : P16 α := ⟨fun n => n.a0, fun n x => N16.rec (motive := fun _ => N16 α) (fun _ a1 a2 a3 a4 a5 a6 a7 a8 a9 a10 a11 a12 a13 a14 a15 => ⟨x, a1, a2, a3, a4, a5, a6, a7, a8, a9, a10, a11, a12, a13, a14, a15⟩) n, fun n x => N16.rec (motive := fun _ => N16 α) (fun a0 a1 a2 a3 a4 a5 a6 a7 a8 a9 a10 a11 a12 a13 a14 a15 => ⟨x a0, a1, a2, a3, a4, a5, a6, a7, a8, a9, a10, a11, a12, a13, a14, a15⟩) n⟩
def q16_1 (α : Type) : P16 α := ⟨fun n => n.a1, fun n x => N16.rec (motive := fun _ => N16 α) (fun a0 _ a2 a3 a4 a5 a6 a7 a8 a9 a10 a11 a12 a13 a14 a15 => ⟨a0, x, a2, a3, a4, a5, a6, a7, a8, a9, a10, a11, a12, a13, a14, a15⟩) n, fun n x => N16.rec (motive := fun _ => N16 α) (fun a0 a1 a2 a3 a4 a5 a6 a7 a8 a9 a10 a11 a12 a13 a14 a15 => ⟨a0, x a1, a2, a3, a4, a5, a6, a7, a8, a9, a10, a11, a12, a13, a14, a15⟩) n⟩
def q16_2 (α : Type) : P16 α := ⟨fun n => n.a2, fun n x => N16.rec (motive := fun _ => N16 α) (fun a0 a1 _ a3 a4 a5 a6 a7 a8 a9 a10 a11 a12 a13 a14 a15 => ⟨a0, a1, x, a3, a4, a5, a6, a7, a8, a9, a10, a11, a12, a13, a14, a15⟩) n, fun n x => N16.rec (motive := fun _ => N16 α) (fun a0 a1 a2 a3 a4 a5 a6 a7 a8 a9 a10 a11 a12 a13 a14 a15 => ⟨a0, a1, x a2, a3, a4, a5, a6, a7, a8, a9, a10, a11, a12, a13, a14, a15⟩) n⟩
def q16_3 (α : Type) : P16 α := ⟨fun n => n.a3, fun n x => N16.rec (motive := fun _ => N16 α) (fun a0 a1 a2 _ a4 a5 a6 a7 a8 a9 a10 a11 a12 a13 a14 a15 => ⟨a0, a1, a2, x, a4, a5, a6, a7, a8, a9, a10, a11, a12, a13, a14, a15⟩) n, fun n x => N16.rec (motive := fun _ => N16 α) (fun a0 a1 a2 a3 a4 a5 a6 a7 a8 a9 a10 a11 a12 a13 a14 a15 => ⟨a0, a1, a2, x a3, a4, a5, a6, a7, a8, a9, a10, a11, a12, a13, a14, a15⟩) n⟩
def q16_4 (α : Type) : P16 α := ⟨fun n => n.a4, fun n x => N16.rec (motive := fun _ => N16 α) (fun a0 a1 a2 a3 _ a5 a6 a7 a8 a9 a10 a11 a12 a13 a14 a15 => ⟨a0, a1, a2, a3, x, a5, a6, a7, a8, a9, a10, a11, a12, a13, a14, a15⟩) n, fun n x => N16.rec (motive := fun _ => N16 α) (fun a0 a1 a2 a3 a4 a5 a6 a7 a8 a9 a10 a11 a12 a13 a14 a15 => ⟨a0, a1, a2, a3, x a4, a5, a6, a7, a8, a9, a10, a11, a12, a13, a14, a15⟩) n⟩
def q16_5 (α : Type) : P16 α := ⟨fun n => n.a5, fun n x => N16.rec (motive := fun _ => N16 α) (fun a0 a1 a2 a3 a4 _ a6 a7 a8 a9 a10 a11 a12 a13 a14 a15 => ⟨a0, a1, a2, a3, a4, x, a6, a7, a8, a9, a10, a11, a12, a13, a14, a15⟩) n, fun n x => N16.rec (motive := fun _ => N16 α) (fun a0 a1 a2 a3 a4 a5 a6 a7 a8 a9 a10 a11 a12 a13 a14 a15 => ⟨a0, a1, a2, a3, a4, x a5, a6, a7, a8, a9, a10, a11, a12, a13, a14, a15⟩) n⟩
def q16_6 (α : Type) : P16 α := ⟨fun n => n.a6, fun n x => N16.rec (motive := fun _ => N16 α) (fun a0 a1 a2 a3 a4 a5 _ a7 a8 a9 a10 a11 a12 a13 a14 a15 => ⟨a0, a1, a2, a3, a4, a5, x, a7, a8, a9, a10, a11, a12, a13, a14, a15⟩) n, fun n x => N16.rec (motive := fun _ => N16 α) (fun a0 a1 a2 a3 a4 a5 a6 a7 a8 a9 a10 a11 a12 a13 a14 a15 => ⟨a0, a1, a2, a3, a4, a5, x a6, a7, a8, a9, a10, a11, a12, a13, a14, a15⟩) n⟩
def q16_7 (α : Type) : P16 α := ⟨fun n => n.a7, fun n x => N16.rec (motive := fun _ => N16 α) (fun a0 a1 a2 a3 a4 a5 a6 _ a8 a9 a10 a11 a12 a13 a14 a15 => ⟨a0, a1, a2, a3, a4, a5, a6, x, a8, a9, a10, a11, a12, a13, a14, a15⟩) n, fun n x => N16.rec (motive := fun _ => N16 α) (fun a0 a1 a2 a3 a4 a5 a6 a7 a8 a9 a10 a11 a12 a13 a14 a15 => ⟨a0, a1, a2, a3, a4, a5, a6, x a7, a8, a9, a10, a11, a12, a13, a14, a15⟩) n⟩
def q16_8 (α : Type) : P16 α := ⟨fun n => n.a8, fun n x => N16.rec (motive := fun _ => N16 α) (fun a0 a1 a2 a3 a4 a5 a6 a7 _ a9 a10 a11 a12 a13 a14 a15 => ⟨a0, a1, a2, a3, a4, a5, a6, a7, x, a9, a10, a11, a12, a13, a14, a15⟩) n, fun n x => N16.rec (motive := fun _ => N16 α) (fun a0 a1 a2 a3 a4 a5 a6 a7 a8 a9 a10 a11 a12 a13 a14 a15 => ⟨a0, a1, a2, a3, a4, a5, a6, a7, x a8, a9, a10, a11, a12, a13, a14, a15⟩) n⟩
def q16_9 (α : Type) : P16 α := ⟨fun n => n.a9, fun n x => N16.rec (motive := fun _ => N16 α) (fun a0 a1 a2 a3 a4 a5 a6 a7 a8 _ a10 a11 a12 a13 a14 a15 => ⟨a0, a1, a2, a3, a4, a5, a6, a7, a8, x, a10, a11, a12, a13, a14, a15⟩) n, fun n x => N16.rec (motive := fun _ => N16 α) (fun a0 a1 a2 a3 a4 a5 a6 a7 a8 a9 a10 a11 a12 a13 a14 a15 => ⟨a0, a1, a2, a3, a4, a5, a6, a7, a8, x a9, a10, a11, a12, a13, a14, a15⟩) n⟩
def q16_10 (α : Type) : P16 α := ⟨fun n => n.a10, fun n x => N16.rec (motive := fun _ => N16 α) (fun a0 a1 a2 a3 a4 a5 a6 a7 a8 a9 _ a11 a12 a13 a14 a15 => ⟨a0, a1, a2, a3, a4, a5, a6, a7, a8, a9, x, a11, a12, a13, a14, a15⟩) n, fun n x => N16.rec (motive := fun _ => N16 α) (fun a0 a1 a2 a3 a4 a5 a6 a7 a8 a9 a10 a11 a12 a13 a14 a15 => ⟨a0, a1, a2, a3, a4, a5, a6, a7, a8, a9, x a10, a11, a12, a13, a14, a15⟩) n⟩
def q16_11 (α : Type) : P16 α := ⟨fun n => n.a11, fun n x => N16.rec (motive := fun _ => N16 α) (fun a0 a1 a2 a3 a4 a5 a6 a7 a8 a9 a10 _ a12 a13 a14 a15 => ⟨a0, a1, a2, a3, a4, a5, a6, a7, a8, a9, a10, x, a12, a13, a14, a15⟩) n, fun n x => N16.rec (motive := fun _ => N16 α) (fun a0 a1 a2 a3 a4 a5 a6 a7 a8 a9 a10 a11 a12 a13 a14 a15 => ⟨a0, a1, a2, a3, a4, a5, a6, a7, a8, a9, a10, x a11, a12, a13, a14, a15⟩) n⟩
def q16_12 (α : Type) : P16 α := ⟨fun n => n.a12, fun n x => N16.rec (motive := fun _ => N16 α) (fun a0 a1 a2 a3 a4 a5 a6 a7 a8 a9 a10 a11 _ a13 a14 a15 => ⟨a0, a1, a2, a3, a4, a5, a6, a7, a8, a9, a10, a11, x, a13, a14, a15⟩) n, fun n x => N16.rec (motive := fun _ => N16 α) (fun a0 a1 a2 a3 a4 a5 a6 a7 a8 a9 a10 a11 a12 a13 a14 a15 => ⟨a0, a1, a2, a3, a4, a5, a6, a7, a8, a9, a10, a11, x a12, a13, a14, a15⟩) n⟩
def q16_13 (α : Type) : P16 α := ⟨fun n => n.a13, fun n x => N16.rec (motive := fun _ => N16 α) (fun a0 a1 a2 a3 a4 a5 a6 a7 a8 a9 a10 a11 a12 _ a14 a15 => ⟨a0, a1, a2, a3, a4, a5, a6, a7, a8, a9, a10, a11, a12, x, a14, a15⟩) n, fun n x => N16.rec (motive := fun _ => N16 α) (fun a0 a1 a2 a3 a4 a5 a6 a7 a8 a9 a10 a11 a12 a13 a14 a15 => ⟨a0, a1, a2, a3, a4, a5, a6, a7, a8, a9, a10, a11, a12, x a13, a14, a15⟩) n⟩
def q16_14 (α : Type) : P16 α := ⟨fun n => n.a14, fun n x => N16.rec (motive := fun _ => N16 α) (fun a0 a1 a2 a3 a4 a5 a6 a7 a8 a9 a10 a11 a12 a13 _ a15 => ⟨a0, a1, a2, a3, a4, a5, a6, a7, a8, a9, a10, a11, a12, a13, x, a15⟩) n, fun n x => N16.rec (motive := fun _ => N16 α) (fun a0 a1 a2 a3 a4 a5 a6 a7 a8 a9 a10 a11 a12 a13 a14 a15 => ⟨a0, a1, a2, a3, a4, a5, a6, a7, a8, a9, a10, a11, a12, a13, x a14, a15⟩) n⟩
def q16_15 (α : Type) : P16 α := ⟨fun n => n.a15, fun n x => N16.rec (motive := fun _ => N16 α) (fun a0 a1 a2 a3 a4 a5 a6 a7 a8 a9 a10 a11 a12 a13 a14 _ => ⟨a0, a1, a2, a3, a4, a5, a6, a7, a8, a9, a10, a11, a12, a13, a14, x⟩) n, fun n x => N16.rec (motive := fun _ => N16 α) (fun a0 a1 a2 a3 a4 a5 a6 a7 a8 a9 a10 a11 a12 a13 a14 a15 => ⟨a0, a1, a2, a3, a4, a5, a6, a7, a8, a9, a10, a11, a12, a13, a14, x a15⟩) n⟩
def p16 (α : Type) (d : D16) : P16 α := D16.rec (motive := fun _ => P16 α) (q16_0 α) (q16_1 α) (q16_2 α) (q16_3 α) (q16_4 α) (q16_5 α) (q16_6 α) (q16_7 α) (q16_8 α) (q16_9 α) (q16_10 α) (q16_11 α) (q16_12 α) (q16_13 α) (q16_14 α) (q16_15 α) d
theorem p16_same {α : Type} (d : D16) (n : N16 α) (x : α) : (p16 α d).g ((p16 α d).s n x) = x := by cases d <;> rfl
theorem p16_m {α : Type} (d : D16) (n : N16 α) (x : α → α) : (p16 α d).m n x = (p16 α d).s n (x ((p16 α d).g n)) := by cases d <;> rfl
theorem p16_ne {α : Type} {d e : D16} (h : d ≠ e) (n : N16 α) (x : α) : (p16 α e).g ((p16 α d).s n x) = (p16 α e).g n := by
  cases d <;> cases e <;> first | exact absurd rfl h | rfl

end
end Go.Proofs.YtmphiefdoaihhaaGreatDoor

/-
  A run that is reckoned over blocks with names of its own: the reckoning itself: no function of a program is named here.
-/
namespace Go.Proofs.YtmphiefdoaihhaaGreatDoor
noncomputable section

/-- A digit. -/
inductive D8
  | d0 | d1 | d2 | d3 | d4 | d5 | d6 | d7
def D8.of (n : Nat) : D8 := Nat.rec (motive := fun _ => D8) .d0 (fun n _ => Nat.rec (motive := fun _ => D8) .d1 (fun n _ => Nat.rec (motive := fun _ => D8) .d2 (fun n _ => Nat.rec (motive := fun _ => D8) .d3 (fun n _ => Nat.rec (motive := fun _ => D8) .d4 (fun n _ => Nat.rec (motive := fun _ => D8) .d5 (fun n _ => Nat.rec (motive := fun _ => D8) .d6 (fun _ _ => .d7) n) n) n) n) n) n) n
def D8.n : D8 → Nat
  | .d0 => 0 | .d1 => 1 | .d2 => 2 | .d3 => 3 | .d4 => 4 | .d5 => 5 | .d6 => 6 | .d7 => 7
theorem D8.of_n : ∀ n : Nat, n < 8 → (D8.of n).n = n
  | 0, _ => rfl | 1, _ => rfl | 2, _ => rfl | 3, _ => rfl | 4, _ => rfl | 5, _ => rfl | 6, _ => rfl | 7, _ => rfl
  | n + 8, h => absurd h (by omega)
/-- A number's way: digits from the root on. -/
def way (k : Nat) : List D8 := Nat.rec (motive := fun _ => Nat → List D8) (fun _ => [])
  (fun _ ih k => Bool.rec (D8.of (Nat.mod (Nat.sub k 1) 8) :: ih (Nat.div (Nat.sub k 1) 8)) [] (Nat.beq k 0)) k k
def wayF (f k : Nat) : List D8 := Nat.rec (motive := fun _ => Nat → List D8) (fun _ => [])
  (fun _ ih k => Bool.rec (D8.of (Nat.mod (Nat.sub k 1) 8) :: ih (Nat.div (Nat.sub k 1) 8)) [] (Nat.beq k 0)) f k
theorem beq_false {a b : Nat} (h : a ≠ b) : Nat.beq a b = false := by
  cases hb : Nat.beq a b with
  | false => rfl
  | true => exact absurd (Nat.eq_of_beq_eq_true hb) h
theorem wayF_0 (f : Nat) : wayF f 0 = [] := by cases f <;> rfl
theorem wayF_s (f k : Nat) : wayF (f + 1) (k + 1) = D8.of (k % 8) :: wayF f (k / 8) := rfl
theorem wayF_inj : ∀ (f g a b : Nat), a ≤ f → b ≤ g → wayF f a = wayF g b → a = b
  | f, g, 0, 0, _, _, _ => rfl
  | f, 0, a + 1, b + 1, _, h, _ => absurd h (by omega)
  | 0, g, a + 1, b, h, _, _ => absurd h (by omega)
  | f, 0, 0, b + 1, _, h, _ => absurd h (by omega)
  | f, g + 1, 0, b + 1, _, _, e => by rw [wayF_0, wayF_s] at e; cases e
  | f + 1, g, a + 1, 0, _, _, e => by rw [wayF_0, wayF_s] at e; cases e
  | f + 1, g + 1, a + 1, b + 1, ha, hb, e => by
    rw [wayF_s, wayF_s] at e
    have e1 := (List.cons.inj e).1
    have e2 := wayF_inj f g (a / 8) (b / 8) (by omega) (by omega) (List.cons.inj e).2
    have e3 := congrArg D8.n e1
    rw [D8.of_n _ (Nat.mod_lt _ (by omega)), D8.of_n _ (Nat.mod_lt _ (by omega))] at e3
    omega
theorem way_inj {a b : Nat} (h : way a = way b) : a = b := wayF_inj a b a b (Nat.le_refl _) (Nat.le_refl _) h

/-- A map from numbers, of any size. -/
inductive To (α : Type)
  | e
  | n (v : Option α) (c0 c1 c2 c3 c4 c5 c6 c7 : To α)
section
variable {α : Type}
def To.child (d : D8) (t : To α) : To α := To.rec (motive := fun _ => To α) .e (fun _ c0 c1 c2 c3 c4 c5 c6 c7 _ _ _ _ _ _ _ _ => D8.rec (motive := fun _ => To α) c0 c1 c2 c3 c4 c5 c6 c7 d) t
def To.top (t : To α) : Option α := To.rec (motive := fun _ => Option α) none (fun v _ _ _ _ _ _ _ _ _ _ _ _ _ _ _ _ => v) t
def To.upd (d : D8) (t x : To α) : To α := To.rec (motive := fun _ => To α) (D8.rec (motive := fun _ => To α) (.n none x .e .e .e .e .e .e .e) (.n none .e x .e .e .e .e .e .e) (.n none .e .e x .e .e .e .e .e) (.n none .e .e .e x .e .e .e .e) (.n none .e .e .e .e x .e .e .e) (.n none .e .e .e .e .e x .e .e) (.n none .e .e .e .e .e .e x .e) (.n none .e .e .e .e .e .e .e x) d) (fun v c0 c1 c2 c3 c4 c5 c6 c7 _ _ _ _ _ _ _ _ => D8.rec (motive := fun _ => To α) (.n v x c1 c2 c3 c4 c5 c6 c7) (.n v c0 x c2 c3 c4 c5 c6 c7) (.n v c0 c1 x c3 c4 c5 c6 c7) (.n v c0 c1 c2 x c4 c5 c6 c7) (.n v c0 c1 c2 c3 x c5 c6 c7) (.n v c0 c1 c2 c3 c4 x c6 c7) (.n v c0 c1 c2 c3 c4 c5 x c7) (.n v c0 c1 c2 c3 c4 c5 c6 x) d) t
def To.put0 (t : To α) (x : α) : To α := To.rec (motive := fun _ => To α) (.n (some x) .e .e .e .e .e .e .e .e) (fun _ c0 c1 c2 c3 c4 c5 c6 c7 _ _ _ _ _ _ _ _ => .n (some x) c0 c1 c2 c3 c4 c5 c6 c7) t
def To.getW (p : List D8) : To α → Option α := List.rec (motive := fun _ => To α → Option α) To.top (fun d _ ih t => ih (To.child d t)) p
def To.setW (x : α) (p : List D8) : To α → To α := List.rec (motive := fun _ => To α → To α) (fun t => To.put0 t x) (fun d _ ih t => To.upd d t (ih (To.child d t))) p
theorem To.child_upd (d : D8) (t x : To α) : To.child d (To.upd d t x) = x := by cases d <;> cases t <;> rfl
theorem To.child_upd_ne {d d' : D8} (h : d ≠ d') (t x : To α) : To.child d' (To.upd d t x) = To.child d' t := by cases d <;> cases d' <;> first | exact absurd rfl h | (cases t <;> rfl)
theorem To.top_upd (d : D8) (t x : To α) : To.top (To.upd d t x) = To.top t := by cases d <;> cases t <;> rfl
theorem To.child_put0 (d : D8) (t : To α) (x : α) : To.child d (To.put0 t x) = To.child d t := by cases d <;> cases t <;> rfl
theorem To.top_put0 (t : To α) (x : α) : To.top (To.put0 t x) = some x := by cases t <;> rfl
theorem To.getW_setW_eq (x : α) : ∀ (p : List D8) (t : To α), To.getW p (To.setW x p t) = some x
  | [], t => To.top_put0 t x
  | d :: p, t => by
    show To.getW p (To.child d (To.upd d t (To.setW x p (To.child d t)))) = _
    rw [To.child_upd]; exact To.getW_setW_eq x p _
theorem To.getW_setW_ne (x : α) : ∀ (p q : List D8) (t : To α), p ≠ q → To.getW q (To.setW x p t) = To.getW q t
  | [], [], t, h => absurd rfl h
  | [], d :: q, t, h => by
    show To.getW q (To.child d (To.put0 t x)) = _
    rw [To.child_put0]; rfl
  | d :: p, [], t, h => To.top_upd d t _
  | d :: p, d' :: q, t, h => by
    show To.getW q (To.child d' (To.upd d t (To.setW x p (To.child d t)))) = To.getW q (To.child d' t)
    by_cases hd : d = d'
    · subst hd
      rw [To.child_upd]
      exact To.getW_setW_ne x p q _ fun e => h (by rw [e])
    · rw [To.child_upd_ne hd]
theorem To.getW_e : ∀ p : List D8, To.getW p (.e : To α) = none
  | [] => rfl
  | d :: p => by
    show To.getW p (To.child d .e) = none
    exact To.getW_e p
end

/-- A map from numbers: the first sixteen, those below 4096, others. -/
structure Tr (α : Type) where
  z : N16 (Option α)
  a : N16 (N16 (N16 (Option α)))
  hi : To α
structure SlT (α : Type) where
  g : Tr α → Option α
  s : Tr α → α → Tr α
section
variable {α : Type}
def sl0 (α : Type) (d : D16) : SlT α := P16.rec (motive := fun _ => SlT α) (fun g s _ => ⟨fun t => g t.z, fun t x => Tr.rec (motive := fun _ => Tr α) (fun z a hi => ⟨s z (some x), a, hi⟩) t⟩) (p16 (Option α) d)
def sl1 (α : Type) (d e f : D16) : SlT α := P16.rec (motive := fun _ => SlT α) (fun g1 _ m1 => P16.rec (motive := fun _ => SlT α) (fun g2 _ m2 => P16.rec (motive := fun _ => SlT α) (fun g3 s3 _ =>
  ⟨fun t => g3 (g2 (g1 t.a)), fun t x => Tr.rec (motive := fun _ => Tr α) (fun z a hi => ⟨z, m1 a (fun u => m2 u (fun v => s3 v (some x))), hi⟩) t⟩) (p16 (Option α) f)) (p16 (N16 (Option α)) e)) (p16 (N16 (N16 (Option α))) d)
def sl2 (α : Type) (i : Nat) : SlT α := ⟨fun t => To.getW (way i) t.hi, fun t x => Tr.rec (motive := fun _ => Tr α) (fun z a hi => ⟨z, a, To.setW x (way i) hi⟩) t⟩
def slT (α : Type) (i : Nat) : SlT α := Bool.rec (motive := fun _ => SlT α) (Bool.rec (motive := fun _ => SlT α) (sl2 α i) (sl1 α (D16.of (Nat.div i 256)) (D16.of (Nat.mod (Nat.div i 16) 16)) (D16.of (Nat.mod i 16))) (Nat.blt i 4096)) (sl0 α (D16.of i)) (Nat.blt i 16)
def e16 (β : Type) (x : β) : N16 β := ⟨x, x, x, x, x, x, x, x, x, x, x, x, x, x, x, x⟩
def Tr.e : Tr α := ⟨e16 _ none, e16 _ (e16 _ (e16 _ none)), .e⟩
def Tr.get (_ : Nat) (t : Tr α) (k : Nat) : Option α := (slT α k).g t
def Tr.set (_ : Nat) (t : Tr α) (k : Nat) (x : α) : Tr α := (slT α k).s t x
theorem sl0_g (d : D16) (t : Tr α) : (sl0 α d).g t = (p16 (Option α) d).g t.z := rfl
theorem sl0_s (d : D16) (t : Tr α) (x : α) : (sl0 α d).s t x = ⟨(p16 (Option α) d).s t.z (some x), t.a, t.hi⟩ := rfl
theorem sl1_g (d e f : D16) (t : Tr α) : (sl1 α d e f).g t = (p16 (Option α) f).g ((p16 (N16 (Option α)) e).g ((p16 (N16 (N16 (Option α))) d).g t.a)) := rfl
theorem sl1_s (d e f : D16) (t : Tr α) (x : α) : (sl1 α d e f).s t x = ⟨t.z, (p16 _ d).s t.a ((p16 _ e).s ((p16 _ d).g t.a) ((p16 _ f).s ((p16 _ e).g ((p16 _ d).g t.a)) (some x))), t.hi⟩ := by
  rw [← p16_m e ((p16 _ d).g t.a) (fun v => (p16 _ f).s v (some x)), ← p16_m d t.a (fun u => (p16 _ e).m u (fun v => (p16 _ f).s v (some x)))]; rfl
theorem e16_g {β : Type} (x : β) (d : D16) : (p16 β d).g (e16 β x) = x := by cases d <;> rfl
theorem Tr.get_e (f k : Nat) : Tr.get (α := α) f .e k = none := by
  unfold Tr.get slT
  cases Nat.blt k 16 with
  | true => show (sl0 α _).g _ = _; rw [sl0_g]; exact e16_g _ _
  | false =>
    cases Nat.blt k 4096 with
    | true => show (sl1 α _ _ _).g _ = _; rw [sl1_g]; simp only [Tr.e, e16_g]
    | false => exact To.getW_e _
theorem Tr.get_set_same {g : Nat} (f : Nat) (t : Tr α) (k : Nat) (x : α) : Tr.get g (Tr.set f t k x) k = some x := by
  unfold Tr.get Tr.set slT
  cases Nat.blt k 16 with
  | true => show (sl0 α _).g ((sl0 α _).s _ _) = _; rw [sl0_s, sl0_g]; exact p16_same _ _ _
  | false =>
    cases Nat.blt k 4096 with
    | true => show (sl1 α _ _ _).g ((sl1 α _ _ _).s _ _) = _; rw [sl1_s, sl1_g]; simp only [p16_same]
    | false => exact To.getW_setW_eq x (way k) t.hi
theorem Tr.get_set_eq {g : Nat} (f : Nat) (t : Tr α) (k : Nat) (x : α) (_ : k + 1 < 2 ^ f) : Tr.get g (Tr.set f t k x) k = some x := Tr.get_set_same f t k x
theorem Tr.get_set_ne {g : Nat} (f : Nat) (t : Tr α) (k j : Nat) (x : α) (h : k ≠ j) : Tr.get g (Tr.set f t k x) j = Tr.get g t j := by
  have lt_of : ∀ {a b : Nat}, Nat.blt a b = true → a < b := fun h => by simpa [Nat.blt_eq] using h
  unfold Tr.get Tr.set slT
  cases hk : Nat.blt k 16 with
  | true =>
    cases hj : Nat.blt j 16 with
    | true =>
      show (sl0 α _).g ((sl0 α _).s _ _) = (sl0 α _).g _
      rw [sl0_s, sl0_g, sl0_g]
      exact p16_ne (fun e => h (D16.of_inj (lt_of hk) (lt_of hj) e)) _ _
    | false => cases Nat.blt j 4096 <;> rfl
  | false =>
    cases hk2 : Nat.blt k 4096 with
    | true =>
      cases hj : Nat.blt j 16 with
      | true =>
        show (sl0 α _).g ((sl1 α _ _ _).s _ _) = (sl0 α _).g _
        rw [sl1_s]; rfl
      | false =>
        cases hj2 : Nat.blt j 4096 with
        | false =>
          show (sl2 α _).g ((sl1 α _ _ _).s _ _) = (sl2 α _).g _
          rw [sl1_s]; rfl
        | true =>
          show (sl1 α _ _ _).g ((sl1 α _ _ _).s _ _) = (sl1 α _ _ _).g _
          rw [sl1_s, sl1_g, sl1_g]
          have h1 := lt_of hk2
          have h2 := lt_of hj2
          simp only
          by_cases e1 : D16.of (Nat.div k 256) = D16.of (Nat.div j 256)
          · have d1 : k / 256 = j / 256 := D16.of_inj (by omega) (by omega) e1
            rw [e1, p16_same]
            by_cases e2 : D16.of (Nat.mod (Nat.div k 16) 16) = D16.of (Nat.mod (Nat.div j 16) 16)
            · have d2 : k / 16 % 16 = j / 16 % 16 := D16.of_inj (by omega) (by omega) e2
              rw [e2, p16_same]
              refine p16_ne (fun e3 => ?_) _ _
              have d3 : k % 16 = j % 16 := D16.of_inj (by omega) (by omega) e3
              omega
            · rw [p16_ne e2]
          · rw [p16_ne e1]
    | false =>
      cases hj : Nat.blt j 16 with
      | true => rfl
      | false =>
        cases hj2 : Nat.blt j 4096 with
        | true => rfl
        | false => exact To.getW_setW_ne x _ _ t.hi fun e => h (way_inj e)


/-- A row of cells as a map, from o on. -/
def Tr.row (t : Tr α) : Nat → List α → Tr α
  | _, [] => t
  | o, v :: l => Tr.row (Tr.set 30 t o v) (o + 1) l
theorem Tr.get_row : ∀ (l : List α) (t : Tr α) (o j : Nat), o + l.length + 1 < 2 ^ 30 → Tr.get 30 (Tr.row t o l) j = if j < o then Tr.get 30 t j else if j < o + l.length then l[j - o]? else Tr.get 30 t j
  | [], t, o, j, _ => by simp only [Tr.row, List.length_nil, Nat.add_zero]; split <;> simp
  | v :: l, t, o, j, h => by
    simp only [Tr.row]
    rw [Tr.get_row l _ (o + 1) j (by simp at h; omega)]
    simp only [List.length_cons]
    by_cases h1 : j < o
    · rw [if_pos (by omega), if_pos h1, Tr.get_set_ne _ _ _ _ _ (by omega)]
    · rw [if_neg h1]
      by_cases h2 : j = o
      · subst h2
        rw [if_pos (by omega), if_pos (by omega), Tr.get_set_eq _ _ _ _ (by simp at h; omega)]
        simp
      · rw [if_neg (by omega)]
        by_cases h3 : j < o + 1 + l.length
        · rw [if_pos h3, if_pos (by omega), show j - o = (j - (o + 1)) + 1 by omega]
          rfl
        · rw [if_neg h3, if_neg (by omega), Tr.get_set_ne _ _ _ _ _ (by omega)]
end

/-- A block: which of its cells are known: the first len. -/
structure Bk where
  ty : TypeId × Nat
  cells : Tr Value
  len : Nat
  mc : Nat × List Value
/-- No map. -/
def m0 : Nat × List Value := (0, [])
structure Hs where
  m : Tr (Option Bk)
  nx : Nat
/-- The cells of a block; one that does not grow tells its type. -/
def Bk.cell (k : Bk) : Nat → Option Value := fun o => if o = tyOff then (if k.ty.2 = 0 then some (tyV k.ty.1) else if k.ty.2 = mp then some (mapV k.mc.1 k.mc.2) else none) else Tr.get 30 k.cells o
theorem Bk.cell_of {k : Bk} {o : Nat} (h : o ≠ tyOff) : k.cell o = Tr.get 30 k.cells o := if_neg h
def Hs.den (h : Hs) : Hp := fun b => if b < h.nx then (match Tr.get 30 h.m b with
  | some (some k) => .live k.ty k.cell
  | _ => .dead) else .unborn
structure Hs.Inv (h : Hs) : Prop where
  nx : h.nx + 1 < 2 ^ 30
  bk : ∀ (b : Nat) (k : Bk), b < h.nx → Tr.get 30 h.m b = some (some k) → (∀ i, (Tr.get 30 k.cells i).isSome = true ↔ i < k.len) ∧ k.len + 1 < 2 ^ 30
  mpl : ∀ (b : Nat) (k : Bk), b < h.nx → Tr.get 30 h.m b = some (some k) → k.ty.2 = mp → k.len = 0

def lim : Nat := 1073741824
def Hs.cell (h : Hs) (b o : Nat) : Option Value := match Nat.blt b h.nx with
  | true => match Tr.get 30 h.m b with
    | some (some k) => Tr.get 30 k.cells o
    | _ => none
  | false => none
def Hs.put (h : Hs) (b o : Nat) (v : Value) : Option Hs := match Nat.blt b h.nx with
  | true => match Tr.get 30 h.m b with
    | some (some k) => match Nat.blt o k.len with
      | true => match one v, Nat.beq k.ty.2 ro with
        | true, false => some ⟨Tr.set 30 h.m b (some ⟨k.ty, Tr.set 30 k.cells o v, k.len, k.mc⟩), h.nx⟩
        | _, _ => none
      | false => none
    | _ => none
  | false => none
def okNew (ty : TypeId × Nat) (cs : List Value) : Bool := match Nat.beq ty.2 mp with
  | true => false
  | false => cs.all one
theorem okNew_spec {ty : TypeId × Nat} {cs : List Value} (h : okNew ty cs = true) : ty.2 ≠ mp ∧ cs.all one = true := by
  unfold okNew at h
  split at h
  · cases h
  · rename_i e
    exact ⟨fun e2 => (by rw [e2, Nat.beq_refl] at e; cases e), h⟩
def Hs.new (h : Hs) (ty : TypeId × Nat) (cs : List Value) : Option Hs := match Nat.blt (h.nx + 3) lim, Nat.blt (cs.length + 3) lim, okNew ty cs with
  | true, true, true => some ⟨Tr.set 30 h.m h.nx (some ⟨ty, Tr.row .e 0 cs, cs.length, m0⟩), h.nx + 1⟩
  | _, _, _ => none
def Hs.mv (h : Hs) (a : Nat) (ty : TypeId × Nat) (n : Nat) (cs : List Value) : Option Hs := match Nat.blt (h.nx + 3) lim, Nat.blt a h.nx, cs.all one with
  | true, true, true => match Tr.get 30 h.m a with
    | some (some k) => match Nat.beq k.ty.1 ty.1, or (Nat.beq k.ty.2 ty.2) (Nat.beq ty.2 ro), or (or (Nat.beq k.ty.2 0) (Nat.beq k.ty.2 ro)) (Nat.beq k.ty.2 mp), Nat.beq k.len n, Nat.blt (n + cs.length + 3) lim with
      | true, true, false, true, true => some ⟨Tr.set 30 (Tr.set 30 h.m a none) h.nx (some ⟨ty, Tr.row k.cells n cs, n + cs.length, m0⟩), h.nx + 1⟩
      | _, _, _, _, _ => none
    | _ => none
  | _, _, _ => none

section
variable {h h' : Hs}
theorem low_off {o : Nat} (h : o + 1 < 2 ^ 30) : o ≠ tyOff := by
  intro e; subst e; revert h; decide
theorem Hs.cell_ok (hi : h.Inv) {b o : Nat} {v : Value} (e : h.cell b o = some v) : Ok h.den (.rd b o v) ∧ b < h.nx ∧ o ≠ tyOff := by
  unfold Hs.cell at e
  split at e
  · rename_i hb
    have hb : b < h.nx := by simpa [Nat.blt_eq] using hb
    split at e
    · rename_i k hk
      obtain ⟨q1, q2⟩ := hi.bk b k hb hk
      have ho : o < k.len := (q1 o).1 (by rw [e]; rfl)
      have ho : o ≠ tyOff := low_off (by omega)
      exact ⟨⟨k.ty, k.cell, by unfold Hs.den; rw [if_pos hb, hk], by rw [Bk.cell_of ho]; exact e⟩, hb, ho⟩
    · cases e
  · cases e

/-- A block's type is told. -/
def Hs.tq (h : Hs) (b : Nat) : Option TypeId := match Nat.blt b h.nx with
  | true => match Tr.get 30 h.m b with
    | some (some k) => (match Nat.beq k.ty.2 0 with
      | true => some k.ty.1
      | false => none)
    | _ => none
  | false => none
theorem Hs.tq_ok {b : Nat} {t : TypeId} (e : h.tq b = some t) : Ok h.den (.rd b tyOff (tyV t)) ∧ b < h.nx := by
  unfold Hs.tq at e
  split at e
  · rename_i hb
    have hb : b < h.nx := by simpa [Nat.blt_eq] using hb
    split at e
    · rename_i k hk
      split at e
      case h_2 => cases e
      rename_i e2
      have e2 := Nat.eq_of_beq_eq_true e2
      have e1 := Option.some.inj e
      exact ⟨⟨k.ty, k.cell, by unfold Hs.den; rw [if_pos hb, hk], by unfold Bk.cell; rw [if_pos rfl, if_pos e2, e1]⟩, hb⟩
    · cases e
  · cases e

theorem Hs.put_ok (hi : h.Inv) {b o : Nat} {v : Value} (e : h.put b o v = some h') : Ok h.den (.wr b o v) ∧ app h.den (.wr b o v) = h'.den ∧ h'.Inv ∧ h'.nx = h.nx ∧ b < h.nx := by
  unfold Hs.put at e
  split at e
  case h_2 => cases e
  rename_i hb
  have hb : b < h.nx := by simpa [Nat.blt_eq] using hb
  split at e
  case h_2 => cases e
  rename_i k hk
  split at e
  case h_2 => cases e
  rename_i ho
  have ho : o < k.len := by simpa [Nat.blt_eq] using ho
  split at e
  case h_2 => cases e
  rename_i h1 h1r
  have h1r : k.ty.2 ≠ ro := fun e => by rw [e, Nat.beq_refl] at h1r; cases h1r
  cases e
  obtain ⟨q1, q2⟩ := hi.bk b k hb hk
  have hnm : k.ty.2 ≠ mp := fun e => by have := hi.mpl b k hb hk e; omega
  have hl := hi.nx
  have hd : h.den b = .live k.ty k.cell := by unfold Hs.den; rw [if_pos hb, hk]
  have hot : o ≠ tyOff := low_off (by omega)
  obtain ⟨u, hu⟩ := Option.isSome_iff_exists.1 ((q1 o).2 ho)
  refine ⟨⟨⟨k.ty, _, u, hd, by rw [Bk.cell_of hot]; exact hu, h1r, ⟨fun e => absurd e hot, fun e => absurd e hnm⟩⟩, h1⟩, ?_, ⟨hl, fun b' k' hb' hk' => ?_, fun b' k' hb' hk' hm' => ?_⟩, rfl, hb⟩
  · simp only [app, hd]
    funext i
    unfold Hp.set
    by_cases hib : i = b
    · subst hib
      rw [if_pos rfl]
      unfold Hs.den
      rw [if_pos (show i < h.nx from hb), Tr.get_set_eq _ _ _ _ (by omega)]
      congr 1
      funext j
      unfold cellSet
      unfold Bk.cell
      simp only
      by_cases hj : j = o
      · subst hj; rw [if_pos rfl, if_neg hot, Tr.get_set_eq _ _ _ _ (by omega)]
      · rw [if_neg hj, Tr.get_set_ne _ _ _ _ _ (Ne.symm hj)]
    · rw [if_neg hib]
      unfold Hs.den
      simp only
      rw [Tr.get_set_ne _ _ _ _ _ (Ne.symm hib)]
  · simp only at hb' hk'
    by_cases hbb : b' = b
    · subst hbb
      rw [Tr.get_set_eq _ _ _ _ (by omega)] at hk'
      cases hk'
      refine ⟨fun i => ?_, q2⟩
      simp only
      by_cases hio : i = o
      · subst hio; rw [Tr.get_set_eq _ _ _ _ (by omega)]; simp [ho]
      · rw [Tr.get_set_ne _ _ _ _ _ (Ne.symm hio)]; exact q1 i
    · rw [Tr.get_set_ne _ _ _ _ _ (Ne.symm hbb)] at hk'
      exact hi.bk b' k' hb' hk'
  · simp only at hb' hk'
    by_cases hbb : b' = b
    · subst hbb
      rw [Tr.get_set_eq _ _ _ _ (by omega)] at hk'
      cases hk'
      exact absurd hm' hnm
    · rw [Tr.get_set_ne _ _ _ _ _ (Ne.symm hbb)] at hk'
      exact hi.mpl b' k' hb' hk' hm'

theorem row_inv {cs : List Value} {t : Tr Value} {n : Nat} (ht : ∀ i, (Tr.get 30 t i).isSome = true ↔ i < n) (hl : n + cs.length + 1 < 2 ^ 30) : (∀ i, (Tr.get 30 (Tr.row t n cs) i).isSome = true ↔ i < n + cs.length) ∧ (fun i => Tr.get 30 (Tr.row t n cs) i) = cellMore (fun i => Tr.get 30 t i) n cs := by
  refine ⟨fun i => ?_, funext fun i => ?_⟩
  · rw [Tr.get_row cs t n i hl]
    by_cases h1 : i < n
    · rw [if_pos h1, ht i]; omega
    · rw [if_neg h1]
      by_cases h2 : i < n + cs.length
      · rw [if_pos h2]; simp [List.getElem?_eq_getElem (show i - n < cs.length by omega), h2]
      · rw [if_neg h2, ht i]; omega
  · rw [Tr.get_row cs t n i hl]
    unfold cellMore
    by_cases h1 : i < n
    · rw [if_pos h1, if_pos h1]
    · rw [if_neg h1, if_neg h1]
      by_cases h2 : i < n + cs.length
      · rw [if_pos h2]
      · rw [if_neg h2, List.getElem?_eq_none (by omega)]
        have := ht i
        cases hg : Tr.get 30 t i with
        | none => rfl
        | some v => rw [hg] at this; simp at this; omega

theorem Hs.new_ok (hi : h.Inv) {ty : TypeId × Nat} {cs : List Value} (e : h.new ty cs = some h') : Ok h.den (.nw h.nx ty cs) ∧ app h.den (.nw h.nx ty cs) = h'.den ∧ h'.Inv ∧ h'.nx = h.nx + 1 := by
  unfold Hs.new at e
  split at e
  case h_2 => cases e
  rename_i h1 h2 h3
  cases e
  obtain ⟨hnm, h3⟩ := okNew_spec h3
  have h1 : h.nx + 3 < lim := by simpa [Nat.blt_eq] using h1
  have h2 : cs.length + 3 < lim := by simpa [Nat.blt_eq] using h2
  unfold lim at h1 h2
  have hr := row_inv (cs := cs) (t := .e) (n := 0) (fun i => by rw [Tr.get_e]; simp) (by omega)
  refine ⟨⟨by unfold Hs.den; rw [if_neg (Nat.lt_irrefl _)], List.all_eq_true.1 h3⟩, ?_, ⟨by simp only; omega, fun b' k' hb' hk' => ?_, fun b' k' hb' hk' hm' => ?_⟩, rfl⟩
  · simp only [app]
    funext i
    unfold Hp.set
    by_cases hib : i = h.nx
    · rw [if_pos hib]
      unfold Hs.den
      simp only
      rw [if_pos (by omega), hib, Tr.get_set_eq _ _ _ _ (by omega)]
      simp only
      congr 1
      funext j
      rw [newCell_of hnm]
      unfold Bk.cell
      simp only [if_neg hnm]
      by_cases hj : j = tyOff
      · rw [if_pos hj, if_pos hj]
      · rw [if_neg hj, if_neg hj]
        have := congrFun hr.2 j
        rw [this]
        rfl
    · rw [if_neg hib]
      unfold Hs.den
      simp only
      rw [Tr.get_set_ne _ _ _ _ _ (Ne.symm hib)]
      by_cases hlt : i < h.nx
      · rw [if_pos hlt, if_pos (by omega)]
      · rw [if_neg hlt, if_neg (by omega)]
  · simp only at hb' hk'
    by_cases hbb : b' = h.nx
    · subst hbb
      rw [Tr.get_set_eq _ _ _ _ (by omega)] at hk'
      cases hk'
      exact ⟨fun i => by have := hr.1 i; rw [Nat.zero_add] at this; exact this, by simp only; omega⟩
    · rw [Tr.get_set_ne _ _ _ _ _ (Ne.symm hbb)] at hk'
      exact hi.bk b' k' (by omega) hk'
  · simp only at hb' hk'
    by_cases hbb : b' = h.nx
    · subst hbb
      rw [Tr.get_set_eq _ _ _ _ (by omega)] at hk'
      cases hk'
      exact absurd hm' hnm
    · rw [Tr.get_set_ne _ _ _ _ _ (Ne.symm hbb)] at hk'
      exact hi.mpl b' k' (by omega) hk' hm'

theorem Hs.mv_ok (hi : h.Inv) {a : Nat} {ty : TypeId × Nat} {n : Nat} {cs : List Value} (e : h.mv a ty n cs = some h') : Ok h.den (.mv a h.nx ty n cs) ∧ app h.den (.mv a h.nx ty n cs) = h'.den ∧ h'.Inv ∧ h'.nx = h.nx + 1 ∧ a < h.nx := by
  unfold Hs.mv at e
  split at e
  case h_2 => cases e
  rename_i h1 h2 h3
  have h1 : h.nx + 3 < lim := by simpa [Nat.blt_eq] using h1
  have h2 : a < h.nx := by simpa [Nat.blt_eq] using h2
  split at e
  case h_2 => cases e
  rename_i k hk
  split at e
  case h_2 => cases e
  rename_i g1 g2 g3 g4 g5
  cases e
  have g1 := Nat.eq_of_beq_eq_true g1
  have g4 := Nat.eq_of_beq_eq_true g4
  have g5 : n + cs.length + 3 < lim := by simpa [Nat.blt_eq] using g5
  have g3n : k.ty.2 ≠ mp := fun e => by rw [e, Nat.beq_refl, Bool.or_true] at g3; cases g3
  have g3' : k.ty.2 ≠ 0 ∧ k.ty.2 ≠ ro := ⟨fun e => (by rw [e] at g3; cases g3), fun e => (by rw [e, Nat.beq_refl, Bool.or_true] at g3; cases g3)⟩
  have g2' : ty.2 = k.ty.2 ∨ ty.2 = ro := by
    rw [Bool.or_eq_true] at g2
    rcases g2 with h | h
    · exact .inl (Nat.eq_of_beq_eq_true h).symm
    · exact .inr (Nat.eq_of_beq_eq_true h)
  have gz : ty.2 ≠ 0 := by
    rcases g2' with h | h
    · rw [h]; exact g3'.1
    · rw [h]; decide
  have gnm : ty.2 ≠ mp := by
    rcases g2' with h | h
    · rw [h]; exact g3n
    · rw [h]; decide
  have gty : k.ty = (ty.1, k.ty.2) := Prod.ext g1 rfl
  unfold lim at h1 g5
  obtain ⟨q1, q2⟩ := hi.bk a k h2 hk
  rw [g4] at q1
  have hr := row_inv (cs := cs) q1 (by omega)
  have hd : h.den a = .live (ty.1, k.ty.2) k.cell := by unfold Hs.den; rw [if_pos h2, hk, ← gty]
  refine ⟨⟨⟨_, _, hd, ⟨g3'.1, g3'.2, g3n, g2'⟩, fun i hin => ?_⟩, by unfold Hs.den; rw [if_neg (Nat.lt_irrefl _)], List.all_eq_true.1 h3⟩, ?_, ⟨by simp only; omega, fun b' k' hb' hk' => ?_, fun b' k' hb' hk' hm' => ?_⟩, rfl, h2⟩
  · have := (q1 i).2 hin
    intro hn
    rw [Bk.cell_of (low_off (by omega))] at hn
    rw [hn] at this; cases this
  · simp only [app, hd]
    funext i
    unfold Hp.set
    by_cases hib : i = h.nx
    · rw [if_pos hib]
      unfold Hs.den
      simp only
      rw [if_pos (by omega), hib, Tr.get_set_eq _ _ _ _ (by omega)]
      simp only
      congr 1
      funext j
      have hrj := congrFun hr.2 j
      unfold cellMore at hrj ⊢
      by_cases hj : j = tyOff
      · have hjn : ¬ j < n := fun h => low_off (o := j) (by omega) hj
        have hjc : cs[j - n]? = none := List.getElem?_eq_none (by
          have : tyOff ≥ 2 ^ 31 := by decide
          omega)
        rw [if_neg hjn, hjc]
        unfold Bk.cell
        simp only
        rw [if_pos hj, if_neg gz, if_neg gnm]
      · rw [show (Bk.mk ty (Tr.row k.cells n cs) (n + cs.length) m0).cell j = Tr.get 30 (Tr.row k.cells n cs) j from Bk.cell_of hj, hrj]
        by_cases hjn : j < n
        · rw [if_pos hjn, if_pos hjn, Bk.cell_of hj]
        · rw [if_neg hjn, if_neg hjn]
    · rw [if_neg hib]
      by_cases hia : i = a
      · rw [if_pos hia]
        unfold Hs.den
        simp only
        rw [if_pos (by omega), Tr.get_set_ne _ _ _ _ _ (Ne.symm hib), hia, Tr.get_set_eq _ _ _ _ (by omega)]
      · rw [if_neg hia]
        unfold Hs.den
        simp only
        rw [Tr.get_set_ne _ _ _ _ _ (Ne.symm hib), Tr.get_set_ne _ _ _ _ _ (Ne.symm hia)]
        by_cases hlt : i < h.nx
        · rw [if_pos hlt, if_pos (by omega)]
        · rw [if_neg hlt, if_neg (by omega)]
  · simp only at hb' hk'
    by_cases hbb : b' = h.nx
    · subst hbb
      rw [Tr.get_set_eq _ _ _ _ (by omega)] at hk'
      cases hk'
      exact ⟨hr.1, by simp only; omega⟩
    · rw [Tr.get_set_ne _ _ _ _ _ (Ne.symm hbb)] at hk'
      by_cases hba : b' = a
      · subst hba
        rw [Tr.get_set_eq _ _ _ _ (by omega)] at hk'
        cases hk'
      · rw [Tr.get_set_ne _ _ _ _ _ (Ne.symm hba)] at hk'
        exact hi.bk b' k' (by omega) hk'
  · simp only at hb' hk'
    by_cases hbb : b' = h.nx
    · subst hbb
      rw [Tr.get_set_eq _ _ _ _ (by omega)] at hk'
      cases hk'
      exact absurd hm' gnm
    · rw [Tr.get_set_ne _ _ _ _ _ (Ne.symm hbb)] at hk'
      by_cases hba : b' = a
      · subst hba
        rw [Tr.get_set_eq _ _ _ _ (by omega)] at hk'
        cases hk'
      · rw [Tr.get_set_ne _ _ _ _ _ (Ne.symm hba)] at hk'
        exact hi.mpl b' k' (by omega) hk' hm'

/-- What a map holds. -/
def Hs.mrd (h : Hs) (b : Nat) : Option (Nat × List Value) := match Nat.blt b h.nx with
  | true => match Tr.get 30 h.m b with
    | some (some k) => (match Nat.beq k.ty.2 mp with
      | true => some k.mc
      | false => none)
    | _ => none
  | false => none
theorem mp_ne : ¬ mp = 0 ∧ ¬ mp = ro := by decide
theorem Hs.mrd_ok {b : Nat} {c : Nat × List Value} (e : h.mrd b = some c) : Ok h.den (.rd b tyOff (mapV c.1 c.2)) ∧ b < h.nx := by
  unfold Hs.mrd at e
  split at e
  · rename_i hb
    have hb : b < h.nx := by simpa [Nat.blt_eq] using hb
    split at e
    · rename_i k hk
      split at e
      case h_2 => cases e
      rename_i e2
      have e2 := Nat.eq_of_beq_eq_true e2
      have e1 := Option.some.inj e
      exact ⟨⟨k.ty, k.cell, by unfold Hs.den; rw [if_pos hb, hk], by unfold Bk.cell; rw [if_pos rfl, e2, if_neg mp_ne.1, if_pos rfl, e1]⟩, hb⟩
    · cases e
  · cases e
def Hs.mwr (h : Hs) (b cl : Nat) (l : List Value) : Option Hs := match Nat.blt b h.nx with
  | true => match Tr.get 30 h.m b with
    | some (some k) => (match Nat.beq k.ty.2 mp with
      | true => some ⟨Tr.set 30 h.m b (some ⟨k.ty, k.cells, k.len, (cl, l)⟩), h.nx⟩
      | false => none)
    | _ => none
  | false => none
theorem Hs.mwr_ok (hi : h.Inv) {b cl : Nat} {l : List Value} (e : h.mwr b cl l = some h') : Ok h.den (.wr b tyOff (mapV cl l)) ∧ app h.den (.wr b tyOff (mapV cl l)) = h'.den ∧ h'.Inv ∧ h'.nx = h.nx ∧ b < h.nx := by
  unfold Hs.mwr at e
  split at e
  case h_2 => cases e
  rename_i hb
  have hb : b < h.nx := by simpa [Nat.blt_eq] using hb
  split at e
  case h_2 => cases e
  rename_i k hk
  split at e
  case h_2 => cases e
  rename_i e2
  have e2 := Nat.eq_of_beq_eq_true e2
  cases e
  obtain ⟨q1, q2⟩ := hi.bk b k hb hk
  have hl := hi.nx
  have hd : h.den b = .live k.ty k.cell := by unfold Hs.den; rw [if_pos hb, hk]
  refine ⟨⟨⟨k.ty, _, mapV k.mc.1 k.mc.2, hd, by unfold Bk.cell; rw [if_pos rfl, e2, if_neg mp_ne.1, if_pos rfl], by rw [e2]; exact mp_ne.2, ⟨fun _ => e2, fun _ => rfl⟩⟩, rfl⟩, ?_, ⟨hl, fun b' k' hb' hk' => ?_, fun b' k' hb' hk' hm' => ?_⟩, rfl, hb⟩
  · simp only [app, hd]
    funext i
    unfold Hp.set
    by_cases hib : i = b
    · subst hib
      rw [if_pos rfl]
      unfold Hs.den
      rw [if_pos (show i < h.nx from hb), Tr.get_set_eq _ _ _ _ (by omega)]
      congr 1
      funext j
      unfold cellSet
      unfold Bk.cell
      simp only
      by_cases hj : j = tyOff
      · rw [if_pos hj, if_pos hj, e2, if_neg mp_ne.1, if_pos rfl]
      · rw [if_neg hj, if_neg hj, if_neg hj]
    · rw [if_neg hib]
      unfold Hs.den
      simp only
      rw [Tr.get_set_ne _ _ _ _ _ (Ne.symm hib)]
  · simp only at hb' hk'
    by_cases hbb : b' = b
    · subst hbb
      rw [Tr.get_set_eq _ _ _ _ (by omega)] at hk'
      cases hk'
      exact ⟨q1, q2⟩
    · rw [Tr.get_set_ne _ _ _ _ _ (Ne.symm hbb)] at hk'
      exact hi.bk b' k' hb' hk'
  · simp only at hb' hk'
    by_cases hbb : b' = b
    · subst hbb
      rw [Tr.get_set_eq _ _ _ _ (by omega)] at hk'
      cases hk'
      exact hi.mpl b' k hb hk e2
    · rw [Tr.get_set_ne _ _ _ _ _ (Ne.symm hbb)] at hk'
      exact hi.mpl b' k' hb' hk' hm'
def Hs.mnw (h : Hs) (t : TypeId) : Option Hs := match Nat.blt (h.nx + 3) lim with
  | true => some ⟨Tr.set 30 h.m h.nx (some ⟨(t, mp), .e, 0, (0, [])⟩), h.nx + 1⟩
  | false => none
theorem Hs.mnw_ok (hi : h.Inv) {t : TypeId} (e : h.mnw t = some h') : Ok h.den (.nw h.nx (t, mp) [mapV 0 []]) ∧ app h.den (.nw h.nx (t, mp) [mapV 0 []]) = h'.den ∧ h'.Inv ∧ h'.nx = h.nx + 1 := by
  unfold Hs.mnw at e
  split at e
  case h_2 => cases e
  rename_i h1
  cases e
  have h1 : h.nx + 3 < lim := by simpa [Nat.blt_eq] using h1
  unfold lim at h1
  refine ⟨⟨by unfold Hs.den; rw [if_neg (Nat.lt_irrefl _)], fun v hv => by rw [List.mem_singleton.1 hv]; rfl⟩, ?_, ⟨by simp only; omega, fun b' k' hb' hk' => ?_, fun b' k' hb' hk' hm' => ?_⟩, rfl⟩
  · simp only [app]
    funext i
    unfold Hp.set
    by_cases hib : i = h.nx
    · rw [if_pos hib]
      unfold Hs.den
      simp only
      rw [if_pos (by omega), hib, Tr.get_set_eq _ _ _ _ (by omega)]
      simp only
      congr 1
      funext j
      unfold newCell Bk.cell
      simp only [if_neg mp_ne.1, if_true]
      by_cases hj : j = tyOff
      · rw [if_pos hj, if_pos hj]; rfl
      · rw [if_neg hj, if_neg hj, Tr.get_e]
    · rw [if_neg hib]
      unfold Hs.den
      simp only
      rw [Tr.get_set_ne _ _ _ _ _ (Ne.symm hib)]
      by_cases hlt : i < h.nx
      · rw [if_pos hlt, if_pos (by omega)]
      · rw [if_neg hlt, if_neg (by omega)]
  · simp only at hb' hk'
    by_cases hbb : b' = h.nx
    · subst hbb
      rw [Tr.get_set_eq _ _ _ _ (by omega)] at hk'
      cases hk'
      exact ⟨fun i => by rw [Tr.get_e]; simp, show (0 : Nat) + 1 < 2 ^ 30 by decide⟩
    · rw [Tr.get_set_ne _ _ _ _ _ (Ne.symm hbb)] at hk'
      exact hi.bk b' k' (by omega) hk'
  · simp only at hb' hk'
    by_cases hbb : b' = h.nx
    · subst hbb
      rw [Tr.get_set_eq _ _ _ _ (by omega)] at hk'
      cases hk'
      rfl
    · rw [Tr.get_set_ne _ _ _ _ _ (Ne.symm hbb)] at hk'
      exact hi.mpl b' k' (by omega) hk' hm'
end
end
end Go.Proofs.YtmphiefdoaihhaaGreatDoor

/-
  Slices as they lie in memory, and the types of a program: no function of the program is named here.
-/
namespace Go.Proofs.YtmphiefdoaihhaaGreatDoor
open Go.RowKit

/-- A slice value reads as xs: sz cells an element, in a block of G. -/
def SlAt {α : Type} (w : World) (G : Nat → Prop) (sz : Nat) (C : α → List Value → Prop) (v : Value) (xs : List α) : Prop :=
  ∃ A c, v = .slice A xs.length c ∧ xs.length ≤ c ∧ c ≤ 9223372036854775807 ∧
    (xs ≠ [] → ∃ b o, A = some ⟨b, o, none⟩ ∧ G b ∧ b < w.heap.size ∧
      ∀ (j : Nat) (x : α), xs[j]? = some x → ∃ cs, C x cs ∧ cs.length = sz ∧ ∀ i u, cs[i]? = some u → w.cell? ⟨b, o + j * sz + i, none⟩ = some u)

/-- The same, laid out for a walk: an address, a capacity. -/
structure SlP {α : Type} (w : World) (G : Nat → Prop) (sz : Nat) (C : α → List Value → Prop) (A : Option Addr) (c : Nat) (xs : List α) : Prop where
  le : xs.length ≤ c
  big : c ≤ 9223372036854775807
  at_ : xs ≠ [] → ∃ b o, A = some ⟨b, o, none⟩ ∧ G b ∧ b < w.heap.size ∧
      ∀ (j : Nat) (x : α), xs[j]? = some x → ∃ cs, C x cs ∧ cs.length = sz ∧ ∀ i u, cs[i]? = some u → w.cell? ⟨b, o + j * sz + i, none⟩ = some u

section
variable {α : Type} {w w' : World} {G G' S : Nat → Prop} {sz : Nat} {C C' : α → List Value → Prop} {v : Value} {A : Option Addr} {c : Nat} {xs : List α}

theorem SlAt.parts (h : SlAt w G sz C v xs) : ∃ A c, v = .slice A xs.length c ∧ SlP w G sz C A c xs := by
  obtain ⟨A, c, e, h1, h2, h3⟩ := h
  exact ⟨A, c, e, h1, h2, h3⟩
theorem SlP.whole (h : SlP w G sz C A c xs) : SlAt w G sz C (.slice A xs.length c) xs := ⟨A, c, rfl, h.le, h.big, h.at_⟩

theorem SlP.kept (h : SlP w G sz C A c xs) (hf : Fr S w w') (hG : ∀ b, G b → ¬ S b) (hG' : ∀ b, G b → G' b) (hC : ∀ x ∈ xs, ∀ cs, C x cs → C' x cs) : SlP w' G' sz C' A c xs :=
  ⟨h.le, h.big, fun hne => by
    obtain ⟨b, o, e, hb, hlt, hx⟩ := h.at_ hne
    refine ⟨b, o, e, hG' b hb, Nat.lt_of_lt_of_le hlt hf.size, fun j x hj => ?_⟩
    obtain ⟨cs, hc, hl, hcell⟩ := hx j x hj
    exact ⟨cs, hC x (List.mem_of_getElem? hj) cs hc, hl, fun i u hu => (hf.cell (p := ⟨b, o + j * sz + i, none⟩) hlt (hG b hb)).trans (hcell i u hu)⟩⟩
theorem SlAt.kept (h : SlAt w G sz C v xs) (hf : Fr S w w') (hG : ∀ b, G b → ¬ S b) (hG' : ∀ b, G b → G' b) (hC : ∀ x ∈ xs, ∀ cs, C x cs → C' x cs) : SlAt w' G' sz C' v xs := by
  obtain ⟨A, c, rfl, hp⟩ := h.parts
  exact (hp.kept hf hG hG' hC).whole

/-- One element, in its cells. -/
theorem SlP.elem (h : SlP w G sz C A c xs) {k : Nat} (hk : k < xs.length) : ∃ b o cs, A = some ⟨b, o, none⟩ ∧ G b ∧ b < w.heap.size ∧ C xs[k] cs ∧ cs.length = sz ∧
    ∀ i u, cs[i]? = some u → w.cell? ⟨b, o + k * sz + i, none⟩ = some u := by
  obtain ⟨b, o, e, hb, hlt, hx⟩ := h.at_ (by intro h0; subst h0; simp at hk)
  obtain ⟨cs, hc, hl, hcell⟩ := hx k xs[k] (List.getElem?_eq_getElem hk)
  exact ⟨b, o, cs, e, hb, hlt, hc, hl, hcell⟩

theorem SlP.none_ : SlP w G sz C none 0 ([] : List α) := ⟨Nat.le_refl _, by decide, fun h => absurd rfl h⟩

/-- The first k elements. -/
theorem SlP.front (h : SlP w G sz C A c xs) (k : Nat) (hk : k ≤ xs.length) : SlP w G sz C A c (xs.take k) :=
  ⟨by rw [List.length_take]; have := h.le; omega, h.big, fun hne => by
    obtain ⟨b, o, e, hb, hlt, hx⟩ := h.at_ (by rintro rfl; simp at hne)
    refine ⟨b, o, e, hb, hlt, fun j x hj => hx j x ?_⟩
    rw [List.getElem?_take] at hj
    split at hj
    · exact hj
    · cases hj⟩
end

abbrev Up : World → World → Prop := Fr (fun _ => False)

section
variable {w w' : World} {G G' S : Nat → Prop} {sz : Nat} {v : Value} {A : Option Addr} {c : Nat}

def IntC (x : Int) (cs : List Value) : Prop := cs = [.int .i64 x]
abbrev IntsP (w : World) (G : Nat → Prop) := SlP w G 1 IntC
abbrev IntsAt (w : World) (G : Nat → Prop) := SlAt w G 1 IntC
theorem SlP.int {xs : List Int} (h : IntsP w G A c xs) {k : Nat} (hk : k < xs.length) : ∃ b o, A = some ⟨b, o, none⟩ ∧ G b ∧ w.cell? ⟨b, o + k, none⟩ = some (.int .i64 xs[k]) := by
  obtain ⟨b, o, cs, e, hb, _, rfl, _, hc⟩ := h.elem hk
  exact ⟨b, o, e, hb, by have := hc 0 _ rfl; simpa using this⟩

structure Fld where
  name : ByteArray
  type : Int

def FldC (x : Fld) (cs : List Value) : Prop := cs = [.string x.name, .int .i64 x.type] ∧ x.name.size ≤ 9223372036854775807
abbrev FldsP (w : World) (G : Nat → Prop) := SlP w G 2 FldC
abbrev FldsAt (w : World) (G : Nat → Prop) := SlAt w G 2 FldC
theorem SlP.fld {xs : List Fld} (h : FldsP w G A c xs) {k : Nat} (hk : k < xs.length) : ∃ b o, A = some ⟨b, o, none⟩ ∧ G b ∧
    w.cell? ⟨b, o + k * 2, none⟩ = some (.string xs[k].name) ∧ w.cell? ⟨b, o + k * 2 + 1, none⟩ = some (.int .i64 xs[k].type) := by
  obtain ⟨b, o, cs, e, hb, _, ⟨rfl, _⟩, _, hc⟩ := h.elem hk
  exact ⟨b, o, e, hb, hc 0 _ rfl, hc 1 _ rfl⟩

structure Mth where
  name : ByteArray
  params : List Int
  result : Int
  func : Int

def MthC (w : World) (G : Nat → Prop) (x : Mth) (cs : List Value) : Prop := ∃ vp, cs = [.string x.name, vp, .int .i64 x.result, .int .i64 x.func] ∧ IntsAt w G vp x.params ∧ x.name.size ≤ 9223372036854775807
abbrev MthsP (w : World) (G : Nat → Prop) := SlP w G 4 (MthC w G)
abbrev MthsAt (w : World) (G : Nat → Prop) := SlAt w G 4 (MthC w G)
theorem SlP.mth {xs : List Mth} (h : MthsP w G A c xs) {k : Nat} (hk : k < xs.length) : ∃ b o Ap cp, A = some ⟨b, o, none⟩ ∧ G b ∧ IntsP w G Ap cp xs[k].params ∧
    w.cell? ⟨b, o + k * 4, none⟩ = some (.string xs[k].name) ∧ w.cell? ⟨b, o + k * 4 + 1, none⟩ = some (.slice Ap xs[k].params.length cp) ∧
    w.cell? ⟨b, o + k * 4 + 2, none⟩ = some (.int .i64 xs[k].result) ∧ w.cell? ⟨b, o + k * 4 + 3, none⟩ = some (.int .i64 xs[k].func) := by
  obtain ⟨b, o, cs, e, hb, _, ⟨vp, rfl, hp, _⟩, _, hc⟩ := h.elem hk
  obtain ⟨Ap, cp, rfl, qp⟩ := hp.parts
  exact ⟨b, o, Ap, cp, e, hb, qp, hc 0 _ rfl, hc 1 _ rfl, hc 2 _ rfl, hc 3 _ rfl⟩

theorem IntsAt.kept {xs : List Int} (h : IntsAt w G v xs) (hf : Fr S w w') (hG : ∀ b, G b → ¬ S b) (hG' : ∀ b, G b → G' b) : IntsAt w' G' v xs := SlAt.kept h hf hG hG' (fun _ _ _ h => h)
theorem IntsP.kept {xs : List Int} (h : IntsP w G A c xs) (hf : Fr S w w') (hG : ∀ b, G b → ¬ S b) (hG' : ∀ b, G b → G' b) : IntsP w' G' A c xs := SlP.kept h hf hG hG' (fun _ _ _ h => h)
theorem FldsAt.kept {xs : List Fld} (h : FldsAt w G v xs) (hf : Fr S w w') (hG : ∀ b, G b → ¬ S b) (hG' : ∀ b, G b → G' b) : FldsAt w' G' v xs := SlAt.kept h hf hG hG' (fun _ _ _ h => h)
theorem FldsP.kept {xs : List Fld} (h : FldsP w G A c xs) (hf : Fr S w w') (hG : ∀ b, G b → ¬ S b) (hG' : ∀ b, G b → G' b) : FldsP w' G' A c xs := SlP.kept h hf hG hG' (fun _ _ _ h => h)
theorem MthC.kept {x : Mth} {cs : List Value} (h : MthC w G x cs) (hf : Fr S w w') (hG : ∀ b, G b → ¬ S b) (hG' : ∀ b, G b → G' b) : MthC w' G' x cs := by
  obtain ⟨vp, e, hp, hn⟩ := h
  exact ⟨vp, e, IntsAt.kept hp hf hG hG', hn⟩
theorem MthsAt.kept {xs : List Mth} (h : MthsAt w G v xs) (hf : Fr S w w') (hG : ∀ b, G b → ¬ S b) (hG' : ∀ b, G b → G' b) : MthsAt w' G' v xs := SlAt.kept h hf hG hG' (fun _ _ _ h => MthC.kept h hf hG hG')
theorem MthsP.kept {xs : List Mth} (h : MthsP w G A c xs) (hf : Fr S w w') (hG : ∀ b, G b → ¬ S b) (hG' : ∀ b, G b → G' b) : MthsP w' G' A c xs := SlP.kept h hf hG hG' (fun _ _ _ h => MthC.kept h hf hG hG')

structure Typ where
  kind : Int
  name : ByteArray
  elem : Int
  fields : List Fld
  methods : List Mth

/-- The five cells of a type. -/
def TypC (w : World) (G : Nat → Prop) (x : Typ) (cs : List Value) : Prop :=
  ∃ vf vm, cs = [.int .i64 x.kind, .string x.name, .int .i64 x.elem, vf, vm] ∧ FldsAt w G vf x.fields ∧ MthsAt w G vm x.methods ∧ x.name.size ≤ 9223372036854775807
abbrev TypsP (w : World) (G : Nat → Prop) := SlP w G 5 (TypC w G)
abbrev TypsAt (w : World) (G : Nat → Prop) := SlAt w G 5 (TypC w G)
theorem SlP.typ {xs : List Typ} (h : TypsP w G A c xs) {k : Nat} (hk : k < xs.length) : ∃ b o Af cf Am cm, A = some ⟨b, o, none⟩ ∧ G b ∧ FldsP w G Af cf xs[k].fields ∧ MthsP w G Am cm xs[k].methods ∧
    w.cell? ⟨b, o + k * 5, none⟩ = some (.int .i64 xs[k].kind) ∧ w.cell? ⟨b, o + k * 5 + 1, none⟩ = some (.string xs[k].name) ∧ w.cell? ⟨b, o + k * 5 + 2, none⟩ = some (.int .i64 xs[k].elem) ∧
    w.cell? ⟨b, o + k * 5 + 3, none⟩ = some (.slice Af xs[k].fields.length cf) ∧ w.cell? ⟨b, o + k * 5 + 4, none⟩ = some (.slice Am xs[k].methods.length cm) := by
  obtain ⟨b, o, cs, e, hb, _, ⟨vf, vm, rfl, hf, hm, _⟩, _, hc⟩ := h.elem hk
  obtain ⟨Af, cf, rfl, qf⟩ := hf.parts
  obtain ⟨Am, cm, rfl, qm⟩ := hm.parts
  exact ⟨b, o, Af, cf, Am, cm, e, hb, qf, qm, hc 0 _ rfl, hc 1 _ rfl, hc 2 _ rfl, hc 3 _ rfl, hc 4 _ rfl⟩
theorem TypC.kept {x : Typ} {cs : List Value} (h : TypC w G x cs) (hf : Fr S w w') (hG : ∀ b, G b → ¬ S b) (hG' : ∀ b, G b → G' b) : TypC w' G' x cs := by
  obtain ⟨vf, vm, e, h1, h2, hn⟩ := h
  exact ⟨vf, vm, e, FldsAt.kept h1 hf hG hG', MthsAt.kept h2 hf hG hG', hn⟩
theorem TypsAt.kept {xs : List Typ} (h : TypsAt w G v xs) (hf : Fr S w w') (hG : ∀ b, G b → ¬ S b) (hG' : ∀ b, G b → G' b) : TypsAt w' G' v xs := SlAt.kept h hf hG hG' (fun _ _ _ h => TypC.kept h hf hG hG')
theorem TypsP.kept {xs : List Typ} (h : TypsP w G A c xs) (hf : Fr S w w') (hG : ∀ b, G b → ¬ S b) (hG' : ∀ b, G b → G' b) : TypsP w' G' A c xs := SlP.kept h hf hG hG' (fun _ _ _ h => TypC.kept h hf hG hG')

/-- A type by value. -/
def TypV (w : World) (G : Nat → Prop) (x : Typ) (v : Value) : Prop := ∃ vf vm, v = .agg #[.int .i64 x.kind, .string x.name, .int .i64 x.elem, vf, vm] ∧ FldsAt w G vf x.fields ∧ MthsAt w G vm x.methods
def MthV (w : World) (G : Nat → Prop) (x : Mth) (v : Value) : Prop := ∃ vp, v = .agg #[.string x.name, vp, .int .i64 x.result, .int .i64 x.func] ∧ IntsAt w G vp x.params
theorem TypV.kept {x : Typ} (h : TypV w G x v) (hf : Fr S w w') (hG : ∀ b, G b → ¬ S b) (hG' : ∀ b, G b → G' b) : TypV w' G' x v := by
  obtain ⟨vf, vm, e, h1, h2⟩ := h
  exact ⟨vf, vm, e, FldsAt.kept h1 hf hG hG', MthsAt.kept h2 hf hG hG'⟩
theorem MthV.kept {x : Mth} (h : MthV w G x v) (hf : Fr S w w') (hG : ∀ b, G b → ¬ S b) (hG' : ∀ b, G b → G' b) : MthV w' G' x v := by
  obtain ⟨vp, e, h1⟩ := h
  exact ⟨vp, e, IntsAt.kept h1 hf hG hG'⟩
end
end Go.Proofs.YtmphiefdoaihhaaGreatDoor

/-
  A run that is reckoned over blocks with names of its own: deeds by their blocks; where a run begins: no function of a program is named here.
-/
namespace Go.Proofs.YtmphiefdoaihhaaGreatDoor
open Go.RowKit
noncomputable section

/-- The block that a deed touches and that must have been there. -/
def Ac.old : Ac → Option Nat
  | .rd b _ _ => some b
  | .wr b _ _ => some b
  | .nw _ _ _ => none
  | .mv a _ _ _ _ => some a
def Ac.fresh : Ac → Option Nat
  | .nw b _ _ => some b
  | .mv _ b _ _ _ => some b
  | _ => none
theorem bit_self (o : Nat) : (Nat.shiftLeft 1 o).testBit o = true := by
  have : (1 <<< o).testBit o = true := by rw [Nat.testBit_shiftLeft]; simp
  exact this
inductive Xx
  | normal
  | ret
  | exit (id : Nat)
def Xx.out : Xx → Exit
  | .normal => .normal
  | .ret => .ret
  | .exit id => .exit id

/-- A program's own arrays of which the cells are known: each with its number. -/
def known0 : List (Nat × List Value) → Tr (Option Bk)
  | [] => .e
  | (g, cs) :: l => Tr.set 30 (known0 l) g (some ⟨(0, ro), Tr.row .e 0 cs, cs.length, m0⟩)
def start (ng : Nat) (ks : List (Nat × List Value)) : Hs := ⟨known0 ks, ng⟩
theorem known0_get : ∀ {ks : List (Nat × List Value)} {b : Nat} {k : Bk}, (∀ x ∈ ks, x.1 + 1 < 2 ^ 30) → Tr.get 30 (known0 ks) b = some (some k) → ∃ cs, (b, cs) ∈ ks ∧ k = ⟨(0, ro), Tr.row .e 0 cs, cs.length, m0⟩
  | [], b, k, _, h => by simp only [known0] at h; rw [Tr.get_e] at h; cases h
  | (g, cs) :: l, b, k, hs, h => by
    simp only [known0] at h
    by_cases hb : g = b
    · subst hb
      rw [Tr.get_set_eq _ _ _ _ (hs _ List.mem_cons_self)] at h
      cases h
      exact ⟨cs, List.mem_cons_self, rfl⟩
    · rw [Tr.get_set_ne _ _ _ _ _ hb] at h
      obtain ⟨cs', h1, h2⟩ := known0_get (fun x hx => hs x (List.mem_cons_of_mem _ hx)) h
      exact ⟨cs', List.mem_cons_of_mem _ h1, h2⟩
def rho0 (ng : Nat) : Rho := fun b => if b < ng then some (b, 0) else none

theorem start_inv {ng : Nat} {ks : List (Nat × List Value)} (hn : ng + 1 < 2 ^ 30) (hks : ∀ x ∈ ks, x.1 < ng ∧ x.2.length + 1 < 2 ^ 30) : (start ng ks).Inv :=
  ⟨hn, fun b k _ hk => by
    obtain ⟨cs, h1, rfl⟩ := known0_get (fun x hx => by have := (hks x hx).1; omega) hk
    have hl : cs.length + 1 < 2 ^ 30 := (hks _ h1).2
    have := row_inv (cs := cs) (t := .e) (n := 0) (fun i => by rw [Tr.get_e]; simp) (by omega)
    exact ⟨fun i => by have := this.1 i; rw [Nat.zero_add] at this; exact this, hl⟩, fun b k _ hk hm => by
    obtain ⟨cs, h1, rfl⟩ := known0_get (fun x hx => by have := (hks x hx).1; omega) hk
    exact absurd (show ro = mp from hm) (by decide)⟩
theorem start_wr {P : Program} {w : World} {ng : Nat} {ks : List (Nat × List Value)} (hn : ng + 1 < 2 ^ 30) (hks : ∀ x ∈ ks, x.1 < ng ∧ x.2.length + 1 < 2 ^ 30 ∧ x.2.all flat = true ∧ x.2 ≠ []) (hw : ∀ x ∈ ks, w.rangeAt x.1 0 x.2) : WR P (rho0 ng) (start ng ks).den w := by
  have live : ∀ b ty c, (start ng ks).den b = .live ty c → b < ng ∧ ∃ cs, (b, cs) ∈ ks ∧ ty = (0, ro) ∧ c = (Bk.mk (0, ro) (Tr.row .e 0 cs) cs.length m0).cell := by
    intro b ty c h
    unfold Hs.den start at h
    simp only at h
    by_cases hb : b < ng
    · rw [if_pos hb] at h
      split at h
      · rename_i k hk
        obtain ⟨cs, h1, rfl⟩ := known0_get (fun x hx => by have := (hks x hx).1; omega) hk
        cases h
        exact ⟨hb, cs, h1, rfl, rfl⟩
      · cases h
    · rw [if_neg hb] at h; cases h
  refine ⟨fun b => ?_, fun b b' ty ty' c c' k κ κ' h1 h2 r1 r2 => ?_, fun b ty cell h hmm => ?_, fun b ty cell h _ => ?_⟩
  · unfold rho0 Hs.den start
    simp only
    by_cases hb : b < ng
    · rw [if_pos hb, if_pos hb]
      constructor
      · intro h; cases h
      · intro h; split at h <;> cases h
    · rw [if_neg hb, if_neg hb]; simp
  · unfold rho0 at r1 r2
    rw [if_pos (live _ _ _ h1).1] at r1
    rw [if_pos (live _ _ _ h2).1] at r2
    cases r1; cases r2; rfl
  · obtain ⟨hb, cs, hm, rfl, rfl⟩ := live b ty cell h
    exact absurd (show ro = mp from hmm) (by decide)
  · obtain ⟨hb, cs, hm, rfl, rfl⟩ := live b ty cell h
    obtain ⟨_, hl, hf, hne⟩ := hks _ hm
    simp only at hl hf hne
    have hc := hw _ hm
    obtain ⟨v0, r, rfl⟩ : ∃ v0 r, cs = v0 :: r := by cases cs with | nil => exact absurd rfl hne | cons v r => exact ⟨v, r, rfl⟩
    have h0 := hc 0 v0 rfl
    unfold World.cell? at h0
    simp only at h0
    cases hh : w.heap[b]? with
    | none => rw [hh] at h0; cases h0
    | some o =>
      cases o with
      | cells C t' fz =>
        refine ⟨b, 0, C, t', fz, by unfold rho0; rw [if_pos hb], hh, fun h => absurd rfl h, fun o v ho => ?_⟩
        have hot : o ≠ tyOff := fun e => by
          subst e
          unfold Bk.cell at ho
          rw [if_pos rfl, if_neg (show ¬ ro = 0 by decide), if_neg (show ¬ ro = mp by decide)] at ho
          cases ho
        rw [Bk.cell_of hot] at ho
        simp only at ho
        rw [Tr.get_row _ _ _ _ (by omega), if_neg (Nat.not_lt_zero _)] at ho
        rw [Tr.get_e] at ho
        split at ho
        · rw [Nat.sub_zero] at ho
          have := hc o v ho
          rw [cell_of_row _ _ _ _ _ _ hh, Nat.zero_add] at this
          exact .inr ⟨v, this, V.flat (List.all_eq_true.1 hf v (List.mem_of_getElem? ho))⟩
        · cases ho
      | _ => rw [hh] at h0; cases h0
theorem rho0_gl [Fx] (ng : Nat) (hf : Fx.holds (rho0 ng)) : GL (rho0 ng) ng := ⟨fun g hg => ⟨0, by unfold rho0; rw [if_pos hg]⟩, hf⟩
@[reducible] def Fx.nothing : Fx := ⟨fun _ => True, fun _ _ _ _ => trivial⟩

end
end Go.Proofs.YtmphiefdoaihhaaGreatDoor
