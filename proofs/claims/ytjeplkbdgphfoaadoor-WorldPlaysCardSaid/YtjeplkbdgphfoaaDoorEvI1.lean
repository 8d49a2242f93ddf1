/-
  A run that is reckoned over blocks with names of its own: what package strings' Builder does besides: no function of a program is named here.
-/
import Derived.Test.YtjeplkbdgphfoaaDoorEvH
import Derived.Test.YtjeplkbdgphfoaaDoorAppZ
import Derived.Lib.Builder
import Derived.Lib.UnsafeStr
import Derived.Lib.AppendStr
import Derived.Laws.Externs
import Derived.Laws.IdiomCopy
namespace Go.Proofs.YtjeplkbdgphfoaaDoor
open Go.RowKit

section
variable {P : Program} {ρ : Rho} {H : Hp} {w : World}

theorem WR.rdx (h : WR P ρ H w) {b o : Nat} {v : Value} (ho : o ≠ tyOff) (hk : Ok H (.rd b o v)) : ∃ k κ cs t' fz v', ρ b = some (k, κ) ∧ w.heap[k]? = some (.cells cs t' fz) ∧ cs[o]? = some v' ∧ V ρ v v' := by
  obtain ⟨ty, c, e, hc⟩ := hk
  obtain ⟨k, κ, cs, t', fz, hr, hw, _, hx⟩ := h.blk b ty c e (h.row e hc (.inl ho))
  obtain ⟨v', h1, h2⟩ := (hx o v hc).resolve_left (fun h => ho h.1)
  exact ⟨k, κ, cs, t', fz, v', hr, hw, h1, h2⟩
theorem shape_of {k : Nat} {cs : Array Value} {t : TypeId} {fz : Nat × Nat} (h : w.heap[k]? = some (.cells cs t fz)) : w.shape? k = some (t, cs.size) := by
  simp [World.shape?, h]
theorem rowAt_more {fits : TypeId → Bool} {count count' : Nat} (hn : count ≤ count') : ∀ (d : Nat) (e off n : Nat), rowAt P fits d e count off n = true → rowAt P fits d e count' off n = true
  | 0, _, _, _, h => by simp [rowAt] at h
  | d + 1, e, off, n, h => by
    unfold rowAt at h ⊢
    simp only at h ⊢
    split at h
    · cases h
    rename_i hs
    rw [if_neg hs]
    rw [Bool.or_eq_true] at h ⊢
    rcases h with h | h
    · left
      simp only [Bool.and_eq_true, decide_eq_true_eq] at h ⊢
      exact ⟨⟨h.1.1, by omega⟩, h.2⟩
    · right
      rw [Bool.and_eq_true] at h ⊢
      refine ⟨?_, h.2⟩
      have := h.1
      simp only [decide_eq_true_eq] at this ⊢
      omega
theorem liesAt_more {count count' : Nat} (hn : count ≤ count') : ∀ (d e off u n : Nat), liesAt P d e count off u n = true → liesAt P d e count' off u n = true
  | 0, _, _, _, _, h => by simp [liesAt] at h
  | d + 1, e, off, u, n, h => by
    unfold liesAt at h ⊢
    rw [Bool.or_eq_true] at h ⊢
    rcases h with h | h
    · exact .inl (rowAt_more hn _ _ _ _ h)
    · right
      split at h
      · rename_i m u' hu
        exact liesAt_more hn d e off u' _ h
      · cases h

/-- A pointer made unsafe, and back. -/
def uptrP (P : Program) (src dst : TypeId) (v : Value) : Prog := match v, P.underlying src, P.underlying dst with
  | .pointer (some ⟨b, o, none⟩), some (.pointer t), some .unsafePointer => (match P.info? t with
    | some j => if Nat.beq j.size 0 then .fail else .rd b o fun _ => .val (.pointer (some ⟨b, o, none⟩))
    | none => .fail)
  | .pointer (some ⟨b, o, none⟩), some .unsafePointer, some (.pointer u) => (match P.info? u with
    | some _ => .tq b fun e => (match P.info? e with
      | some i => if Nat.beq i.size 0 then .fail else (match liesAt P P.depth e 1 o u 1 with
        | true => .rd b (i.size - 1) fun _ => .val (.pointer (some ⟨b, o, none⟩))
        | false => .fail)
      | none => .fail)
    | none => .fail)
  | _, _, _ => .fail
theorem uptr_sim {src dst : TypeId} {v v' : Value} (hv : V ρ v v') : Sim P (uptrP P src dst v) (do pure (.value (← convert src dst v'))) ρ w := by
  unfold uptrP
  split
  · rename_i b o t hs hd
    cases hv with
    | ptr _ c κ _ hr =>
      split
      · rename_i j hj
        split
        · exact Sim.fail
        · rename_i h0
          have h0 : j.size ≠ 0 := fun e => h0 (by rw [e]; rfl)
          refine Sim.v fun H tr r hpr hval hw => ?_
          cases hpr with
          | rd ho h =>
            cases h
            obtain ⟨k, κ', cs, t', fz, u', e1, e2, e3, _⟩ := hw.rdx ho hval.1
            rw [hr] at e1; cases e1
            exact ⟨_, _, w, ρ, rfl, Lib.run_to_unsafe w ⟨c, o, none⟩ hs hd hj h0 (shape_of e2) (Array.getElem?_eq_some_iff.1 e3).1, (Went.refl hw).congr rfl (fun b hb => by cases hb), .ptr b c κ o hr⟩
      · exact Sim.fail
  · rename_i b o u hs hd
    cases hv with
    | ptr _ c κ _ hr =>
      split
      · rename_i j hj
        refine Sim.v fun H tr r hpr hval hw => ?_
        cases hpr with
        | tq h =>
          rename_i e tr
          simp only at h
          split at h
          case h_2 => cases h
          rename_i i hi
          split at h
          · cases h
          rename_i h0
          have h0 : i.size ≠ 0 := fun e => h0 (by rw [e]; rfl)
          split at h
          case h_2 => cases h
          rename_i hlies
          cases h with
          | rd ho h =>
            cases h
            obtain ⟨k, κ', cs, fz, e1, e2⟩ := hw.tq hval.1
            obtain ⟨k2, κ2, cs2, t2, fz2, u', f1, f2, f3, _⟩ := hw.rdx ho hval.2.1
            rw [hr] at e1 f1; cases e1; cases f1
            rw [e2] at f2; cases f2
            have hc : P.cellsOf e = i.size := by simp [Program.cellsOf, hi]
            have hlt := (Array.getElem?_eq_some_iff.1 f3).1
            have hn : 1 ≤ cs.size / P.cellsOf e := by rw [hc]; exact (Nat.le_div_iff_mul_le (by omega)).2 (by omega)
            exact ⟨_, _, w, ρ, rfl, Lib.run_from_unsafe w ⟨c, o, none⟩ hs hd hj (shape_of e2) (liesAt_more hn _ _ _ _ _ hlies), (Went.refl hw).congr rfl (fun b hb => by cases hb), .ptr b c κ o hr⟩
      · exact Sim.fail
  · exact Sim.fail

/-- unsafe.SliceData. -/
def uDataP (v : Value) : Prog := match v with
  | .slice (some ⟨b, o, none⟩) n k => if Nat.blt 0 n && (Nat.beq k unk || Nat.beq k unk2 || Nat.blt 0 k) then .val (.pointer (some ⟨b, o, none⟩)) else .fail
  | .slice none _ _ => .val (.pointer none)
  | _ => .fail
theorem uData_sim {ts : Array TypeId} {ty : TypeId} {v v' : Value} (hv : V ρ v v') : Sim P (uDataP v) (do pure (.value (← Builtin.unsafeSliceData_ ts ty #[v']))) ρ w := by
  unfold uDataP
  split
  · rename_i b o n k
    split
    · rename_i hb
      simp only [Bool.and_eq_true, Bool.or_eq_true] at hb
      obtain ⟨hn, hk⟩ := hb
      have hn : 0 < n := by simpa [Nat.blt_eq] using hn
      cases hv with
      | slc0 => omega
      | slc _ c κ _ _ _ k' hr hc =>
        refine Sim.vv rfl (v' := .pointer (some ⟨c, o, none⟩)) (Lib.run_unsafeSliceData_row w ts ty _ n k' ?_) (.ptr b c κ o hr)
        cases hc with
        | same _ q1 q2 =>
          rcases hk with (h | h) | h
          · exact absurd (Nat.eq_of_beq_eq_true h) q1
          · exact absurd (Nat.eq_of_beq_eq_true h) q2
          · have : 0 < k := by simpa [Nat.blt_eq] using h
            omega
        | whole _ h => omega
        | some_ _ h => omega
    · exact Sim.fail
  · cases hv
    exact Sim.vv rfl (Lib.run_unsafeSliceData_nil w ts ty _ _) .nilp
  · exact Sim.fail

theorem freeze_heap {k n : Nat} {cs : Array Value} {t : TypeId} {fz : Nat × Nat} (h : w.heap[k]? = some (.cells cs t fz)) (hn : n ≠ 0) : ∃ fz', (w.freeze ⟨k, 0, none⟩ n).heap[k]? = some (.cells cs t fz') := by
  obtain ⟨lo, hi⟩ := fz
  refine ⟨if lo == hi then (0, 0 + n) else (min lo 0, max hi (0 + n)), ?_⟩
  unfold World.freeze
  rw [if_neg hn]
  simp [Array.getElem?_modify, h]
theorem freeze_fr {k n : Nat} : Fr (fun i => i = k) w (w.freeze ⟨k, 0, none⟩ n) := by
  unfold World.freeze
  split
  · exact Fr.refl _ _
  · exact ⟨rfl, rfl, rfl, by simp, fun i hi hne => by
      simp only [Array.getElem?_modify]
      rw [if_neg (fun e => hne e.symm)]⟩

/-- A text of bytes, as it is read. -/
def byteL : List Value → Option (List UInt8)
  | [] => some []
  | .int .u8 n :: l => if 0 ≤ n ∧ n < 256 then (byteL l).map (UInt8.ofNat n.toNat :: ·) else none
  | _ => none
theorem byteL_spec : ∀ {l : List Value} {s : List UInt8}, byteL l = some s → l.length = s.length ∧ ∀ (i : Nat) (h : i < s.length), l[i]? = some (.int .u8 (s[i].toNat : Int))
  | [], s, h => by cases h; exact ⟨rfl, fun i h => by simp at h⟩
  | v :: l, s, h => by
    unfold byteL at h
    split at h
    · cases h; rename_i e; cases e
    case h_3 => cases h
    rename_i n l' e
    cases e
    split at h
    · rename_i hn
      cases hb : byteL l with
      | none => rw [hb] at h; cases h
      | some r =>
        rw [hb] at h
        cases h
        obtain ⟨h1, h2⟩ := byteL_spec hb
        refine ⟨by simp [h1], fun i hi => ?_⟩
        cases i with
        | zero =>
          simp only [List.getElem?_cons_zero, List.getElem_cons_zero]
          congr 2
          rw [UInt8.toNat_ofNat']
          omega
        | succ i => simpa using h2 i (by simpa using hi)
    · cases h

/-- unsafe.String: the block is only read from here on. -/
def uStrP (P : Program) (pt : TypeId) (p n : Value) : Prog := match p, n, P.underlying pt with
  | .pointer none, .int .i64 (.ofNat 0), some (.pointer _) => .val (.string ⟨⟨[]⟩⟩)
  | .pointer (some ⟨b, o, none⟩), .int .i64 (.ofNat n), some (.pointer e) => (match P.info? e with
    | some inf => if Nat.beq inf.size 1 && Nat.beq o 0 && Nat.blt 0 n && Nat.ble n 4294967296 then rdN b n 0 [] fun l => (match byteL l with
        | some s => .mv b (e, ro) n [] fun _ => .val (.string ⟨⟨s⟩⟩)
        | none => .fail) else .fail
    | none => .fail)
  | _, _, _ => .fail
theorem uStr_sim {pt it ty : TypeId} {p p' n n' : Value} (hp : V ρ p p') (hn : V ρ n n') : Sim P (uStrP P pt p n) (do pure (.value (← Builtin.unsafeString_ #[pt, it] ty #[p', n']))) ρ w := by
  unfold uStrP
  split
  · cases hp
    cases hn
    exact Sim.vv rfl (Lib.run_unsafeString_none w pt it ty none) (.string _)
  · rename_i b o n e hu
    cases hn
    cases hp with
    | ptr _ c κ _ hr =>
      split
      · rename_i inf hi
        split
        · rename_i hb
          simp only [Bool.and_eq_true] at hb
          obtain ⟨⟨⟨b1, b2⟩, b3⟩, b4⟩ := hb
          have b1 := Nat.eq_of_beq_eq_true b1
          obtain rfl : o = 0 := Nat.eq_of_beq_eq_true b2
          have b3 : 0 < n := by simpa [Nat.blt_eq] using b3
          have b4 := Nat.le_of_ble_eq_true b4
          refine Sim.v fun H tr r hpr hval hw => ?_
          obtain ⟨us, us', t1, t2, rfl, q1, q2, q3, q4, q5, q6, q7⟩ := rdN_sound hr hw hpr hval
          simp only [List.reverse_nil, List.nil_append] at q2
          cases hs : byteL us with
          | none => rw [hs] at q2; cases q2
          | some s =>
            rw [hs] at q2
            simp only at q2
            obtain ⟨h1, h2⟩ := byteL_spec hs
            cases q2 with
            | mv h =>
              rename_i b' tr
              cases h
              obtain ⟨hok, _⟩ := q7
              have hok' := hok
              obtain ⟨⟨cell, m0, hlive, hz, hcells⟩, hub, hone⟩ := hok
              obtain ⟨k1, κ1, cs, t1', fz1, hr1, hheap, hq1, hx1⟩ := hw.blk b _ _ hlive hz.2.2.1
              obtain ⟨ht1, hfz1, hR⟩ := hq1 hz.2.1
              rw [hr] at hr1; cases hr1
              simp only at ht1
              rw [ht1, hfz1] at hheap
              have hsl : s.length = n := by rw [← h1, q1]
              have hcell : ∀ j x, s[j]? = some x → w.cell? ((⟨c, 0, none⟩ : Addr).add j) = some (.int .u8 x.toNat) := fun j x hj => by
                have hjl := (List.getElem?_eq_some_iff.1 hj).1
                have hv := h2 j hjl
                have hv' : us'[j]? = some (.int .u8 (s[j].toNat : Int)) := by
                  obtain ⟨u, hu1, hu2⟩ := q3.get hv
                  cases hu2
                  exact hu1
                have := q4 j _ hv'
                rw [List.getElem?_eq_getElem hjl] at hj
                cases hj
                rw [Addr.add_mid]
                exact this
              have hcs : n ≤ cs.size := by
                have hj : n - 1 < s.length := by omega
                have := hcell (n - 1) _ (List.getElem?_eq_getElem hj)
                rw [Addr.add_mid, Nat.zero_add, cell_of_row _ _ _ _ _ _ hheap] at this
                have := (Array.getElem?_eq_some_iff.1 this).1
                omega
              have hc1 : P.cellsOf e = 1 := by simp [Program.cellsOf, hi, b1]
              have hrun := Lib.run_unsafeString_row (P := P) w pt it ty e hu hc1 c cs.size (shape_of hheap) s (by intro h; subst h; simp at hsl; omega) (by omega) (by omega) hcell
              rw [hsl] at hrun
              obtain ⟨fz', hfr⟩ := freeze_heap (w := w) hheap (show n ≠ 0 by omega)
              have hw2 := hw.mv (w' := w.freeze ⟨c, 0, none⟩ n) (b := b') (n := n) (cs := []) (cs' := []) (g := c) (κ' := κ) (cur := cs) (fz := fz') (ty := (e, ro)) hok' hlive hr (.inl rfl) VL.nil
                (fun j v hj hv => (hx1 j v hv).resolve_left (fun h => hz.1 h.2.1)) (fun j v hj => by simp at hj) hfr (fun h => absurd rfl h) freeze_fr
              refine ⟨_, _, _, _, rfl, hrun, hw2.congr ?_ ?_, .string _⟩
              · rw [apps_append, q5]
              · intro x hx; rw [wrote_append, q6]; exact hx
        · exact Sim.fail
      · exact Sim.fail
  · exact Sim.fail

/-- append of a text. -/
def bytesV (s : List UInt8) : List Value := s.map fun b => .int .u8 b.toNat
def appendSP (P : Program) (t u : TypeId) (s : Value) (str : List UInt8) : Prog := match P.underlying t, P.underlying u with
  | some (.slice e), some .string => (match P.info? e, zeroP P e with
    | some inf, some z =>
      if inf.size = 1 ∧ inf.bytes = 1 ∧ z.cells.size = 1 then (match s with
        | .slice none n k => if Nat.beq str.length 0 then (if Nat.ble n k then .val (.slice none n k) else .fail)
          else if Nat.beq n 0 && Nat.beq k 0 && Nat.ble str.length 4294967296 then .nw (e, 1) (bytesV str) fun b => .val (.slice (some ⟨b, 0, none⟩) str.length unk) else .fail
        | .slice (some ⟨a, o, none⟩) n k => if Nat.beq k unk && Nat.ble (n + str.length) 4294967296 then (if Nat.beq str.length 0 then .val (.slice (some ⟨a, o, none⟩) n k) else .mv a (e, 1) n (bytesV str) fun b => .val (.slice (some ⟨b, 0, none⟩) (n + str.length) unk)) else .fail
        | _ => .fail)
      else .fail
    | _, _ => .fail)
  | _, _ => .fail

theorem run_append_none {t u ty e : TypeId} {i : TypeInfo} (ht : P.underlying t = some (.slice e)) (hu : P.underlying u = some .string) (hi : P.info? e = some i) {B : Option Addr} {n k : Nat} (h : n ≤ k) :
    (Builtin.append_ #[t, u] ty #[.slice B n k, .string ⟨⟨[]⟩⟩]).run P w = .ok (.slice B n k) w := by
  have hsz : (⟨⟨[]⟩⟩ : ByteArray).size = 0 := rfl
  simp [Builtin.append_, run_underlying ht, run_underlying hu, sizeOf, typeInfo, hi, Builtin.lenOf, hsz, h, Builtin.firstCells]
  cases B <;> simp [storeCells]
theorem bytesV_eq (s : List UInt8) : Lib.strCells ⟨⟨s⟩⟩ = bytesV s := rfl
theorem bytesV_rel (s : List UInt8) : VL ρ (bytesV s) (bytesV s) := ⟨rfl, fun i v v' h1 h2 => by
  rw [h1] at h2; cases h2
  unfold bytesV at h1
  rw [List.getElem?_map] at h1
  cases hs : s[i]? with
  | none => rw [hs] at h1; cases h1
  | some b => rw [hs] at h1; cases h1; exact .int _ _⟩
theorem bytesV_length (s : List UInt8) : (bytesV s).length = s.length := by simp [bytesV]
theorem bytesV_one (s : List UInt8) : ∀ v ∈ bytesV s, v.oneCell' = true := fun v hv => by
  obtain ⟨b, _, rfl⟩ := List.mem_map.1 hv
  rfl

theorem appendS_sim {t u ty : TypeId} {s s' : Value} {str : List UInt8} (hs : V ρ s s') : Sim P (appendSP P t u s str) (do pure (.value (← Builtin.append_ #[t, u] ty #[s', .string ⟨⟨str⟩⟩]))) ρ w := by
  unfold appendSP
  split
  case h_2 => exact Sim.fail
  rename_i e ht hu
  split
  case h_2 => exact Sim.fail
  rename_i inf z hinf hz
  split
  case isFalse => exact Sim.fail
  rename_i hb
  obtain ⟨b1, b2, hzs⟩ := hb
  obtain ⟨inf', hinf', hz', _⟩ := zeroP_spec hz
  rw [hinf] at hinf'; cases hinf'
  have hsz : (⟨⟨str⟩⟩ : ByteArray).size = str.length := rfl
  split
  · rename_i n k
    split
    · rename_i h0
      obtain rfl : str = [] := List.eq_nil_of_length_eq_zero (Nat.eq_of_beq_eq_true h0)
      split
      · rename_i hn
        cases hs
        exact Sim.vv rfl (run_append_none ht hu hinf (Nat.le_of_ble_eq_true hn)) (.nils _ _)
      · exact Sim.fail
    · rename_i h0
      have h0 : str.length ≠ 0 := fun e => h0 (by rw [e]; rfl)
      split
      · rename_i hb
        simp only [Bool.and_eq_true] at hb
        obtain ⟨⟨b3, b4⟩, b5⟩ := hb
        obtain rfl : n = 0 := Nat.eq_of_beq_eq_true b3
        obtain rfl : k = 0 := Nat.eq_of_beq_eq_true b4
        have b5 := Nat.le_of_ble_eq_true b5
        cases hs
        refine Sim.v fun H tr r hpr hval hw => ?_
        cases hpr with
        | nw h =>
          rename_i b tr hnm
          cases h
          have hrun := run_append_nil_string (P := P) (w := w) t u ty e inf z ht hu hinf hz' ⟨⟨str⟩⟩ (by omega) (by omega) (by rw [b2]; omega)
          have hle := le_grownCap w str.length 0 e
          have hmx := grownCap_le_maxLen w str.length 0 e (by unfold maxLen; omega)
          have wd := Went.drew hw
          have hw2 := wd.wr.nw (b := b) (ty := (e, 1)) (cs := bytesV str) (κ := grownCap w str.length 0 e) (cs' := (bytesV str).toArray ++ Builtin.zeroCells z.cells (grownCap w str.length 0 e - str.length)) (by assumption) hval.1 (by simp) (fun j v v' h1 h2 => (bytesV_rel str).2 j v v' h1 (by
            rw [Array.getElem?_append_left (by have := (List.getElem?_eq_some_iff.1 h1).1; simpa using this)] at h2
            simpa using h2)) (.inr ⟨hmx, by simp only [Array.size_append, size_zeroC, List.size_toArray, bytesV_length, hzs]; omega⟩)
          refine ⟨_, _, _, _, rfl, ?_, wd.trans hw2, .slc _ _ _ _ _ _ _ Rho.add_eq (.whole rfl hle)⟩
          rw [hrun]
          have e1 : (⟨⟨str⟩⟩ : ByteArray).data.map (fun b => Value.int .u8 b.toNat) = (bytesV str).toArray := by simp [bytesV]
          rw [e1, hsz]
          rfl
      · exact Sim.fail
  · rename_i a o n k
    split
    case isFalse => exact Sim.fail
    rename_i hb
    simp only [Bool.and_eq_true] at hb
    obtain ⟨b3, b4⟩ := hb
    obtain rfl : k = unk := Nat.eq_of_beq_eq_true b3
    have b4 := Nat.le_of_ble_eq_true b4
    cases hs with
    | slc _ c0 κ _ _ _ k' hr hk =>
      cases hk with
      | same _ h _ => exact absurd rfl h
      | whole ho hn =>
        subst ho
        split
        · rename_i h0
          obtain rfl : str = [] := List.eq_nil_of_length_eq_zero (Nat.eq_of_beq_eq_true h0)
          exact Sim.vv rfl (run_append_none ht hu hinf hn) (.slc _ c0 κ _ _ _ _ hr (.whole rfl hn))
        · rename_i h0
          have h0 : str.length ≠ 0 := fun e => h0 (by rw [e]; rfl)
          refine Sim.v fun H tr r hpr hval hw => ?_
          cases hpr with
          | mv h =>
            rename_i b tr
            cases h
            obtain ⟨hok, _⟩ := hval
            have hok' := hok
            obtain ⟨⟨cell, m0, hlive, hz2, hcells⟩, hub, hone⟩ := hok
            obtain ⟨z1, z2, z4, z3⟩ := hz2
            obtain rfl : m0 = 1 := by
              rcases z3 with h | h
              · exact h.symm
              · exact absurd (show (1 : Nat) = ro from h) (by decide)
            obtain ⟨k1, κ1, cs, t1', fz1, hr1, hheap, hq1, hx1⟩ := hw.blk a _ _ hlive z4
            obtain ⟨ht1, hfz1, hR⟩ := hq1 z2
            simp only at ht1
            rw [ht1, hfz1] at hheap
            rw [hr] at hr1; cases hr1
            have hR2 : κ ≤ maxLen ∧ cs.size = κ * 1 := by
              rcases hR with h0 | h0
              · exact absurd (show (1 : Nat) = 0 from h0) (by decide)
              · exact h0
            have hold : ∀ (j : Nat) (v : Value), j < n → cell j = some v → ∃ v', cs[j]? = some v' ∧ V ρ v v' := fun j v _ hv => (hx1 j v hv).resolve_left (fun h => z1 h.2.1)
            have hlt : (cs.toList.take n).length = n := by rw [List.length_take]; simp; omega
            by_cases hroom : n + str.length ≤ κ
            · have hrun := Lib.run_append_room_string (P := P) w t u ty e inf ht hu hinf b1 c0 n κ cs hheap ⟨⟨str⟩⟩ (by rw [hsz]; exact hroom) (by rw [hsz]; omega)
              rw [bytesV_eq, hsz] at hrun
              have hw2 := hw.mv (b := b) (n := n) (cs := bytesV str) (cs' := bytesV str) (g := c0) (κ' := κ) (cur := (cs.toList.take n ++ bytesV str ++ cs.toList.drop (n + str.length)).toArray) (fz := (0, 0)) (ty := (e, 1)) hok' hlive hr (.inl rfl) (bytesV_rel str)
                (fun j v hj hv => by
                  obtain ⟨v', y1, y2⟩ := hold j v hj hv
                  refine ⟨v', ?_, y2⟩
                  rw [List.getElem?_toArray, List.append_assoc, List.getElem?_append_left (by omega), List.getElem?_take, if_pos hj]
                  simpa using y1)
                (fun j v' hj => by
                  rw [List.getElem?_toArray, List.append_assoc, List.getElem?_append_right (by omega), hlt, Nat.add_sub_cancel_left, List.getElem?_append_left (List.getElem?_eq_some_iff.1 hj).1]
                  exact hj)
                (setRow_heap w c0 cs _ e (0, 0) hheap) (fun _ => ⟨rfl, .inr ⟨hR2.1, by simp [bytesV_length]; omega⟩⟩) ((Fr.refl (fun i => i = c0) w).setRow c0 (fun _ => rfl) _)
              exact ⟨_, _, _, _, rfl, hrun, hw2, .slc _ _ _ _ _ _ _ Rho.add_eq (.whole rfl hroom)⟩
            · have hrun := Lib.run_append_grow_string (P := P) w t u ty e inf z ht hu hinf hz' ⟨c0, 0, none⟩ n κ (cs.toList.take n) (by rw [hlt, b1]; omega) (fun j v hj => by
                  rw [Addr.add_mid, Nat.zero_add, cell_of_row _ _ _ _ _ _ hheap]
                  rw [List.getElem?_take] at hj
                  split at hj
                  · simpa using hj
                  · cases hj) ⟨⟨str⟩⟩ (by rw [hsz]; omega) (by rw [hsz]; omega) (growslice_fits (by rw [hsz]; omega) (by rw [hsz, b2]; omega))
              rw [bytesV_eq, hsz] at hrun
              have hle := le_grownCap w (n + str.length) κ e
              have hmx := grownCap_le_maxLen w (n + str.length) κ e (by unfold maxLen; omega)
              generalize grownCap w (n + str.length) κ e = κ' at hrun hle hmx
              have hw2 := hw.mv (b := b) (n := n) (cs := bytesV str) (cs' := bytesV str) (g := w.heap.size) (κ' := κ') (cur := (cs.toList.take n).toArray ++ (bytesV str).toArray ++ Builtin.zeroCells z.cells (κ' - (n + str.length))) (fz := (0, 0)) (ty := (e, 1))
                (w' := w.drew.alloc (.cells ((cs.toList.take n).toArray ++ (bytesV str).toArray ++ Builtin.zeroCells z.cells (κ' - (n + str.length))) e)) hok' hlive hr (.inr (Nat.le_refl _)) (bytesV_rel str)
                (fun j v hj hv => by
                  obtain ⟨v', y1, y2⟩ := hold j v hj hv
                  refine ⟨v', ?_, y2⟩
                  rw [Array.getElem?_append_left (by simp; omega), Array.getElem?_append_left (by simp; omega), List.getElem?_toArray, List.getElem?_take, if_pos hj]
                  simpa using y1)
                (fun j v' hj => by
                  have hjl := (List.getElem?_eq_some_iff.1 hj).1
                  rw [Array.getElem?_append_left (by simp; omega), Array.getElem?_append_right (by simp; omega), List.getElem?_toArray]
                  rw [show n + j - (cs.toList.take n).toArray.size = j by simp; omega]
                  exact hj)
                (show (w.drew.alloc _).heap[w.drew.heap.size]? = _ from heap_alloc_new w.drew _) (fun _ => ⟨rfl, .inr ⟨hmx, by
                  simp only [Array.size_append, size_zeroC, List.size_toArray, bytesV_length, hzs, hlt]
                  omega⟩⟩) (Fr.alloc (Fr.drew (Fr.refl (fun i => i = c0) w)) _)
              exact ⟨_, _, _, _, rfl, hrun, hw2, .slc _ _ _ _ _ _ _ Rho.add_eq (.whole rfl hle)⟩
  · exact Sim.fail

/-- append of a row of zeros: 'append(s, make(..)...)'. -/
def appendZP (P : Program) (t u : TypeId) (s : Value) (i : Int) : Prog := match P.underlying t, P.underlying u with
  | some (.slice e), some (.int _) => (match P.info? e, zeroP P e with
    | some inf, some (.int kz nz) =>
      if inf.size = 1 ∧ 0 < i ∧ i ≤ 16777216 then (match s with
        | .slice (some ⟨a, o, none⟩) n k =>
          if Nat.ble (n + i.toNat) 4294967296 && Nat.ble ((n + i.toNat) * inf.bytes) 140737488355328 then
            if Nat.beq k unk then .mv a (e, 1) n (List.replicate i.toNat (.int kz nz)) fun b => .val (.slice (some ⟨b, 0, none⟩) (n + i.toNat) unk)
            else if Nat.beq k unk2 then .fail
            else if Nat.ble (n + i.toNat) k then .fail
            else rdN a n o [] fun olds => .nw (e, 1) (olds ++ List.replicate i.toNat (.int kz nz)) fun b => .val (.slice (some ⟨b, 0, none⟩) (n + i.toNat) unk)
          else .fail
        | _ => .fail)
      else .fail
    | _, _ => .fail)
  | _, _ => .fail
theorem zeros_rel (m : Nat) (k : IntKind) (n : Int) : VL ρ (List.replicate m (.int k n)) (List.replicate m (.int k n)) := ⟨rfl, fun i v v' h1 h2 => by
  rw [h1] at h2; cases h2
  rw [List.getElem?_replicate] at h1
  split at h1
  · cases h1; exact .int _ _
  · cases h1⟩

theorem appendZ_sim {t u ty : TypeId} {s s' : Value} {kq : IntKind} {i : Int} (hs : V ρ s s') : Sim P (appendZP P t u s i) (do pure (.value (← Builtin.append_ #[t, u] ty #[s', .int kq i]))) ρ w := by
  unfold appendZP
  split
  case h_2 => exact Sim.fail
  rename_i e kn ht hu
  split
  case h_2 => exact Sim.fail
  rename_i inf kz nz hinf hz
  split
  case isFalse => exact Sim.fail
  rename_i hb
  obtain ⟨b1, b2, b3⟩ := hb
  obtain ⟨m, rfl⟩ := Int.eq_ofNat_of_zero_le (show 0 ≤ i by omega)
  simp only [Int.toNat_natCast]
  have hm0 : 0 < m := by omega
  have hm1 : m ≤ 16777216 := by omega
  obtain ⟨inf', hinf', hz', hzs⟩ := zeroP_spec hz
  rw [hinf] at hinf'; cases hinf'
  have hcz : (Value.int kz nz).cells = #[.int kz nz] := rfl
  split
  case h_2 => exact Sim.fail
  rename_i a o n k
  split
  case isFalse => exact Sim.fail
  rename_i hb
  simp only [Bool.and_eq_true] at hb
  obtain ⟨b4, b5⟩ := hb
  have b4 := Nat.le_of_ble_eq_true b4
  have b5 := Nat.le_of_ble_eq_true b5
  have hkb : m * inf.bytes ≤ 281474976710656 := by
    have : m * inf.bytes ≤ (n + m) * inf.bytes := Nat.mul_le_mul_right _ (by omega)
    omega
  split
  · rename_i hk
    obtain rfl : k = unk := Nat.eq_of_beq_eq_true hk
    cases hs with
    | slc _ c0 κ _ _ _ k' hr hk =>
      cases hk with
      | same _ h _ => exact absurd rfl h
      | whole ho hn =>
        subst ho
        refine Sim.v fun H tr r hpr hval hw => ?_
        cases hpr with
        | mv h =>
          rename_i b tr
          cases h
          obtain ⟨hok, _⟩ := hval
          have hok' := hok
          obtain ⟨⟨cell, m0, hlive, hz2, hcells⟩, hub, hone⟩ := hok
          obtain ⟨z1, z2, z4, z3⟩ := hz2
          obtain rfl : m0 = 1 := by
            rcases z3 with h | h
            · exact h.symm
            · exact absurd (show (1 : Nat) = ro from h) (by decide)
          obtain ⟨k1, κ1, cs, t1', fz1, hr1, hheap, hq1, hx1⟩ := hw.blk a _ _ hlive z4
          obtain ⟨ht1, hfz1, hR⟩ := hq1 z2
          simp only at ht1
          rw [ht1, hfz1] at hheap
          rw [hr] at hr1; cases hr1
          have hR2 : κ ≤ maxLen ∧ cs.size = κ * 1 := by
            rcases hR with h0 | h0
            · exact absurd (show (1 : Nat) = 0 from h0) (by decide)
            · exact h0
          have hold : ∀ (j : Nat) (v : Value), j < n → cell j = some v → ∃ v', cs[j]? = some v' ∧ V ρ v v' := fun j v _ hv => (hx1 j v hv).resolve_left (fun h => z1 h.2.1)
          have hlt : (cs.toList.take n).length = n := by rw [List.length_take]; simp; omega
          by_cases hroom : n + m ≤ κ
          · have hrun := run_append_zeros_room (P := P) (ty := ty) w t u e inf (.int kz nz) kq kn ht hu hinf hz' b1 hcz rfl c0 n κ cs hheap m hm0 (by omega) hkb hroom (by omega)
            have hw2 := hw.mv (b := b) (n := n) (cs := List.replicate m (Value.int kz nz)) (cs' := List.replicate m (Value.int kz nz)) (g := c0) (κ' := κ) (cur := (cs.toList.take n ++ List.replicate m (Value.int kz nz) ++ cs.toList.drop (n + m)).toArray) (fz := (0, 0)) (ty := (e, 1)) hok' hlive hr (.inl rfl) (zeros_rel m kz nz)
              (fun j v hj hv => by
                obtain ⟨v', y1, y2⟩ := hold j v hj hv
                refine ⟨v', ?_, y2⟩
                rw [List.getElem?_toArray, List.append_assoc, List.getElem?_append_left (by omega), List.getElem?_take, if_pos hj]
                simpa using y1)
              (fun j v' hj => by
                rw [List.getElem?_toArray, List.append_assoc, List.getElem?_append_right (by omega), hlt, Nat.add_sub_cancel_left, List.getElem?_append_left (List.getElem?_eq_some_iff.1 hj).1]
                exact hj)
              (setRow_heap w c0 cs _ e (0, 0) hheap) (fun _ => ⟨rfl, .inr ⟨hR2.1, by simp; omega⟩⟩) ((Fr.refl (fun i => i = c0) w).setRow c0 (fun _ => rfl) _)
            exact ⟨_, _, _, _, rfl, hrun, hw2, .slc _ _ _ _ _ _ _ Rho.add_eq (.whole rfl hroom)⟩
          · have hold2 : (Builtin.firstCells inf.size n (.slice (some ⟨c0, 0, none⟩) n κ)).run P w.drew = .ok (cs.toList.take n).toArray w.drew :=
              run_firstCells_some (P := P) w.drew inf.size n ⟨c0, 0, none⟩ n κ (cs.toList.take n) (by rw [hlt, b1]; omega) (fun j v hj => by
                rw [Addr.add_mid, Nat.zero_add]
                show w.cell? ⟨c0, j, none⟩ = some v
                rw [cell_of_row _ _ _ _ _ _ hheap]
                rw [List.getElem?_take] at hj
                split at hj
                · simpa using hj
                · cases hj)
            have hrun := Lib.run_append_grow_zeros (P := P) (ty := ty) w t u e inf (.int kz nz) kq kn ht hu hinf hz' (some ⟨c0, 0, none⟩) n κ (cs.toList.take n) hold2 m hm0 (by omega) (by omega) (by omega) hkb (growslice_fits (by omega) b5)
            rw [zeroCells_one _ m hcz] at hrun
            have hle := le_grownCap w (n + m) κ e
            have hmx := grownCap_le_maxLen w (n + m) κ e (by unfold maxLen; omega)
            generalize grownCap w (n + m) κ e = κ' at hrun hle hmx
            have hw2 := hw.mv (b := b) (n := n) (cs := List.replicate m (Value.int kz nz)) (cs' := List.replicate m (Value.int kz nz)) (g := w.heap.size) (κ' := κ') (cur := (cs.toList.take n).toArray ++ (List.replicate m (Value.int kz nz)).toArray ++ Builtin.zeroCells (Value.int kz nz).cells (κ' - (n + m))) (fz := (0, 0)) (ty := (e, 1))
              (w' := w.drew.alloc (.cells ((cs.toList.take n).toArray ++ (List.replicate m (Value.int kz nz)).toArray ++ Builtin.zeroCells (Value.int kz nz).cells (κ' - (n + m))) e)) hok' hlive hr (.inr (Nat.le_refl _)) (zeros_rel m kz nz)
              (fun j v hj hv => by
                obtain ⟨v', y1, y2⟩ := hold j v hj hv
                refine ⟨v', ?_, y2⟩
                rw [Array.getElem?_append_left (by simp; omega), Array.getElem?_append_left (by simp; omega), List.getElem?_toArray, List.getElem?_take, if_pos hj]
                simpa using y1)
              (fun j v' hj => by
                have hjl := (List.getElem?_eq_some_iff.1 hj).1
                rw [List.length_replicate] at hjl
                rw [Array.getElem?_append_left (by simp; omega), Array.getElem?_append_right (by simp; omega), List.getElem?_toArray]
                rw [show n + j - (cs.toList.take n).toArray.size = j by simp; omega]
                exact hj)
              (show (w.drew.alloc _).heap[w.drew.heap.size]? = _ from heap_alloc_new w.drew _) (fun _ => ⟨rfl, .inr ⟨hmx, by
                simp only [Array.size_append, size_zeroC, List.size_toArray, List.length_replicate, hlt]
                rw [hcz]
                simp only [List.size_toArray, List.length_singleton]
                omega⟩⟩) (Fr.alloc (Fr.drew (Fr.refl (fun i => i = c0) w)) _)
            exact ⟨_, _, _, _, rfl, hrun, hw2, .slc _ _ _ _ _ _ _ Rho.add_eq (.whole rfl hle)⟩
  · rename_i hku
    split
    · exact Sim.fail
    · rename_i hku2
      split
      · exact Sim.fail
      · rename_i hroom
        have hroom : ¬ n + m ≤ k := fun h => hroom (Nat.ble_eq_true_of_le h)
        cases hs with
        | slc0 => exact absurd rfl hku2
        | slc _ c0 κ _ _ _ k' hr hk =>
          cases hk with
          | whole => exact absurd rfl hku
          | some_ => exact absurd rfl hku2
          | same _ g1 g2 =>
            refine Sim.v fun H tr r hpr hval hw => ?_
            obtain ⟨os, os', s1, s2, rfl, p1, p2, p3, p4, p5, p6, p7⟩ := rdN_sound hr hw hpr hval
            cases p2 with
            | nw h =>
              rename_i b tr hnm
              cases h
              have hol : os'.length = n := by rw [← p3.1]; exact p1
              have hold2 : (Builtin.firstCells inf.size n (.slice (some ⟨c0, o, none⟩) n k)).run P w.drew = .ok os'.toArray w.drew :=
                run_firstCells_some (P := P) w.drew inf.size n ⟨c0, o, none⟩ n k os' (by rw [hol, b1]; omega) (fun j v hj => by rw [Addr.add_mid]; exact p4 j v hj)
              have hrun := Lib.run_append_grow_zeros (P := P) (ty := ty) w t u e inf (.int kz nz) kq kn ht hu hinf hz' (some ⟨c0, o, none⟩) n k os' hold2 m hm0 (by omega) (by omega) (by omega) hkb (growslice_fits (by omega) b5)
              rw [zeroCells_one _ m hcz] at hrun
              have hle := le_grownCap w (n + m) k e
              have hmx := grownCap_le_maxLen w (n + m) k e (by unfold maxLen; omega)
              have wd := Went.drew hw
              have hap : VL ρ (os ++ List.replicate m (Value.int kz nz)) (os' ++ List.replicate m (Value.int kz nz)) := p3.append (zeros_rel m kz nz)
              have hw2 := wd.wr.nw (b := b) (ty := (e, 1)) (cs := [].reverse ++ os ++ List.replicate m (Value.int kz nz)) (κ := grownCap w (n + m) k e) (cs' := os'.toArray ++ (List.replicate m (Value.int kz nz)).toArray ++ Builtin.zeroCells (Value.int kz nz).cells (grownCap w (n + m) k e - (n + m))) (by assumption) p7.1 (by simp [p3.1])
                (fun j v v' h1 h2 => hap.2 j v v' (by simpa using h1) (by
                  rw [Array.getElem?_append_left (by have h3 := (List.getElem?_eq_some_iff.1 h1).1; have := hap.1; simp at h3 this ⊢; omega)] at h2
                  rw [show os'.toArray ++ (List.replicate m (Value.int kz nz)).toArray = (os' ++ List.replicate m (Value.int kz nz)).toArray by simp, List.getElem?_toArray] at h2
                  exact h2)) (.inr ⟨hmx, by
                  simp only [Array.size_append, size_zeroC, List.size_toArray, List.length_replicate, hol]
                  rw [hcz]
                  simp only [List.size_toArray, List.length_singleton]
                  omega⟩)
              refine ⟨_, _, _, _, rfl, hrun, (wd.trans hw2).congr (by rw [apps_append (t := s1), p5]; rfl) fun b hb => ?_, .slc _ _ _ _ _ _ _ Rho.add_eq (.whole rfl hle)⟩
              rw [wrote_append, p6]; exact hb

/-- A pointer held against itself. -/
def ptrB (P : Program) (t : TypeId) (op : BinOp) (a b : Addr) : Prog :=
  if Nat.beq a.block b.block && Nat.beq a.off b.off && a.spot.isNone && b.spot.isNone then (match P.underlying t with
    | some (.pointer te) => (match P.info? te with
      | some _ => (match op with
        | .eql => .val (.bool true)
        | .neq => .val (.bool false)
        | _ => .fail)
      | none => .fail)
    | _ => .fail) else .fail
theorem run_eql_ptr_same {tp te : TypeId} {j : TypeInfo} (a : Addr) (hp : P.underlying tp = some (.pointer te)) (hte : P.info? te = some j) :
    (Op.equal tp (.pointer (some a)) (.pointer (some a))).run P w = .ok true w := by
  have h : ∀ d : Nat, (Op.equalIn (d + 1) tp (.pointer (some a)) (.pointer (some a))).run P w = .ok true w := fun d => by
    simp [Op.equalIn, run_underlying hp, sizeOf, typeInfo, hte, run_sameAddr_same]
  exact h 9999
theorem eql_ptr_run {tp te : TypeId} {j : TypeInfo} {x y : Operand} (a : Addr) (hp : P.underlying tp = some (.pointer te)) (hte : P.info? te = some j) :
    (do eqGuard .eql tp x y (.pointer (some a)) (.pointer (some a)); binOp .eql tp (.pointer (some a)) (.pointer (some a))).run P w = .ok (.bool true) w := by
  have := run_eql_ptr_same (w := w) a hp hte
  rw [show eqGuard .eql tp x y (.pointer (some a)) (.pointer (some a)) = pure () from rfl]
  simp only [binOp]
  simp [this]
theorem neq_ptr_run {tp te : TypeId} {j : TypeInfo} {x y : Operand} (a : Addr) (hp : P.underlying tp = some (.pointer te)) (hte : P.info? te = some j) :
    (do eqGuard .neq tp x y (.pointer (some a)) (.pointer (some a)); binOp .neq tp (.pointer (some a)) (.pointer (some a))).run P w = .ok (.bool false) w := by
  have := run_eql_ptr_same (w := w) a hp hte
  rw [show eqGuard .neq tp x y (.pointer (some a)) (.pointer (some a)) = pure () from rfl]
  simp only [binOp]
  simp [this]
theorem ptr_sim {t : TypeId} {op : BinOp} {x y : Operand} {a b : Addr} {a' b' : Value} (ha : V ρ (.pointer (some a)) a') (hb : V ρ (.pointer (some b)) b') : Sim P (ptrB P t op a b) (do pure (.value (← (do eqGuard op t x y a' b'; binOp op t a' b')))) ρ w := by
  unfold ptrB
  split
  case isFalse => exact Sim.fail
  rename_i hab
  simp only [Bool.and_eq_true] at hab
  obtain ⟨⟨⟨h1, h2⟩, h3⟩, h4⟩ := hab
  replace h1 := Nat.eq_of_beq_eq_true h1
  replace h2 := Nat.eq_of_beq_eq_true h2
  cases ha with
  | ptr _ c κ _ hr =>
    cases hb with
    | ptr _ c' κ' _ hr' =>
      simp only at h1 h2
      subst h1 h2
      rw [hr] at hr'; cases hr'
      split
      · rename_i te hu
        split
        · rename_i j hj
          split
          · refine Sim.vv rfl (v' := .bool true) ?_ (.bool _)
            exact eql_ptr_run _ hu hj
          · refine Sim.vv rfl (v' := .bool false) ?_ (.bool _)
            exact neq_ptr_run _ hu hj
          · exact Sim.fail
        · exact Sim.fail
      · exact Sim.fail

/-- internal/abi.NoEscape. -/
def isEsc (fn : Func) : Bool := fn.body.isNone && fn.name == "internal/abi.NoEscape" && fn.origin == ""
theorem esc_find {fn : Func} (h : isEsc fn = true) : fn.body.isNone = true ∧ (fn.name == "runtime.NumGoroutine") = false ∧ Extern.findNext fn = none ∧ Extern.find fn = some Extern.AbiNoEscape.same := by
  unfold isEsc at h
  simp only [Bool.and_eq_true, beq_iff_eq] at h
  obtain ⟨⟨h1, h2⟩, h3⟩ := h
  obtain ⟨_⟩ := fn
  simp only at h1 h2 h3
  subst h2 h3
  exact ⟨h1, show ("internal/abi.NoEscape" == "runtime.NumGoroutine") = false by decide, by kernel_rfl, by kernel_rfl⟩
/-- copy: all is read ahead of what is written. -/
def copyP (P : Program) (t : TypeId) (d s : Value) : Prog := match P.underlying t with
  | some (.slice e) => match P.info? e with
    | some inf => match d, s with
      | .slice (some ⟨b, o, none⟩) n _, .slice (some ⟨a, p, none⟩) m _ => if Nat.beq (Nat.min m n) 0 then .val (goInt 0) else rdN a (Nat.min m n * inf.size) p [] fun us => wrL b o us (.val (goInt (Nat.min m n)))
      | .slice _ n _, .slice none m _ => if Nat.beq (Nat.min m n) 0 then .val (goInt 0) else .fail
      | .slice none n _, .slice _ m _ => if Nat.beq (Nat.min m n) 0 then .val (goInt 0) else .fail
      | _, _ => .fail
    | none => .fail
  | _ => .fail
theorem run_copy_zero {ats : Array TypeId} {t ty e : TypeId} {inf : TypeInfo} (h0 : ats[0]? = some t) (hu : P.underlying t = some (.slice e)) (hi : P.info? e = some inf) (A B : Option Addr) (n k m k2 : Nat) (hz : Nat.min m n = 0) (w : World) :
    (Builtin.copy_ ats ty #[.slice A n k, .slice B m k2]).run P w = .ok (goInt 0) w := by
  have hl : ∀ (x : Addr), (loadCells x 0).run P w = .ok #[] w := fun x => by simpa using run_loadCells_list (P := P) w x [] (by simp)
  cases A <;> cases B <;> simp [Builtin.copy_, h0, run_underlying hu, Builtin.lenOf, Builtin.firstCells, sizeOf, typeInfo, hi, hz, storeCells, hl]
theorem run_copy_some {ats : Array TypeId} {t ty e : TypeId} {inf : TypeInfo} (h0 : ats[0]? = some t) (hu : P.underlying t = some (.slice e)) (hi : P.info? e = some inf) (A : Addr) (c p n k m k2 : Nat) (cs : List Value) (hl : cs.length = Nat.min m n * inf.size) {w w' : World} (hr : w.rangeAt c p cs)
    (hs : (storeCells A cs 0).run P w = .ok () w') :
    (Builtin.copy_ ats ty #[.slice (some A) n k, .slice (some ⟨c, p, none⟩) m k2]).run P w = .ok (goInt (Nat.min m n)) w' := by
  have h1 := run_loadCells_list (P := P) w ⟨c, p, none⟩ cs (fun j v hj => by rw [Addr.add_mid]; exact hr j v hj)
  rw [hl] at h1
  simp [Builtin.copy_, h0, run_underlying hu, Builtin.lenOf, Builtin.firstCells, sizeOf, typeInfo, hi, h1, hs]
theorem V.sl_of {A : Option Addr} {n k : Nat} {v' : Value} (h : V ρ (.slice A n k) v') : ∃ A' k', v' = .slice A' n k' := by
  cases h with
  | nils => exact ⟨_, _, rfl⟩
  | slc => exact ⟨_, _, rfl⟩
  | slc0 => exact ⟨_, _, rfl⟩
theorem copy_sim {ats : Array TypeId} {t ty : TypeId} {d s d' s' : Value} (h0 : ats[0]? = some t) (hd : V ρ d d') (hs : V ρ s s') : Sim P (copyP P t d s) (do pure (.value (← Builtin.copy_ ats ty #[d', s']))) ρ w := by
  unfold copyP
  split
  case h_2 => exact Sim.fail
  rename_i e hu
  split
  case h_2 => exact Sim.fail
  rename_i inf hi
  have zero : ∀ {A B : Option Addr} {n k m k2 : Nat}, V ρ (.slice A n k) d' → V ρ (.slice B m k2) s' → Nat.min m n = 0 → Sim P (.val (goInt 0)) (do pure (.value (← Builtin.copy_ ats ty #[d', s']))) ρ w := fun h1 h2 hz => by
    obtain ⟨A', k', rfl⟩ := h1.sl_of
    obtain ⟨B', k2', rfl⟩ := h2.sl_of
    refine Sim.val rfl (v' := goInt 0) (fun w => ?_) (.int _ _)
    simp [run_copy_zero h0 hu hi _ _ _ _ _ _ hz]
  split
  · rename_i b o n k a p m k2
    split
    · rename_i hz
      exact zero hd hs (Nat.eq_of_beq_eq_true hz)
    · rename_i hz
      have hz : Nat.min m n ≠ 0 := fun e => hz (by rw [e]; rfl)
      cases hd with
      | slc0 => exact absurd (Nat.min_zero _) hz
      | slc _ c κ _ _ _ k' hr hk =>
        cases hs with
        | slc0 => exact absurd (Nat.zero_min _) hz
        | slc _ c2 κ2 _ _ _ k2' hr2 hk2 =>
          intro H tr r hpr hval hw
          obtain ⟨us, us', t1, t2, rfl, q1, q2, q3, q4, q5, q6, q7⟩ := rdN_sound hr2 hw hpr hval
          have q2' : PR (wrL b (o + 0) us (.val (goInt (Nat.min m n)))) t2 r := by simpa using q2
          obtain ⟨w', s1, s2, rfl, p1, p2, p3, p4⟩ := wrL_sound (o0 := o) (i := 0) hr q3 q2' q7 hw
          cases p1
          refine ⟨.value (goInt (Nat.min m n)), w', ρ, ?_, ?_, .int _ _⟩
          · have := run_copy_some (ty := ty) (k := k') (k2 := k2') h0 hu hi ⟨c, o, none⟩ c2 p n m us' (by rw [← q3.1, q1]) q4 p2
            simp [this]
          · refine p3.congr ?_ fun b hb => ?_
            · rw [apps_append (t := t1), q5, List.append_nil]
            · rw [wrote_append, List.append_nil]; exact List.mem_append_right _ hb
  · rename_i A n k m k2 _
    split
    · rename_i hz; exact zero hd hs (Nat.eq_of_beq_eq_true hz)
    · exact Sim.fail
  · rename_i n k B m k2 _ _
    split
    · rename_i hz; exact zero hd hs (Nat.eq_of_beq_eq_true hz)
    · exact Sim.fail
  · exact Sim.fail
end
end Go.Proofs.YtjeplkbdgphfoaaDoor
