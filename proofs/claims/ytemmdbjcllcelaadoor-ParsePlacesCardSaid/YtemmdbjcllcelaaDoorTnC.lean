/-
  Package token: the scanner as it lies in memory; pass, skipComment, HasPrefix, lacksSemi.
-/
import Derived.Test.YtemmdbjcllcelaaDoorTnB
import Derived.Laws.Rows
import Derived.Deep.DeepCutAuto
import Derived.Deep.CutBlock
namespace Go.Proofs.YtemmdbjcllcelaaDoor.Tk
open Go.RowKit
set_option maxRecDepth 100000

theorem _root_.Go.Proofs.YtemmdbjcllcelaaDoor.Fr.drewN {S : Nat → Prop} {a b : World} (h : Fr S a b) (n : Nat) : Fr S a (b.drewN n) := ⟨h.os, h.tape, h.output, h.size, h.block⟩
theorem blk_set {w : World} {g : Nat} {t : TypeId} {cs : Array Value} (h : w.heap[g]? = some (.cells cs t (0, 0))) (i : Nat) (u : Value) : (w.setCell ⟨g, i, none⟩ u).heap[g]? = some (.cells (cs.setIfInBounds i u) t (0, 0)) := by
  simp [World.setCell, Array.getElem?_modify, h]

def TokC (t : Tok) (cs : List Value) : Prop := cs = [.int .i64 t.kind, .string (bs t.text), .int .i64 t.n, .int .i64 t.line, .int .i64 t.col]

/-- A scanner at block p: at byte k of T, in a line that begins at 'first'; it has found 'out'. -/
structure Sc (w : World) (B p : Nat) (T : List UInt8) (k line first : Nat) (v : Value) (out : List Tok) : Prop where
  obj : w.heap[p]? = some (.cells #[.string (bs T), .int .i64 k, .int .i64 line, .int .i64 first, v] 55 (0, 0))
  own : OwnSl w B 43 5 TokC v out
  ne : v.ownBlock ≠ some p
  kT : k ≤ T.length
  fk : first ≤ k
  ln : line ≤ k + 1
  big : T.length ≤ 16384
  few : out.length ≤ 4000
  lo : B ≤ p

section
variable {w w' : World} {B p : Nat} {T : List UInt8} {k line first : Nat} {v : Value} {out : List Tok}

theorem Sc.c0 (h : Sc w B p T k line first v out) : w.cell? ⟨p, 0, none⟩ = some (.string (bs T)) := by rw [cell_of_row w p 0 _ _ _ h.obj]; rfl
theorem Sc.c1 (h : Sc w B p T k line first v out) : w.cell? ⟨p, 1, none⟩ = some (.int .i64 k) := by rw [cell_of_row w p 1 _ _ _ h.obj]; rfl
theorem Sc.c2 (h : Sc w B p T k line first v out) : w.cell? ⟨p, 2, none⟩ = some (.int .i64 line) := by rw [cell_of_row w p 2 _ _ _ h.obj]; rfl
theorem Sc.c3 (h : Sc w B p T k line first v out) : w.cell? ⟨p, 3, none⟩ = some (.int .i64 first) := by rw [cell_of_row w p 3 _ _ _ h.obj]; rfl
theorem Sc.c4 (h : Sc w B p T k line first v out) : w.cell? ⟨p, 4, none⟩ = some v := by rw [cell_of_row w p 4 _ _ _ h.obj]; rfl
theorem Sc.fr (h : Sc w B p T k line first v out) (j : Nat) : w.frozen? ⟨p, j, none⟩ = false := frozen_of_row w p j _ _ h.obj
theorem Sc.lt (h : Sc w B p T k line first v out) : p < w.heap.size := heap_lt h.obj

theorem Sc.kept {S : Nat → Prop} (h : Sc w B p T k line first v out) (hf : Fr S w w') (hp : ¬ S p) (hv : ∀ b, v.ownBlock = some b → ¬ S b) : Sc w' B p T k line first v out :=
  ⟨(hf.block p h.lt hp).trans h.obj, h.own.kept hf hv (fun _ _ _ h => h), h.ne, h.kT, h.fk, h.ln, h.big, h.few, h.lo⟩
theorem Sc.up (h : Sc w B p T k line first v out) (hf : Up w w') : Sc w' B p T k line first v out := h.kept hf (fun h => h) (fun _ _ h => h)
theorem Sc.drewN (h : Sc w B p T k line first v out) (n : Nat) : Sc (w.drewN n) B p T k line first v out := h.up (Fr.drewN (Fr.refl _ _) n)

abbrev FrP (p : Nat) : World → World → Prop := Fr (fun b => b = p)
theorem fr_set (i : Nat) (u : Value) : FrP p w (w.setCell ⟨p, i, none⟩ u) := (Fr.refl (fun b => b = p) w).setCell (p := ⟨p, i, none⟩) (fun _ => rfl) u

/-- The three numbers, set anew. -/
theorem Sc.put (h : Sc w B p T k line first v out) (k' line' first' : Nat) (hf : FrP p w w') (ho : w'.heap[p]? = some (.cells #[.string (bs T), .int .i64 k', .int .i64 line', .int .i64 first', v] 55 (0, 0)))
    (h1 : k' ≤ T.length) (h2 : first' ≤ k') (h3 : line' ≤ k' + 1) : Sc w' B p T k' line' first' v out :=
  ⟨ho, h.own.kept hf (fun b hb e => h.ne (by subst e; exact hb)) (fun _ _ _ h => h), h.ne, h1, h2, h3, h.big, h.few, h.lo⟩

theorem Sc.setAt (h : Sc w B p T k line first v out) (k' : Nat) (h0 : k ≤ k') (h1 : k' ≤ T.length) : Sc (w.setCell ⟨p, 1, none⟩ (.int .i64 k')) B p T k' line first v out :=
  h.put k' line first (fr_set _ _) (by rw [blk_set h.obj]; rfl) h1 (by have := h.fk; omega) (by have := h.ln; omega)

/-- The line's end is passed. -/
theorem Sc.setLine (h : Sc w B p T k line first v out) (h1 : k < T.length) :
    Sc (((w.setCell ⟨p, 1, none⟩ (.int .i64 ((k + 1 : Nat)))).setCell ⟨p, 2, none⟩ (.int .i64 ((line + 1 : Nat)))).setCell ⟨p, 3, none⟩ (.int .i64 ((k + 1 : Nat)))) B p T (k + 1) (line + 1) (k + 1) v out :=
  h.put (k + 1) (line + 1) (k + 1) (((fr_set _ _).setCell (p := ⟨p, 2, none⟩) (fun _ => rfl) _).setCell (p := ⟨p, 3, none⟩) (fun _ => rfl) _)
    (by rw [blk_set (blk_set (blk_set h.obj 1 _) 2 _) 3 _]; rfl) h1 (Nat.le_refl _) (by have := h.ln; omega)
end

theorem bs_extract (l : List UInt8) (a b : Nat) : (bs l).extract a b = bs ((l.drop a).take (b - a)) := ByteArray.extract_mk l a b
theorem bs_from (l : List UInt8) (a : Nat) : (bs l).extract a (bs l).size = bs (l.drop a) := by
  rw [bs_extract, bs_size, List.take_of_length_le (by simp)]

theorem _root_.Go.Proofs.YtemmdbjcllcelaaDoor.Hid.mk_ {p : Prop} (h : p) : Hid p := Lib.hid h

set_option maxHeartbeats 400000 in
theorem pass_any {w : World} {B p : Nat} {T : List UInt8} {k line first : Nat} {v : Value} {out : List Tok} (h : Sc w B p T k line first v out) (n : Nat) (hn : k + n ≤ T.length) :
    Calls Tryd.prog 66 #[.pointer (some ⟨p, 0, none⟩), .int .i64 n] w fun e w' => e = .returned (.string (bs ((T.drop k).take n))) ∧ Sc w' B p T (k + n) line first v out ∧ FrP p w w' := by
  have c0 := h.c0
  have c1 := h.c1
  have f1 := h.fr 1
  have hT := h.big
  obtain ⟨m, hm⟩ : ∃ m, m = k + n := ⟨_, rfl⟩
  rw [← hm] at hn ⊢
  have hw : (k : Int) + (n : Int) = (m : Int) := by omega
  have H := Lib.hid (show Sc (w.setCell ⟨p, 1, none⟩ (.int .i64 m)) B p T m line first v out from h.setAt m (by omega) hn)
  have E := Lib.hid (show (bs T).extract k m = bs ((T.drop k).take n) by rw [bs_extract, hm, Nat.add_sub_cancel_left])
  have hsz := bs_size T
  have Hm := Lib.hid hm
  clear h hm
  go_enter Tryd.func66, Tryd.ntmps66
  go_wp2_with fail
  have f := fr_set (w := w) (p := p) 1 (.int .i64 m)
  generalize w.setCell ⟨p, 1, none⟩ (.int .i64 m) = w1 at H f ⊢
  clear c0 c1 f1 hw
  have c0 := H.out.c0
  have c1 := H.out.c1
  have F := Lib.hid f
  have a1 : (k : Int) ≤ (m : Int) := by have := Hm.out; omega
  have a2 : (m : Int) ≤ (bs T).size := by omega
  clear f
  go_quiet (fail)
  go_wp2_with fail
  go_ret
  refine ⟨?_, H.out.drewN _, F.out.drewN _⟩
  rw [← E.out]; rfl

set_option maxHeartbeats 400000 in
theorem hasPrefix_any {w : World} (a b : List UInt8) :
    Calls Tryd.prog 37 #[.string (bs a), .string (bs b)] w fun e w' => e = .returned (.bool (b.isPrefixOf a)) ∧ w = w' := by
  have sa := bs_size a
  have sb := bs_size b
  have inner : Calls Tryd.prog 64 #[.string (bs a), .string (bs b)] w fun e w' => e = .returned (.bool (b.isPrefixOf a)) ∧ w = w' := by
    by_cases hl : b.length ≤ a.length
    · have h1 : ((a.length : Int) ≥ (b.length : Int)) := by omega
      have h2 : ((b.length : Int) ≤ (bs a).size) := by omega
      have E : (bs a).extract 0 b.length = bs (a.take b.length) := by rw [bs_extract]; simp
      cases hp : b.isPrefixOf a
      · have e1 : ((bs (a.take b.length)).toList == (bs b).toList) = false := by
          rw [eqL, beq_eq_false_iff_ne]
          intro he
          rw [Bool.eq_false_iff, Ne, List.isPrefixOf_iff_prefix] at hp
          exact hp ⟨a.drop b.length, by conv => lhs; lhs; rw [← he]
                                        exact List.take_append_drop _ _⟩
        go_enter Tryd.func64, Tryd.ntmps64
        go_wp2
        go_ret
        exact ⟨rfl, rfl⟩
      · have e1 : ((bs (a.take b.length)).toList == (bs b).toList) = true := by
          rw [eqL, beq_iff_eq]
          rw [List.isPrefixOf_iff_prefix] at hp
          exact (List.prefix_iff_eq_take.1 hp).symm
        go_enter Tryd.func64, Tryd.ntmps64
        go_wp2
        go_ret
        exact ⟨rfl, rfl⟩
    · have h1 : ¬ ((a.length : Int) ≥ (b.length : Int)) := by omega
      have hp : b.isPrefixOf a = false := by
        rw [Bool.eq_false_iff, Ne, List.isPrefixOf_iff_prefix]
        exact fun h => hl h.length_le
      rw [hp]
      go_enter Tryd.func64, Tryd.ntmps64
      go_wp2
      go_ret
      exact ⟨rfl, rfl⟩
  go_enter Tryd.func37, Tryd.ntmps37
  go_wp2_with fail
  refine inner.mono ?_
  rintro e w' ⟨rfl, rfl⟩
  go_wp2_with fail
  go_ret
  exact ⟨rfl, rfl⟩

def posOf (w : World) (p : Nat) : Nat := match w.cell? ⟨p, 1, none⟩ with
  | some (.int _ n) => n.toNat
  | _ => 0
theorem Sc.pos {w : World} {B p : Nat} {T : List UInt8} {k line first : Nat} {v : Value} {out : List Tok} (h : Sc w B p T k line first v out) : posOf w p = k := by
  unfold posOf; rw [h.c1]; simp

theorem takeWhile_at {q : UInt8 → Bool} {T : List UInt8} {k j : Nat} (hkj : k ≤ j) (hj : j ≤ T.length) (h : ∀ i c, k ≤ i → i < j → T[i]? = some c → q c = true) (hs : ∀ c, T[j]? = some c → q c = false) :
    ((T.drop k).takeWhile q).length = j - k :=
  takeWhile_len (fun i c hi hc => by rw [List.getElem?_drop] at hc; exact h (k + i) c (by omega) (by omega) hc) (by rw [List.length_drop]; omega)
    (fun c hc => by rw [List.getElem?_drop, Nat.add_sub_cancel' hkj] at hc; exact hs c hc)

set_option maxHeartbeats 1000000 in
theorem skipComment_any {w : World} {B p : Nat} {T : List UInt8} {k line first : Nat} {v : Value} {out : List Tok} (h : Sc w B p T k line first v out) :
    Calls Tryd.prog 38 #[.pointer (some ⟨p, 0, none⟩)] w fun e w' => e = .returned (.tuple #[]) ∧ Sc w' B p T (k + ((T.drop k).takeWhile (fun c => c ≠ 10)).length) line first v out ∧ FrP p w w' := by
  have hk := h.kT
  have hT := h.big
  have H := Lib.hid h
  have hsz := bs_size T
  have Sz := Lib.hid hsz
  clear h
  go_enter Tryd.func38, Tryd.ntmps38
  go_wp2_with fail
  go_loopw [] (fun wr => ∃ j : Nat, k ≤ j ∧ j ≤ T.length ∧ Hid (Sc wr B p T j line first v out ∧ FrP p w wr ∧ ∀ i c, k ≤ i → i < j → T[i]? = some c → decide (c ≠ 10) = true)) (fun wr => T.length - posOf wr p)
  case atStart => exact ⟨k, Nat.le_refl _, hk, Lib.hid ⟨H.out, Fr.refl _ _, fun _ _ h1 h2 => by omega⟩⟩
  case round =>
    obtain ⟨j, hkj, hjT, hm⟩ := hrel
    have c0 := hm.out.1.c0
    have c1 := hm.out.1.c1
    have f1 := hm.out.1.fr 1
    have Ps := Lib.hid hm.out.1.pos
    by_cases hlt : j < T.length
    · obtain ⟨c, hc⟩ : ∃ c, T[j]? = some c := ⟨_, List.getElem?_eq_getElem hlt⟩
      have hjs : j < (bs T).size := by rw [hsz]; exact hlt
      have gj := get_bs hjs hc
      have C := Lib.hid hc
      clear hc
      have d1 : decide ((j : Int) < (T.length : Int)) = true := dec_of (by omega)
      have d0 : ((j : Int) < ((bs T).size : Int)) := by omega
      by_cases h10 : c = 10
      · have q1 : ((c.toNat : Int) == 10) = true := by subst h10; rfl
        have q2 : ((c.toNat : Int) != 10) = false := by subst h10; rfl
        go_wp2_with fail
        go_quiet (fail)
        go_wp2_with fail
        refine bodyPost_end (v := .tuple #[]) (by kernel_rfl) rfl ?_
        refine ⟨rfl, ?_, hm.out.2.1.drewN _⟩
        rw [takeWhile_at hkj hjT hm.out.2.2 (fun c' hc' => by rw [C.out] at hc'; cases hc'; simp [h10]), Nat.add_sub_cancel' hkj]
        exact hm.out.1.drewN _
      · have hn10 : c.toNat ≠ 10 := fun e => h10 (UInt8.toNat_inj.1 (by rw [e]; rfl))
        have q1 : ((c.toNat : Int) == 10) = false := beqF hn10
        have q2 : ((c.toNat : Int) != 10) = true := by rw [bne, q1]; rfl
        obtain ⟨m, hm'⟩ : ∃ m, m = j + 1 := ⟨_, rfl⟩
        have hw : (j : Int) + 1 = (m : Int) := by omega
        have Hm := Lib.hid hm'
        clear hm' hn10
        go_wp2_with fail
        go_quiet (fail)
        have hx := hm.out.1.drewN nq
        have c0 := hx.c0
        have c1 := hx.c1
        have f1 := hx.fr 1
        have N := Lib.hid (show Sc ((wr.drewN nq).setCell ⟨p, 1, none⟩ (.int .i64 m)) B p T m line first v out ∧ FrP p w ((wr.drewN nq).setCell ⟨p, 1, none⟩ (.int .i64 m)) from
          ⟨hx.setAt m (by have := Hm.out; omega) (by have := Hm.out; omega), (hm.out.2.1.drewN nq).setCell (p := ⟨p, 1, none⟩) (fun _ => rfl) _⟩)
        clear hx
        go_wp2_with fail
        generalize (wr.drewN nq).setCell ⟨p, 1, none⟩ (.int .i64 m) = w1 at N ⊢
        go_roundw
        case rel => exact ⟨m, by have := Hm.out; omega, by have := Hm.out; omega, Lib.hid ⟨N.out.1, N.out.2, fun i y h1 h2 hy => by
          have := Hm.out
          by_cases hij : i = j
          · subst hij; rw [C.out] at hy; cases hy; exact dec_of h10
          · exact hm.out.2.2 i y h1 (by omega) hy⟩⟩
        case measure => rw [N.out.1.pos, Ps.out]; have := Hm.out; omega
    · have d1 : decide ((j : Int) < (T.length : Int)) = false := dec_not (by omega)
      have d0 : ¬ ((j : Int) < ((bs T).size : Int)) := by omega
      go_wp2_with fail
      go_quiet (fail)
      go_wp2_with fail
      refine bodyPost_end (v := .tuple #[]) (by kernel_rfl) rfl ?_
      refine ⟨rfl, ?_, hm.out.2.1.drewN _⟩
      rw [takeWhile_at hkj hjT hm.out.2.2 (fun c' hc' => by have := (List.getElem?_eq_some_iff.1 hc').1; omega), Nat.add_sub_cancel' hkj]
      exact hm.out.1.drewN _

set_option maxHeartbeats 1000000 in
theorem wordMayEnd_any {w : World} (l : List UInt8) : Calls Tryd.prog 63 #[.string (bs l)] w fun e w' => e = .returned (.bool (endWords.contains l)) ∧ w = w' := by
  by_cases h : endWords.contains l = true
  · rw [h]
    have hm : l ∈ endWords := by simpa using h
    clear h
    simp only [endWords, List.mem_cons, List.not_mem_nil, or_false] at hm
    rcases hm with rfl | rfl | rfl | rfl | rfl | rfl | rfl | rfl | rfl
    · have e0 : ((bs [116, 114, 117, 101]).toList == [116, 114, 117, 101]) = true := by rw [bs_list]; decide
      have e1 : ((bs [116, 114, 117, 101]).toList == [102, 97, 108, 115, 101]) = false := by rw [bs_list]; decide
      have e2 : ((bs [116, 114, 117, 101]).toList == [110, 105, 108]) = false := by rw [bs_list]; decide
      have e3 : ((bs [116, 114, 117, 101]).toList == [98, 114, 101, 97, 107]) = false := by rw [bs_list]; decide
      have e4 : ((bs [116, 114, 117, 101]).toList == [99, 111, 110, 116, 105, 110, 117, 101]) = false := by rw [bs_list]; decide
      have e5 : ((bs [116, 114, 117, 101]).toList == [114, 101, 116, 117, 114, 110]) = false := by rw [bs_list]; decide
      have e6 : ((bs [116, 114, 117, 101]).toList == [105, 110, 116]) = false := by rw [bs_list]; decide
      have e7 : ((bs [116, 114, 117, 101]).toList == [98, 111, 111, 108]) = false := by rw [bs_list]; decide
      have e8 : ((bs [116, 114, 117, 101]).toList == [115, 116, 114, 105, 110, 103]) = false := by rw [bs_list]; decide
      go_enter Tryd.func63, Tryd.ntmps63
      go_wp2
      go_ret
      exact ⟨rfl, rfl⟩
    · have e0 : ((bs [102, 97, 108, 115, 101]).toList == [116, 114, 117, 101]) = false := by rw [bs_list]; decide
      have e1 : ((bs [102, 97, 108, 115, 101]).toList == [102, 97, 108, 115, 101]) = true := by rw [bs_list]; decide
      have e2 : ((bs [102, 97, 108, 115, 101]).toList == [110, 105, 108]) = false := by rw [bs_list]; decide
      have e3 : ((bs [102, 97, 108, 115, 101]).toList == [98, 114, 101, 97, 107]) = false := by rw [bs_list]; decide
      have e4 : ((bs [102, 97, 108, 115, 101]).toList == [99, 111, 110, 116, 105, 110, 117, 101]) = false := by rw [bs_list]; decide
      have e5 : ((bs [102, 97, 108, 115, 101]).toList == [114, 101, 116, 117, 114, 110]) = false := by rw [bs_list]; decide
      have e6 : ((bs [102, 97, 108, 115, 101]).toList == [105, 110, 116]) = false := by rw [bs_list]; decide
      have e7 : ((bs [102, 97, 108, 115, 101]).toList == [98, 111, 111, 108]) = false := by rw [bs_list]; decide
      have e8 : ((bs [102, 97, 108, 115, 101]).toList == [115, 116, 114, 105, 110, 103]) = false := by rw [bs_list]; decide
      go_enter Tryd.func63, Tryd.ntmps63
      go_wp2
      go_ret
      exact ⟨rfl, rfl⟩
    · have e0 : ((bs [110, 105, 108]).toList == [116, 114, 117, 101]) = false := by rw [bs_list]; decide
      have e1 : ((bs [110, 105, 108]).toList == [102, 97, 108, 115, 101]) = false := by rw [bs_list]; decide
      have e2 : ((bs [110, 105, 108]).toList == [110, 105, 108]) = true := by rw [bs_list]; decide
      have e3 : ((bs [110, 105, 108]).toList == [98, 114, 101, 97, 107]) = false := by rw [bs_list]; decide
      have e4 : ((bs [110, 105, 108]).toList == [99, 111, 110, 116, 105, 110, 117, 101]) = false := by rw [bs_list]; decide
      have e5 : ((bs [110, 105, 108]).toList == [114, 101, 116, 117, 114, 110]) = false := by rw [bs_list]; decide
      have e6 : ((bs [110, 105, 108]).toList == [105, 110, 116]) = false := by rw [bs_list]; decide
      have e7 : ((bs [110, 105, 108]).toList == [98, 111, 111, 108]) = false := by rw [bs_list]; decide
      have e8 : ((bs [110, 105, 108]).toList == [115, 116, 114, 105, 110, 103]) = false := by rw [bs_list]; decide
      go_enter Tryd.func63, Tryd.ntmps63
      go_wp2
      go_ret
      exact ⟨rfl, rfl⟩
    · have e0 : ((bs [98, 114, 101, 97, 107]).toList == [116, 114, 117, 101]) = false := by rw [bs_list]; decide
      have e1 : ((bs [98, 114, 101, 97, 107]).toList == [102, 97, 108, 115, 101]) = false := by rw [bs_list]; decide
      have e2 : ((bs [98, 114, 101, 97, 107]).toList == [110, 105, 108]) = false := by rw [bs_list]; decide
      have e3 : ((bs [98, 114, 101, 97, 107]).toList == [98, 114, 101, 97, 107]) = true := by rw [bs_list]; decide
      have e4 : ((bs [98, 114, 101, 97, 107]).toList == [99, 111, 110, 116, 105, 110, 117, 101]) = false := by rw [bs_list]; decide
      have e5 : ((bs [98, 114, 101, 97, 107]).toList == [114, 101, 116, 117, 114, 110]) = false := by rw [bs_list]; decide
      have e6 : ((bs [98, 114, 101, 97, 107]).toList == [105, 110, 116]) = false := by rw [bs_list]; decide
      have e7 : ((bs [98, 114, 101, 97, 107]).toList == [98, 111, 111, 108]) = false := by rw [bs_list]; decide
      have e8 : ((bs [98, 114, 101, 97, 107]).toList == [115, 116, 114, 105, 110, 103]) = false := by rw [bs_list]; decide
      go_enter Tryd.func63, Tryd.ntmps63
      go_wp2
      go_ret
      exact ⟨rfl, rfl⟩
    · have e0 : ((bs [99, 111, 110, 116, 105, 110, 117, 101]).toList == [116, 114, 117, 101]) = false := by rw [bs_list]; decide
      have e1 : ((bs [99, 111, 110, 116, 105, 110, 117, 101]).toList == [102, 97, 108, 115, 101]) = false := by rw [bs_list]; decide
      have e2 : ((bs [99, 111, 110, 116, 105, 110, 117, 101]).toList == [110, 105, 108]) = false := by rw [bs_list]; decide
      have e3 : ((bs [99, 111, 110, 116, 105, 110, 117, 101]).toList == [98, 114, 101, 97, 107]) = false := by rw [bs_list]; decide
      have e4 : ((bs [99, 111, 110, 116, 105, 110, 117, 101]).toList == [99, 111, 110, 116, 105, 110, 117, 101]) = true := by rw [bs_list]; decide
      have e5 : ((bs [99, 111, 110, 116, 105, 110, 117, 101]).toList == [114, 101, 116, 117, 114, 110]) = false := by rw [bs_list]; decide
      have e6 : ((bs [99, 111, 110, 116, 105, 110, 117, 101]).toList == [105, 110, 116]) = false := by rw [bs_list]; decide
      have e7 : ((bs [99, 111, 110, 116, 105, 110, 117, 101]).toList == [98, 111, 111, 108]) = false := by rw [bs_list]; decide
      have e8 : ((bs [99, 111, 110, 116, 105, 110, 117, 101]).toList == [115, 116, 114, 105, 110, 103]) = false := by rw [bs_list]; decide
      go_enter Tryd.func63, Tryd.ntmps63
      go_wp2
      go_ret
      exact ⟨rfl, rfl⟩
    · have e0 : ((bs [114, 101, 116, 117, 114, 110]).toList == [116, 114, 117, 101]) = false := by rw [bs_list]; decide
      have e1 : ((bs [114, 101, 116, 117, 114, 110]).toList == [102, 97, 108, 115, 101]) = false := by rw [bs_list]; decide
      have e2 : ((bs [114, 101, 116, 117, 114, 110]).toList == [110, 105, 108]) = false := by rw [bs_list]; decide
      have e3 : ((bs [114, 101, 116, 117, 114, 110]).toList == [98, 114, 101, 97, 107]) = false := by rw [bs_list]; decide
      have e4 : ((bs [114, 101, 116, 117, 114, 110]).toList == [99, 111, 110, 116, 105, 110, 117, 101]) = false := by rw [bs_list]; decide
      have e5 : ((bs [114, 101, 116, 117, 114, 110]).toList == [114, 101, 116, 117, 114, 110]) = true := by rw [bs_list]; decide
      have e6 : ((bs [114, 101, 116, 117, 114, 110]).toList == [105, 110, 116]) = false := by rw [bs_list]; decide
      have e7 : ((bs [114, 101, 116, 117, 114, 110]).toList == [98, 111, 111, 108]) = false := by rw [bs_list]; decide
      have e8 : ((bs [114, 101, 116, 117, 114, 110]).toList == [115, 116, 114, 105, 110, 103]) = false := by rw [bs_list]; decide
      go_enter Tryd.func63, Tryd.ntmps63
      go_wp2
      go_ret
      exact ⟨rfl, rfl⟩
    · have e0 : ((bs [105, 110, 116]).toList == [116, 114, 117, 101]) = false := by rw [bs_list]; decide
      have e1 : ((bs [105, 110, 116]).toList == [102, 97, 108, 115, 101]) = false := by rw [bs_list]; decide
      have e2 : ((bs [105, 110, 116]).toList == [110, 105, 108]) = false := by rw [bs_list]; decide
      have e3 : ((bs [105, 110, 116]).toList == [98, 114, 101, 97, 107]) = false := by rw [bs_list]; decide
      have e4 : ((bs [105, 110, 116]).toList == [99, 111, 110, 116, 105, 110, 117, 101]) = false := by rw [bs_list]; decide
      have e5 : ((bs [105, 110, 116]).toList == [114, 101, 116, 117, 114, 110]) = false := by rw [bs_list]; decide
      have e6 : ((bs [105, 110, 116]).toList == [105, 110, 116]) = true := by rw [bs_list]; decide
      have e7 : ((bs [105, 110, 116]).toList == [98, 111, 111, 108]) = false := by rw [bs_list]; decide
      have e8 : ((bs [105, 110, 116]).toList == [115, 116, 114, 105, 110, 103]) = false := by rw [bs_list]; decide
      go_enter Tryd.func63, Tryd.ntmps63
      go_wp2
      go_ret
      exact ⟨rfl, rfl⟩
    · have e0 : ((bs [98, 111, 111, 108]).toList == [116, 114, 117, 101]) = false := by rw [bs_list]; decide
      have e1 : ((bs [98, 111, 111, 108]).toList == [102, 97, 108, 115, 101]) = false := by rw [bs_list]; decide
      have e2 : ((bs [98, 111, 111, 108]).toList == [110, 105, 108]) = false := by rw [bs_list]; decide
      have e3 : ((bs [98, 111, 111, 108]).toList == [98, 114, 101, 97, 107]) = false := by rw [bs_list]; decide
      have e4 : ((bs [98, 111, 111, 108]).toList == [99, 111, 110, 116, 105, 110, 117, 101]) = false := by rw [bs_list]; decide
      have e5 : ((bs [98, 111, 111, 108]).toList == [114, 101, 116, 117, 114, 110]) = false := by rw [bs_list]; decide
      have e6 : ((bs [98, 111, 111, 108]).toList == [105, 110, 116]) = false := by rw [bs_list]; decide
      have e7 : ((bs [98, 111, 111, 108]).toList == [98, 111, 111, 108]) = true := by rw [bs_list]; decide
      have e8 : ((bs [98, 111, 111, 108]).toList == [115, 116, 114, 105, 110, 103]) = false := by rw [bs_list]; decide
      go_enter Tryd.func63, Tryd.ntmps63
      go_wp2
      go_ret
      exact ⟨rfl, rfl⟩
    · have e0 : ((bs [115, 116, 114, 105, 110, 103]).toList == [116, 114, 117, 101]) = false := by rw [bs_list]; decide
      have e1 : ((bs [115, 116, 114, 105, 110, 103]).toList == [102, 97, 108, 115, 101]) = false := by rw [bs_list]; decide
      have e2 : ((bs [115, 116, 114, 105, 110, 103]).toList == [110, 105, 108]) = false := by rw [bs_list]; decide
      have e3 : ((bs [115, 116, 114, 105, 110, 103]).toList == [98, 114, 101, 97, 107]) = false := by rw [bs_list]; decide
      have e4 : ((bs [115, 116, 114, 105, 110, 103]).toList == [99, 111, 110, 116, 105, 110, 117, 101]) = false := by rw [bs_list]; decide
      have e5 : ((bs [115, 116, 114, 105, 110, 103]).toList == [114, 101, 116, 117, 114, 110]) = false := by rw [bs_list]; decide
      have e6 : ((bs [115, 116, 114, 105, 110, 103]).toList == [105, 110, 116]) = false := by rw [bs_list]; decide
      have e7 : ((bs [115, 116, 114, 105, 110, 103]).toList == [98, 111, 111, 108]) = false := by rw [bs_list]; decide
      have e8 : ((bs [115, 116, 114, 105, 110, 103]).toList == [115, 116, 114, 105, 110, 103]) = true := by rw [bs_list]; decide
      go_enter Tryd.func63, Tryd.ntmps63
      go_wp2
      go_ret
      exact ⟨rfl, rfl⟩
  · have hf : endWords.contains l = false := by simpa using h
    rw [hf]
    have hm : l ∉ endWords := by simpa using h
    simp only [endWords, List.mem_cons, List.not_mem_nil, or_false, not_or] at hm
    obtain ⟨n0, n1, n2, n3, n4, n5, n6, n7, n8⟩ := hm
    have e0 : ((bs l).toList == [116, 114, 117, 101]) = false := by rw [bs_list]; exact beq_eq_false_iff_ne.2 n0
    have e1 : ((bs l).toList == [102, 97, 108, 115, 101]) = false := by rw [bs_list]; exact beq_eq_false_iff_ne.2 n1
    have e2 : ((bs l).toList == [110, 105, 108]) = false := by rw [bs_list]; exact beq_eq_false_iff_ne.2 n2
    have e3 : ((bs l).toList == [98, 114, 101, 97, 107]) = false := by rw [bs_list]; exact beq_eq_false_iff_ne.2 n3
    have e4 : ((bs l).toList == [99, 111, 110, 116, 105, 110, 117, 101]) = false := by rw [bs_list]; exact beq_eq_false_iff_ne.2 n4
    have e5 : ((bs l).toList == [114, 101, 116, 117, 114, 110]) = false := by rw [bs_list]; exact beq_eq_false_iff_ne.2 n5
    have e6 : ((bs l).toList == [105, 110, 116]) = false := by rw [bs_list]; exact beq_eq_false_iff_ne.2 n6
    have e7 : ((bs l).toList == [98, 111, 111, 108]) = false := by rw [bs_list]; exact beq_eq_false_iff_ne.2 n7
    have e8 : ((bs l).toList == [115, 116, 114, 105, 110, 103]) = false := by rw [bs_list]; exact beq_eq_false_iff_ne.2 n8
    clear n0 n1 n2 n3 n4 n5 n6 n7 n8 h hf
    go_enter Tryd.func63, Tryd.ntmps63
    go_wp2
    go_ret
    exact ⟨rfl, rfl⟩
end Go.Proofs.YtemmdbjcllcelaaDoor.Tk
