/-
  Package token: lacksSemi, skip.
-/
import Derived.Test.YtemmdbjcllcelaaDoorTnC
import Derived.Deep.RegionHeld3
namespace Go.Proofs.YtemmdbjcllcelaaDoor.Tk
open Go.RowKit
set_option maxRecDepth 100000

set_option maxRecDepth 100000 in
set_option maxHeartbeats 2000000 in
theorem lacksSemi_any {w : World} {B p : Nat} {T : List UInt8} {k line first : Nat} {v : Value} {out : List Tok} (h : Sc w B p T k line first v out) :
    Calls Tryd.prog 36 #[.pointer (some ⟨p, 0, none⟩)] w fun e w' => e = .returned (.bool (lastEnds out)) ∧ Up w w' := by
  obtain ⟨A, c, rfl, hp⟩ := h.own.reads.parts
  have c4 := h.c4
  have f4 := h.few
  by_cases h0 : out = []
  · subst h0
    go_enter Tryd.func36, Tryd.ntmps36
    go_wp2
    go_ret
    exact ⟨rfl, Fr.refl _ _⟩
  · obtain ⟨n, hn⟩ : ∃ n, n = out.length := ⟨_, rfl⟩
    have hn0 : 0 < n := by rw [hn]; exact List.length_pos_iff.2 h0
    obtain ⟨m, hm⟩ : ∃ m, n = m + 1 := ⟨n - 1, by omega⟩
    have hmo : m < out.length := by omega
    obtain ⟨b, o, cs, rfl, hG, hb, rfl, hcl, hx⟩ := hp.elem hmo
    clear hG hcl
    have hle : lastEnds out = mayEnd out[m] := by
      unfold lastEnds
      rw [List.getLast?_eq_getElem?, show out.length - 1 = m by omega, List.getElem?_eq_getElem hmo]
    rw [hle]
    obtain ⟨t, ht⟩ : ∃ t, t = out[m] := ⟨_, rfl⟩
    rw [← ht] at hx ⊢
    have x0 := hx 0 _ rfl
    have x1 := hx 1 _ rfl
    have x2 := hx 2 _ rfl
    have x3 := hx 3 _ rfl
    have x4 := hx 4 _ rfl
    rw [Nat.add_zero] at x0
    rw [← hn] at c4 f4
    have z0 : ((n : Int) == 0) = false := by simp; omega
    have hw : (n : Int) - 1 = (m : Int) := by rw [hm]; simp
    have hw2 : IntKind.i64.wrap (m : Int) = (m : Int) := IntWalk.i64_in _ (by omega)
    have hmn : (m : Int) < (n : Int) := Int.ofNat_lt.2 (by rw [hm]; exact Nat.lt_succ_self m)
    have hm0 : (0 : Int) ≤ (m : Int) := Int.natCast_nonneg m
    have hmN : m < n := by rw [hm]; exact Nat.lt_succ_self m
    have hpl := h.lt
    have hia : ∀ w, (Instr.indexAt 41 (.slice (some ⟨b, o, none⟩) n c) (.int .i64 m)).run Tryd.prog w = .ok (.pointer (some ⟨b, o + m * 5, none⟩)) w := by
      intro w
      rw [run_indexAt_slice (h := by kernel_rfl), if_pos ⟨hm0, hmn⟩, show (sizeOf (Tryd.prog.elem 41)).run Tryd.prog w = .ok 5 w from by kernel_rfl]
      simp [Result.andThen, Addr.add]
    clear hx hp h hle ht hn hm hmo h0
    go_enter Tryd.func36, Tryd.ntmps36
    go_wp2_with fail
    go_region_held3 (fun W' => W'.cell? ⟨p, 4, none⟩ = some (.slice (some ⟨b, o, none⟩) n c) ∧ W'.cell? ⟨b, o + m * 5, none⟩ = some (.int .i64 t.kind) ∧ W'.cell? ⟨b, o + m * 5 + 1, none⟩ = some (.string (bs t.text)) ∧
        W'.cell? ⟨b, o + m * 5 + 2, none⟩ = some (.int .i64 t.n) ∧ W'.cell? ⟨b, o + m * 5 + 3, none⟩ = some (.int .i64 t.line) ∧ W'.cell? ⟨b, o + m * 5 + 4, none⟩ = some (.int .i64 t.col))
      (first | exact ⟨c4, x0, x1, x2, x3, x4⟩ | go_keep) (fail)
    have u1 : Up w (w.alloc (.cells #[.int .i64 t.kind, .string (bs t.text), .int .i64 t.n, .int .i64 t.line, .int .i64 t.col] 43)).drew := ((Fr.refl (fun _ => False) w).alloc _).drew
    have y0 : (w.alloc (.cells #[.int .i64 t.kind, .string (bs t.text), .int .i64 t.n, .int .i64 t.line, .int .i64 t.col] 43)).drew.cell? ⟨w.heap.size, 0, none⟩ = some (.int .i64 t.kind) := by
      show (w.alloc _).cell? _ = _
      rw [cell_of_row _ _ _ _ _ _ (heap_alloc_new _ _)]; rfl
    have y1 : (w.alloc (.cells #[.int .i64 t.kind, .string (bs t.text), .int .i64 t.n, .int .i64 t.line, .int .i64 t.col] 43)).drew.cell? ⟨w.heap.size, 1, none⟩ = some (.string (bs t.text)) := by
      show (w.alloc _).cell? _ = _
      rw [cell_of_row _ _ _ _ _ _ (heap_alloc_new _ _)]; rfl
    generalize (w.alloc (.cells #[.int .i64 t.kind, .string (bs t.text), .int .i64 t.n, .int .i64 t.line, .int .i64 t.col] 43)).drew = w1 at *
    have U := Lib.hid u1
    obtain ⟨kd, tx, tn, tl, tc⟩ := t
    simp only at y0 y1 ⊢
    clear u1 c4 x0 x1 x2 x3 x4 z0 hw hw2 hia
    generalize w.heap.size = q at *
    by_cases hk : kd = 2
    · subst hk
      have e : mayEnd ⟨2, tx, tn, tl, tc⟩ = true := rfl
      go_wp2_with fail
      go_ret
      exact ⟨by first | rfl | (rw [e]; rfl), U.out⟩
    by_cases hk : kd = 4
    · subst hk
      have e : mayEnd ⟨4, tx, tn, tl, tc⟩ = true := rfl
      go_wp2_with fail
      go_ret
      exact ⟨by first | rfl | (rw [e]; rfl), U.out⟩
    by_cases hk : kd = 5
    · subst hk
      have e : mayEnd ⟨5, tx, tn, tl, tc⟩ = true := rfl
      go_wp2_with fail
      go_ret
      exact ⟨by first | rfl | (rw [e]; rfl), U.out⟩
    by_cases hk : kd = 3
    · subst hk
      obtain ⟨bb, hbb⟩ : ∃ bb, bb = endWords.contains tx := ⟨_, rfl⟩
      have e : mayEnd ⟨3, tx, tn, tl, tc⟩ = bb := by rw [hbb]; simp [mayEnd]
      have HB := Lib.hid hbb
      clear hbb
      go_wp2_with fail
      refine (wordMayEnd_any tx).mono ?_
      rintro e' w' ⟨rfl, rfl⟩
      rw [← HB.out]
      go_wp2_with fail
      go_ret
      exact ⟨by first | rfl | (rw [e]; rfl), U.out⟩
    by_cases hk : kd = 6
    · subst hk
      have e : mayEnd ⟨6, tx, tn, tl, tc⟩ = (tx == [41] || tx == [93] || tx == [125]) := by simp [mayEnd]
      have E := Lib.hid e
      clear e
      have k1 : ((bs tx).toList == [41]) = (tx == [41]) := by rw [bs_list]
      have k2 : ((bs tx).toList == [93]) = (tx == [93]) := by rw [bs_list]
      have k3 : ((bs tx).toList == [125]) = (tx == [125]) := by rw [bs_list]
      cases h1 : (tx == [41])
      · rw [h1] at k1
        cases h2 : (tx == [93])
        · rw [h2] at k2
          cases h3 : (tx == [125])
          · rw [h3] at k3
            have e : mayEnd ⟨6, tx, tn, tl, tc⟩ = false := by rw [E.out, h1, h2, h3]; rfl
            clear h1 h2 h3
            go_wp2_with fail
            go_ret
            exact ⟨by first | rfl | (rw [e]; rfl), U.out⟩
          · rw [h3] at k3
            have e : mayEnd ⟨6, tx, tn, tl, tc⟩ = true := by rw [E.out, h1, h2, h3]; rfl
            clear h1 h2 h3
            go_wp2_with fail
            go_ret
            exact ⟨by first | rfl | (rw [e]; rfl), U.out⟩
        · rw [h2] at k2
          have e : mayEnd ⟨6, tx, tn, tl, tc⟩ = true := by rw [E.out, h1, h2]; rfl
          clear h1 h2
          go_wp2_with fail
          go_ret
          exact ⟨by first | rfl | (rw [e]; rfl), U.out⟩
      · rw [h1] at k1
        have e : mayEnd ⟨6, tx, tn, tl, tc⟩ = true := by rw [E.out, h1]; rfl
        clear h1
        go_wp2_with fail
        go_ret
        exact ⟨by first | rfl | (rw [e]; rfl), U.out⟩
    · rename_i n2 n4 n5 n3
      have z2 : ((kd : Int) == 2) = false := by simp; omega
      have z3 : ((kd : Int) == 3) = false := by simp; omega
      have z4 : ((kd : Int) == 4) = false := by simp; omega
      have z5 : ((kd : Int) == 5) = false := by simp; omega
      have z6 : ((kd : Int) == 6) = false := by simp; omega
      have e : mayEnd ⟨kd, tx, tn, tl, tc⟩ = false := by simp [mayEnd, n2, n3, n4, n5, hk]
      clear n2 n3 n4 n5 hk
      go_wp2_with fail
      go_ret
      exact ⟨by first | rfl | (rw [e]; rfl), U.out⟩

theorem beqU (c d : UInt8) : ((c.toNat : Int) == (d.toNat : Int)) = decide (c = d) := by
  by_cases h : c = d
  · subst h; simp
  · rw [dec_not h, beq_eq_false_iff_ne]
    exact fun e => h (UInt8.toNat_inj.1 (Int.ofNat_inj.1 e))

def stOf (T : List UInt8) (k line first : Nat) (out : List Tok) : St := ⟨T.drop k, line, k - first + 1, out⟩

/-- Where skip stands still. -/
def Stop (l : List UInt8) (out : List Tok) : Prop := ∀ b r, l = b :: r → (b = 10 → lastEnds out = true) ∧ b ≠ 32 ∧ b ≠ 9 ∧ b ≠ 13 ∧ [47, 47].isPrefixOf l = false

theorem drop_at {T : List UInt8} {k : Nat} {c : UInt8} (h : T[k]? = some c) : T.drop k = c :: T.drop (k + 1) := by
  have hk := (List.getElem?_eq_some_iff.1 h).1
  rw [List.drop_eq_getElem_cons hk, (List.getElem?_eq_some_iff.1 h).2]

theorem step_line {T : List UInt8} {k line first : Nat} {out : List Tok} (h : T[k]? = some 10) (he : lastEnds out = false) : step (stOf T k line first out) = .inl (stOf T (k + 1) (line + 1) (k + 1) out) := by
  simp [step, stOf, drop_at h, he]
theorem step_blank {T : List UInt8} {k line first : Nat} {c : UInt8} {out : List Tok} (h : T[k]? = some c) (hf : first ≤ k) (hc : c = 32 ∨ c = 9 ∨ c = 13) : step (stOf T k line first out) = .inl (stOf T (k + 1) line first out) := by
  have h10 : c ≠ 10 := by rcases hc with rfl | rfl | rfl <;> decide
  simp only [step, stOf, drop_at h, if_neg h10, if_pos hc]
  rw [show k - first + 1 + 1 = k + 1 - first + 1 by omega]
theorem step_comment {T : List UInt8} {k line first : Nat} {out : List Tok} (hf : first ≤ k) (hp : [47, 47].isPrefixOf (T.drop k) = true) :
    step (stOf T k line first out) = .inl (stOf T (k + ((T.drop k).takeWhile (fun c => c ≠ 10)).length) line first out) := by
  obtain ⟨r, hr⟩ := List.isPrefixOf_iff_prefix.1 hp
  have hd : T.drop k = 47 :: 47 :: r := hr.symm
  unfold step stOf
  rw [← List.drop_drop]
  generalize T.drop k = l at *
  subst hd
  simp only [if_neg (show ¬ (47 : UInt8) = 10 by decide), if_neg (show ¬ ((47 : UInt8) = 32 ∨ (47 : UInt8) = 9 ∨ (47 : UInt8) = 13) by decide), hp, if_true]
  congr 2
  omega

structure Skip (w w' : World) (B p : Nat) (T : List UInt8) (k line first : Nat) (v : Value) (out : List Tok) (k' line' first' : Nat) : Prop where
  sc : Sc w' B p T k' line' first' v out
  fr : FrP p w w'
  le : k ≤ k'
  lex : ∀ R, Lex (stOf T k' line' first' out) R → Lex (stOf T k line first out) R

theorem Skip.go {w w' w2 : World} {B p : Nat} {T : List UInt8} {k line first : Nat} {v : Value} {out : List Tok} {k' line' first' k2 l2 f2 : Nat} (h : Skip w w' B p T k line first v out k' line' first')
    (hs : Sc w2 B p T k2 l2 f2 v out) (hf : FrP p w' w2) (hle : k' ≤ k2) (hst : step (stOf T k' line' first' out) = .inl (stOf T k2 l2 f2 out)) : Skip w w2 B p T k line first v out k2 l2 f2 :=
  ⟨hs, h.fr.trans hf (fun _ _ e => e), Nat.le_trans h.le hle, fun R hR => h.lex R (hR.next hst)⟩

theorem Sc.line2 {w : World} {B p : Nat} {T : List UInt8} {m line first : Nat} {v : Value} {out : List Tok} (h : Sc w B p T m line first v out) (l2 : Nat) (hl : l2 ≤ m + 1) :
    Sc ((w.setCell ⟨p, 2, none⟩ (.int .i64 l2)).setCell ⟨p, 3, none⟩ (.int .i64 m)).drew B p T m l2 m v out ∧ FrP p w ((w.setCell ⟨p, 2, none⟩ (.int .i64 l2)).setCell ⟨p, 3, none⟩ (.int .i64 m)).drew :=
  have f := ((fr_set (w := w) (p := p) 2 (.int .i64 l2)).setCell (p := ⟨p, 3, none⟩) (fun _ => rfl) (.int .i64 m)).drew
  ⟨h.put m l2 m f (by show ((w.setCell _ _).setCell _ _).heap[p]? = _; rw [blk_set (blk_set h.obj 2 _) 3 _]; rfl) h.kT (Nat.le_refl _) hl, f⟩
theorem Sc.line2' {w : World} {B p : Nat} {T : List UInt8} {m line first : Nat} {v : Value} {out : List Tok} (h : Sc w B p T m line first v out) (l2 : Nat) (hl : l2 ≤ m + 1) :
    Sc ((w.setCell ⟨p, 3, none⟩ (.int .i64 m)).setCell ⟨p, 2, none⟩ (.int .i64 l2)).drew B p T m l2 m v out ∧ FrP p w ((w.setCell ⟨p, 3, none⟩ (.int .i64 m)).setCell ⟨p, 2, none⟩ (.int .i64 l2)).drew :=
  have f := ((fr_set (w := w) (p := p) 3 (.int .i64 m)).setCell (p := ⟨p, 2, none⟩) (fun _ => rfl) (.int .i64 l2)).drew
  ⟨h.put m l2 m f (by show ((w.setCell _ _).setCell _ _).heap[p]? = _; rw [blk_set (blk_set h.obj 3 _) 2 _]; rfl) h.kT (Nat.le_refl _) hl, f⟩

set_option maxRecDepth 100000 in
set_option maxHeartbeats 2000000 in
theorem skip_any {w : World} {B p : Nat} {T : List UInt8} {k line first : Nat} {v : Value} {out : List Tok} (h : Sc w B p T k line first v out) :
    Calls Tryd.prog 23 #[.pointer (some ⟨p, 0, none⟩)] w fun e w' => e = .returned (.tuple #[]) ∧ ∃ k' line' first', Skip w w' B p T k line first v out k' line' first' ∧ Stop (T.drop k') out := by
  have hT := h.big
  have hsz := bs_size T
  have H := Lib.hid (show Skip w w B p T k line first v out k line first from ⟨h, Fr.refl _ _, Nat.le_refl _, fun _ h => h⟩)
  clear h
  go_enter Tryd.func23, Tryd.ntmps23
  go_wp2_with fail
  go_loopw [] (fun wr => ∃ j lj fj : Nat, Hid (Skip w wr B p T k line first v out j lj fj)) (fun wr => T.length - posOf wr p)
  case atStart => exact ⟨k, line, first, H⟩
  case round =>
    obtain ⟨j, lj, fj, hm⟩ := hrel
    obtain ⟨wo, rfl⟩ : ∃ wo : World, wo = wr := ⟨_, rfl⟩
    have c0 := hm.out.sc.c0
    have c1 := hm.out.sc.c1
    have hjT := hm.out.sc.kT
    have Ps := Lib.hid hm.out.sc.pos
    by_cases hlt : j < T.length
    · obtain ⟨c, hc⟩ : ∃ c, T[j]? = some c := ⟨_, List.getElem?_eq_getElem hlt⟩
      have hjs : j < (bs T).size := by rw [hsz]; exact hlt
      have gj := get_bs hjs hc
      have C := Lib.hid hc
      clear hc
      have d1 : decide ((j : Int) < (T.length : Int)) = true := dec_of (by omega)
      have d0 : ((j : Int) < ((bs T).size : Int)) := by omega
      go_wp2_with fail
      go_quiet (fail)
      have S1 := Lib.hid (hm.out.sc.drewN nq)
      have F1 := Lib.hid (Fr.drewN (Fr.refl (fun b => b = p) wo) nq)
      have P1 : posOf (wo.drewN nq) p = j := S1.out.pos
      generalize wo.drewN nq = w1 at S1 F1 P1 ⊢
      clear c0 c1
      have c0 := S1.out.c0
      have c1 := S1.out.c1
      go_wp2_with fail
      go_quiet (fail)
      have S2 := Lib.hid (S1.out.drewN nq)
      have F2 := Lib.hid (Fr.drewN F1.out nq)
      generalize w1.drewN nq = w2 at S2 F2 ⊢
      clear c0 c1 S1 F1 P1 gj
      have hcl := UInt8.toNat_lt c
      by_cases h10 : c = 10
      · have q1 : ((c.toNat : Int) == 10) = true := by subst h10; rfl
        cases hE : lastEnds out
        · go_wp2_with fail
          refine (lacksSemi_any S2.out).mono ?_
          rintro e w3 ⟨rfl, u3⟩
          rw [hE]
          have S3 := Lib.hid (S2.out.up u3)
          have F3 := Lib.hid (Fr.trans F2.out (Fr.mono u3 (fun _ _ h => h.elim)) (fun _ _ e => e))
          clear u3
          have c1 := S3.out.c1
          have f1 := S3.out.fr 1
          obtain ⟨m, hm'⟩ : ∃ m, m = j + 1 := ⟨_, rfl⟩
          have hw : (j : Int) + 1 = (m : Int) := by omega
          have Hm := Lib.hid hm'
          clear hm'
          go_wp2_with fail
          have S4 := Lib.hid (S3.out.setAt m (by have := Hm.out; omega) (by have := Hm.out; omega))
          have F4 := Lib.hid (F3.out.setCell (p := ⟨p, 1, none⟩) (fun _ => rfl) (.int .i64 m))
          generalize w3.setCell ⟨p, 1, none⟩ (.int .i64 m) = w4 at S4 F4 ⊢
          clear c1 f1
          have c1 := S4.out.c1
          have c2 := S4.out.c2
          have c3 := S4.out.c3
          have f2 := S4.out.fr 2
          have f3 := S4.out.fr 3
          have lnb := S4.out.ln
          obtain ⟨l2, hl2⟩ : ∃ l2, l2 = lj + 1 := ⟨_, rfl⟩
          have hw2 : (lj : Int) + 1 = (l2 : Int) := by omega
          have hw3 : IntKind.i64.wrap (l2 : Int) = (l2 : Int) := IntWalk.i64_in _ (by have := Hm.out; omega)
          have Hl := Lib.hid hl2
          clear hl2
          have N1 := Lib.hid (S4.out.line2 l2 (by have := Hl.out; have := Hm.out; have := hm.out.sc.ln; omega))
          have N2 := Lib.hid (S4.out.line2' l2 (by have := Hl.out; have := Hm.out; have := hm.out.sc.ln; omega))
          have St := Lib.hid (show step (stOf T j lj fj out) = .inl (stOf T m l2 m out) by rw [Hm.out, Hl.out]; exact step_line (by rw [C.out, h10]) hE)
          have M1 : posOf (((w4.setCell ⟨p, 2, none⟩ (.int .i64 l2)).setCell ⟨p, 3, none⟩ (.int .i64 m)).drew) p = m := N1.out.1.pos
          have M2 : posOf (((w4.setCell ⟨p, 3, none⟩ (.int .i64 m)).setCell ⟨p, 2, none⟩ (.int .i64 l2)).drew) p = m := N2.out.1.pos
          have M0 := Lib.hid M1
          have M3 := Lib.hid M2
          clear M1 M2
          go_region
          all_goals go_wp2_with fail
          all_goals go_roundw
          all_goals first
            | exact ⟨m, l2, m, Lib.hid (hm.out.go N1.out.1 (F4.out.trans N1.out.2 (fun _ _ e => e)) (by have := Hm.out; omega) St.out)⟩
            | exact ⟨m, l2, m, Lib.hid (hm.out.go N2.out.1 (F4.out.trans N2.out.2 (fun _ _ e => e)) (by have := Hm.out; omega) St.out)⟩
            | (rw [M0.out, Ps.out]; have := Hm.out; omega)
            | (rw [M3.out, Ps.out]; have := Hm.out; omega)
        · have St := Lib.hid (show Stop (T.drop j) out from fun b r hb => by
            rw [drop_at C.out, List.cons.injEq] at hb
            obtain ⟨rfl, rfl⟩ := hb
            subst h10
            refine ⟨fun _ => hE, by decide, by decide, by decide, ?_⟩
            rw [drop_at C.out]; rfl)
          have np : ([47, 47] : List UInt8).isPrefixOf (T.drop j) = false := by rw [drop_at C.out, h10]; rfl
          have E1 : (bs T).extract j T.length = bs (T.drop j) := by rw [← hsz]; exact bs_from T j
          go_wp2_with fail
          refine (lacksSemi_any S2.out).mono ?_
          rintro e w3 ⟨rfl, u3⟩
          rw [hE]
          have S3 := Lib.hid (S2.out.up u3)
          have F3 := Lib.hid (Fr.trans F2.out (Fr.mono u3 (fun _ _ h => h.elim)) (fun _ _ e => e))
          clear u3
          have c0 := S3.out.c0
          have c1 := S3.out.c1
          have hj0 : (j : Int) ≤ (bs T).size := by omega
          have q2 : ((c.toNat : Int) == 32) = false := by subst h10; rfl
          have q3 : ((c.toNat : Int) == 9) = false := by subst h10; rfl
          have q4 : ((c.toNat : Int) == 13) = false := by subst h10; rfl
          have HP := Lib.hid (show ∀ w, Calls Tryd.prog 37 #[.string (bs (T.drop j)), .string (bs [47, 47])] w fun e w' => e = .returned (.bool false) ∧ w = w' from fun w => by rw [← np]; exact hasPrefix_any _ _)
          clear np
          go_wp2_with fail
          go_quiet ((first | (go_at_call 37; exact quietS (HP.out _))))
          go_wp2_with fail
          refine bodyPost_ret (v := .tuple #[]) ?_ ?_ ?_
          · kernel_rfl
          · rfl
          exact ⟨rfl, j, lj, fj, ⟨S3.out.drewN nq, Fr.drewN (Fr.trans hm.out.fr F3.out (fun _ _ e => e)) _, hm.out.le, hm.out.lex⟩, St.out⟩
      · have hn10 : c.toNat ≠ 10 := fun e => h10 (UInt8.toNat_inj.1 (by rw [e]; rfl))
        have q1 : ((c.toNat : Int) == 10) = false := beqF hn10
        clear hn10
        have c0 := S2.out.c0
        have c1 := S2.out.c1
        have f1 := S2.out.fr 1
        by_cases hb : c = 32 ∨ c = 9 ∨ c = 13
        · obtain ⟨m, hm'⟩ : ∃ m, m = j + 1 := ⟨_, rfl⟩
          have hw : (j : Int) + 1 = (m : Int) := by omega
          have St := Lib.hid (show step (stOf T j lj fj out) = .inl (stOf T m lj fj out) by rw [hm']; exact step_blank C.out hm.out.sc.fk hb)
          have Hm := Lib.hid hm'
          have S4 := Lib.hid (S2.out.setAt m (by omega) (by omega))
          have F4 := Lib.hid (F2.out.setCell (p := ⟨p, 1, none⟩) (fun _ => rfl) (.int .i64 m))
          clear hm'
          have q2 : ((c.toNat : Int) == 32) = decide (c = 32) := beqU c 32
          have q3 : ((c.toNat : Int) == 9) = decide (c = 9) := beqU c 9
          have q4 : ((c.toNat : Int) == 13) = decide (c = 13) := beqU c 13
          rcases hb with rfl | rfl | rfl
          all_goals go_wp2_with fail
          all_goals generalize w2.setCell ⟨p, 1, none⟩ (.int .i64 m) = w4 at S4 F4 ⊢
          all_goals go_roundw
          all_goals first
            | exact ⟨m, lj, fj, Lib.hid (hm.out.go S4.out F4.out (by have := Hm.out; omega) St.out)⟩
            | (rw [S4.out.pos, Ps.out]; have := Hm.out; omega)
        · have q2 : ((c.toNat : Int) == 32) = false := by rw [show ((c.toNat : Int) == 32) = decide (c = 32) from beqU c 32]; exact dec_not (fun h => hb (.inl h))
          have q3 : ((c.toNat : Int) == 9) = false := by rw [show ((c.toNat : Int) == 9) = decide (c = 9) from beqU c 9]; exact dec_not (fun h => hb (.inr (.inl h)))
          have q4 : ((c.toNat : Int) == 13) = false := by rw [show ((c.toNat : Int) == 13) = decide (c = 13) from beqU c 13]; exact dec_not (fun h => hb (.inr (.inr h)))
          have E1 : (bs T).extract j T.length = bs (T.drop j) := by rw [← hsz]; exact bs_from T j
          have hj0 : (j : Int) ≤ (bs T).size := by omega
          have Hb := Lib.hid hb
          have H10 := Lib.hid h10
          clear hb h10
          cases hp : ([47, 47] : List UInt8).isPrefixOf (T.drop j)
          · have St := Lib.hid (show Stop (T.drop j) out from fun b r hd => by
              have hpp := hp
              rw [drop_at C.out, List.cons.injEq] at hd
              obtain ⟨rfl, rfl⟩ := hd
              exact ⟨fun e => absurd e H10.out, fun e => Hb.out (.inl e), fun e => Hb.out (.inr (.inl e)), fun e => Hb.out (.inr (.inr e)), hpp⟩)
            have HP := Lib.hid (show ∀ w, Calls Tryd.prog 37 #[.string (bs (T.drop j)), .string (bs [47, 47])] w fun e w' => e = .returned (.bool false) ∧ w = w' from fun w => by rw [← hp]; exact hasPrefix_any _ _)
            clear hp
            go_wp2_with fail
            go_quiet ((first | (go_at_call 37; exact quietS (HP.out _))))
            go_wp2_with fail
            refine bodyPost_ret (v := .tuple #[]) ?_ ?_ ?_
            · kernel_rfl
            · rfl
            exact ⟨rfl, j, lj, fj, ⟨S2.out.drewN _, Fr.drewN (Fr.trans hm.out.fr F2.out (fun _ _ e => e)) _, hm.out.le, hm.out.lex⟩, St.out⟩
          · have St := Lib.hid (step_comment (line := lj) (out := out) hm.out.sc.fk hp)
            have Hl := Lib.hid (show 0 < ((T.drop j).takeWhile (fun c => c ≠ 10)).length by
              rw [drop_at C.out, List.takeWhile_cons, if_pos (by simpa using H10.out)]
              simp)
            have HP := Lib.hid (show ∀ w, Calls Tryd.prog 37 #[.string (bs (T.drop j)), .string (bs [47, 47])] w fun e w' => e = .returned (.bool true) ∧ w = w' from fun w => by rw [← hp]; exact hasPrefix_any _ _)
            clear hp
            go_wp2_with fail
            go_quiet ((first | (go_at_call 37; exact quietS (HP.out _))))
            go_wp2_with fail
            refine (skipComment_any (S2.out.drewN _)).mono ?_
            rintro e w3 ⟨rfl, s3, f3⟩
            have S3 := Lib.hid s3
            have F3 := Lib.hid (Fr.trans (F2.out.drewN _) f3 (fun _ _ e => e))
            clear s3 f3
            obtain ⟨m, hm'⟩ : ∃ m, m = j + ((T.drop j).takeWhile (fun c => c ≠ 10)).length := ⟨_, rfl⟩
            rw [← hm'] at S3 St
            have Hm := Lib.hid hm'
            clear hm'
            go_wp2_with fail
            go_roundw
            case rel => exact ⟨m, lj, fj, Lib.hid (hm.out.go S3.out F3.out (by have := Hl.out; have := Hm.out; omega) St.out)⟩
            case measure => rw [S3.out.pos, Ps.out]; have := Hl.out; have := Hm.out; have := S3.out.kT; omega
    · have d1 : decide ((j : Int) < (T.length : Int)) = false := dec_not (by omega)
      have d0 : ¬ ((j : Int) < ((bs T).size : Int)) := by omega
      have St := Lib.hid (show Stop (T.drop j) out from fun b r hd => by rw [List.drop_eq_nil_of_le (by omega)] at hd; cases hd)
      go_wp2_with fail
      go_quiet (fail)
      go_wp2_with fail
      refine bodyPost_end (v := .tuple #[]) (by kernel_rfl) rfl ?_
      exact ⟨rfl, j, lj, fj, ⟨hm.out.sc.drewN _, hm.out.fr.drewN _, hm.out.le, hm.out.lex⟩, St.out⟩
end Go.Proofs.YtemmdbjcllcelaaDoor.Tk
