/-
  Package token: texts in quotes.
-/
import Derived.Test.YtemmdbjcllcelaaDoorTnG
import Derived.Lib.SlBytesRow
import Derived.Lib.BufferRead
import Derived.Laws.StructEq
namespace Go.Proofs.YtemmdbjcllcelaaDoor.Tk
open Go.RowKit
set_option maxRecDepth 100000

theorem fr_grown {w w' : World} {row : Option Nat} (h : w.grownBy w' row) : Fr (fun b => row = some b) w w' := (Fr.refl _ w).grown h (fun _ hb _ => hb)
theorem info_u8 : ∃ i, Tryd.prog.info? 5 = some i ∧ i.zero = some (.int .u8 0) ∧ i.size = 1 ∧ i.bytes = 1 := by
  cases h : Tryd.prog.info? 5 with
  | none =>
    have h2 : (Tryd.prog.info? 5).isSome = true := by kernel_rfl
    rw [h] at h2; cases h2
  | some i =>
    have e : (Tryd.prog.info? 5).map (fun i => (i.zero, i.size, i.bytes)) = some (some (.int .u8 0), 1, 1) := by kernel_rfl
    rw [h] at e
    simp only [Option.map_some, Option.some.injEq, Prod.mk.injEq] at e
    exact ⟨i, rfl, e.1, e.2.1, e.2.2⟩

def cellsB (l : List UInt8) : List Value := l.map (fun c => .int .u8 c.toNat)
theorem den_len {l : List UInt8} {c : UInt8} {n : Nat} (h : denoted l = some (c, n)) : 1 ≤ n ∧ n ≤ l.length := by
  match l, h with
  | [], h => simp [denoted] at h
  | [b], h =>
    simp only [denoted] at h
    split at h
    · cases h
    split at h
    · cases h; simp
    · cases h
  | b :: d :: l, h =>
    simp only [denoted] at h
    split at h
    · cases h
    split at h
    · cases h; simp
    split at h
    · cases h; simp
    split at h
    · cases h; simp
    split at h
    · cases h; simp
    · cases h

/-- In the midst of a text: f is what fuel is left. -/
structure QuoInv (w wr : World) (B p : Nat) (T : List UInt8) (k line first : Nat) (v : Value) (out : List Tok) (q j : Nat) (A : Option Addr) (n c : Nat) (acc : List UInt8) (f : Nat) : Prop where
  sc : Sc wr B p T j line first v out
  res : Res_ w wr p q
  row : wr.ownsRow w.heap.size 5 1 (.slice A n c) n (cellsB acc)
  nl : acc.length = n
  qn : (Value.slice A n c).ownBlock ≠ some q
  le : k < j
  an : n ≤ j
  fuel : T.length - j < f
  go : txtGo (T.drop k).length (T.drop (k + 1)) [] 1 = txtGo f (T.drop j) acc (j - k)

def quoG (T : List UInt8) (k : Nat) : Got := match txtGo (T.drop k).length (T.drop (k + 1)) [] 1 with
  | none => .err 11
  | some (t, n) => .tok 5 t 0 n

theorem txtGo_step {f : Nat} {l r acc : List UInt8} {k : Nat} {b : UInt8} (hl : l = b :: r) : txtGo (f + 1) l acc k = if b = 34 then (if 2000 < acc.length then none else some (acc, k + 1)) else match denoted l with
      | none => none
      | some (c, n) => txtGo f (l.drop n) (acc ++ [c]) (k + n) := by
  subst hl; rfl

theorem QuoInv.up {w wr w' : World} {B p : Nat} {T : List UInt8} {k line first : Nat} {v : Value} {out : List Tok} {q j : Nat} {A : Option Addr} {n c : Nat} {acc : List UInt8} {f : Nat} (h : QuoInv w wr B p T k line first v out q j A n c acc f)
    (u : Up wr w') : QuoInv w w' B p T k line first v out q j A n c acc f :=
  ⟨h.sc.up u, ⟨Fr.trans h.res.fr u (fun _ _ e => e.elim), h.res.q0, (u.block q (heap_lt h.res.blk) (fun e => e)).trans h.res.blk⟩, u.owns h.row (fun _ _ e => e), h.nl, h.qn, h.le, h.an, h.fuel, h.go⟩

/-- One byte told more. -/
theorem QuoInv.app {w wr : World} {B p : Nat} {T : List UInt8} {k line first : Nat} {v : Value} {out : List Tok} {q j : Nat} {A : Option Addr} {n c : Nat} {acc : List UInt8} {f : Nat} (h : QuoInv w wr B p T k line first v out q j A n c acc f)
    (h0 : Sc w B p T k line first v out) (b : UInt8) :
    ∃ g cap w', (Builtin.append_ #[40, 40] 40 #[.slice A n c, .slice (some ⟨wr.heap.size, 0, none⟩) 1 1]).run Tryd.prog (wr.alloc (.cells #[.int .u8 b.toNat] 5)) = .ok (.slice (some ⟨g, 0, none⟩) (n + 1) cap) w' ∧
      w'.ownsRow w.heap.size 5 1 (.slice (some ⟨g, 0, none⟩) (n + 1) cap) (n + 1) (cellsB (acc ++ [b])) ∧ Sc w' B p T j line first v out ∧ Res_ w w' p q ∧ g ≠ q ∧ g ≠ p := by
  obtain ⟨i, hi, hz, hz1, hz2⟩ := info_u8
  have hj := h.sc.kT
  have hb := h.sc.big
  have han := h.an
  obtain ⟨g, cap, w', h1, h2, h3, h4⟩ := run_append_one (P := Tryd.prog) wr w.heap.size 40 40 5 i _ 1 Tryd.underlying40 hi hz hz1 hz2 rfl (.slice A n c) n (cellsB acc) h.row (.int .u8 b.toNat) rfl (by unfold maxLen; omega) (by omega) h.res.fr.size
  have hg := h.row.lt
  have f := fr_grown h3
  have hp := h0.lt
  have hpr := h.sc.lt
  have hqr := heap_lt h.res.blk
  refine ⟨g, cap, w', h1, by rw [cellsB, List.map_append]; exact h2, ?_, ?_, ?_, ?_⟩
  · exact h.sc.kept f (fun e => by have := (hg p e).1; omega) (fun b' hb' e => by have := (h0.own.lt b' hb').2; have := (hg b' e).1; omega)
  · exact ⟨Fr.trans h.res.fr f (fun i hi e => by have := (hg i e).1; omega), h.res.q0, (f.block q hqr (fun e => h.qn e)).trans h.res.blk⟩
  · rcases h4 with h4 | h4
    · rintro rfl; exact h.qn h4
    · omega
  · rcases h4 with h4 | h4
    · have := (hg g h4).1; omega
    · omega

/-- What was told, as a text. -/
theorem quo_conv {w w0 : World} {n c : Nat} {A : Option Addr} {acc : List UInt8} (h : w.ownsRow (w0.heap.size) 5 1 (.slice A n c) n (cellsB acc)) (hn : acc.length = n) :
    (convert 40 9 (.slice A n c)).run Tryd.prog w = .ok (.string (bs acc)) w := by
  rcases h.2 with ⟨he, h0⟩ | ⟨g, cap, cur, he, hb, hgg, hnc, hcm, hcs, htk⟩
  · simp only [Value.slice.injEq] at he
    obtain ⟨rfl, rfl, rfl⟩ := he
    have : acc = [] := List.eq_nil_of_length_eq_zero hn
    subst this
    exact Lib.run_convert_nil_bytes w _ _ 5 0 Tryd.underlying40 Tryd.underlying5 Tryd.underlying9
  · simp only [Value.slice.injEq] at he
    obtain ⟨rfl, _, rfl⟩ := he
    have hs : (bs acc).size = n := by rw [bs_size, hn]
    have := Lib.run_convert_whole (P := Tryd.prog) w 40 5 9 Tryd.underlying40 Tryd.underlying5 Tryd.underlying9 g 0 (bs acc) (fun i hi => by
      have e := h.cells (g := g) rfl i (.int .u8 ((bs acc)[i]).toNat) (by
        rw [bs_get acc i hi, cellsB, List.getElem?_map, List.getElem?_eq_getElem (by rw [bs_size] at hi; exact hi)]; rfl)
      rw [Go.WideShapes.add_plain] at e
      exact e) c
    rw [hs] at this
    exact this

set_option maxRecDepth 100000 in
set_option maxHeartbeats 4000000 in
theorem quoted_any {w : World} {B p : Nat} {T : List UInt8} {k line first : Nat} {v : Value} {out : List Tok} (h : Sc w B p T k line first v out) (hk : T[k]? = some 34) :
    Calls Tryd.prog 46 #[.pointer (some ⟨p, 0, none⟩)] w (ReadDone w B p T k line first v out (quoG T k)) := by
  have hT := h.big
  have hkl := (List.getElem?_eq_some_iff.1 hk).1
  have hsz := bs_size T
  obtain ⟨G, hG⟩ : ∃ G, G = quoG T k := ⟨_, rfl⟩
  rw [← hG]
  have HG := Lib.hid hG
  have H := Lib.hid h
  have K := Lib.hid hk
  have S1 := Lib.hid (h.up ((Fr.refl (fun _ => False) w).alloc zeroTok))
  have R1 := Lib.hid (Res_.start (w := w) (p := p))
  clear h hG hk
  go_enter Tryd.func46, Tryd.ntmps46
  go_wp2_with fail
  refine (pass_any S1.out 1 (by omega)).mono ?_
  rintro e w2 ⟨rfl, s2, f2⟩
  have V0 := Lib.hid (show QuoInv w w2 B p T k line first v out w.heap.size (k + 1) none 0 0 [] (T.drop k).length from
    ⟨s2, R1.out.go H.out.lt f2, World.ownsRow_nil _ _ _ _, rfl, by simp [Value.ownBlock], Nat.lt_succ_self k, Nat.zero_le _, by rw [List.length_drop]; omega, by rw [Nat.add_sub_cancel_left]⟩)
  clear s2 f2 S1 R1
  generalize w.heap.size = q at V0 ⊢
  go_wp2_with fail
  go_loopw [4] (fun i wr => ∃ (j : Nat) (A : Option Addr) (n c : Nat) (acc : List UInt8) (f : Nat), i = .slice A n c ∧ Hid (QuoInv w wr B p T k line first v out q j A n c acc f)) (fun _ wr => T.length - posOf wr p)
  case atStart => exact ⟨k + 1, none, 0, 0, [], _, rfl, V0⟩
  case round =>
    obtain ⟨j, A, n, c, acc, f, rfl, hm⟩ := hrel
    obtain ⟨wo, rfl⟩ : ∃ wo : World, wo = wr := ⟨_, rfl⟩
    have c0 := hm.out.sc.c0
    have c1 := hm.out.sc.c1
    have hjT := hm.out.sc.kT
    have hnj := hm.out.an
    have Ps := Lib.hid hm.out.sc.pos
    by_cases hlt : j < T.length
    · obtain ⟨b, hb⟩ : ∃ b, T[j]? = some b := ⟨_, List.getElem?_eq_getElem hlt⟩
      have hjs : j < (bs T).size := by rw [hsz]; exact hlt
      have gj := get_bs hjs hb
      have C := Lib.hid hb
      clear hb
      have d1 : decide ((j : Int) < (T.length : Int)) = true := dec_of (by omega)
      have d0 : ((j : Int) < ((bs T).size : Int)) := by omega
      by_cases h34 : b = 34
      · have q1 : ((b.toNat : Int) == 34) = true := by subst h34; rfl
        have q2 : ((b.toNat : Int) != 34) = false := by subst h34; rfl
        go_wp2_with fail
        go_quiet (fail)
        go_wp2_with fail
        have M1 := Lib.hid (hm.out.up (Fr.drewN (Fr.refl _ _) nq))
        generalize wo.drewN nq = w2 at M1 ⊢
        clear c0 c1
        have c0 := M1.out.sc.c0
        have c1 := M1.out.sc.c1
        have e0 : ((j : Int) == (T.length : Int)) = false := by simp; omega
        by_cases h2k : 2000 < n
        · have a1 : ((n : Int) > 2000) := by omega
          have d2 : decide ((n : Int) > 2000) = true := dec_of a1
          have d3 : decide ((2000 : Int) < (n : Int)) = true := dec_of (by omega)
          have e : G = .err 11 := by
            rw [HG.out, quoG, hm.out.go]
            cases f with
            | zero => have := hm.out.fuel; omega
            | succ f => rw [txtGo_step (drop_at C.out), if_pos h34, if_pos (by rw [hm.out.nl]; exact h2k)]
          subst e
          clear HG h34
          go_quiet (fail)
          have M2 := Lib.hid (M1.out.up (Fr.drewN (Fr.refl _ _) nq))
          generalize w2.drewN nq = w3 at M2 ⊢
          clear c0 c1 gj hjs d0 d1 hsz
          have R1 := Lib.hid M2.out.res
          have S1 := Lib.hid M2.out.sc
          obtain ⟨r0, r1, r2, r3, r4⟩ := R1.out.cells
          have z0 := R1.out.frz 0
          have z1 := R1.out.frz 1
          have z2 := R1.out.frz 2
          have z3 := R1.out.frz 3
          have z4 := R1.out.frz 4
          go_wp2_with fail
          obtain ⟨s2, f2, b2⟩ := R1.out.set H.out S1.out (.int .i64 0) (.string (bs [])) (.int .i64 0) (.int .i64 0) (.int .i64 0)
          exact bodyPost_ret (res_tok (c := 2) (t := 3) (by kernel_rfl) rfl rfl b2 rfl) rfl ⟨rfl, f2⟩
        · have a1 : ¬ ((n : Int) > 2000) := by omega
          have d2 : decide ((n : Int) > 2000) = false := dec_not a1
          have d3 : decide ((2000 : Int) < (n : Int)) = false := dec_not (by omega)
          have e : G = .tok 5 acc 0 (j - k + 1) := by
            rw [HG.out, quoG, hm.out.go]
            cases f with
            | zero => have := hm.out.fuel; omega
            | succ f => rw [txtGo_step (drop_at C.out), if_pos h34, if_neg (by rw [hm.out.nl]; exact h2k)]
          subst e
          clear HG h34
          go_quiet (fail)
          have M2 := Lib.hid (M1.out.up (Fr.drewN (Fr.refl _ _) nq))
          generalize w2.drewN nq = w3 at M2 ⊢
          clear c0 c1 gj hjs d0 d1 hsz
          go_wp2_with fail
          refine (pass_any M2.out.sc 1 hlt).mono ?_
          rintro e w4 ⟨rfl, s4, f4⟩
          have R1 := Lib.hid (Res_.go M2.out.res H.out.lt f4)
          have S1 := Lib.hid s4
          have CV := (quo_conv (w := w4) (w0 := w) (f4.owns M2.out.row (fun g hg e => by have := (M2.out.row.lt g hg).1; have := H.out.lt; omega)) M2.out.nl)
          clear s4 f4
          obtain ⟨r0, r1, r2, r3, r4⟩ := R1.out.cells
          have z0 := R1.out.frz 0
          have z1 := R1.out.frz 1
          have z2 := R1.out.frz 2
          have z3 := R1.out.frz 3
          have z4 := R1.out.frz 4
          go_wp2_with fail
          obtain ⟨s2, f2, b2⟩ := R1.out.set H.out S1.out (.int .i64 5) (.string (bs acc)) (.int .i64 0) (.int .i64 0) (.int .i64 0)
          exact bodyPost_ret (res_tok (c := 2) (t := 3) (by kernel_rfl) rfl rfl b2 rfl) rfl ⟨rfl, by rw [show k + (j - k + 1) = j + 1 by have := hm.out.le; omega]; exact s2, f2⟩
      · have q1 : ((b.toNat : Int) == 34) = false := by rw [show ((b.toNat : Int) == 34) = decide (b = 34) from beqU b 34]; exact dec_not h34
        have q2 : ((b.toNat : Int) != 34) = true := by rw [bne, q1]; rfl
        have E1 : (bs T).extract j T.length = bs (b :: T.drop (j + 1)) := by rw [← hsz, bs_from, drop_at C.out]
        have hj0 : (j : Int) ≤ (bs T).size := by omega
        have DN := Lib.hid (show ∀ w, Calls Tryd.prog 69 #[.string (bs (b :: T.drop (j + 1)))] w fun e w' => e = .returned (denV (b :: T.drop (j + 1))) ∧ w = w' from fun w => denoted_any b _ (by simp; omega))
        have H34 := Lib.hid h34
        have D0 : denV (b :: T.drop (j + 1)) = denV (T.drop j) := by rw [drop_at C.out]
        cases hd : denoted (T.drop j) with
        | none =>
          have hv : denV (b :: T.drop (j + 1)) = .tuple #[.int .u8 0, .int .i64 0] := by rw [D0, denV, hd]
          have e : G = .err 11 := by
            rw [HG.out, quoG, hm.out.go]
            cases f with
            | zero => have := hm.out.fuel; omega
            | succ f => rw [txtGo_step (drop_at C.out), if_neg H34.out, hd]
          subst e
          rw [hv] at DN
          clear D0 hv h34 HG hd
          go_wp2_with fail
          go_quiet (fail)
          have S1 := Lib.hid (hm.out.sc.drewN nq)
          have R1 := Lib.hid (show Res_ w (wo.drewN nq) p q from ⟨hm.out.res.fr.drewN _, hm.out.res.q0, hm.out.res.blk⟩)
          generalize wo.drewN nq = w2 at S1 R1 ⊢
          clear c0 c1
          have c0 := S1.out.c0
          have c1 := S1.out.c1
          go_wp2_with fail
          go_quiet ((first | (go_at_call 69; exact quietS (DN.out _))))
          have S1 := Lib.hid (S1.out.drewN nq)
          have R1 := Lib.hid (show Res_ w (w2.drewN nq) p q from ⟨R1.out.fr.drewN _, R1.out.q0, R1.out.blk⟩)
          generalize w2.drewN nq = w3 at S1 R1 ⊢
          clear c0 c1 gj hjs d0 d1 hsz
          obtain ⟨r0, r1, r2, r3, r4⟩ := R1.out.cells
          have z0 := R1.out.frz 0
          have z1 := R1.out.frz 1
          have z2 := R1.out.frz 2
          have z3 := R1.out.frz 3
          have z4 := R1.out.frz 4
          go_wp2_with fail
          obtain ⟨s2, f2, b2⟩ := R1.out.set H.out S1.out (.int .i64 0) (.string (bs [])) (.int .i64 0) (.int .i64 0) (.int .i64 0)
          exact bodyPost_ret (res_tok (c := 2) (t := 3) (by kernel_rfl) rfl rfl b2 rfl) rfl ⟨rfl, f2⟩
        | some cn =>
          obtain ⟨c', n'⟩ := cn
          obtain ⟨hn1, hn2⟩ := den_len hd
          rw [List.length_drop] at hn2
          have hv : denV (b :: T.drop (j + 1)) = .tuple #[.int .u8 c'.toNat, .int .i64 n'] := by rw [D0, denV, hd]
          have Ho := Lib.hid (show ∃ f', f = f' + 1 ∧ txtGo f (T.drop j) acc (j - k) = txtGo f' (T.drop (j + n')) (acc ++ [c']) (j - k + n') by
            cases f with
            | zero => have := hm.out.fuel; omega
            | succ f => exact ⟨f, rfl, by
              rw [txtGo_step (drop_at C.out), if_neg H34.out, hd]
              show txtGo f (List.drop n' (List.drop j T)) _ _ = _
              rw [List.drop_drop]⟩)
          rw [hv] at DN
          have e0 : ((n' : Int) == 0) = false := by simp; omega
          clear D0 hv h34 hd
          go_wp2_with fail
          go_quiet (fail)
          have M1 := Lib.hid (hm.out.up (Fr.drewN (Fr.refl _ _) nq))
          generalize wo.drewN nq = w2 at M1 ⊢
          clear c0 c1
          have c0 := M1.out.sc.c0
          have c1 := M1.out.sc.c1
          go_wp2_with fail
          go_quiet ((first | (go_at_call 69; exact quietS (DN.out _))))
          have M2 := Lib.hid (M1.out.up (Fr.drewN (Fr.refl _ _) nq))
          generalize w2.drewN nq = w3 at M2 ⊢
          clear c0 c1
          have c0 := M2.out.sc.c0
          have c1 := M2.out.sc.c1
          clear c0 c1 gj hjs d0 d1 hsz E1 hj0
          obtain ⟨g, cap, w4, h1, h2, h3, h4, h5, h6⟩ := M2.out.app H.out c'
          have HA := Lib.hid h1
          have AP := Lib.hid (And.intro h2 (And.intro h3 (And.intro h4 (And.intro h5 h6))))
          clear h1 h2 h3 h4 h5 h6
          go_wp2_with (at_builtin; refine Lib.wpList_append_run _ rfl (.tmp 47) (.tmp 49) 40 40 rfl _ _ rfl rfl _ _ HA.out ?_)
          refine (pass_any AP.out.2.1 n' (by omega)).mono ?_
          rintro e w5 ⟨rfl, s5, f5⟩
          have N := Lib.hid (show ∃ f', QuoInv w w5 B p T k line first v out q (j + n') (some ⟨g, 0, none⟩) (n + 1) cap (acc ++ [c']) f' from by
            obtain ⟨f', hf, hgo⟩ := Ho.out
            exact ⟨f', s5, Res_.go AP.out.2.2.1 H.out.lt f5, f5.owns AP.out.1 (fun g' hg e => AP.out.2.2.2.2 (by simp [Value.ownBlock] at hg; omega)), by rw [List.length_append, hm.out.nl]; rfl,
              by simp [Value.ownBlock]; exact AP.out.2.2.2.1, by have := hm.out.le; omega, by have := hm.out.an; omega, by have := hm.out.fuel; omega, by
                rw [hm.out.go, hgo, show j + n' - k = j - k + n' by have := hm.out.le; omega]⟩)
          clear s5 f5
          obtain ⟨f', N⟩ := N.out
          have N := Lib.hid N
          obtain ⟨m, hm'⟩ : ∃ m, m = j + n' := ⟨_, rfl⟩
          rw [← hm'] at N
          have Hm := Lib.hid hm'
          clear hm'
          go_wp2_with fail
          go_roundw
          case rel => exact ⟨m, some ⟨g, 0, none⟩, n + 1, cap, acc ++ [c'], f', rfl, N⟩
          case measure => rw [N.out.sc.pos, Ps.out]; have := Hm.out; omega
    · have d1 : decide ((j : Int) < (T.length : Int)) = false := dec_not (by omega)
      have d0 : ¬ ((j : Int) < ((bs T).size : Int)) := by omega
      have e0 : ((j : Int) == (T.length : Int)) = true := by simp; omega
      have e : G = .err 11 := by
        rw [HG.out, quoG, hm.out.go, List.drop_eq_nil_of_le (by omega)]
        cases f <;> rfl
      subst e
      clear HG
      go_wp2_with fail
      go_quiet (fail)
      have M1 := Lib.hid (hm.out.up (Fr.drewN (Fr.refl _ _) nq))
      generalize wo.drewN nq = w2 at M1 ⊢
      clear c0 c1
      have c0 := M1.out.sc.c0
      have c1 := M1.out.sc.c1
      go_wp2_with fail
      go_quiet (fail)
      have M2 := Lib.hid (M1.out.up (Fr.drewN (Fr.refl _ _) nq))
      generalize w2.drewN nq = w3 at M2 ⊢
      clear c0 c1 d0 d1 hsz
      have R1 := Lib.hid M2.out.res
      have S1 := Lib.hid M2.out.sc
      obtain ⟨r0, r1, r2, r3, r4⟩ := R1.out.cells
      have z0 := R1.out.frz 0
      have z1 := R1.out.frz 1
      have z2 := R1.out.frz 2
      have z3 := R1.out.frz 3
      have z4 := R1.out.frz 4
      go_wp2_with fail
      obtain ⟨s2, f2, b2⟩ := R1.out.set H.out S1.out (.int .i64 0) (.string (bs [])) (.int .i64 0) (.int .i64 0) (.int .i64 0)
      exact bodyPost_ret (res_tok (c := 2) (t := 3) (by kernel_rfl) rfl rfl b2 rfl) rfl ⟨rfl, f2⟩
end Go.Proofs.YtemmdbjcllcelaaDoor.Tk
