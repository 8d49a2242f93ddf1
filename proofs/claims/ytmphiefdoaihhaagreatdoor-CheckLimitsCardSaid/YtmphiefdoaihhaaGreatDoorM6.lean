/-
  Package token: texts in quotes.
-/
import Derived.Test.YtmphiefdoaihhaaGreatDoorM5
import Derived.Lib.SlBytesRow
import Derived.Lib.BufferRead
import Derived.Laws.StructEq
import Derived.Shelf.Abstract
namespace Go.Proofs.YtmphiefdoaihhaaGreatDoor.Tk
open Go.RowKit
set_option maxRecDepth 100000

theorem fr_grown {w w' : World} {row : Option Nat} (h : w.grownBy w' row) : Fr (fun b => row = some b) w w' := (Fr.refl _ w).grown h (fun _ hb _ => hb)
theorem info_u8 : ∃ i, Tryz.prog.info? 5 = some i ∧ i.zero = some (.int .u8 0) ∧ i.size = 1 ∧ i.bytes = 1 := by
  cases h : Tryz.prog.info? 5 with
  | none =>
    have h2 : (Tryz.prog.info? 5).isSome = true := by kernel_rfl
    rw [h] at h2; cases h2
  | some i =>
    have e : (Tryz.prog.info? 5).map (fun i => (i.zero, i.size, i.bytes)) = some (some (.int .u8 0), 1, 1) := by kernel_rfl
    rw [h] at e
    simp only [Option.map_some, Option.some.injEq, Prod.mk.injEq] at e
    exact ⟨i, rfl, e.1, e.2.1, e.2.2⟩

def cellsB (l : List UInt8) : List Value := l.map (fun c => .int .u8 c.toNat)
theorem den_len {l : List UInt8} {c : UInt8} {n : Nat} (h : denoted l = some (c, n)) : 1 ≤ n ∧ n ≤ l.length := by
  match l, h with
  | [], h => simp [denoted] at h
  | [b], h =>
    simp only [denoted] at h
    split at h
    · cases h
    split at h
    · cases h; simp
    · cases h
  | b :: d :: l, h =>
    simp only [denoted] at h
    split at h
    · cases h
    split at h
    · cases h; simp
    split at h
    · cases h; simp
    split at h
    · cases h; simp
    split at h
    · cases h; simp
    · cases h

/-- In the midst of a text: f is what fuel is left. -/
structure QuoInv (w wr : World) (B p : Nat) (T : List UInt8) (k line first : Nat) (v : Value) (out : List Tok) (q j : Nat) (A : Option Addr) (n c : Nat) (acc : List UInt8) (f : Nat) : Prop where
  sc : Sc wr B p T j line first v out
  res : Res_ w wr p q
  row : wr.ownsRow w.heap.size 5 1 (.slice A n c) n (cellsB acc)
  nl : acc.length = n
  qn : (Value.slice A n c).ownBlock ≠ some q
  le : k < j
  an : n ≤ j
  fuel : T.length - j < f
  go : txtGo (T.drop k).length (T.drop (k + 1)) [] 1 = txtGo f (T.drop j) acc (j - k)

def quoG (T : List UInt8) (k : Nat) : Got := match txtGo (T.drop k).length (T.drop (k + 1)) [] 1 with
  | none => .err 11
  | some (t, n) => .tok 5 t 0 n

theorem txtGo_step {f : Nat} {l r acc : List UInt8} {k : Nat} {b : UInt8} (hl : l = b :: r) : txtGo (f + 1) l acc k = if b = 34 then (if 2000 < acc.length then none else some (acc, k + 1)) else match denoted l with
      | none => none
      | some (c, n) => txtGo f (l.drop n) (acc ++ [c]) (k + n) := by
  subst hl; rfl

theorem QuoInv.up {w wr w' : World} {B p : Nat} {T : List UInt8} {k line first : Nat} {v : Value} {out : List Tok} {q j : Nat} {A : Option Addr} {n c : Nat} {acc : List UInt8} {f : Nat} (h : QuoInv w wr B p T k line first v out q j A n c acc f)
    (u : Up wr w') : QuoInv w w' B p T k line first v out q j A n c acc f :=
  ⟨h.sc.up u, ⟨Fr.trans h.res.fr u (fun _ _ e => e.elim), h.res.q0, (u.block q (heap_lt h.res.blk) (fun e => e)).trans h.res.blk⟩, u.owns h.row (fun _ _ e => e), h.nl, h.qn, h.le, h.an, h.fuel, h.go⟩

/-- One byte told more. -/
theorem QuoInv.app {w wr : World} {B p : Nat} {T : List UInt8} {k line first : Nat} {v : Value} {out : List Tok} {q j : Nat} {A : Option Addr} {n c : Nat} {acc : List UInt8} {f : Nat} (h : QuoInv w wr B p T k line first v out q j A n c acc f)
    (h0 : Sc w B p T k line first v out) (b : UInt8) :
    ∃ g cap w', (Builtin.append_ #[36, 36] 36 #[.slice A n c, .slice (some ⟨wr.heap.size, 0, none⟩) 1 1]).run Tryz.prog (wr.alloc (.cells #[.int .u8 b.toNat] 5)) = .ok (.slice (some ⟨g, 0, none⟩) (n + 1) cap) w' ∧
      w'.ownsRow w.heap.size 5 1 (.slice (some ⟨g, 0, none⟩) (n + 1) cap) (n + 1) (cellsB (acc ++ [b])) ∧ Sc w' B p T j line first v out ∧ Res_ w w' p q ∧ g ≠ q ∧ g ≠ p := by
  obtain ⟨i, hi, hz, hz1, hz2⟩ := info_u8
  have hj := h.sc.kT
  have hb := h.sc.big
  have han := h.an
  obtain ⟨g, cap, w', h1, h2, h3, h4⟩ := run_append_one (P := Tryz.prog) wr w.heap.size 36 36 5 i _ 1 Tryz.underlying36 hi hz hz1 hz2 rfl (.slice A n c) n (cellsB acc) h.row (.int .u8 b.toNat) rfl (by unfold maxLen; omega) (by omega) h.res.fr.size
  have hg := h.row.lt
  have f := fr_grown h3
  have hp := h0.lt
  have hpr := h.sc.lt
  have hqr := heap_lt h.res.blk
  refine ⟨g, cap, w', h1, by rw [cellsB, List.map_append]; exact h2, ?_, ?_, ?_, ?_⟩
  · exact h.sc.kept f (fun e => by have := (hg p e).1; omega) (fun b' hb' e => by have := (h0.own.lt b' hb').2; have := (hg b' e).1; omega)
  · exact ⟨Fr.trans h.res.fr f (fun i hi e => by have := (hg i e).1; omega), h.res.q0, (f.block q hqr (fun e => h.qn e)).trans h.res.blk⟩
  · rcases h4 with h4 | h4
    · rintro rfl; exact h.qn h4
    · omega
  · rcases h4 with h4 | h4
    · have := (hg g h4).1; omega
    · omega

/-- What was told, as a text. -/
theorem quo_conv {w w0 : World} {n c : Nat} {A : Option Addr} {acc : List UInt8} (h : w.ownsRow (w0.heap.size) 5 1 (.slice A n c) n (cellsB acc)) (hn : acc.length = n) :
    (convert 36 9 (.slice A n c)).run Tryz.prog w = .ok (.string (bs acc)) w := by
  rcases h.2 with ⟨he, h0⟩ | ⟨g, cap, cur, he, hb, hgg, hnc, hcm, hcs, htk⟩
  · simp only [Value.slice.injEq] at he
    obtain ⟨rfl, rfl, rfl⟩ := he
    have : acc = [] := List.eq_nil_of_length_eq_zero hn
    subst this
    exact Lib.run_convert_nil_bytes w _ _ 5 0 Tryz.underlying36 Tryz.underlying5 Tryz.underlying9
  · simp only [Value.slice.injEq] at he
    obtain ⟨rfl, _, rfl⟩ := he
    have hs : (bs acc).size = n := by rw [bs_size, hn]
    have := Lib.run_convert_whole (P := Tryz.prog) w 36 5 9 Tryz.underlying36 Tryz.underlying5 Tryz.underlying9 g 0 (bs acc) (fun i hi => by
      have e := h.cells (g := g) rfl i (.int .u8 ((bs acc)[i]).toNat) (by
        rw [bs_get acc i hi, cellsB, List.getElem?_map, List.getElem?_eq_getElem (by rw [bs_size] at hi; exact hi)]; rfl)
      rw [Go.WideShapes.add_plain] at e
      exact e) c
    rw [hs] at this
    exact this

set_option maxRecDepth 100000 in
set_option maxHeartbeats 4000000 in
theorem quoted_any {w : World} {B p : Nat} {T : List UInt8} {k line first : Nat} {v : Value} {out : List Tok} (h : Sc w B p T k line first v out) (hk : T[k]? = some 34) :
    Calls Tryz.prog 65 #[.pointer (some ⟨p, 0, none⟩)] w (ReadDone w B p T k line first v out (quoG T k)) := by
  have hT := h.big
  have hkl := (List.getElem?_eq_some_iff.1 hk).1
  have hsz := bs_size T
  obtain ⟨G, hG⟩ : ∃ G, G = quoG T k := ⟨_, rfl⟩
  rw [← hG]
  have HG := Lib.hid hG
  have H := Lib.hid h
  have K := Lib.hid hk
  have S1 := Lib.hid (h.up ((Fr.refl (fun _ => False) w).alloc zeroTok))
  have R1 := Lib.hid (Res_.start (w := w) (p := p))
  clear h hG hk
  go_enter Tryz.func65, Tryz.ntmps65
  go_wp2_with fail
  refine (pass_any S1.out 1 (by omega)).mono ?_
  rintro e w2 ⟨rfl, s2, f2⟩
  have V0 := Lib.hid (show QuoInv w w2 B p T k line first v out w.heap.size (k + 1) none 0 0 [] (T.drop k).length from
    ⟨s2, R1.out.go H.out.lt f2, World.ownsRow_nil _ _ _ _, rfl, by simp [Value.ownBlock], Nat.lt_succ_self k, Nat.zero_le _, by rw [List.length_drop]; omega, by rw [Nat.add_sub_cancel_left]⟩)
  clear s2 f2 S1 R1
  generalize w.heap.size = q at V0 ⊢
  go_wp2_with fail
  go_loopw [4] (fun i wr => ∃ (j : Nat) (A : Option Addr) (n c : Nat) (acc : List UInt8) (f : Nat), i = .slice A n c ∧ Hid (QuoInv w wr B p T k line first v out q j A n c acc f)) (fun _ wr => T.length - posOf wr p)
  case atStart => exact ⟨k + 1, none, 0, 0, [], _, rfl, V0⟩
  case round =>
    obtain ⟨j, A, n, c, acc, f, rfl, hm⟩ := hrel
    obtain ⟨wo, rfl⟩ : ∃ wo : World, wo = wr := ⟨_, rfl⟩
    have c0 := hm.out.sc.c0
    have c1 := hm.out.sc.c1
    have hjT := hm.out.sc.kT
    have hnj := hm.out.an
    have Ps := Lib.hid hm.out.sc.pos
    by_cases hlt : j < T.length
    · obtain ⟨b, hb⟩ : ∃ b, T[j]? = some b := ⟨_, List.getElem?_eq_getElem hlt⟩
      have hjs : j < (bs T).size := by rw [hsz]; exact hlt
      have gj := get_bs hjs hb
      have C := Lib.hid hb
      clear hb
      have d1 : decide ((j : Int) < (T.length : Int)) = true := dec_of (by omega)
      have d0 : ((j : Int) < ((bs T).size : Int)) := by omega
      by_cases h34 : b = 34
      · have q1 : ((b.toNat : Int) == 34) = true := by subst h34; rfl
        have q2 : ((b.toNat : Int) != 34) = false := by subst h34; rfl
        go_wp2_with fail
        go_quiet (fail)
        go_wp2_with fail
        have M1 := Lib.hid (hm.out.up (Fr.drewN (Fr.refl _ _) nq))
        generalize wo.drewN nq = w2 at M1 ⊢
        clear c0 c1
        have c0 := M1.out.sc.c0
        have c1 := M1.out.sc.c1
        have e0 : ((j : Int) == (T.length : Int)) = false := by simp; omega
        by_cases h2k : 2000 < n
        · have a1 : ((n : Int) > 2000) := by omega
          have d2 : decide ((n : Int) > 2000) = true := dec_of a1
          have d3 : decide ((2000 : Int) < (n : Int)) = true := dec_of (by omega)
          have e : G = .err 11 := by
            rw [HG.out, quoG, hm.out.go]
            cases f with
            | zero => have := hm.out.fuel; omega
            | succ f => rw [txtGo_step (drop_at C.out), if_pos h34, if_pos (by rw [hm.out.nl]; exact h2k)]
          subst e
          clear HG h34
          go_quiet (fail)
          have M2 := Lib.hid (M1.out.up (Fr.drewN (Fr.refl _ _) nq))
          generalize w2.drewN nq = w3 at M2 ⊢
          clear c0 c1 gj hjs d0 d1 hsz
          have R1 := Lib.hid M2.out.res
          have S1 := Lib.hid M2.out.sc
          obtain ⟨r0, r1, r2, r3, r4⟩ := R1.out.cells
          have z0 := R1.out.frz 0
          have z1 := R1.out.frz 1
          have z2 := R1.out.frz 2
          have z3 := R1.out.frz 3
          have z4 := R1.out.frz 4
          go_wp2_with fail
          obtain ⟨s2, f2, b2⟩ := R1.out.set H.out S1.out (.int .i64 0) (.string (bs [])) (.int .i64 0) (.int .i64 0) (.int .i64 0)
          exact bodyPost_ret (res_tok (c := 2) (t := 3) (by kernel_rfl) rfl rfl b2 rfl) rfl ⟨rfl, f2⟩
        · have a1 : ¬ ((n : Int) > 2000) := by omega
          have d2 : decide ((n : Int) > 2000) = false := dec_not a1
          have d3 : decide ((2000 : Int) < (n : Int)) = false := dec_not (by omega)
          have e : G = .tok 5 acc 0 (j - k + 1) := by
            rw [HG.out, quoG, hm.out.go]
            cases f with
            | zero => have := hm.out.fuel; omega
            | succ f => rw [txtGo_step (drop_at C.out), if_pos h34, if_neg (by rw [hm.out.nl]; exact h2k)]
          subst e
          clear HG h34
          go_quiet (fail)
          have M2 := Lib.hid (M1.out.up (Fr.drewN (Fr.refl _ _) nq))
          generalize w2.drewN nq = w3 at M2 ⊢
          clear c0 c1 gj hjs d0 d1 hsz
          go_wp2_with fail
          refine (pass_any M2.out.sc 1 hlt).mono ?_
          rintro e w4 ⟨rfl, s4, f4⟩
          have R1 := Lib.hid (Res_.go M2.out.res H.out.lt f4)
          have S1 := Lib.hid s4
          have CV := (quo_conv (w := w4) (w0 := w) (f4.owns M2.out.row (fun g hg e => by have := (M2.out.row.lt g hg).1; have := H.out.lt; omega)) M2.out.nl)
          clear s4 f4
          obtain ⟨r0, r1, r2, r3, r4⟩ := R1.out.cells
          have z0 := R1.out.frz 0
          have z1 := R1.out.frz 1
          have z2 := R1.out.frz 2
          have z3 := R1.out.frz 3
          have z4 := R1.out.frz 4
          go_wp2_with fail
          obtain ⟨s2, f2, b2⟩ := R1.out.set H.out S1.out (.int .i64 5) (.string (bs acc)) (.int .i64 0) (.int .i64 0) (.int .i64 0)
          exact bodyPost_ret (res_tok (c := 2) (t := 3) (by kernel_rfl) rfl rfl b2 rfl) rfl ⟨rfl, by rw [show k + (j - k + 1) = j + 1 by have := hm.out.le; omega]; exact s2, f2⟩
      · have q1 : ((b.toNat : Int) == 34) = false := by rw [show ((b.toNat : Int) == 34) = decide (b = 34) from beqU b 34]; exact dec_not h34
        have q2 : ((b.toNat : Int) != 34) = true := by rw [bne, q1]; rfl
        have E1 : (bs T).extract j T.length = bs (b :: T.drop (j + 1)) := by rw [← hsz, bs_from, drop_at C.out]
        have hj0 : (j : Int) ≤ (bs T).size := by omega
        have DN := Lib.hid (show ∀ w, Calls Tryz.prog 93 #[.string (bs (b :: T.drop (j + 1)))] w fun e w' => e = .returned (denV (b :: T.drop (j + 1))) ∧ w = w' from fun w => denoted_any b _ (by simp; omega))
        have H34 := Lib.hid h34
        have D0 : denV (b :: T.drop (j + 1)) = denV (T.drop j) := by rw [drop_at C.out]
        cases hd : denoted (T.drop j) with
        | none =>
          have hv : denV (b :: T.drop (j + 1)) = .tuple #[.int .u8 0, .int .i64 0] := by rw [D0, denV, hd]
          have e : G = .err 11 := by
            rw [HG.out, quoG, hm.out.go]
            cases f with
            | zero => have := hm.out.fuel; omega
            | succ f => rw [txtGo_step (drop_at C.out), if_neg H34.out, hd]
          subst e
          rw [hv] at DN
          clear D0 hv h34 HG hd
          go_wp2_with fail
          go_quiet (fail)
          have S1 := Lib.hid (hm.out.sc.drewN nq)
          have R1 := Lib.hid (show Res_ w (wo.drewN nq) p q from ⟨hm.out.res.fr.drewN _, hm.out.res.q0, hm.out.res.blk⟩)
          generalize wo.drewN nq = w2 at S1 R1 ⊢
          clear c0 c1
          have c0 := S1.out.c0
          have c1 := S1.out.c1
          go_wp2_with fail
          go_quiet ((first | (go_at_call 93; exact quietS (DN.out _))))
          have S1 := Lib.hid (S1.out.drewN nq)
          have R1 := Lib.hid (show Res_ w (w2.drewN nq) p q from ⟨R1.out.fr.drewN _, R1.out.q0, R1.out.blk⟩)
          generalize w2.drewN nq = w3 at S1 R1 ⊢
          clear c0 c1 gj hjs d0 d1 hsz
          obtain ⟨r0, r1, r2, r3, r4⟩ := R1.out.cells
          have z0 := R1.out.frz 0
          have z1 := R1.out.frz 1
          have z2 := R1.out.frz 2
          have z3 := R1.out.frz 3
          have z4 := R1.out.frz 4
          go_wp2_with fail
          obtain ⟨s2, f2, b2⟩ := R1.out.set H.out S1.out (.int .i64 0) (.string (bs [])) (.int .i64 0) (.int .i64 0) (.int .i64 0)
          exact bodyPost_ret (res_tok (c := 2) (t := 3) (by kernel_rfl) rfl rfl b2 rfl) rfl ⟨rfl, f2⟩
        | some cn =>
          obtain ⟨c', n'⟩ := cn
          obtain ⟨hn1, hn2⟩ := den_len hd
          rw [List.length_drop] at hn2
          have hv : denV (b :: T.drop (j + 1)) = .tuple #[.int .u8 c'.toNat, .int .i64 n'] := by rw [D0, denV, hd]
          have Ho := Lib.hid (show ∃ f', f = f' + 1 ∧ txtGo f (T.drop j) acc (j - k) = txtGo f' (T.drop (j + n')) (acc ++ [c']) (j - k + n') by
            cases f with
            | zero => have := hm.out.fuel; omega
            | succ f => exact ⟨f, rfl, by
              rw [txtGo_step (drop_at C.out), if_neg H34.out, hd]
              show txtGo f (List.drop n' (List.drop j T)) _ _ = _
              rw [List.drop_drop]⟩)
          rw [hv] at DN
          have e0 : ((n' : Int) == 0) = false := by simp; omega
          clear D0 hv h34 hd
          go_wp2_with fail
          go_quiet (fail)
          have M1 := Lib.hid (hm.out.up (Fr.drewN (Fr.refl _ _) nq))
          generalize wo.drewN nq = w2 at M1 ⊢
          clear c0 c1
          have c0 := M1.out.sc.c0
          have c1 := M1.out.sc.c1
          go_wp2_with fail
          go_quiet ((first | (go_at_call 93; exact quietS (DN.out _))))
          have M2 := Lib.hid (M1.out.up (Fr.drewN (Fr.refl _ _) nq))
          generalize w2.drewN nq = w3 at M2 ⊢
          clear c0 c1
          have c0 := M2.out.sc.c0
          have c1 := M2.out.sc.c1
          clear c0 c1 gj hjs d0 d1 hsz E1 hj0
          obtain ⟨g, cap, w4, h1, h2, h3, h4, h5, h6⟩ := M2.out.app H.out c'
          have HA := Lib.hid h1
          have AP := Lib.hid (And.intro h2 (And.intro h3 (And.intro h4 (And.intro h5 h6))))
          clear h1 h2 h3 h4 h5 h6
          go_wp2_with (at_builtin; refine Lib.wpList_append_run _ rfl (.tmp 47) (.tmp 49) 36 36 rfl _ _ rfl rfl _ _ HA.out ?_)
          refine (pass_any AP.out.2.1 n' (by omega)).mono ?_
          rintro e w5 ⟨rfl, s5, f5⟩
          have N := Lib.hid (show ∃ f', QuoInv w w5 B p T k line first v out q (j + n') (some ⟨g, 0, none⟩) (n + 1) cap (acc ++ [c']) f' from by
            obtain ⟨f', hf, hgo⟩ := Ho.out
            exact ⟨f', s5, Res_.go AP.out.2.2.1 H.out.lt f5, f5.owns AP.out.1 (fun g' hg e => AP.out.2.2.2.2 (by simp [Value.ownBlock] at hg; omega)), by rw [List.length_append, hm.out.nl]; rfl,
              by simp [Value.ownBlock]; exact AP.out.2.2.2.1, by have := hm.out.le; omega, by have := hm.out.an; omega, by have := hm.out.fuel; omega, by
                rw [hm.out.go, hgo, show j + n' - k = j - k + n' by have := hm.out.le; omega]⟩)
          clear s5 f5
          obtain ⟨f', N⟩ := N.out
          have N := Lib.hid N
          obtain ⟨m, hm'⟩ : ∃ m, m = j + n' := ⟨_, rfl⟩
          rw [← hm'] at N
          have Hm := Lib.hid hm'
          clear hm'
          go_wp2_with fail
          go_roundw
          case rel => exact ⟨m, some ⟨g, 0, none⟩, n + 1, cap, acc ++ [c'], f', rfl, N⟩
          case measure => rw [N.out.sc.pos, Ps.out]; have := Hm.out; omega
    · have d1 : decide ((j : Int) < (T.length : Int)) = false := dec_not (by omega)
      have d0 : ¬ ((j : Int) < ((bs T).size : Int)) := by omega
      have e0 : ((j : Int) == (T.length : Int)) = true := by simp; omega
      have e : G = .err 11 := by
        rw [HG.out, quoG, hm.out.go, List.drop_eq_nil_of_le (by omega)]
        cases f <;> rfl
      subst e
      clear HG
      go_wp2_with fail
      go_quiet (fail)
      have M1 := Lib.hid (hm.out.up (Fr.drewN (Fr.refl _ _) nq))
      generalize wo.drewN nq = w2 at M1 ⊢
      clear c0 c1
      have c0 := M1.out.sc.c0
      have c1 := M1.out.sc.c1
      go_wp2_with fail
      go_quiet (fail)
      have M2 := Lib.hid (M1.out.up (Fr.drewN (Fr.refl _ _) nq))
      generalize w2.drewN nq = w3 at M2 ⊢
      clear c0 c1 d0 d1 hsz
      have R1 := Lib.hid M2.out.res
      have S1 := Lib.hid M2.out.sc
      obtain ⟨r0, r1, r2, r3, r4⟩ := R1.out.cells
      have z0 := R1.out.frz 0
      have z1 := R1.out.frz 1
      have z2 := R1.out.frz 2
      have z3 := R1.out.frz 3
      have z4 := R1.out.frz 4
      go_wp2_with fail
      obtain ⟨s2, f2, b2⟩ := R1.out.set H.out S1.out (.int .i64 0) (.string (bs [])) (.int .i64 0) (.int .i64 0) (.int .i64 0)
      exact bodyPost_ret (res_tok (c := 2) (t := 3) (by kernel_rfl) rfl rfl b2 rfl) rfl ⟨rfl, f2⟩
end Go.Proofs.YtmphiefdoaihhaaGreatDoor.Tk

/-
  Package token: choose, and what the chosen reader reads.
-/
namespace Go.Proofs.YtmphiefdoaihhaaGreatDoor.Tk
open Go.RowKit
set_option maxRecDepth 100000

/-- The reader of what stands at the next byte. -/
def readerOf (l : List UInt8) (out : List Tok) : Nat := match l with
  | [] => if lastEnds out then 59 else 89
  | b :: _ => if b = 10 then 59 else if b = 59 then 60 else if letter b.toNat then 62
    else if digit b.toNat then 64 else if b = 34 then 65 else 66

/-- What it reads. -/
def gotOf (l : List UInt8) (out : List Tok) : Got := match l with
  | [] => if lastEnds out then .tok 1 [59] 0 0 else .tok 0 [] 0 0
  | b :: _ => if b = 10 then .tok 1 [59] 0 0 else one l

theorem ReadDone.zero {w w' : World} {B p : Nat} {T : List UInt8} {k line first : Nat} {v : Value} {out : List Tok} {kind : Nat} {text : List UInt8} {e : Ending} (h : Sc w B p T k line first v out) (u : Up w w')
    (he : e = .returned (.tuple #[tokV kind text 0, .int .i64 0])) : ReadDone w B p T k line first v out (.tok kind text 0 0) e w' :=
  ⟨he, by rw [Nat.add_zero]; exact h.up u, Fr.mono u (fun _ _ h => h.elim)⟩

theorem reader_any {w : World} {B p : Nat} {T : List UInt8} {k line first : Nat} {v : Value} {out : List Tok} (h : Sc w B p T k line first v out) (L : Laid w) (hB : 1 + 0 + 1 ≤ B) :
    Calls Tryz.prog (readerOf (T.drop k) out) #[.pointer (some ⟨p, 0, none⟩)] w (ReadDone w B p T k line first v out (gotOf (T.drop k) out)) := by
  by_cases hk : k < T.length
  · obtain ⟨b, hb⟩ : ∃ b, T[k]? = some b := ⟨_, List.getElem?_eq_getElem hk⟩
    have hd := drop_at hb
    by_cases h10 : b = 10
    · have e1 : readerOf (T.drop k) out = 59 := by rw [hd]; simp [readerOf, h10]
      have e2 : gotOf (T.drop k) out = .tok 1 [59] 0 0 := by rw [hd]; simp [gotOf, h10]
      rw [e1, e2]
      exact (inserted_any p).mono fun e w' ⟨he, u⟩ => ReadDone.zero h u he
    have g0 : gotOf (T.drop k) out = one (T.drop k) := by rw [hd]; simp [gotOf, h10]
    rw [g0]
    by_cases h59 : b = 59
    · have e1 : readerOf (T.drop k) out = 60 := by rw [hd]; simp [readerOf, h59]
      have e2 : one (T.drop k) = .tok 1 [59] 0 1 := by rw [hd]; simp [one, h59]
      rw [e1, e2]
      exact semi_any h (by rw [hb, h59])
    by_cases hl : letter b.toNat = true
    · have e1 : readerOf (T.drop k) out = 62 := by rw [hd]; simp [readerOf, h10, h59, hl]
      rw [e1]
      exact name_any h L hB hb hl
    by_cases hg : digit b.toNat = true
    · have e1 : readerOf (T.drop k) out = 64 := by rw [hd]; simp [readerOf, h10, h59, hl, hg]
      have e2 : one (T.drop k) = numG T k := by
        rw [numG]
        generalize hll : T.drop k = l at *
        subst hd
        simp only [one, if_neg h59, if_neg hl, if_pos hg]
        rfl
      rw [e1, e2]
      exact number_any h
    by_cases h34 : b = 34
    · have e1 : readerOf (T.drop k) out = 65 := by rw [hd, h34]; rfl
      have e2 : one (T.drop k) = quoG T k := by
        rw [quoG]
        generalize T.drop (k + 1) = r at *
        generalize hll : T.drop k = l at *
        subst hd
        simp only [one, if_neg h59, if_neg hl, if_neg hg, if_pos h34]
        rfl
      rw [e1, e2]
      exact quoted_any h (by rw [hb, h34])
    · have e1 : readerOf (T.drop k) out = 66 := by rw [hd]; simp [readerOf, h10, h59, hl, hg, h34]
      have e2 : one (T.drop k) = (match signsL.find? (fun g => g.isPrefixOf (T.drop k)) with
          | none => .err 10
          | some g => .tok 6 g 0 g.length) := by
        generalize hll : T.drop k = l at *
        subst hd
        simp only [one, if_neg h59, if_neg hl, if_neg hg, if_neg h34]
        rfl
      rw [e1, e2]
      exact sign_any h L
  · have hd : T.drop k = [] := List.drop_eq_nil_of_le (by omega)
    rw [hd]
    cases hE : lastEnds out
    · have e1 : readerOf [] out = 89 := by simp [readerOf, hE]
      have e2 : gotOf [] out = .tok 0 [] 0 0 := by simp [gotOf, hE]
      rw [e1, e2]
      exact (end_any p).mono fun e w' ⟨he, u⟩ => ReadDone.zero h u he
    · have e1 : readerOf [] out = 59 := by simp [readerOf, hE]
      have e2 : gotOf [] out = .tok 1 [59] 0 0 := by simp [gotOf, hE]
      rw [e1, e2]
      exact (inserted_any p).mono fun e w' ⟨he, u⟩ => ReadDone.zero h u he

set_option maxHeartbeats 1000000 in
theorem atEnd_any {w : World} {B p : Nat} {T : List UInt8} {k line first : Nat} {v : Value} {out : List Tok} (h : Sc w B p T k line first v out) :
    Calls Tryz.prog 58 #[.pointer (some ⟨p, 0, none⟩)] w fun e w' => e = .returned (.func (.func (readerOf [] out)) #[.pointer (some ⟨p, 0, none⟩)] #[]) ∧ Up w w' := by
  have H := Lib.hid h
  clear h
  obtain ⟨f, hf⟩ : ∃ f, f = readerOf [] out := ⟨_, rfl⟩
  rw [← hf]
  cases hE : lastEnds out
  · have e1 : f = 89 := by rw [hf]; simp [readerOf, hE]
    subst e1
    clear hf
    go_enter Tryz.func58, Tryz.ntmps58
    go_wp2_with fail
    refine (lacksSemi_any H.out).mono ?_
    rintro e w' ⟨rfl, u⟩
    rw [hE]
    have U := Lib.hid u
    clear u
    go_wp2_with fail
    go_ret
    exact ⟨rfl, U.out⟩
  · have e1 : f = 59 := by rw [hf]; simp [readerOf, hE]
    subst e1
    clear hf
    go_enter Tryz.func58, Tryz.ntmps58
    go_wp2_with fail
    refine (lacksSemi_any H.out).mono ?_
    rintro e w' ⟨rfl, u⟩
    rw [hE]
    have U := Lib.hid u
    clear u
    go_wp2_with fail
    go_ret
    exact ⟨rfl, U.out⟩

set_option maxRecDepth 100000 in
set_option maxHeartbeats 2000000 in
theorem choose_any {w : World} {B p : Nat} {T : List UInt8} {k line first : Nat} {v : Value} {out : List Tok} (h : Sc w B p T k line first v out) :
    Calls Tryz.prog 30 #[.pointer (some ⟨p, 0, none⟩)] w fun e w' => e = .returned (.func (.func (readerOf (T.drop k) out)) #[.pointer (some ⟨p, 0, none⟩)] #[]) ∧ Up w w' := by
  have hsz := bs_size T
  have c0 := h.c0
  have c1 := h.c1
  have hkT := h.kT
  have H := Lib.hid h
  clear h
  by_cases hk : k < T.length
  · obtain ⟨b, hb⟩ : ∃ b, T[k]? = some b := ⟨_, List.getElem?_eq_getElem hk⟩
    have hks : k < (bs T).size := by rw [hsz]; exact hk
    have gk := get_bs hks hb
    have hd := drop_at hb
    have e0 : ((k : Int) == (T.length : Int)) = false := by simp; omega
    have k10 : ((b.toNat : Int) == 10) = decide (b = 10) := beqU b 10
    have k59 : ((b.toNat : Int) == 59) = decide (b = 59) := beqU b 59
    have k34 : ((b.toNat : Int) == 34) = decide (b = 34) := beqU b 34
    have LE := Lib.hid (isLetter_any (w := w) b.toNat (UInt8.toNat_lt b))
    obtain ⟨f, hf⟩ : ∃ f, f = readerOf (T.drop k) out := ⟨_, rfl⟩
    rw [← hf]
    have HF := Lib.hid (show f = readerOf (b :: T.drop (k + 1)) out by rw [hf, hd])
    clear hf hd hb
    go_enter Tryz.func30, Tryz.ntmps30
    go_wp2_with fail
    go_quiet (fail)
    have U1 := Lib.hid (show Up w (w.drewN nq) from Fr.drewN (Fr.refl _ _) _)
    have H1 := Lib.hid (H.out.up U1.out)
    generalize w.drewN nq = w1 at U1 H1 ⊢
    clear c0 c1
    have c0 := H1.out.c0
    have c1 := H1.out.c1
    go_wp2_with fail
    go_quiet (fail)
    have U2 := Lib.hid (Fr.drewN U1.out nq)
    generalize w1.drewN nq = w2 at U2 ⊢
    clear c0 c1 H1 U1 gk hks hsz e0
    by_cases h10 : b = 10
    · rw [dec_of h10] at k10
      have e1 : f = 59 := by rw [HF.out]; simp [readerOf, h10]
      subst e1
      clear HF h10 k59 k34
      go_wp2_with fail
      go_ret
      exact ⟨rfl, U2.out⟩
    rw [dec_not h10] at k10
    by_cases h59 : b = 59
    · rw [dec_of h59] at k59
      have e1 : f = 60 := by rw [HF.out]; simp [readerOf, h59]
      subst e1
      clear HF h10 h59 k34
      go_wp2_with fail
      go_ret
      exact ⟨rfl, U2.out⟩
    rw [dec_not h59] at k59
    cases hl : letter b.toNat
    · cases hg : digit b.toNat
      · by_cases h34 : b = 34
        · rw [dec_of h34] at k34
          have e1 : f = 65 := by rw [HF.out, h34]; rfl
          subst e1
          clear HF h10 h59 h34
          go_wp2_with fail
          refine (isLetter_any b.toNat (UInt8.toNat_lt b)).mono ?_
          rintro e w' ⟨rfl, rfl⟩
          rw [hl]
          go_wp2_with fail
          refine (isDigit_any b.toNat (UInt8.toNat_lt b)).mono ?_
          rintro e w' ⟨rfl, rfl⟩
          rw [hg]
          go_wp2_with fail
          go_ret
          exact ⟨rfl, U2.out⟩
        · rw [dec_not h34] at k34
          have e1 : f = 66 := by rw [HF.out]; simp [readerOf, h10, h59, hl, hg, h34]
          subst e1
          clear HF h10 h59 h34
          go_wp2_with fail
          refine (isLetter_any b.toNat (UInt8.toNat_lt b)).mono ?_
          rintro e w' ⟨rfl, rfl⟩
          rw [hl]
          go_wp2_with fail
          refine (isDigit_any b.toNat (UInt8.toNat_lt b)).mono ?_
          rintro e w' ⟨rfl, rfl⟩
          rw [hg]
          go_wp2_with fail
          go_ret
          exact ⟨rfl, U2.out⟩
      · have e1 : f = 64 := by rw [HF.out]; simp [readerOf, h10, h59, hl, hg]
        subst e1
        clear HF h10 h59
        go_wp2_with fail
        refine (isLetter_any b.toNat (UInt8.toNat_lt b)).mono ?_
        rintro e w' ⟨rfl, rfl⟩
        rw [hl]
        go_wp2_with fail
        refine (isDigit_any b.toNat (UInt8.toNat_lt b)).mono ?_
        rintro e w' ⟨rfl, rfl⟩
        rw [hg]
        go_wp2_with fail
        go_ret
        exact ⟨rfl, U2.out⟩
    · have e1 : f = 62 := by rw [HF.out]; simp [readerOf, h10, h59, hl]
      subst e1
      clear HF h10 h59
      go_wp2_with fail
      refine (isLetter_any b.toNat (UInt8.toNat_lt b)).mono ?_
      rintro e w' ⟨rfl, rfl⟩
      rw [hl]
      go_wp2_with fail
      go_ret
      exact ⟨rfl, U2.out⟩
  · have hd : T.drop k = [] := List.drop_eq_nil_of_le (by omega)
    rw [hd]
    have e0 : ((k : Int) == (T.length : Int)) = true := by simp; omega
    go_enter Tryz.func30, Tryz.ntmps30
    go_wp2_with fail
    go_quiet (fail)
    go_wp2_with fail
    refine (atEnd_any (H.out.drewN _)).mono ?_
    rintro e w' ⟨rfl, u⟩
    have U := Lib.hid (Fr.trans (Fr.drewN (Fr.refl (fun _ => False) w) _) u (fun _ _ e => e))
    clear u
    go_wp2_with fail
    go_ret
    exact ⟨rfl, U.out⟩
end Go.Proofs.YtmphiefdoaihhaaGreatDoor.Tk

/-
  Package token: take.
-/
namespace Go.Proofs.YtmphiefdoaihhaaGreatDoor.Tk
open Go.RowKit
set_option maxRecDepth 100000

abbrev FrB (B : Nat) : World → World → Prop := Fr (fun b => B ≤ b)
theorem FrB.trans {B : Nat} {a b c : World} (h : FrB B a b) (k : FrB B b c) : FrB B a c := Fr.trans h k (fun _ _ e => e)
theorem FrB.of {B : Nat} {S : Nat → Prop} {a b : World} (h : Fr S a b) (hS : ∀ i, S i → B ≤ i) : FrB B a b := Fr.mono h (fun i _ e => hS i e)

theorem info_tok : ∃ i z, Tryz.prog.info? 45 = some i ∧ i.zero = some z ∧ i.size = 5 ∧ i.bytes = 48 ∧ z.cells.size = 5 := by
  cases h : Tryz.prog.info? 45 with
  | none =>
    have h2 : (Tryz.prog.info? 45).isSome = true := by kernel_rfl
    rw [h] at h2; cases h2
  | some i =>
    have e : (Tryz.prog.info? 45).map (fun i => (i.zero, i.size, i.bytes)) = some (some (.agg #[.int .i64 0, .string ⟨#[]⟩, .int .i64 0, .int .i64 0, .int .i64 0]), 5, 48) := by kernel_rfl
    rw [h] at e
    simp only [Option.map_some, Option.some.injEq, Prod.mk.injEq] at e
    exact ⟨i, _, rfl, e.1, e.2.1, e.2.2, rfl⟩

def tokA (kind : Nat) (text : List UInt8) (n line col : Nat) : Value := .agg #[.int .i64 kind, .string (bs text), .int .i64 n, .int .i64 line, .int .i64 col]

/-- What take answers. -/
abbrev FrV (p : Nat) (v : Value) : World → World → Prop := Fr (fun b => b = p ∨ v.ownBlock = some b)
def TakeDone (w : World) (B p : Nat) (T : List UInt8) (k line first : Nat) (v : Value) (out : List Tok) (g : Got) (e : Ending) (w' : World) : Prop := FrV p v w w' ∧ match g with
  | .err c => e = .returned (.tuple #[tokA 0 [] 0 line (k - first + 1), .int .i64 c])
  | .tok kind text n used => if out.length = 4000 then e = .returned (.tuple #[tokA 0 [] 0 line (k - first + 1), .int .i64 6])
    else e = .returned (.tuple #[tokA kind text n line (k - first + 1), .int .i64 0]) ∧ ∃ v', Sc w' B p T (k + used) line first v' (out ++ [⟨kind, text, n, line, k - first + 1⟩]) ∧ ∀ b, v'.ownBlock = some b → v.ownBlock = some b ∨ w.heap.size ≤ b

/-- The token is appended. -/
theorem take_app {w : World} {B p : Nat} {T : List UInt8} {k line first : Nat} {A : Option Addr} {c : Nat} {out : List Tok} (h : Sc w B p T k line first (.slice A out.length c) out) (t : Tok) (hn : out.length < 4000) :
    ∃ g cap w', (Builtin.append_ #[43, 43] 43 #[.slice A out.length c, .slice (some ⟨w.heap.size, 0, none⟩) 1 1]).run Tryz.prog (w.alloc (.cells #[.int .i64 t.kind, .string (bs t.text), .int .i64 t.n, .int .i64 t.line, .int .i64 t.col] 45)) = .ok (.slice (some ⟨g, 0, none⟩) (out.length + 1) cap) w' ∧
      Fr (fun b => (Value.slice A out.length c).ownBlock = some b) w w' ∧ ((Value.slice A out.length c).ownBlock = some g ∨ w.heap.size ≤ g) ∧
      Sc (w'.setCell ⟨p, 4, none⟩ (.slice (some ⟨g, 0, none⟩) (out.length + 1) cap)) B p T k line first (.slice (some ⟨g, 0, none⟩) (out.length + 1) cap) (out ++ [t]) := by
  obtain ⟨i, z, hi, hz, hz1, hz2, hz3⟩ := info_tok
  have hp := h.lt
  obtain ⟨g, cap, w', h1, h2, h3, h5⟩ := own_append (P := Tryz.prog) w B 43 43 45 i z 5 48 Tryz.underlying43 hi hz hz1 hz2 hz3 (by decide) h.own [t] [[.int .i64 t.kind, .string (bs t.text), .int .i64 t.n, .int .i64 t.line, .int .i64 t.col]]
    ⟨rfl, by simp, by intro j x cs hj hc; match j, hj, hc with | 0, hj, hc => simp at hj hc; subst hj hc; rfl⟩ #[.int .i64 t.kind, .string (bs t.text), .int .i64 t.n, .int .i64 t.line, .int .i64 t.col] rfl out.length 1 (out.length + 1) rfl rfl rfl (by decide)
    (by
      intro u hu
      simp at hu
      rcases hu with rfl | rfl | rfl | rfl | rfl <;> rfl) (by unfold maxLen; omega) (by omega) (by have := h.lo; omega) (fun _ => TokC) (fun _ _ _ _ _ h => h)
  have f1 := fr_grown h3
  have hlt := h.own.lt
  have hgp : g ≠ p := by
    rcases h5 with e | e
    · rintro rfl; exact h.ne e
    · omega
  have e4 : w'.heap[p]? = w.heap[p]? := f1.block p hp (fun e => h.ne e)
  refine ⟨g, cap, w', h1, f1, h5, ?_⟩
  refine ⟨by rw [blk_set (e4.trans h.obj) 4 _]; rfl, ?_, ?_, h.kT, h.fk, h.ln, h.big, by rw [List.length_append]; simp; omega, h.lo⟩
  · exact h2.kept (fr_set (p := p) 4 _) (fun b hb e => hgp (by simp [Value.ownBlock] at hb; omega)) (fun _ _ _ h => h)
  · simp [Value.ownBlock]; exact hgp

theorem cells5 {w : World} {q : Nat} {c0 c1 c2 c3 c4 : Value} {t : TypeId} (h : w.heap[q]? = some (.cells #[c0, c1, c2, c3, c4] t (0, 0))) :
    w.cell? ⟨q, 0, none⟩ = some c0 ∧ w.cell? ⟨q, 1, none⟩ = some c1 ∧ w.cell? ⟨q, 2, none⟩ = some c2 ∧ w.cell? ⟨q, 3, none⟩ = some c3 ∧ w.cell? ⟨q, 4, none⟩ = some c4 := by
  refine ⟨?_, ?_, ?_, ?_, ?_⟩ <;> (rw [cell_of_row _ _ _ _ _ _ h]; rfl)

set_option maxRecDepth 100000 in
set_option maxHeartbeats 4000000 in
theorem take_any {w : World} {B p : Nat} {T : List UInt8} {k line first : Nat} {v : Value} {out : List Tok} (h : Sc w B p T k line first v out) (f : Nat) (g : Got) (hE : ∀ (args : Array Value) (w : World), (callFunc f args).run Tryz.prog w = .ok (.enter f args) w) (hg : ∀ c, g = .err c → 0 < c)
    (hr : ∀ w1, Up w w1 → Calls Tryz.prog f #[.pointer (some ⟨p, 0, none⟩)] w1 (ReadDone w1 B p T k line first v out g)) :
    Calls Tryz.prog 29 #[.pointer (some ⟨p, 0, none⟩), .func (.func f) #[.pointer (some ⟨p, 0, none⟩)] #[]] w (TakeDone w B p T k line first v out g) := by
  obtain ⟨A, c, rfl, hp⟩ := h.own.reads.parts
  clear hp
  have c1 := h.c1
  have c2 := h.c2
  have c3 := h.c3
  unfold zeroTok at *
  have hT := h.big
  have hkT := h.kT
  have hf := h.fk
  have hl := h.ln
  have H := Lib.hid h
  have HR := Lib.hid hr
  have HG := Lib.hid hg
  clear h hr hg
  obtain ⟨a, ha⟩ : ∃ a, a = k - first := ⟨_, rfl⟩
  obtain ⟨col, hcol⟩ : ∃ col, col = a + 1 := ⟨_, rfl⟩
  have ha1 : (k : Int) - (first : Int) = (a : Int) := by omega
  have hc1 : (a : Int) + 1 = (col : Int) := by omega
  have hwa : IntKind.i64.wrap (a : Int) = (a : Int) := IntWalk.i64_in _ (by omega)
  have hwc : IntKind.i64.wrap (col : Int) = (col : Int) := IntWalk.i64_in _ (by omega)
  have HC := Lib.hid (show col = k - first + 1 by rw [hcol, ha])
  have S1 := Lib.hid (H.out.up ((Fr.refl (fun _ => False) w).alloc zeroTok))
  have R1 := Lib.hid (Res_.start (w := w) (p := p))
  have UB := Lib.hid (show ∀ i, i < w.heap.size → (w.alloc zeroTok).heap[i]? = w.heap[i]? from fun i hi => Below.heap_alloc w _ i hi)
  clear ha hcol
  go_enter Tryz.func29, Tryz.ntmps29
  go_wp2_with fail
  change Code.wp _ _ _ _ (w.alloc zeroTok)
  generalize w.alloc zeroTok = w1 at S1 R1 UB ⊢
  obtain ⟨r, hr⟩ : ∃ r, r = w.heap.size := ⟨_, rfl⟩
  rw [← hr] at R1 ⊢
  clear hr
  clear c1 c2 c3
  have c1 := S1.out.c1
  have c2 := S1.out.c2
  have c3 := S1.out.c3
  go_quiet (fail)
  have S2 := Lib.hid (S1.out.drewN nq)
  have R2 := Lib.hid (show Res_ w (w1.drewN nq) p r from ⟨R1.out.fr.drewN _, R1.out.q0, R1.out.blk⟩)
  have U2 := Lib.hid (show Up w (w1.drewN nq) from Fr.drewN (⟨R1.out.fr.os, R1.out.fr.tape, R1.out.fr.output, R1.out.fr.size, fun i hi _ => UB.out i hi⟩ : Up w w1) nq)
  generalize w1.drewN nq = w2 at S2 R2 U2 ⊢
  clear c1 c2 c3 S1 R1 UB ha1 hc1 hwa hwc
  go_wp2_with fail
  refine (HR.out w2 U2.out).mono ?_
  rintro e w3 hrd
  cases g with
  | err c' =>
    obtain ⟨rfl, f3⟩ := hrd
    have hc0 := HG.out c' rfl
    have e1 : ((c' : Int) == 0) = false := by simp; omega
    have e2 : ((c' : Int) != 0) = true := by rw [bne, e1]; rfl
    have R3 := R2.out.go H.out.lt f3
    have R4 := Lib.hid (show Res_ w (w3.alloc (.cells #[.int .i64 0, .string (bs []), .int .i64 0, .int .i64 0, .int .i64 0] 45)) p r from ⟨R3.fr.alloc _, R3.q0, (Below.heap_alloc _ _ _ (heap_lt R3.blk)).trans R3.blk⟩)
    obtain ⟨r0, r1, r2, r3, r4⟩ := R4.out.cells
    have z0 := R4.out.frz 0
    have z1 := R4.out.frz 1
    have z2 := R4.out.frz 2
    have z3 := R4.out.frz 3
    have z4 := R4.out.frz 4
    unfold tokV
    go_wp2_with fail
    have b5 := set5_blk (w' := w3.alloc (.cells #[.int .i64 0, .string (bs []), .int .i64 0, .int .i64 0, .int .i64 0] 45)) (q := r) R4.out.blk (.int .i64 0) (.string (bs [])) (.int .i64 0) (.int .i64 line) (.int .i64 col)
    have f5 : FrV p (.slice A out.length c) w (set5 (w3.alloc (.cells #[.int .i64 0, .string (bs []), .int .i64 0, .int .i64 0, .int .i64 0] 45)) r (.int .i64 0) (.string (bs [])) (.int .i64 0) (.int .i64 line) (.int .i64 col)) :=
      Fr.trans (Fr.mono R4.out.fr (T := fun b => b = p ∨ (Value.slice A out.length c).ownBlock = some b) (fun i _ e => .inl e)) (set5_fr _ _ _ _ _ _ _) (fun i hi e => by have := R4.out.q0; omega)
    exact bodyPost_ret (res_tok (c := 4) (t := 5) (by kernel_rfl) rfl rfl b5 rfl) rfl (show TakeDone w B p T k line first (.slice A out.length c) out (.err c') _ _ from ⟨f5, by rw [← HC.out]; rfl⟩)
  | tok kind text n used =>
    obtain ⟨rfl, s3, f3⟩ := hrd
    have R3 := R2.out.go H.out.lt f3
    have c4 := (s3.up ((Fr.refl (fun _ => False) w3).alloc (.cells #[.int .i64 kind, .string (bs text), .int .i64 n, .int .i64 0, .int .i64 0] 45))).c4
    have S4 := Lib.hid (s3.up ((Fr.refl (fun _ => False) w3).alloc (.cells #[.int .i64 kind, .string (bs text), .int .i64 n, .int .i64 0, .int .i64 0] 45)))
    have R4 := Lib.hid (show Res_ w (w3.alloc (.cells #[.int .i64 kind, .string (bs text), .int .i64 n, .int .i64 0, .int .i64 0] 45)) p r from ⟨R3.fr.alloc _, R3.q0, (Below.heap_alloc _ _ _ (heap_lt R3.blk)).trans R3.blk⟩)
    have Q4 := Lib.hid (heap_alloc_new w3 (.cells #[.int .i64 kind, .string (bs text), .int .i64 n, .int .i64 0, .int .i64 0] 45))
    have N5 := Lib.hid (show Sc (w3.alloc (.cells #[.int .i64 kind, .string (bs text), .int .i64 n, .int .i64 line, .int .i64 col] 45)) B p T (k + used) line first (.slice A out.length c) out ∧ Res_ w (w3.alloc (.cells #[.int .i64 kind, .string (bs text), .int .i64 n, .int .i64 line, .int .i64 col] 45)) p r from
      ⟨s3.up ((Fr.refl (fun _ => False) w3).alloc _), ⟨R3.fr.alloc _, R3.q0, (Below.heap_alloc _ _ _ (heap_lt R3.blk)).trans R3.blk⟩⟩)
    have W3 := Lib.hid (fun b hb => (s3.own.lt b hb).2)
    have W4 := Lib.hid (And.intro (heap_lt R3.blk) s3.lt)
    clear s3 f3 R3
    unfold tokV
    by_cases hfull : out.length = 4000
    · have e3 : ((out.length : Int) == 4000) = true := by rw [hfull]; rfl
      obtain ⟨r0, r1, r2, r3, r4⟩ := R4.out.cells
      have z0 := R4.out.frz 0
      have z1 := R4.out.frz 1
      have z2 := R4.out.frz 2
      have z3 := R4.out.frz 3
      have z4 := R4.out.frz 4
      go_wp2_with fail
      obtain ⟨s5, f5, b5⟩ := R4.out.set H.out S4.out (.int .i64 0) (.string (bs [])) (.int .i64 0) (.int .i64 line) (.int .i64 col)
      exact bodyPost_ret (res_tok (c := 4) (t := 5) (by kernel_rfl) rfl rfl b5 rfl) rfl (show TakeDone w B p T k line first (.slice A out.length c) out (.tok kind text n used) _ _ from ⟨Fr.mono f5 (fun i _ e => .inl e), by simp only [hfull, if_true]; rw [← HC.out]; rfl⟩)
    · have e3 : ((out.length : Int) == 4000) = false := by simp; omega
      have S5 := Lib.hid (N5.out.1)
      have R5 := Lib.hid (N5.out.2)
      go_wp2_with fail
      have Q5 := Lib.hid (heap_alloc_new w3 (.cells #[.int .i64 kind, .string (bs text), .int .i64 n, .int .i64 line, .int .i64 col] 45))
      obtain ⟨q, hq⟩ : ∃ q, q = w3.heap.size := ⟨_, rfl⟩
      have hq5 : q < (w3.alloc (.cells #[.int .i64 kind, .string (bs text), .int .i64 n, .int .i64 line, .int .i64 col] 45)).heap.size := by rw [hq]; simp
      have Ql := Lib.hid (show ∀ b, (Value.slice A out.length c).ownBlock = some b → b < q from fun b hb => by rw [hq]; exact W3.out b hb)
      have Qr := Lib.hid (show r < q ∧ p < q by rw [hq]; exact W4.out)
      rw [← hq] at Q5 ⊢
      clear hq R4 S4 Q4 c4
      generalize w3.alloc (.cells #[.int .i64 kind, .string (bs text), .int .i64 n, .int .i64 line, .int .i64 col] 45) = w4 at S5 R5 Q5 hq5 ⊢
      have S5 := Lib.hid (S5.out.up (Fr.drew (Fr.refl (fun _ => False) w4)))
      have R5 := Lib.hid (show Res_ w w4.drew p r from ⟨R5.out.fr.drew, R5.out.q0, R5.out.blk⟩)
      have Q5 := Lib.hid (show w4.drew.heap[q]? = some (.cells #[.int .i64 kind, .string (bs text), .int .i64 n, .int .i64 line, .int .i64 col] 45) from Q5.out)
      obtain ⟨g, cap, w', h1, f1, h5, s6⟩ := take_app S5.out ⟨kind, text, n, line, col⟩ (by have := S5.out.few; omega)
      have c4 := S5.out.c4
      have c4' : (w4.drew.alloc (.cells #[.int .i64 kind, .string (bs text), .int .i64 n, .int .i64 line, .int .i64 col] 45)).cell? ⟨p, 4, none⟩ = some (.slice A out.length c) := by
        rw [cell_of_row _ _ _ _ _ _ ((Below.heap_alloc w4.drew (.cells #[.int .i64 kind, .string (bs text), .int .i64 n, .int .i64 line, .int .i64 col] 45) p S5.out.lt).trans S5.out.obj)]; rfl
      have c4'' : (w4.alloc (.cells #[.int .i64 kind, .string (bs text), .int .i64 n, .int .i64 line, .int .i64 col] 45)).cell? ⟨p, 4, none⟩ = some (.slice A out.length c) := c4'
      have Ha := Lib.hid (cells5 Q5.out)
      have Hal := Lib.hid (cells5 ((Below.heap_alloc w4.drew (.cells #[.int .i64 kind, .string (bs text), .int .i64 n, .int .i64 line, .int .i64 col] 45) q hq5).trans Q5.out))
      have bq : w'.heap[q]? = some (.cells #[.int .i64 kind, .string (bs text), .int .i64 n, .int .i64 line, .int .i64 col] 45) := (f1.block q hq5 (fun e => by have := Ql.out q e; omega)).trans Q5.out
      have bp := (f1.block p S5.out.lt (fun e => S5.out.ne e)).trans S5.out.obj
      have k4 : w'.cell? ⟨p, 4, none⟩ = some (.slice A out.length c) := by rw [cell_of_row _ _ _ _ _ _ bp]; rfl
      have kf : w'.frozen? ⟨p, 4, none⟩ = false := frozen_of_row w' p 4 _ _ bp
      have Hb := Lib.hid (cells5 bq)
      have Hc := Lib.hid (cells5 ((heap_setCell_other w' ⟨p, 4, none⟩ q (.slice (some ⟨g, 0, none⟩) (out.length + 1) cap) (by have := Qr.out.2; simp; omega)).trans bq))
      have br : (w'.setCell ⟨p, 4, none⟩ (.slice (some ⟨g, 0, none⟩) (out.length + 1) cap)).heap[r]? = some zeroTok :=
        (heap_setCell_other w' ⟨p, 4, none⟩ r _ (by have := R5.out.q0; have := H.out.lt; simp; omega)).trans ((f1.block r (heap_lt R5.out.blk) (fun e => by have := (H.out.own.lt r e).2; have := R5.out.q0; omega)).trans R5.out.blk)
      have Br := Lib.hid br
      have Gr := Lib.hid (show g ≠ r from by
        rcases h5 with e | e
        · have := (H.out.own.lt g e).2; have := R5.out.q0; omega
        · have := heap_lt R5.out.blk; omega)
      have GO := Lib.hid (show ∀ b, (Value.slice (some ⟨g, 0, none⟩) (out.length + 1) cap).ownBlock = some b → (Value.slice A out.length c).ownBlock = some b ∨ w.heap.size ≤ b from fun b hb => by
        simp [Value.ownBlock] at hb
        subst hb
        rcases h5 with e | e
        · exact .inl e
        · exact .inr (Nat.le_trans R5.out.fr.size e))
      have F6 := Lib.hid (show FrV p (.slice A out.length c) w (w'.setCell ⟨p, 4, none⟩ (.slice (some ⟨g, 0, none⟩) (out.length + 1) cap)) from
        Fr.setCell (Fr.trans (Fr.mono R5.out.fr (T := fun b => b = p ∨ (Value.slice A out.length c).ownBlock = some b) (fun i _ e => .inl e)) f1 (fun i hi e => .inr e)) (fun _ => .inl rfl) _)
      clear br
      have RQ := Lib.hid R5.out.q0
      have HA := Lib.hid h1
      have S6 := Lib.hid s6
      clear h1 s6
      refine wp_region_held_drew (S := (fun W' => W'.cell? ⟨q, 0, none⟩ = some (.int .i64 kind) ∧ W'.cell? ⟨q, 1, none⟩ = some (.string (bs text)) ∧ W'.cell? ⟨q, 2, none⟩ = some (.int .i64 n) ∧ W'.cell? ⟨q, 3, none⟩ = some (.int .i64 line) ∧ W'.cell? ⟨q, 4, none⟩ = some (.int .i64 col))) (by kernel_rfl) (by exact Ha.out) (fun hHeld => ?_)
      refine held_take (i := 0) (d := some 49) (v := ?_) rfl rfl (by kernel_rfl) (by kernel_rfl) (by kernel_rfl) (fun _ _ _ h => h) (by rfl) ?_ (by assumption) ?_
      rotate_left 1
      focus (intro w hSw; (try dsimp only at hSw); go_simp; first | done | with_reducible rfl)
      simp only [Act.put, List.setIfInBounds_toArray, List.set_cons_zero, List.set_cons_succ]
      refine held_take (i := 1) (d := some 50) (v := ?_) rfl rfl (by kernel_rfl) (by kernel_rfl) (by kernel_rfl) (fun _ _ _ h => h) (by rfl) ?_ (by assumption) ?_
      rotate_left 1
      focus (intro w hSw; (try dsimp only at hSw); go_simp; first | done | with_reducible rfl)
      simp only [Act.put, List.setIfInBounds_toArray, List.set_cons_zero, List.set_cons_succ]
      refine held_take (i := 2) (d := some 51) (v := ?_) rfl rfl (by kernel_rfl) (by kernel_rfl) (by kernel_rfl) (fun _ _ _ h => h) (by rfl) ?_ (by assumption) ?_
      rotate_left 1
      focus (intro w hSw; (try dsimp only at hSw); go_simp; first | done | with_reducible rfl)
      simp only [Act.put, List.setIfInBounds_toArray, List.set_cons_zero, List.set_cons_succ]
      refine held_take (i := 3) (d := some 52) (v := ?_) rfl rfl (by kernel_rfl) (by kernel_rfl) (by kernel_rfl) (fun _ _ _ h => h) (by rfl) ?_ (by assumption) ?_
      rotate_left 1
      focus (intro w hSw; (try dsimp only at hSw); go_simp; first | done | with_reducible rfl)
      simp only [Act.put, List.setIfInBounds_toArray, List.set_cons_zero, List.set_cons_succ]
      refine held_take (i := 5) (d := some 54) (v := ?_) rfl rfl (by kernel_rfl) (by kernel_rfl) (by kernel_rfl) (fun _ _ _ h => h) (by rfl) ?_ (by assumption) ?_
      rotate_left 1
      focus (intro w hSw; (try dsimp only at hSw); go_simp; first | done | with_reducible rfl)
      simp only [Act.put, List.setIfInBounds_toArray, List.set_cons_zero, List.set_cons_succ]
      refine wpAnyH_ready (rs := [4, 6]) (by kernel_rfl) (by simp) ?_
      refine (AllReadyH.cons (o := _) rfl (fun K hK => ?_) (AllReadyH.cons (o := _) rfl (fun K hK => ?_) AllReadyH.nil))
      · go_simp
        refine hK.out _ _ (by first | exact Ha.out | exact Hal.out) (fun hHeld => ?_)
        clear hK K
        refine wpAnyH_ready (rs := [6]) (by kernel_rfl) (by simp) ?_
        refine (AllReadyH.cons (o := _) rfl (fun K hK => ?_) AllReadyH.nil)
        go_simp
        refine hK.out _ _ (by exact Hal.out) (fun hHeld => ?_)
        clear hK K
        refine wpAnyH_ready (rs := [7]) (by kernel_rfl) (by simp) ?_
        refine (AllReadyH.cons (o := _) rfl (fun K hK => ?_) AllReadyH.nil)
        refine step_append_run rfl (.tmp 53) (.tmp 55) 43 rfl rfl rfl HA.out ?_
        go_simp
        refine hK.out _ _ (by exact Hb.out) (fun hHeld => ?_)
        clear hK K
        refine held_take (i := 8) (d := some 57) (v := ?_) rfl rfl (by kernel_rfl) (by kernel_rfl) (by kernel_rfl) (fun _ _ _ h => h) (by rfl) ?_ (by assumption) ?_
        rotate_left 1
        focus (intro w hSw; (try dsimp only at hSw); go_simp; first | done | with_reducible rfl)
        simp only [Act.put, List.setIfInBounds_toArray, List.set_cons_zero, List.set_cons_succ]
        refine held_take (i := 9) (d := some 58) (v := ?_) rfl rfl (by kernel_rfl) (by kernel_rfl) (by kernel_rfl) (fun _ _ _ h => h) (by rfl) ?_ (by assumption) ?_
        rotate_left 1
        focus (intro w hSw; (try dsimp only at hSw); go_simp; first | done | with_reducible rfl)
        simp only [Act.put, List.setIfInBounds_toArray, List.set_cons_zero, List.set_cons_succ]
        refine wpAnyH_ready (rs := [10]) (by kernel_rfl) (by simp) ?_
        refine (AllReadyH.cons (o := _) rfl (fun K hK => ?_) AllReadyH.nil)
        go_simp
        refine hK.out _ _ (by exact Hc.out) (fun hHeld => ?_)
        clear hK K
        refine wpAnyH_done (by kernel_rfl) ?_ _
        clear Ha Hal Hb HA
        obtain ⟨x0, x1, x2, x3, x4⟩ := Hc.out
        obtain ⟨r0, r1, r2, r3, r4⟩ := cells5 Br.out
        have z0 := frozen_of_row _ r 0 _ _ Br.out
        have z1 := frozen_of_row _ r 1 _ _ Br.out
        have z2 := frozen_of_row _ r 2 _ _ Br.out
        have z3 := frozen_of_row _ r 3 _ _ Br.out
        have z4 := frozen_of_row _ r 4 _ _ Br.out
        clear k4 kf bq bp c4 c4' c4''
        generalize w'.setCell ⟨p, 4, none⟩ (.slice (some ⟨g, 0, none⟩) (out.length + 1) cap) = w6 at *
        go_wp2_with fail
        have b7 := set5_blk Br.out (.int .i64 kind) (.string (bs text)) (.int .i64 n) (.int .i64 line) (.int .i64 col)
        have f7 := set5_fr w6 r (.int .i64 kind) (.string (bs text)) (.int .i64 n) (.int .i64 line) (.int .i64 col)
        exact bodyPost_ret (res_tok (c := 4) (t := 5) (by kernel_rfl) rfl rfl b7 rfl) rfl (show TakeDone w B p T k line first (.slice A out.length c) out (.tok kind text n used) _ _ from
          ⟨Fr.trans F6.out f7 (fun i hi e => by have := RQ.out; omega), by
            simp only [if_neg hfull]
            rw [← HC.out]
            exact ⟨rfl, _, S6.out.kept f7 (fun e => by have := RQ.out; have := H.out.lt; omega) (fun b hb e => Gr.out (by simp [Value.ownBlock] at hb; omega)), GO.out⟩⟩)
      · go_simp
        refine hK.out _ _ (by exact Hal.out) (fun hHeld => ?_)
        clear hK K
        refine wpAnyH_ready (rs := [4]) (by kernel_rfl) (by simp) ?_
        refine (AllReadyH.cons (o := _) rfl (fun K hK => ?_) AllReadyH.nil)
        go_simp
        refine hK.out _ _ (by first | exact Ha.out | exact Hal.out) (fun hHeld => ?_)
        clear hK K
        refine wpAnyH_ready (rs := [7]) (by kernel_rfl) (by simp) ?_
        refine (AllReadyH.cons (o := _) rfl (fun K hK => ?_) AllReadyH.nil)
        refine step_append_run rfl (.tmp 53) (.tmp 55) 43 rfl rfl rfl HA.out ?_
        go_simp
        refine hK.out _ _ (by exact Hb.out) (fun hHeld => ?_)
        clear hK K
        refine held_take (i := 8) (d := some 57) (v := ?_) rfl rfl (by kernel_rfl) (by kernel_rfl) (by kernel_rfl) (fun _ _ _ h => h) (by rfl) ?_ (by assumption) ?_
        rotate_left 1
        focus (intro w hSw; (try dsimp only at hSw); go_simp; first | done | with_reducible rfl)
        simp only [Act.put, List.setIfInBounds_toArray, List.set_cons_zero, List.set_cons_succ]
        refine held_take (i := 9) (d := some 58) (v := ?_) rfl rfl (by kernel_rfl) (by kernel_rfl) (by kernel_rfl) (fun _ _ _ h => h) (by rfl) ?_ (by assumption) ?_
        rotate_left 1
        focus (intro w hSw; (try dsimp only at hSw); go_simp; first | done | with_reducible rfl)
        simp only [Act.put, List.setIfInBounds_toArray, List.set_cons_zero, List.set_cons_succ]
        refine wpAnyH_ready (rs := [10]) (by kernel_rfl) (by simp) ?_
        refine (AllReadyH.cons (o := _) rfl (fun K hK => ?_) AllReadyH.nil)
        go_simp
        refine hK.out _ _ (by exact Hc.out) (fun hHeld => ?_)
        clear hK K
        refine wpAnyH_done (by kernel_rfl) ?_ _
        clear Ha Hal Hb HA
        obtain ⟨x0, x1, x2, x3, x4⟩ := Hc.out
        obtain ⟨r0, r1, r2, r3, r4⟩ := cells5 Br.out
        have z0 := frozen_of_row _ r 0 _ _ Br.out
        have z1 := frozen_of_row _ r 1 _ _ Br.out
        have z2 := frozen_of_row _ r 2 _ _ Br.out
        have z3 := frozen_of_row _ r 3 _ _ Br.out
        have z4 := frozen_of_row _ r 4 _ _ Br.out
        clear k4 kf bq bp c4 c4' c4''
        generalize w'.setCell ⟨p, 4, none⟩ (.slice (some ⟨g, 0, none⟩) (out.length + 1) cap) = w6 at *
        go_wp2_with fail
        have b7 := set5_blk Br.out (.int .i64 kind) (.string (bs text)) (.int .i64 n) (.int .i64 line) (.int .i64 col)
        have f7 := set5_fr w6 r (.int .i64 kind) (.string (bs text)) (.int .i64 n) (.int .i64 line) (.int .i64 col)
        exact bodyPost_ret (res_tok (c := 4) (t := 5) (by kernel_rfl) rfl rfl b7 rfl) rfl (show TakeDone w B p T k line first (.slice A out.length c) out (.tok kind text n used) _ _ from
          ⟨Fr.trans F6.out f7 (fun i hi e => by have := RQ.out; omega), by
            simp only [if_neg hfull]
            rw [← HC.out]
            exact ⟨rfl, _, S6.out.kept f7 (fun e => by have := RQ.out; have := H.out.lt; omega) (fun b hb e => Gr.out (by simp [Value.ownBlock] at hb; omega)), GO.out⟩⟩)
end Go.Proofs.YtmphiefdoaihhaaGreatDoor.Tk

/-
  Package token: readAll, All.
-/
namespace Go.Proofs.YtmphiefdoaihhaaGreatDoor.Tk
open Go.RowKit
set_option maxRecDepth 100000

theorem one_pos {l : List UInt8} {kind : Nat} {text : List UInt8} {n used : Nat} (h : one l = .tok kind text n used) : kind ≠ 0 := by
  unfold one at h
  split at h
  · cases h
  split at h
  · cases h; decide
  split at h
  · simp only [Got.tok.injEq] at h
    obtain ⟨rfl, _⟩ := h
    split <;> decide
  split at h
  · split at h
    · cases h
    · cases h; decide
  split at h
  · split at h
    · cases h
    · cases h; decide
  · split at h
    · cases h
    · cases h; decide
theorem one_err {l : List UInt8} {c : Nat} (h : one l = .err c) : 0 < c := by
  unfold one at h
  split at h
  · cases h; decide
  split at h
  · cases h
  split at h
  · cases h
  split at h
  · split at h
    · cases h; decide
    · cases h
  split at h
  · split at h
    · cases h; decide
    · cases h
  · split at h
    · cases h; decide
    · cases h
theorem got_err {l : List UInt8} {out : List Tok} {c : Nat} (h : gotOf l out = .err c) : 0 < c := by
  unfold gotOf at h
  split at h
  · split at h <;> cases h
  · split at h
    · cases h
    · exact one_err h

theorem got_zero {l : List UInt8} {out : List Tok} {text : List UInt8} {n used : Nat} (h : gotOf l out = .tok 0 text n used) : text = [] ∧ n = 0 ∧ used = 0 := by
  unfold gotOf at h
  split at h
  · split at h
    · cases h
    · cases h; exact ⟨rfl, rfl, rfl⟩
  · split at h
    · cases h
    · exact absurd rfl (one_pos h)

theorem push_full {σ : St} {kind : Nat} {text : List UInt8} {n used : Nat} (h : σ.out.length = 4000) : push σ kind text n used = .inr (.bad σ.line σ.col 6) := if_pos h

/-- A step where skip has stopped. -/
theorem step_got {T : List UInt8} {k line first : Nat} {out : List Tok} (hs : Stop (T.drop k) out) : step (stOf T k line first out) = match gotOf (T.drop k) out with
    | .err c => .inr (.bad line (k - first + 1) c)
    | .tok kind text n used => if kind = 0 then (if out.length = 4000 then .inr (.bad line (k - first + 1) 6) else .inr (.ok (out ++ [⟨0, [], 0, line, k - first + 1⟩])))
      else push (stOf T k line first out) kind text n used := by
  unfold stOf step gotOf
  simp only
  generalize T.drop k = l at *
  cases l with
  | nil =>
    simp only
    cases lastEnds out <;> simp [push]
  | cons b r =>
    obtain ⟨h10, h1, h2, h3, h4⟩ := hs b r rfl
    simp only
    by_cases hb : b = 10
    · rw [if_pos hb, if_pos (h10 hb), if_pos hb]; simp
    · rw [if_neg hb, if_neg (by simp [h1, h2, h3]), if_neg (by rw [h4]; simp), if_neg hb]
      cases ho : one (b :: r) with
      | err c => rfl
      | tok kind text n used => simp only; rw [if_neg (one_pos ho)]

theorem reader_enters (l : List UInt8) (out : List Tok) : ∀ (args : Array Value) (w : World), (callFunc (readerOf l out) args).run Tryz.prog w = .ok (.enter (readerOf l out) args) w := by
  have key : ∀ (args : Array Value) (w : World), (callFunc 59 args).run Tryz.prog w = .ok (.enter 59 args) w := enters_of Tryz.func59 (by kernel_rfl) rfl
  unfold readerOf
  split
  · split
    · exact key
    · exact enters_of Tryz.func89 (by kernel_rfl) rfl
  · split
    · exact key
    split
    · exact enters_of Tryz.func60 (by kernel_rfl) rfl
    split
    · exact enters_of Tryz.func62 (by kernel_rfl) rfl
    split
    · exact enters_of Tryz.func64 (by kernel_rfl) rfl
    split
    · exact enters_of Tryz.func65 (by kernel_rfl) rfl
    · exact enters_of Tryz.func66 (by kernel_rfl) rfl

def lenOf (w : World) (p : Nat) : Nat := match w.cell? ⟨p, 4, none⟩ with
  | some (.slice _ n _) => n
  | _ => 0
theorem Sc.len {w : World} {B p : Nat} {T : List UInt8} {k line first : Nat} {v : Value} {out : List Tok} (h : Sc w B p T k line first v out) : lenOf w p = out.length := by
  obtain ⟨A, c, rfl, _⟩ := h.own.reads.parts
  unfold lenOf; rw [h.c4]

/-- A round of readAll. -/
structure RInv (w wr : World) (B p r : Nat) (T : List UInt8) (σ : St) (k line first : Nat) (v : Value) (out : List Tok) : Prop where
  sc : Sc wr B p T k line first v out
  fr : FrB B w wr
  blk : wr.heap[r]? = some zeroTok
  vr : v.ownBlock ≠ some r
  pr : p ≠ r
  lex : ∀ R, Lex (stOf T k line first out) R → Lex σ R

theorem RInv.up {w wr w' : World} {B p r : Nat} {T : List UInt8} {σ : St} {k line first : Nat} {v : Value} {out : List Tok} (h : RInv w wr B p r T σ k line first v out) (u : Up wr w') : RInv w w' B p r T σ k line first v out :=
  ⟨h.sc.up u, Fr.trans h.fr u (fun _ _ e => e.elim), (u.block r (heap_lt h.blk) (fun e => e)).trans h.blk, h.vr, h.pr, h.lex⟩

def ReadAllDone (w : World) (B p : Nat) (T : List UInt8) (σ : St) (e : Ending) (w' : World) : Prop := FrB B w w' ∧ ∃ R, Lex σ R ∧ match R with
  | .ok outs => e = .returned (.tuple #[tokA 0 [] 0 0 0, .int .i64 0]) ∧ ∃ k line first v, Sc w' B p T k line first v outs
  | .bad line col c => 0 < c ∧ e = .returned (.tuple #[tokA 0 [] 0 line col, .int .i64 c])

set_option maxRecDepth 100000 in
set_option maxHeartbeats 4000000 in
theorem readAll_any {w : World} {B p : Nat} {T : List UInt8} {k line first : Nat} {v : Value} {out : List Tok} (h : Sc w B p T k line first v out) (L : Laid w) (hB : 1 + 0 + 1 ≤ B) :
    Calls Tryz.prog 15 #[.pointer (some ⟨p, 0, none⟩)] w (ReadAllDone w B p T (stOf T k line first out)) := by
  have LL := Lib.hid L
  have V0 := Lib.hid (show RInv w (w.alloc zeroTok) B p w.heap.size T (stOf T k line first out) k line first v out from
    ⟨h.up ((Fr.refl _ _).alloc _), (Fr.refl _ _).alloc _, heap_alloc_new _ _, fun e => by have := (h.own.lt _ e).2; omega, by have := h.lt; omega, fun _ h => h⟩)
  have HB := Lib.hid (show B ≤ w.heap.size by have := h.lt; have := h.lo; omega)
  clear h L
  go_enter Tryz.func15, Tryz.ntmps15
  go_wp2_with fail
  change Code.wp _ _ _ _ (w.alloc zeroTok)
  generalize w.alloc zeroTok = w1 at V0 ⊢
  obtain ⟨r, hr⟩ : ∃ r, r = w.heap.size := ⟨_, rfl⟩
  rw [← hr] at V0 ⊢
  have Hr := Lib.hid hr
  clear hr
  generalize stOf T k line first out = σ at V0
  go_loopw [] (fun wr => ∃ (k line first : Nat) (v : Value) (out : List Tok), Hid (RInv w wr B p r T σ k line first v out)) (fun wr => 4001 - lenOf wr p)
  case atStart => exact ⟨k, line, first, v, out, V0⟩
  case round =>
    obtain ⟨j, lj, fj, vj, oj, hm⟩ := hrel
    obtain ⟨wo, rfl⟩ : ∃ wo : World, wo = wr := ⟨_, rfl⟩
    have Ls := Lib.hid hm.out.sc.len
    go_wp2_with fail
    refine (skip_any hm.out.sc).mono ?_
    rintro e w2 ⟨rfl, k2, l2, f2, sk, hst⟩
    have M2 := Lib.hid (show RInv w w2 B p r T σ k2 l2 f2 vj oj from ⟨sk.sc, Fr.trans hm.out.fr sk.fr (fun i _ e => by have := hm.out.sc.lo; omega), (sk.fr.block r (heap_lt hm.out.blk) (fun e => hm.out.pr e.symm)).trans hm.out.blk, hm.out.vr, hm.out.pr, fun R hR => hm.out.lex R (sk.lex R hR)⟩)
    have SG := Lib.hid (step_got (line := l2) (first := f2) hst)
    clear sk hst
    go_wp2_with fail
    refine (choose_any M2.out.sc).mono ?_
    rintro e w3 ⟨rfl, u3⟩
    have M3 := Lib.hid (M2.out.up u3)
    clear u3
    go_wp2_with fail
    refine (take_any M3.out.sc (readerOf (T.drop k2) oj) (gotOf (T.drop k2) oj) (reader_enters _ _) (fun c hc => got_err hc) (fun w1 u1 => reader_any (M3.out.sc.up u1)
      (LL.out.kept (Fr.trans M3.out.fr u1 (fun _ _ e => e.elim)) (by omega) (by omega)) hB)).mono ?_
    rintro e w4 htk
    have hbr : w4.heap[r]? = some zeroTok := (htk.1.block r (heap_lt M3.out.blk) (fun e => by
      rcases e with e | e
      · exact M3.out.pr e.symm
      · exact M3.out.vr e)).trans M3.out.blk
    have hfr : FrB B w w4 := Fr.trans M3.out.fr htk.1 (fun i _ e => by
      rcases e with e | e
      · have := M3.out.sc.lo; omega
      · exact (M3.out.sc.own.lt i e).1)
    have M4 := Lib.hid M2.out.lex
    obtain ⟨col, hcol⟩ : ∃ col, col = k2 - f2 + 1 := ⟨_, rfl⟩
    rw [← hcol] at SG
    obtain ⟨G, hG⟩ : ∃ G, G = gotOf (T.drop k2) oj := ⟨_, rfl⟩
    rw [← hG] at htk SG
    cases G with
    | err c =>
      obtain ⟨_, htk⟩ := htk
      simp only at htk
      rw [← hcol] at htk
      subst htk
      have hc0 := got_err hG.symm
      have LX := Lib.hid (show Lex σ (.bad l2 col c) from M4.out _ (Lex.done SG.out))
      have CP := Lib.hid hc0
      have e1 : ((c : Int) == 0) = false := by simp; omega
      have e2 : ((c : Int) != 0) = true := by rw [bne, e1]; rfl
      have HCo := Lib.hid hcol
      clear hG hcol
      have b5 : (w4.alloc (.cells #[.int .i64 0, .string (bs []), .int .i64 0, .int .i64 l2, .int .i64 col] 45)).heap[r]? = some zeroTok := (Below.heap_alloc w4 _ r (heap_lt hbr)).trans hbr
      have B5 := Lib.hid b5
      obtain ⟨r0, r1, r2, r3, r4⟩ := cells5 B5.out
      have z0 := frozen_of_row _ r 0 _ _ B5.out
      have z1 := frozen_of_row _ r 1 _ _ B5.out
      have z2 := frozen_of_row _ r 2 _ _ B5.out
      have z3 := frozen_of_row _ r 3 _ _ B5.out
      have z4 := frozen_of_row _ r 4 _ _ B5.out
      have FR := Lib.hid hfr
      clear b5 hbr hfr
      unfold tokA
      go_wp2_with fail
      have b7 := set5_blk B5.out (.int .i64 0) (.string (bs [])) (.int .i64 0) (.int .i64 l2) (.int .i64 col)
      have f7 := set5_fr (w4.alloc (.cells #[.int .i64 0, .string (bs []), .int .i64 0, .int .i64 l2, .int .i64 col] 45)) r (.int .i64 0) (.string (bs [])) (.int .i64 0) (.int .i64 l2) (.int .i64 col)
      exact bodyPost_ret (res_tok (c := 2) (t := 3) (by kernel_rfl) rfl rfl b7 rfl) rfl (show ReadAllDone w B p T σ _ _ from ⟨Fr.trans (FR.out.alloc _) f7 (fun i hi e => by have := Hr.out; have := HB.out; omega), _, LX.out, CP.out, rfl⟩)
    | tok kind text n used =>
      obtain ⟨_, htk⟩ := htk
      simp only at htk
      rw [← hcol] at htk
      by_cases hfull : oj.length = 4000
      · rw [if_pos hfull] at htk
        subst htk
        have LX := Lib.hid (show Lex σ (.bad l2 col 6) from M4.out _ (Lex.done (by
          rw [SG.out]
          by_cases hk : kind = 0
          · simp only [if_pos hk, if_pos hfull]
          · simp only [if_neg hk]; rw [push_full hfull]; show Sum.inr (Res.bad l2 (k2 - f2 + 1) 6) = _; rw [hcol])))
        have CP := Lib.hid (show 0 < 6 by decide)
        clear hG hcol
        have b5 : (w4.alloc (.cells #[.int .i64 0, .string (bs []), .int .i64 0, .int .i64 l2, .int .i64 col] 45)).heap[r]? = some zeroTok := (Below.heap_alloc w4 _ r (heap_lt hbr)).trans hbr
        have B5 := Lib.hid b5
        obtain ⟨r0, r1, r2, r3, r4⟩ := cells5 B5.out
        have z0 := frozen_of_row _ r 0 _ _ B5.out
        have z1 := frozen_of_row _ r 1 _ _ B5.out
        have z2 := frozen_of_row _ r 2 _ _ B5.out
        have z3 := frozen_of_row _ r 3 _ _ B5.out
        have z4 := frozen_of_row _ r 4 _ _ B5.out
        have FR := Lib.hid hfr
        clear b5 hbr hfr
        unfold tokA
        go_wp2_with fail
        have b7 := set5_blk B5.out (.int .i64 0) (.string (bs [])) (.int .i64 0) (.int .i64 l2) (.int .i64 col)
        have f7 := set5_fr (w4.alloc (.cells #[.int .i64 0, .string (bs []), .int .i64 0, .int .i64 l2, .int .i64 col] 45)) r (.int .i64 0) (.string (bs [])) (.int .i64 0) (.int .i64 l2) (.int .i64 col)
        exact bodyPost_ret (res_tok (c := 2) (t := 3) (by kernel_rfl) rfl rfl b7 rfl) rfl (show ReadAllDone w B p T σ _ _ from ⟨Fr.trans (FR.out.alloc _) f7 (fun i hi e => by have := Hr.out; have := HB.out; omega), _, LX.out, CP.out, rfl⟩)
      · rw [if_neg hfull] at htk
        obtain ⟨rfl, v5, s5, hv5⟩ := htk
        by_cases hk : kind = 0
        · have LX := Lib.hid (show Lex σ (.ok (oj ++ [⟨0, [], 0, l2, col⟩])) from M4.out _ (Lex.done (by rw [SG.out]; simp only [if_pos hk, if_neg hfull])))
          have hz := got_zero (hG.symm.trans (by rw [hk]))
          obtain ⟨rfl, rfl, rfl⟩ := hz
          subst hk
          have S5 := Lib.hid (show ∃ k line first v, Sc w4 B p T k line first v (oj ++ [⟨0, [], 0, l2, col⟩]) from ⟨_, _, _, _, s5⟩)
          have PR := Lib.hid hm.out.pr
          have V5 := Lib.hid (show ∀ b, v5.ownBlock = some b → b ≠ r from fun b hb e => by
            rcases hv5 b hb with h1 | h1
            · exact M3.out.vr (by rw [h1, e])
            · have := heap_lt M3.out.blk; omega)
          have S6 := Lib.hid s5
          have HCo := Lib.hid hcol
          clear s5 hv5 hG hcol
          have b5 : (w4.alloc (.cells #[.int .i64 0, .string (bs []), .int .i64 0, .int .i64 l2, .int .i64 col] 45)).heap[r]? = some zeroTok := (Below.heap_alloc w4 _ r (heap_lt hbr)).trans hbr
          have B5 := Lib.hid b5
          obtain ⟨r0, r1, r2, r3, r4⟩ := cells5 B5.out
          have z0 := frozen_of_row _ r 0 _ _ B5.out
          have z1 := frozen_of_row _ r 1 _ _ B5.out
          have z2 := frozen_of_row _ r 2 _ _ B5.out
          have z3 := frozen_of_row _ r 3 _ _ B5.out
          have z4 := frozen_of_row _ r 4 _ _ B5.out
          have FR := Lib.hid hfr
          clear b5 hbr hfr
          unfold tokA
          go_wp2_with fail
          have b7 := set5_blk B5.out (.int .i64 0) (.string (bs [])) (.int .i64 0) (.int .i64 0) (.int .i64 0)
          have f7 := set5_fr (w4.alloc (.cells #[.int .i64 0, .string (bs []), .int .i64 0, .int .i64 l2, .int .i64 col] 45)) r (.int .i64 0) (.string (bs [])) (.int .i64 0) (.int .i64 0) (.int .i64 0)
          exact bodyPost_ret (res_tok (c := 2) (t := 3) (by kernel_rfl) rfl rfl b7 rfl) rfl (show ReadAllDone w B p T σ _ _ from ⟨Fr.trans (FR.out.alloc _) f7 (fun i hi e => by have := Hr.out; have := HB.out; omega), _, LX.out, rfl, _, _, _, _, by
            have := (S6.out.up ((Fr.refl (fun _ => False) w4).alloc (.cells #[.int .i64 0, .string (bs []), .int .i64 0, .int .i64 l2, .int .i64 col] 45))).kept f7 (fun e => PR.out e) (fun b hb e => V5.out b hb e)
            exact this⟩)
        · have e1 : ((kind : Int) == 0) = false := by simp; omega
          have hst : step (stOf T k2 l2 f2 oj) = .inl (stOf T (k2 + used) l2 f2 (oj ++ [⟨kind, text, n, l2, col⟩])) := by
            rw [SG.out]
            simp only [if_neg hk, push, stOf, if_neg hfull, hcol, List.drop_drop]
            rw [show k2 - f2 + 1 + used = k2 + used - f2 + 1 by have := M3.out.sc.fk; omega]
          have N := Lib.hid (show RInv w (w4.alloc (.cells #[.int .i64 kind, .string (bs text), .int .i64 n, .int .i64 l2, .int .i64 col] 45)) B p r T σ (k2 + used) l2 f2 v5 (oj ++ [⟨kind, text, n, l2, col⟩]) from
            RInv.up ⟨s5, hfr, hbr, fun e => by
              rcases hv5 r e with h1 | h1
              · exact M3.out.vr h1
              · have := heap_lt M3.out.blk; omega, hm.out.pr, fun R hR => M4.out R (hR.next hst)⟩ ((Fr.refl _ _).alloc _))
          have Lm := Lib.hid (show oj.length < 4000 by have := M3.out.sc.few; omega)
          have HCo := Lib.hid hcol
          clear s5 hv5 hG hbr hfr hst hcol
          unfold tokA
          go_wp2_with fail
          go_roundw
          case rel => exact ⟨_, _, _, _, _, N⟩
          case measure => rw [N.out.sc.len, Ls.out, List.length_append]; have := Lm.out; simp; omega

/-- A slice, a token and an error number, handed back. -/
theorem res_all {fn : Func} {c t u : Nat} (hr : fn.results = #[.tmp u, .cell c 45, .tmp t]) {tmps : Array Value} {w : World} {q : Nat} {cs : Array Value} {e v : Value} (h1 : tmps.getD u undef = v) (h2 : tmps.getD c undef = .pointer (some ⟨q, 0, none⟩)) (h3 : tmps.getD t undef = e)
    (hb : w.heap[q]? = some (.cells cs 45 (0, 0))) (hs : cs.size = 5) : (results fn tmps).run Tryz.prog w = .ok (.tuple #[v, .agg cs, e]) w := by
  have := run_loadVar_row (P := Tryz.prog) w q 45 45 cs (0, 0) _ hb Tryz.underlying45 rfl (by rw [hs]; kernel_rfl)
  rw [Array.getD_eq_getD_getElem?] at h1 h2 h3
  simp [results, hr, h1, h2, h3, asAddr, this]

/-- What All answers. -/
def AllDone (w : World) (T : List UInt8) (e : Ending) (w' : World) : Prop := Up w w' ∧ ∃ R, LexAll T R ∧ match R with
  | .ok outs => ∃ v, e = .returned (.tuple #[v, tokA 0 [] 0 0 0, .int .i64 0]) ∧ OwnSl w' (w.heap.size + 1) 45 5 TokC v outs
  | .bad line col c => 0 < c ∧ e = .returned (.tuple #[.slice none 0 0, tokA 0 [] 0 line col, .int .i64 c])

set_option maxRecDepth 100000 in
set_option maxHeartbeats 4000000 in
theorem all_any {w : World} (T : List UInt8) (L : Laid w) (hw : 1 + 0 + 1 ≤ w.heap.size) : Calls Tryz.prog 10 #[.string (bs T)] w (AllDone w T) := by
  have hsz := bs_size T
  have LL := Lib.hid L
  clear L
  go_enter Tryz.func10, Tryz.ntmps10
  by_cases hb : 16384 < T.length
  · have a1 : ((T.length : Int) > 16384) := by omega
    have LX := Lib.hid (show LexAll T (.bad 1 1 6) by unfold LexAll; rw [if_pos hb])
    go_wp2_with fail
    exact bodyPost_ret (res_all (c := 3) (t := 4) (u := 2) (by kernel_rfl) rfl rfl rfl (heap_alloc_new w _) rfl) rfl (show AllDone w T _ _ from ⟨(Fr.refl _ _).alloc _, _, LX.out, by decide, rfl⟩)
  · have a1 : ¬ ((T.length : Int) > 16384) := by omega
    have S0 := Lib.hid (show Sc ((w.alloc zeroTok).alloc (.cells #[.string (bs T), .int .i64 0, .int .i64 1, .int .i64 0, .slice none 0 0] 67)) (w.heap.size + 1) (w.heap.size + 1) T 0 1 0 (.slice none 0 0) [] from
      ⟨by have := heap_alloc_new (w.alloc zeroTok) (.cells #[.string (bs T), .int .i64 0, .int .i64 1, .int .i64 0, .slice none 0 0] 67); rwa [World.size_alloc] at this, OwnSl.none_, by simp [Value.ownBlock], Nat.zero_le _, Nat.le_refl _, Nat.le_refl _, by omega, by simp, Nat.le_refl _⟩)
    have U0 := Lib.hid (show Up w ((w.alloc zeroTok).alloc (.cells #[.string (bs T), .int .i64 0, .int .i64 1, .int .i64 0, .slice none 0 0] 67)) from ((Fr.refl _ _).alloc _).alloc _)
    have B0 := Lib.hid (show ((w.alloc zeroTok).alloc (.cells #[.string (bs T), .int .i64 0, .int .i64 1, .int .i64 0, .slice none 0 0] 67)).heap[w.heap.size]? = some zeroTok from (Below.heap_alloc _ _ _ (by simp)).trans (heap_alloc_new w _))
    have L0 := Lib.hid (LL.out.kept U0.out (fun h => h) (fun h => h))
    have HB := Lib.hid hb
    clear hb
    go_wp2_with fail
    change Calls _ _ _ ((w.alloc zeroTok).alloc (.cells #[.string (bs T), .int .i64 0, .int .i64 1, .int .i64 0, .slice none 0 0] 67)) _
    generalize (w.alloc zeroTok).alloc (.cells #[.string (bs T), .int .i64 0, .int .i64 1, .int .i64 0, .slice none 0 0] 67) = w1 at S0 U0 B0 L0 ⊢
    refine (readAll_any S0.out L0.out (by omega)).mono ?_
    rintro e w2 ⟨f2, R, hR, hr⟩
    have LX := Lib.hid (show LexAll T R by unfold LexAll; rw [if_neg HB.out]; simpa [stOf] using hR)
    have F2 := Lib.hid (show Up w w2 from Fr.trans U0.out f2 (fun i hi e => by omega))
    have hbr : w2.heap[w.heap.size]? = some zeroTok := (f2.block _ (heap_lt B0.out) (by omega)).trans B0.out
    obtain ⟨r, hr'⟩ : ∃ r, r = w.heap.size := ⟨_, rfl⟩
    cases R with
    | bad line col c =>
      obtain ⟨hc0, rfl⟩ := hr
      have CP := Lib.hid hc0
      have e1 : ((c : Int) == 0) = false := by simp; omega
      have e2 : ((c : Int) != 0) = true := by rw [bne, e1]; rfl
      rw [← hr'] at hbr ⊢
      have b5 : (w2.alloc (.cells #[.int .i64 0, .string (bs []), .int .i64 0, .int .i64 line, .int .i64 col] 45)).heap[r]? = some zeroTok := (Below.heap_alloc w2 _ r (heap_lt hbr)).trans hbr
      have B5 := Lib.hid b5
      obtain ⟨r0, r1, r2, r3, r4⟩ := cells5 B5.out
      have z0 := frozen_of_row _ r 0 _ _ B5.out
      have z1 := frozen_of_row _ r 1 _ _ B5.out
      have z2 := frozen_of_row _ r 2 _ _ B5.out
      have z3 := frozen_of_row _ r 3 _ _ B5.out
      have z4 := frozen_of_row _ r 4 _ _ B5.out
      have Y5 := Lib.hid (cells5 (heap_alloc_new w2 (.cells #[.int .i64 0, .string (bs []), .int .i64 0, .int .i64 line, .int .i64 col] 45)))
      have HR := Lib.hid hr'
      clear b5 hbr hr' hsz a1
      unfold tokA
      go_wp2_with fail
      obtain ⟨y0, y1, y2, y3, y4⟩ := Y5.out
      have F5 := Lib.hid (F2.out.alloc (.cells #[.int .i64 0, .string (bs []), .int .i64 0, .int .i64 line, .int .i64 col] 45))
      generalize w2.alloc (.cells #[.int .i64 0, .string (bs []), .int .i64 0, .int .i64 line, .int .i64 col] 45) = w5 at *
      go_region
      all_goals go_wp2_with fail
      all_goals
        have b7 := set5_blk B5.out (.int .i64 0) (.string (bs [])) (.int .i64 0) (.int .i64 line) (.int .i64 col)
        have f7 := set5_fr w5 r (.int .i64 0) (.string (bs [])) (.int .i64 0) (.int .i64 line) (.int .i64 col)
        exact bodyPost_ret (res_all (c := 3) (t := 4) (u := 2) (q := r) (by kernel_rfl) rfl rfl rfl b7 rfl) rfl (show AllDone w T _ _ from ⟨Fr.drew (Fr.trans F5.out f7 (fun i hi e => by have := HR.out; omega)), _, LX.out, CP.out, rfl⟩)
    | ok outs =>
      obtain ⟨rfl, k5, l5, f5, v5, s5⟩ := hr
      rw [← hr'] at hbr ⊢
      have b5 : (w2.alloc (.cells #[.int .i64 0, .string (bs []), .int .i64 0, .int .i64 0, .int .i64 0] 45)).heap[r]? = some zeroTok := (Below.heap_alloc w2 _ r (heap_lt hbr)).trans hbr
      have B5 := Lib.hid b5
      obtain ⟨r0, r1, r2, r3, r4⟩ := cells5 B5.out
      have z0 := frozen_of_row _ r 0 _ _ B5.out
      have z1 := frozen_of_row _ r 1 _ _ B5.out
      have z2 := frozen_of_row _ r 2 _ _ B5.out
      have z3 := frozen_of_row _ r 3 _ _ B5.out
      have z4 := frozen_of_row _ r 4 _ _ B5.out
      have S5 := Lib.hid (s5.up ((Fr.refl (fun _ => False) w2).alloc (.cells #[.int .i64 0, .string (bs []), .int .i64 0, .int .i64 0, .int .i64 0] 45)))
      have c4 := S5.out.c4
      have HR := Lib.hid hr'
      rw [← hr'] at c4
      clear b5 hbr hr' hsz a1 s5
      unfold tokA
      go_wp2_with fail
      have b7 := set5_blk B5.out (.int .i64 0) (.string (bs [])) (.int .i64 0) (.int .i64 0) (.int .i64 0)
      have f7 := set5_fr (w2.alloc (.cells #[.int .i64 0, .string (bs []), .int .i64 0, .int .i64 0, .int .i64 0] 45)) r (.int .i64 0) (.string (bs [])) (.int .i64 0) (.int .i64 0) (.int .i64 0)
      exact bodyPost_ret (res_all (c := 3) (t := 4) (u := 2) (q := r) (by kernel_rfl) rfl rfl rfl b7 rfl) rfl (show AllDone w T _ _ from ⟨Fr.trans (F2.out.alloc _) f7 (fun i hi e => by have := HR.out; omega), _, LX.out, v5, rfl,
        S5.out.own.kept f7 (fun b hb e => by have := (S5.out.own.lt b hb).1; have := HR.out; omega) (fun _ _ _ h => h)⟩)
end Go.Proofs.YtmphiefdoaihhaaGreatDoor.Tk
