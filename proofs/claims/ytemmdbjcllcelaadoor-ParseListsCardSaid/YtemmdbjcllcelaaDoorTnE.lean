/-
  Package token: the readers.
-/
import Derived.Test.YtemmdbjcllcelaaDoorTnD
import Derived.Handy
import Derived.Test.YtemmdbjcllcelaaDoorHeld
namespace Go.Proofs.YtemmdbjcllcelaaDoor.Tk
open Go.RowKit
set_option maxRecDepth 100000

def tokV (kind : Nat) (text : List UInt8) (n : Nat) : Value := .agg #[.int .i64 kind, .string (bs text), .int .i64 n, .int .i64 0, .int .i64 0]

/-- What a reader answers. -/
def ReadDone (w : World) (B p : Nat) (T : List UInt8) (k line first : Nat) (v : Value) (out : List Tok) (g : Got) (e : Ending) (w' : World) : Prop := match g with
  | .tok kind text n used => e = .returned (.tuple #[tokV kind text n, .int .i64 0]) ∧ Sc w' B p T (k + used) line first v out ∧ FrP p w w'
  | .err c => e = .returned (.tuple #[tokV 0 [] 0, .int .i64 c]) ∧ FrP p w w'

set_option maxHeartbeats 400000 in
theorem end_any {w : World} (p : Nat) : Calls Tryd.prog 65 #[.pointer (some ⟨p, 0, none⟩)] w fun e w' => e = .returned (.tuple #[tokV 0 [] 0, .int .i64 0]) ∧ Up w w' := by
  go_enter Tryd.func65, Tryd.ntmps65
  go_wp2_with fail
  go_returns
  exact ⟨rfl, (Fr.refl _ _).alloc _⟩

set_option maxHeartbeats 400000 in
theorem inserted_any {w : World} (p : Nat) : Calls Tryd.prog 40 #[.pointer (some ⟨p, 0, none⟩)] w fun e w' => e = .returned (.tuple #[tokV 1 [59] 0, .int .i64 0]) ∧ Up w w' := by
  go_enter Tryd.func40, Tryd.ntmps40
  go_wp2_with fail
  go_returns
  exact ⟨rfl, (Fr.refl _ _).alloc _⟩

/-- The zero token in a block of its own, ahead of a call that turns the scanner alone. -/
def zeroTok : Obj := .cells #[.int .i64 0, .string { data := #[] }, .int .i64 0, .int .i64 0, .int .i64 0] 43
structure Res_ (w w' : World) (p q : Nat) : Prop where
  fr : Fr (fun b => b = p) w w'
  q0 : w.heap.size ≤ q
  blk : w'.heap[q]? = some zeroTok
theorem Res_.start {w : World} {p : Nat} : Res_ w (w.alloc zeroTok) p w.heap.size := ⟨(Fr.refl _ _).alloc _, Nat.le_refl _, heap_alloc_new _ _⟩
theorem Res_.go {w w' w2 : World} {p q : Nat} (h : Res_ w w' p q) (hp : p < w.heap.size) (f : FrP p w' w2) : Res_ w w2 p q :=
  ⟨Fr.trans h.fr f (fun _ _ e => e), h.q0, (f.block q (heap_lt h.blk) (by have := h.q0; omega)).trans h.blk⟩
theorem Res_.cells {w w' : World} {p q : Nat} (h : Res_ w w' p q) : w'.cell? ⟨q, 0, none⟩ = some (.int .i64 0) ∧ w'.cell? ⟨q, 1, none⟩ = some (.string { data := #[] }) ∧ w'.cell? ⟨q, 2, none⟩ = some (.int .i64 0) ∧
    w'.cell? ⟨q, 3, none⟩ = some (.int .i64 0) ∧ w'.cell? ⟨q, 4, none⟩ = some (.int .i64 0) := by
  have := h.blk
  unfold zeroTok at this
  refine ⟨?_, ?_, ?_, ?_, ?_⟩ <;> (rw [cell_of_row _ _ _ _ _ _ this]; rfl)
theorem Res_.frz {w w' : World} {p q : Nat} (h : Res_ w w' p q) (j : Nat) : w'.frozen? ⟨q, j, none⟩ = false := frozen_of_row w' q j _ _ h.blk
abbrev set5 (w' : World) (q : Nat) (u0 u1 u2 u3 u4 : Value) : World := ((((w'.setCell ⟨q, 0, none⟩ u0).setCell ⟨q, 1, none⟩ u1).setCell ⟨q, 2, none⟩ u2).setCell ⟨q, 3, none⟩ u3).setCell ⟨q, 4, none⟩ u4
theorem set5_blk {w' : World} {q : Nat} {c0 c1 c2 c3 c4 : Value} {t : TypeId} (h : w'.heap[q]? = some (.cells #[c0, c1, c2, c3, c4] t (0, 0))) (u0 u1 u2 u3 u4 : Value) :
    (set5 w' q u0 u1 u2 u3 u4).heap[q]? = some (.cells #[u0, u1, u2, u3, u4] t (0, 0)) := by
  rw [blk_set (blk_set (blk_set (blk_set (blk_set h 0 _) 1 _) 2 _) 3 _) 4 _]; rfl
theorem set5_fr (w' : World) (q : Nat) (u0 u1 u2 u3 u4 : Value) : Fr (fun b => b = q) w' (set5 w' q u0 u1 u2 u3 u4) :=
  ((((fr_set 0 u0).setCell (p := ⟨q, 1, none⟩) (fun _ => rfl) u1).setCell (p := ⟨q, 2, none⟩) (fun _ => rfl) u2).setCell (p := ⟨q, 3, none⟩) (fun _ => rfl) u3).setCell (p := ⟨q, 4, none⟩) (fun _ => rfl) u4

/-- A token and an error number, handed back. -/
theorem res_tok {fn : Func} {c t : Nat} (hr : fn.results = #[.cell c 43, .tmp t]) {tmps : Array Value} {w : World} {q : Nat} {cs : Array Value} {e : Value} (h2 : tmps.getD c undef = .pointer (some ⟨q, 0, none⟩)) (h3 : tmps.getD t undef = e)
    (hb : w.heap[q]? = some (.cells cs 43 (0, 0))) (hs : cs.size = 5) : (results fn tmps).run Tryd.prog w = .ok (.tuple #[.agg cs, e]) w := by
  have := run_loadVar_row (P := Tryd.prog) w q 43 43 cs (0, 0) _ hb Tryd.underlying43 rfl (by rw [hs]; kernel_rfl)
  rw [Array.getD_eq_getD_getElem?] at h2 h3
  simp [results, hr, h2, h3, asAddr, this]

theorem Res_.set {w w' : World} {p q : Nat} (h : Res_ w w' p q) {B : Nat} {T : List UInt8} {k line first k' line' first' : Nat} {v : Value} {out : List Tok} (h0 : Sc w B p T k line first v out) (hs : Sc w' B p T k' line' first' v out) (u0 u1 u2 u3 u4 : Value) :
    Sc (set5 w' q u0 u1 u2 u3 u4) B p T k' line' first' v out ∧ FrP p w (set5 w' q u0 u1 u2 u3 u4) ∧ (set5 w' q u0 u1 u2 u3 u4).heap[q]? = some (.cells #[u0, u1, u2, u3, u4] 43 (0, 0)) := by
  have hp := h0.lt
  have hq := h.q0
  refine ⟨hs.kept (set5_fr w' q u0 u1 u2 u3 u4) (by omega) (fun b hb e => by have := (h0.own.lt b hb).2; omega), ?_, set5_blk h.blk u0 u1 u2 u3 u4⟩
  exact Fr.trans h.fr (Fr.mono (set5_fr w' q u0 u1 u2 u3 u4) (T := fun b => b = p ∨ b = q) (fun _ _ e => .inr e)) (fun i hi e => by rcases e with e | e; exact e; omega)

set_option maxHeartbeats 400000 in
theorem semi_any {w : World} {B p : Nat} {T : List UInt8} {k line first : Nat} {v : Value} {out : List Tok} (h : Sc w B p T k line first v out) (hk : T[k]? = some 59) :
    Calls Tryd.prog 41 #[.pointer (some ⟨p, 0, none⟩)] w (ReadDone w B p T k line first v out (.tok 1 [59] 0 1)) := by
  have H := Lib.hid h
  have K := Lib.hid hk
  clear h hk
  go_enter Tryd.func41, Tryd.ntmps41
  go_wp2_with fail
  refine (pass_any (H.out.up ((Fr.refl _ _).alloc _)) 1 (by have := (List.getElem?_eq_some_iff.1 K.out).1; omega)).mono ?_
  rintro e w' ⟨rfl, s1, f1⟩
  have R := Lib.hid (Res_.start.go H.out.lt f1)
  have S1 := Lib.hid s1
  rw [show (T.drop k).take 1 = [59] by rw [drop_at K.out]; rfl]
  obtain ⟨r0, r1, r2, r3, r4⟩ := R.out.cells
  have z0 := R.out.frz 0
  have z1 := R.out.frz 1
  have z2 := R.out.frz 2
  have z3 := R.out.frz 3
  have z4 := R.out.frz 4
  clear s1 f1
  generalize w.heap.size = q at *
  go_wp2_with fail
  obtain ⟨s2, f2, b2⟩ := R.out.set H.out S1.out (.int .i64 1) (.string (bs [59])) (.int .i64 0) (.int .i64 0) (.int .i64 0)
  exact bodyPost_ret (res_tok (c := 2) (t := 3) (by kernel_rfl) rfl rfl b2 rfl) rfl ⟨rfl, s2, f2⟩

theorem take_while_take {q : UInt8 → Bool} : ∀ (l : List UInt8), l.take (l.takeWhile q).length = l.takeWhile q
  | [] => rfl
  | b :: l => by
    rw [List.takeWhile_cons]
    split
    · rw [List.length_cons, List.take_succ_cons, take_while_take l]
    · rfl

set_option maxHeartbeats 1000000 in
theorem name_any {w : World} {B p : Nat} {T : List UInt8} {k line first : Nat} {v : Value} {out : List Tok} (h : Sc w B p T k line first v out) (L : Laid w) (hB : 2 + 1 + 1 ≤ B) {c : UInt8} (hk : T[k]? = some c) (hc : letter c.toNat = true) :
    Calls Tryd.prog 43 #[.pointer (some ⟨p, 0, none⟩)] w (ReadDone w B p T k line first v out (one (T.drop k))) := by
  have hT := h.big
  have hkT := h.kT
  have hsz := bs_size T
  have E1 : (bs T).extract k T.length = bs (T.drop k) := by rw [← hsz]; exact bs_from T k
  have hd : digit c.toNat = false := by
    simp only [letter, Bool.or_eq_true, Bool.and_eq_true, beq_iff_eq, decide_eq_true_eq] at hc
    simp only [digit, Bool.and_eq_false_iff, decide_eq_false_iff_not]
    omega
  have h59 : c ≠ 59 := by rintro rfl; simp [letter] at hc
  obtain ⟨n, hn⟩ : ∃ n, n = ((T.drop k).takeWhile inName).length := ⟨_, rfl⟩
  have e1 : nameLen (T.drop k) = n := by rw [hn, drop_at hk]; simp [nameLen, hd]
  have hnl : k + n ≤ T.length := by
    have := (List.takeWhile_sublist inName (l := T.drop k)).length_le
    rw [List.length_drop] at this
    omega
  have E2 : (T.drop k).take n = (T.drop k).takeWhile inName := by rw [hn]; exact take_while_take _
  have HO : one (T.drop k) = .tok (if isWord ((T.drop k).takeWhile inName) then 3 else 2) ((T.drop k).takeWhile inName) 0 n := by
    rw [hn, drop_at hk]; simp only [one, if_neg h59, hc, if_true]
  obtain ⟨kd, hkd⟩ : ∃ kd, kd = (if isWord ((T.drop k).takeWhile inName) then 3 else 2) := ⟨_, rfl⟩
  rw [← hkd] at HO
  rw [HO]
  have H := Lib.hid h
  have LL := Lib.hid L
  have HK := Lib.hid hkd
  have R0 := Lib.hid (Res_.start (w := w) (p := p))
  have S1 := Lib.hid (h.up ((Fr.refl (fun _ => False) w).alloc zeroTok))
  clear h L HO hc hd hkd
  go_enter Tryd.func43, Tryd.ntmps43
  go_wp2_with fail
  change (Code.region _ _ _).wp _ _ _ (w.alloc zeroTok)
  generalize w.alloc zeroTok = w1 at S1 R0 ⊢
  generalize w.heap.size = q at R0 ⊢
  have S2 := Lib.hid (S1.out.up (Fr.drew (Fr.refl (fun _ => False) w1)))
  have N := Lib.hid (show Calls Tryd.prog 67 #[.string (bs (T.drop k))] w1.drew fun e w' => e = .returned (.int .i64 n) ∧ w1.drew = w' by
    rw [← e1]; exact nameLen_any _ (by rw [List.length_drop]; omega))
  have E2 := Lib.hid E2
  have c0 := S2.out.c0
  have c1 := S2.out.c1
  clear e1 hn
  refine wp_region_held_drew (S := (fun _ => True)) (by kernel_rfl) (by trivial) (fun hHeld => ?_)
  refine held_take (i := 0) (d := some 5) (v := ?_) rfl rfl (by kernel_rfl) (by kernel_rfl) (by kernel_rfl) (fun _ _ _ h => h) (by rfl) ?_ (by assumption) ?_
  rotate_left 1
  focus (intro w hSw; (try dsimp only at hSw); go_simp; first | done | with_reducible rfl)
  simp only [Act.put, List.setIfInBounds_toArray, List.set_cons_zero, List.set_cons_succ]
  refine held_take (i := 1) (d := some 6) (v := ?_) rfl rfl (by kernel_rfl) (by kernel_rfl) (by kernel_rfl) (fun _ _ _ h => h) (by rfl) ?_ (by assumption) ?_
  rotate_left 1
  focus (intro w hSw; (try dsimp only at hSw); go_simp; first | done | with_reducible rfl)
  simp only [Act.put, List.setIfInBounds_toArray, List.set_cons_zero, List.set_cons_succ]
  refine held_take (i := 2) (d := some 7) (v := ?_) rfl rfl (by kernel_rfl) (by kernel_rfl) (by kernel_rfl) (fun _ _ _ h => h) (by rfl) ?_ (by assumption) ?_
  rotate_left 1
  focus (intro w hSw; (try dsimp only at hSw); go_simp; first | done | with_reducible rfl)
  simp only [Act.put, List.setIfInBounds_toArray, List.set_cons_zero, List.set_cons_succ]
  refine held_take (i := 3) (d := some 8) (v := ?_) rfl rfl (by kernel_rfl) (by kernel_rfl) (by kernel_rfl) (fun _ _ _ h => h) (by rfl) ?_ (by assumption) ?_
  rotate_left 1
  focus (intro w hSw; (try dsimp only at hSw); go_simp; first | done | with_reducible rfl)
  simp only [Act.put, List.setIfInBounds_toArray, List.set_cons_zero, List.set_cons_succ]
  refine held_take (i := 5) (d := some 10) (v := ?_) rfl rfl (by kernel_rfl) (by kernel_rfl) (by kernel_rfl) (fun _ _ _ h => h) (by rfl) ?_ (by assumption) ?_
  rotate_left 1
  focus (intro w hSw; (try dsimp only at hSw); go_simp; first | done | with_reducible rfl)
  simp only [Act.put, List.setIfInBounds_toArray, List.set_cons_zero, List.set_cons_succ]
  refine held_take (i := 6) (d := some 11) (v := ?_) rfl rfl (by kernel_rfl) (by kernel_rfl) (by kernel_rfl) (fun _ _ _ h => h) (by rfl) ?_ (by assumption) ?_
  rotate_left 1
  focus (intro w hSw; (try dsimp only at hSw); go_simp; first | done | with_reducible rfl)
  simp only [Act.put, List.setIfInBounds_toArray, List.set_cons_zero, List.set_cons_succ]
  refine held_take (i := 7) (d := some 12) (v := ?_) rfl rfl (by kernel_rfl) (by kernel_rfl) (by kernel_rfl) (fun _ _ _ h => h) (by rfl) ?_ (by assumption) ?_
  rotate_left 1
  focus (intro w hSw; (try dsimp only at hSw); go_simp; first | done | with_reducible rfl)
  simp only [Act.put, List.setIfInBounds_toArray, List.set_cons_zero, List.set_cons_succ]
  refine wpAnyH_ready (rs := [4, 8]) (by kernel_rfl) (by simp) ?_
  refine (AllReadyH.cons (o := _) rfl (fun K hK => ?_) (AllReadyH.cons (o := _) rfl (fun K hK => ?_) AllReadyH.nil))
  · go_simp
    refine hK.out _ _ (by trivial) (fun hHeld => ?_)
    clear hK K
    refine wpAnyH_ready (rs := [8]) (by kernel_rfl) (by simp) ?_
    refine (AllReadyH.cons (o := _) rfl (fun K hK => ?_) AllReadyH.nil)
    go_simp
    refine hK.out _ _ (by trivial) (fun hHeld => ?_)
    clear hK K
    refine held_take (i := 9) (d := some 14) (v := ?_) rfl rfl (by kernel_rfl) (by kernel_rfl) (by kernel_rfl) (fun _ _ _ h => h) (by rfl) ?_ (by assumption) ?_
    rotate_left 1
    focus (intro w hSw; (try dsimp only at hSw); go_simp; first | done | with_reducible rfl)
    simp only [Act.put, List.setIfInBounds_toArray, List.set_cons_zero, List.set_cons_succ]
    refine wpAnyH_ready (rs := [10]) (by kernel_rfl) (by simp) ?_
    refine (AllReadyH.cons (o := _) rfl (fun K hK => ?_) AllReadyH.nil)
    go_simp
    refine N.out.mono ?_
    rintro e w' ⟨rfl, rfl⟩
    go_simp
    refine hK.out _ _ (by trivial) (fun hHeld => ?_)
    clear hK K
    refine wpAnyH_ready (rs := [11]) (by kernel_rfl) (by simp) ?_
    refine (AllReadyH.cons (o := _) rfl (fun K hK => ?_) AllReadyH.nil)
    go_simp
    refine (pass_any S2.out n hnl).mono ?_
    rintro e w2 ⟨rfl, s2, f2⟩
    go_simp
    refine hK.out _ _ (by trivial) (fun hHeld => ?_)
    clear hK K
    refine held_take (i := 12) (d := some 4) (v := ?_) rfl rfl (by kernel_rfl) (by kernel_rfl) (by kernel_rfl) (fun _ _ _ h => h) (by rfl) ?_ (by assumption) ?_
    rotate_left 1
    focus (intro w hSw; (try dsimp only at hSw); go_simp; first | done | with_reducible rfl)
    simp only [Act.put, List.setIfInBounds_toArray, List.set_cons_zero, List.set_cons_succ]
    refine wpAnyH_done (by kernel_rfl) ?_ _
    have S3 := Lib.hid s2
    have R3 := Lib.hid (R0.out.go H.out.lt (Fr.trans (Fr.drew (Fr.refl (fun b => b = p) w1)) f2 (fun _ _ e => e)))
    have L3 := Lib.hid (LL.out.kept R3.out.fr (by have := H.out.lo; omega) (by have := H.out.lo; omega))
    clear s2 f2 c0 c1
    generalize (T.drop k).takeWhile inName = t at *
    go_wp2_with fail
    refine (isWord_any L3.out t).mono ?_
    rintro e w' ⟨rfl, rfl⟩
    obtain ⟨r0, r1, r2, r3, r4⟩ := R3.out.cells
    have z0 := R3.out.frz 0
    have z1 := R3.out.frz 1
    have z2 := R3.out.frz 2
    have z3 := R3.out.frz 3
    have z4 := R3.out.frz 4
    cases hW : isWord t
    · have e3 : kd = 2 := by rw [HK.out, hW]; rfl
      subst e3
      go_wp2_with fail
      obtain ⟨s2, f2, b2⟩ := R3.out.set H.out S3.out (.int .i64 2) (.string (bs t)) (.int .i64 0) (.int .i64 0) (.int .i64 0)
      exact bodyPost_ret (res_tok (c := 2) (t := 3) (by kernel_rfl) rfl rfl b2 rfl) rfl ⟨rfl, s2, f2⟩
    · have e3 : kd = 3 := by rw [HK.out, hW]; rfl
      subst e3
      go_wp2_with fail
      obtain ⟨s2, f2, b2⟩ := R3.out.set H.out S3.out (.int .i64 3) (.string (bs t)) (.int .i64 0) (.int .i64 0) (.int .i64 0)
      exact bodyPost_ret (res_tok (c := 2) (t := 3) (by kernel_rfl) rfl rfl b2 rfl) rfl ⟨rfl, s2, f2⟩
  · go_simp
    refine hK.out _ _ (by trivial) (fun hHeld => ?_)
    clear hK K
    refine wpAnyH_ready (rs := [4]) (by kernel_rfl) (by simp) ?_
    refine (AllReadyH.cons (o := _) rfl (fun K hK => ?_) AllReadyH.nil)
    go_simp
    refine hK.out _ _ (by trivial) (fun hHeld => ?_)
    clear hK K
    refine held_take (i := 9) (d := some 14) (v := ?_) rfl rfl (by kernel_rfl) (by kernel_rfl) (by kernel_rfl) (fun _ _ _ h => h) (by rfl) ?_ (by assumption) ?_
    rotate_left 1
    focus (intro w hSw; (try dsimp only at hSw); go_simp; first | done | with_reducible rfl)
    simp only [Act.put, List.setIfInBounds_toArray, List.set_cons_zero, List.set_cons_succ]
    refine wpAnyH_ready (rs := [10]) (by kernel_rfl) (by simp) ?_
    refine (AllReadyH.cons (o := _) rfl (fun K hK => ?_) AllReadyH.nil)
    go_simp
    refine N.out.mono ?_
    rintro e w' ⟨rfl, rfl⟩
    go_simp
    refine hK.out _ _ (by trivial) (fun hHeld => ?_)
    clear hK K
    refine wpAnyH_ready (rs := [11]) (by kernel_rfl) (by simp) ?_
    refine (AllReadyH.cons (o := _) rfl (fun K hK => ?_) AllReadyH.nil)
    go_simp
    refine (pass_any S2.out n hnl).mono ?_
    rintro e w2 ⟨rfl, s2, f2⟩
    go_simp
    refine hK.out _ _ (by trivial) (fun hHeld => ?_)
    clear hK K
    refine held_take (i := 12) (d := some 4) (v := ?_) rfl rfl (by kernel_rfl) (by kernel_rfl) (by kernel_rfl) (fun _ _ _ h => h) (by rfl) ?_ (by assumption) ?_
    rotate_left 1
    focus (intro w hSw; (try dsimp only at hSw); go_simp; first | done | with_reducible rfl)
    simp only [Act.put, List.setIfInBounds_toArray, List.set_cons_zero, List.set_cons_succ]
    refine wpAnyH_done (by kernel_rfl) ?_ _
    have S3 := Lib.hid s2
    have R3 := Lib.hid (R0.out.go H.out.lt (Fr.trans (Fr.drew (Fr.refl (fun b => b = p) w1)) f2 (fun _ _ e => e)))
    have L3 := Lib.hid (LL.out.kept R3.out.fr (by have := H.out.lo; omega) (by have := H.out.lo; omega))
    clear s2 f2 c0 c1
    generalize (T.drop k).takeWhile inName = t at *
    go_wp2_with fail
    refine (isWord_any L3.out t).mono ?_
    rintro e w' ⟨rfl, rfl⟩
    obtain ⟨r0, r1, r2, r3, r4⟩ := R3.out.cells
    have z0 := R3.out.frz 0
    have z1 := R3.out.frz 1
    have z2 := R3.out.frz 2
    have z3 := R3.out.frz 3
    have z4 := R3.out.frz 4
    cases hW : isWord t
    · have e3 : kd = 2 := by rw [HK.out, hW]; rfl
      subst e3
      go_wp2_with fail
      obtain ⟨s2, f2, b2⟩ := R3.out.set H.out S3.out (.int .i64 2) (.string (bs t)) (.int .i64 0) (.int .i64 0) (.int .i64 0)
      exact bodyPost_ret (res_tok (c := 2) (t := 3) (by kernel_rfl) rfl rfl b2 rfl) rfl ⟨rfl, s2, f2⟩
    · have e3 : kd = 3 := by rw [HK.out, hW]; rfl
      subst e3
      go_wp2_with fail
      obtain ⟨s2, f2, b2⟩ := R3.out.set H.out S3.out (.int .i64 3) (.string (bs t)) (.int .i64 0) (.int .i64 0) (.int .i64 0)
      exact bodyPost_ret (res_tok (c := 2) (t := 3) (by kernel_rfl) rfl rfl b2 rfl) rfl ⟨rfl, s2, f2⟩

/-- What denoted answers: a byte and a length, 0 at what may not stand there. -/
def denV (l : List UInt8) : Value := match denoted l with
  | none => .tuple #[.int .u8 0, .int .i64 0]
  | some (c, n) => .tuple #[.int .u8 c.toNat, .int .i64 n]

set_option maxHeartbeats 1000000 in
theorem denoted_any {w : World} (b : UInt8) (r : List UInt8) (hl : (b :: r).length ≤ 16384) : Calls Tryd.prog 69 #[.string (bs (b :: r))] w fun e w' => e = .returned (denV (b :: r)) ∧ w = w' := by
  have hsz := bs_size (b :: r)
  have g0 := get_bs (l := b :: r) (k := 0) (c := b) (by rw [hsz]; simp) rfl
  have h0 : 0 < (bs (b :: r)).size := by rw [hsz]; simp
  obtain ⟨d, hd⟩ : ∃ d, d = denV (b :: r) := ⟨_, rfl⟩
  rw [← hd]
  by_cases h1 : b.toNat < 32
  · have e : d = .tuple #[.int .u8 0, .int .i64 0] := by rw [hd]; simp [denV, denoted, h1]
    have a1 : (b.toNat : Int) < 32 := by omega
    subst e
    clear hd
    go_enter Tryd.func69, Tryd.ntmps69
    go_wp2
    go_ret2
    exact ⟨rfl, rfl⟩
  by_cases h2 : 126 < b.toNat
  · have e : d = .tuple #[.int .u8 0, .int .i64 0] := by rw [hd]; simp [denV, denoted, h2]
    have a1 : ¬ (b.toNat : Int) < 32 := by omega
    have a2 : (b.toNat : Int) > 126 := by omega
    subst e
    clear hd
    go_enter Tryd.func69, Tryd.ntmps69
    go_wp2
    go_ret2
    exact ⟨rfl, rfl⟩
  have a1 : ¬ (b.toNat : Int) < 32 := by omega
  have a2 : ¬ (b.toNat : Int) > 126 := by omega
  by_cases h3 : b = 92
  · have q3 : ((b.toNat : Int) != 92) = false := by subst h3; rfl
    cases r with
    | nil =>
      have e : d = .tuple #[.int .u8 0, .int .i64 0] := by rw [hd]; simp [denV, denoted, h3]
      have hone : (([b] : List UInt8).length : Int) = 1 := rfl
      rw [show ([b] : List UInt8).length = 1 from rfl] at hsz
      subst e
      clear hd h3
      generalize bs [b] = s at *
      go_enter Tryd.func69, Tryd.ntmps69
      go_wp2
      go_ret2
      exact ⟨rfl, rfl⟩
    | cons c r =>
      have g1 := get_bs (l := b :: c :: r) (k := 1) (c := c) (by rw [hsz]; simp) rfl
      have h1' : 1 < (bs (b :: c :: r)).size := by rw [hsz]; simp
      have hlen : (((b :: c :: r).length : Int) == 1) = false := by simp; omega
      have k1 : ((c.toNat : Int) == 110) = decide (c = 110) := beqU c 110
      have k2 : ((c.toNat : Int) == 116) = decide (c = 116) := beqU c 116
      have k3 : ((c.toNat : Int) == 34) = decide (c = 34) := beqU c 34
      have k4 : ((c.toNat : Int) == 92) = decide (c = 92) := beqU c 92
      obtain ⟨N, hN⟩ : ∃ N, N = (b :: c :: r).length := ⟨_, rfl⟩
      rw [← hN] at hsz hlen
      have H3 := Lib.hid h3
      by_cases c1 : c = 110
      · have e : d = .tuple #[.int .u8 10, .int .i64 2] := by rw [hd]; simp [denV, denoted, h3, c1]
        subst e
        rw [dec_of c1] at k1
        clear hd k2 k3 k4 hN c1
        generalize bs (b :: c :: r) = s at *
        go_enter Tryd.func69, Tryd.ntmps69
        go_wp2
        go_ret2
        exact ⟨rfl, rfl⟩
      rw [dec_not c1] at k1
      by_cases c2 : c = 116
      · have e : d = .tuple #[.int .u8 9, .int .i64 2] := by rw [hd]; simp [denV, denoted, h3, c2]
        subst e
        rw [dec_of c2] at k2
        clear hd k3 k4 hN c1 c2
        generalize bs (b :: c :: r) = s at *
        go_enter Tryd.func69, Tryd.ntmps69
        go_wp2
        go_ret2
        exact ⟨rfl, rfl⟩
      rw [dec_not c2] at k2
      by_cases c3 : c = 34
      · have e : d = .tuple #[.int .u8 c.toNat, .int .i64 2] := by rw [hd]; simp [denV, denoted, h3, c3]
        subst e
        rw [dec_of c3] at k3
        clear hd k4 hN c1 c2 c3
        generalize bs (b :: c :: r) = s at *
        go_enter Tryd.func69, Tryd.ntmps69
        go_wp2
        go_ret2
        exact ⟨rfl, rfl⟩
      rw [dec_not c3] at k3
      by_cases c4 : c = 92
      · have e : d = .tuple #[.int .u8 c.toNat, .int .i64 2] := by rw [hd]; simp [denV, denoted, h3, c4]
        subst e
        rw [dec_of c4] at k4
        clear hd hN c1 c2 c3 c4
        generalize bs (b :: c :: r) = s at *
        go_enter Tryd.func69, Tryd.ntmps69
        go_wp2
        go_ret2
        exact ⟨rfl, rfl⟩
      · have e : d = .tuple #[.int .u8 0, .int .i64 0] := by rw [hd]; simp [denV, denoted, h3, c1, c2, c3, c4]
        subst e
        rw [dec_not c4] at k4
        clear hd hN c1 c2 c3 c4
        generalize bs (b :: c :: r) = s at *
        go_enter Tryd.func69, Tryd.ntmps69
        go_wp2
        go_ret2
        exact ⟨rfl, rfl⟩
  · have e : d = .tuple #[.int .u8 b.toNat, .int .i64 1] := by
      rw [hd]; cases r <;> simp [denV, denoted, h1, h2, h3]
    have q3 : ((b.toNat : Int) != 92) = true := by rw [bne, show ((b.toNat : Int) == 92) = decide (b = 92) from beqU b 92, dec_not h3]; rfl
    subst e
    clear hd
    go_enter Tryd.func69, Tryd.ntmps69
    go_wp2
    go_ret2
    exact ⟨rfl, rfl⟩

/-! sign -/
structure SignInv (w w1 wr : World) (B p : Nat) (T : List UInt8) (k line first : Nat) (v : Value) (out : List Tok) (q : Nat) (j : Nat) : Prop where
  sc : Sc wr B p T k line first v out
  res : Res_ w wr p q
  no : ∀ i x, i < j → signsL[i]? = some x → x.isPrefixOf (T.drop k) = false

theorem find_sign {l : List UInt8} {j : Nat} {x : List UInt8} (hx : signsL[j]? = some x) (h : x.isPrefixOf l = true) (hno : ∀ i y, i < j → signsL[i]? = some y → y.isPrefixOf l = false) : signsL.find? (fun g => g.isPrefixOf l) = some x := by
  have hj := (List.getElem?_eq_some_iff.1 hx).1
  rw [List.find?_eq_some_iff_getElem]
  refine ⟨h, j, hj, (List.getElem?_eq_some_iff.1 hx).2, fun i hi => ?_⟩
  rw [hno i signsL[i] hi (List.getElem?_eq_getElem _)]
  rfl
theorem find_sign_none {l : List UInt8} (hno : ∀ i y, i < 24 → signsL[i]? = some y → y.isPrefixOf l = false) : signsL.find? (fun g => g.isPrefixOf l) = none := by
  rw [List.find?_eq_none]
  intro y hy
  obtain ⟨i, hi⟩ := List.mem_iff_getElem?.1 hy
  rw [hno i y (by have := (List.getElem?_eq_some_iff.1 hi).1; exact this) hi]
  simp

theorem signs_len : ∀ x ∈ signsL, x.length ≤ 2 := by decide

set_option maxHeartbeats 1000000 in
theorem sign_any {w : World} {B p : Nat} {T : List UInt8} {k line first : Nat} {v : Value} {out : List Tok} (h : Sc w B p T k line first v out) (L : Laid w) :
    Calls Tryd.prog 47 #[.pointer (some ⟨p, 0, none⟩)] w (ReadDone w B p T k line first v out (match signsL.find? (fun g => g.isPrefixOf (T.drop k)) with
      | none => .err 10
      | some g => .tok 6 g 0 g.length)) := by
  have hT := h.big
  have hkT := h.kT
  have hsz := bs_size T
  have E1 : (bs T).extract k T.length = bs (T.drop k) := by rw [← hsz]; exact bs_from T k
  obtain ⟨G, hG⟩ : ∃ G, G = (match signsL.find? (fun g => g.isPrefixOf (T.drop k)) with
      | none => Got.err 10
      | some g => .tok 6 g 0 g.length) := ⟨_, rfl⟩
  rw [← hG]
  have HG := Lib.hid hG
  have H := Lib.hid h
  have R := Lib.hid (range_kept L.signs ((Fr.refl (fun _ => False) w).alloc zeroTok) (fun h => h))
  have I := Lib.hid signs_idx
  have V0 := Lib.hid (show SignInv w w (w.alloc zeroTok) B p T k line first v out w.heap.size 0 from ⟨h.up ((Fr.refl _ _).alloc _), Res_.start, fun _ _ h => absurd h (Nat.not_lt_zero _)⟩)
  clear h L hG
  generalize hV : signsV = V at R I
  have hV2 : (Tryd.prog.info? 90).map (·.size) = some V.length := by rw [← hV]; kernel_rfl
  have HV := Lib.hid hV2
  clear hV2 hV
  go_enter Tryd.func47, Tryd.ntmps47
  go_wp2_with (refine wpList_load_mid rfl 90 _ rfl 1 0 rfl V _ R.out Tryd.underlying90 rfl HV.out ?_)
  generalize Value.agg V.toArray = A0 at I ⊢
  change (Code.loop _).wp _ _ _ (w.alloc zeroTok)
  clear R
  generalize w.alloc zeroTok = w1 at V0 ⊢
  generalize w.heap.size = q at V0 ⊢
  clear HV
  go_loopw [7] (fun i wr => ∃ j : Nat, j ≤ 24 ∧ i = .int .i64 j ∧ Hid (SignInv w w wr B p T k line first v out q j)) (fun i _ => 24 - (intOf i).toNat)
  case atStart => exact ⟨0, by decide, rfl, V0⟩
  case round =>
    obtain ⟨j, hj, rfl, hm⟩ := hrel
    have c0 := hm.out.sc.c0
    have c1 := hm.out.sc.c1
    by_cases hlt : j < 24
    · obtain ⟨x, hx⟩ : ∃ x, signsL[j]? = some x := ⟨_, List.getElem?_eq_getElem (by show j < 24; omega)⟩
      have ix := I.out j x hx
      have Hx := Lib.hid hx
      clear hx
      cases hp : x.isPrefixOf (T.drop k)
      · have HP := Lib.hid (show ∀ w, Calls Tryd.prog 37 #[.string (bs (T.drop k)), .string (bs x)] w fun e w' => e = .returned (.bool false) ∧ w = w' from fun w => by rw [← hp]; exact hasPrefix_any _ _)
        have Hp := Lib.hid hp
        clear hp
        go_wp2_with fail
        go_quiet ((first | (go_at_call 37; exact quietS (HP.out _))))
        go_wp2_with fail
        go_roundw
        case rel => exact ⟨j + 1, by omega, by go_num, Lib.hid ⟨hm.out.sc.drewN _, ⟨hm.out.res.fr.drewN _, hm.out.res.q0, hm.out.res.blk⟩, fun i y hi hy => by
          by_cases hij : i = j
          · subst hij; rw [Hx.out] at hy; cases hy; exact Hp.out
          · exact hm.out.no i y (by omega) hy⟩⟩
        case measure => simp [intOf]; omega
      · have HP := Lib.hid (show ∀ w, Calls Tryd.prog 37 #[.string (bs (T.drop k)), .string (bs x)] w fun e w' => e = .returned (.bool true) ∧ w = w' from fun w => by rw [← hp]; exact hasPrefix_any _ _)
        have e : G = .tok 6 x 0 x.length := by rw [HG.out, find_sign Hx.out hp hm.out.no]
        subst e
        obtain ⟨r, hr⟩ := List.isPrefixOf_iff_prefix.1 hp
        have hlen : k + x.length ≤ T.length := by
          have := congrArg List.length hr
          rw [List.length_append, List.length_drop] at this
          omega
        have Ht := Lib.hid (show (T.drop k).take x.length = x by rw [← hr]; simp)
        have hxl := bs_size x
        clear hp HG hr
        go_wp2_with fail
        go_quiet ((first | (go_at_call 37; exact quietS (HP.out _))))
        go_wp2_with fail
        refine (pass_any (hm.out.sc.drewN _) x.length hlen).mono ?_
        rintro e w3 ⟨rfl, s3, f3⟩
        rw [Ht.out]
        have S3 := Lib.hid s3
        have R3 := Lib.hid (Res_.go hm.out.res H.out.lt (Fr.trans (Fr.drewN (Fr.refl (fun b => b = p) _) _) f3 (fun _ _ e => e)))
        clear s3 f3 c0 c1
        obtain ⟨r0, r1, r2, r3, r4⟩ := R3.out.cells
        have z0 := R3.out.frz 0
        have z1 := R3.out.frz 1
        have z2 := R3.out.frz 2
        have z3 := R3.out.frz 3
        have z4 := R3.out.frz 4
        go_wp2_with fail
        obtain ⟨s2, f2, b2⟩ := R3.out.set H.out S3.out (.int .i64 6) (.string (bs x)) (.int .i64 0) (.int .i64 0) (.int .i64 0)
        exact bodyPost_ret (res_tok (c := 2) (t := 3) (by kernel_rfl) rfl rfl b2 rfl) rfl ⟨rfl, s2, f2⟩
    · have hj2 : j = 24 := by omega
      subst hj2
      have e : G = .err 10 := by rw [HG.out, find_sign_none hm.out.no]
      subst e
      clear HG
      obtain ⟨r0, r1, r2, r3, r4⟩ := hm.out.res.cells
      have z0 := hm.out.res.frz 0
      have z1 := hm.out.res.frz 1
      have z2 := hm.out.res.frz 2
      have z3 := hm.out.res.frz 3
      have z4 := hm.out.res.frz 4
      go_wp2_with fail
      obtain ⟨s2, f2, b2⟩ := hm.out.res.set H.out hm.out.sc (.int .i64 0) (.string (bs [])) (.int .i64 0) (.int .i64 0) (.int .i64 0)
      exact bodyPost_ret (res_tok (c := 2) (t := 3) (by kernel_rfl) rfl rfl b2 rfl) rfl ⟨rfl, f2⟩
end Go.Proofs.YtemmdbjcllcelaaDoor.Tk
