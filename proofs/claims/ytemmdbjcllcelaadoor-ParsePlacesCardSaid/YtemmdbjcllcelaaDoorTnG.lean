/-
  Package token: number.
-/
import Derived.Test.YtemmdbjcllcelaaDoorTnE
namespace Go.Proofs.YtemmdbjcllcelaaDoor.Tk
open Go.RowKit
set_option maxRecDepth 100000

theorem num_facts (d x : Nat) (hd9 : d ≤ 9) (hx : x ≤ 9223372036854775807) : ∃ D M : Nat, 9223372036854775807 - (d : Int) = (D : Int) ∧ wrap64 (D : Int) = (D : Int) ∧ (D : Int).tdiv 10 = (M : Int) ∧ wrap64 (M : Int) = (M : Int) ∧
    (9223372036854775807 - d) / 10 = M ∧ ((D : Int) / 10 = (M : Int)) ∧ (x ≤ M → wrap64 ((x : Int) * 10) = (x : Int) * 10 ∧ (x : Int) * 10 + d ≤ 9223372036854775807 ∧ wrap64 ((x : Int) * 10 + d) = (x : Int) * 10 + d) := by
  obtain ⟨D, hD⟩ : ∃ D : Nat, (D : Int) = 9223372036854775807 - (d : Int) := ⟨(9223372036854775807 - (d : Int)).toNat, by omega⟩
  obtain ⟨M, hM⟩ : ∃ M : Nat, (M : Int) = (D : Int) / 10 := ⟨((D : Int) / 10).toNat, by omega⟩
  refine ⟨D, M, hD.symm, IntWalk.wrap64_in _ ⟨by omega, by omega⟩, ?_, IntWalk.wrap64_in _ ⟨by omega, by omega⟩, by omega, hM.symm, fun h => ⟨IntWalk.wrap64_in _ ⟨by omega, by omega⟩, by omega, IntWalk.wrap64_in _ ⟨by omega, by omega⟩⟩⟩
  rw [Int.tdiv_eq_ediv_of_nonneg (by omega)]
  exact hM.symm

structure NumInv (w wr : World) (B p : Nat) (T : List UInt8) (k line first : Nat) (v : Value) (out : List Tok) (q j x : Nat) : Prop where
  sc : Sc wr B p T j line first v out
  res : Res_ w wr p q
  le : k ≤ j
  big : x ≤ 9223372036854775807
  go : numGo (T.drop k) 0 0 = numGo (T.drop j) x (j - k)

theorem numGo_step {T : List UInt8} {j x n : Nat} {c : UInt8} (hc : T[j]? = some c) (hd : digit c.toNat = true) :
    numGo (T.drop j) x n = if x > (9223372036854775807 - (c.toNat - 48)) / 10 then none else numGo (T.drop (j + 1)) (x * 10 + (c.toNat - 48)) (n + 1) := by
  rw [drop_at hc]; simp only [numGo, hd, if_true]
theorem numGo_stop {T : List UInt8} {j x n : Nat} (hc : ∀ c, T[j]? = some c → digit c.toNat = false) : numGo (T.drop j) x n = some (x, n) := by
  by_cases h : j < T.length
  · have e := drop_at (List.getElem?_eq_getElem h)
    rw [e]; simp [numGo, hc _ (List.getElem?_eq_getElem h)]
  · rw [List.drop_eq_nil_of_le (by omega)]; rfl

def numG (T : List UInt8) (k : Nat) : Got := match numGo (T.drop k) 0 0 with
  | none => .err 12
  | some (x, n) => .tok 4 ((T.drop k).take n) x n

set_option maxRecDepth 100000 in
set_option maxHeartbeats 2000000 in
theorem number_any {w : World} {B p : Nat} {T : List UInt8} {k line first : Nat} {v : Value} {out : List Tok} (h : Sc w B p T k line first v out) :
    Calls Tryd.prog 45 #[.pointer (some ⟨p, 0, none⟩)] w (ReadDone w B p T k line first v out (numG T k)) := by
  have hT := h.big
  have hkT := h.kT
  have hsz := bs_size T
  obtain ⟨G, hG⟩ : ∃ G, G = numG T k := ⟨_, rfl⟩
  rw [← hG]
  have HG := Lib.hid hG
  have H := Lib.hid h
  have V0 := Lib.hid (show NumInv w (w.alloc zeroTok) B p T k line first v out w.heap.size k 0 from ⟨h.up ((Fr.refl _ _).alloc _), Res_.start, Nat.le_refl _, by decide, by rw [Nat.sub_self]⟩)
  clear h hG
  have c0 := V0.out.sc.c0
  have c1 := V0.out.sc.c1
  unfold zeroTok at c0 c1
  go_enter Tryd.func45, Tryd.ntmps45
  go_wp2_with fail
  change Code.wp _ _ _ _ (w.alloc zeroTok)
  clear c0 c1
  generalize w.alloc zeroTok = w1 at V0 ⊢
  generalize w.heap.size = q at V0 ⊢
  go_loopw [5] (fun i wr => ∃ j x : Nat, i = .int .i64 x ∧ Hid (NumInv w wr B p T k line first v out q j x)) (fun _ wr => T.length - posOf wr p)
  case atStart => exact ⟨k, 0, rfl, V0⟩
  case round =>
    obtain ⟨j, x, rfl, hm⟩ := hrel
    obtain ⟨wo, rfl⟩ : ∃ wo : World, wo = wr := ⟨_, rfl⟩
    have c0 := hm.out.sc.c0
    have c1 := hm.out.sc.c1
    have hjT := hm.out.sc.kT
    have hx := hm.out.big
    have Ps := Lib.hid hm.out.sc.pos
    by_cases hlt : j < T.length
    · obtain ⟨c, hc⟩ : ∃ c, T[j]? = some c := ⟨_, List.getElem?_eq_getElem hlt⟩
      have hjs : j < (bs T).size := by rw [hsz]; exact hlt
      have gj := get_bs hjs hc
      have C := Lib.hid hc
      clear hc
      have d1 : decide ((j : Int) < (T.length : Int)) = true := dec_of (by omega)
      have d0 : ((j : Int) < ((bs T).size : Int)) := by omega
      have hcl := UInt8.toNat_lt c
      cases hD : digit c.toNat
      · have ID := Lib.hid (show ∀ w, Calls Tryd.prog 44 #[.int .u8 c.toNat] w fun e w' => e = .returned (.bool false) ∧ w = w' from fun w => by rw [← hD]; exact isDigit_any _ (UInt8.toNat_lt c))
        go_wp2_with fail
        go_quiet ((first | (go_at_call 44; exact quietS (ID.out _))))
        go_wp2_with fail
        have S1 := Lib.hid (hm.out.sc.drewN nq)
        have R1 := Lib.hid (show Res_ w (wo.drewN nq) p q from ⟨hm.out.res.fr.drewN _, hm.out.res.q0, hm.out.res.blk⟩)
        generalize wo.drewN nq = w2 at S1 R1 ⊢
        clear c0 c1
        have c0 := S1.out.c0
        have c1 := S1.out.c1
        obtain ⟨r0, r1, r2, r3, r4⟩ := R1.out.cells
        have z0 := R1.out.frz 0
        have z1 := R1.out.frz 1
        have z2 := R1.out.frz 2
        have z3 := R1.out.frz 3
        have z4 := R1.out.frz 4
        have hkj := hm.out.le
        have E : (bs T).extract k j = bs ((T.drop k).take (j - k)) := bs_extract T k j
        have a1 : (k : Int) ≤ (j : Int) := by omega
        have a2 : (j : Int) ≤ (bs T).size := by omega
        have e : G = .tok 4 ((T.drop k).take (j - k)) x (j - k) := by rw [HG.out, numG, hm.out.go, numGo_stop (fun c' hc' => by rw [C.out] at hc'; cases hc'; exact hD)]
        subst e
        clear HG
        clear r0 r1 r2 r3 r4 z0 z1 z2 z3 z4
        go_still_tail 12, (by kernel_rfl)
        change wpList _ _ _ _ _ w2.drew
        have S1 := Lib.hid (S1.out.up (Fr.drew (Fr.refl (fun _ => False) w2)))
        have R1 := Lib.hid (show Res_ w w2.drew p q from ⟨R1.out.fr.drew, R1.out.q0, R1.out.blk⟩)
        generalize w2.drew = w3 at S1 R1 ⊢
        clear c0 c1
        obtain ⟨r0, r1, r2, r3, r4⟩ := R1.out.cells
        have z0 := R1.out.frz 0
        have z1 := R1.out.frz 1
        have z2 := R1.out.frz 2
        have z3 := R1.out.frz 3
        have z4 := R1.out.frz 4
        go_wp2_with fail
        obtain ⟨s2, f2, b2⟩ := R1.out.set H.out S1.out (.int .i64 4) (.string (bs ((T.drop k).take (j - k)))) (.int .i64 x) (.int .i64 0) (.int .i64 0)
        exact bodyPost_ret (res_tok (c := 2) (t := 3) (by kernel_rfl) rfl rfl b2 rfl) rfl ⟨rfl, by rw [Nat.add_sub_cancel' hm.out.le]; exact s2, f2⟩
      · have ID := Lib.hid (show ∀ w, Calls Tryd.prog 44 #[.int .u8 c.toNat] w fun e w' => e = .returned (.bool true) ∧ w = w' from fun w => by rw [← hD]; exact isDigit_any _ (UInt8.toNat_lt c))
        obtain ⟨d, hd⟩ : ∃ d, d = c.toNat - 48 := ⟨_, rfl⟩
        have hd9 : d ≤ 9 := by
          simp only [digit, Bool.and_eq_true, decide_eq_true_eq] at hD
          omega
        have hcd : (c.toNat : Int) - 48 = (d : Int) := by
          simp only [digit, Bool.and_eq_true, decide_eq_true_eq] at hD
          omega
        have hu8 : IntKind.u8.wrap (d : Int) = (d : Int) := IntWalk.u8_in _ (by omega)
        have hi64 : IntKind.i64.wrap (d : Int) = (d : Int) := IntWalk.i64_in _ (by omega)
        have Hd := Lib.hid hd
        have HD := Lib.hid hD
        clear hd hD
        go_wp2_with fail
        go_quiet ((first | (go_at_call 44; exact quietS (ID.out _))))
        have S1 := Lib.hid (hm.out.sc.drewN nq)
        have R1 := Lib.hid (show Res_ w (wo.drewN nq) p q from ⟨hm.out.res.fr.drewN _, hm.out.res.q0, hm.out.res.blk⟩)
        generalize wo.drewN nq = w2 at S1 R1 ⊢
        clear c0 c1
        have c0 := S1.out.c0
        have c1 := S1.out.c1
        go_wp2_with fail
        go_quiet (fail)
        have S1 := Lib.hid (S1.out.drewN nq)
        have R1 := Lib.hid (show Res_ w (w2.drewN nq) p q from ⟨R1.out.fr.drewN _, R1.out.q0, R1.out.blk⟩)
        generalize w2.drewN nq = w3 at S1 R1 ⊢
        clear c0 c1
        have c1 := S1.out.c1
        have f1 := S1.out.fr 1
        obtain ⟨r0, r1, r2, r3, r4⟩ := R1.out.cells
        have z0 := R1.out.frz 0
        have z1 := R1.out.frz 1
        have z2 := R1.out.frz 2
        have z3 := R1.out.frz 3
        have z4 := R1.out.frz 4
        obtain ⟨D, M, hD0, hDw, q1, q2, hM, q4, q5⟩ := num_facts d x hd9 hx
        have Stp := Lib.hid (show numGo (T.drop j) x (j - k) = if x > M then none else numGo (T.drop (j + 1)) (x * 10 + d) (j - k + 1) by rw [numGo_step C.out HD.out, ← Hd.out, hM])
        have Q5 := Lib.hid q5
        clear hM q5
        clear gj hjs d0 d1 hsz hcl hu8 hi64 hcd
        by_cases hxM : x > M
        all_goals clear hd9
        · have a1 : (x : Int) > (M : Int) := Int.ofNat_lt.2 hxM
          have e : G = .err 12 := by rw [HG.out, numG, hm.out.go, Stp.out, if_pos hxM]
          subst e
          clear HG
          go_wp2_with fail
          obtain ⟨s2, f2, b2⟩ := R1.out.set H.out S1.out (.int .i64 0) (.string (bs [])) (.int .i64 0) (.int .i64 0) (.int .i64 0)
          exact bodyPost_ret (res_tok (c := 2) (t := 3) (by kernel_rfl) rfl rfl b2 rfl) rfl ⟨rfl, f2⟩
        · have a1 : ¬ (x : Int) > (M : Int) := fun h => hxM (Int.ofNat_lt.1 h)
          obtain ⟨q3, hyb, hyw⟩ := Q5.out (Nat.le_of_not_lt hxM)
          obtain ⟨y, hy⟩ : ∃ y, y = x * 10 + d := ⟨_, rfl⟩
          obtain ⟨m, hm'⟩ : ∃ m, m = j + 1 := ⟨_, rfl⟩
          have hw : (j : Int) + 1 = (m : Int) := by rw [hm']; rfl
          have hyi : (x : Int) * 10 + (d : Int) = (y : Int) := by rw [hy]; rfl
          rw [hyi] at hyb hyw
          have N := Lib.hid (show NumInv w (w3.setCell ⟨p, 1, none⟩ (.int .i64 m)) B p T k line first v out q m y from
            ⟨S1.out.setAt m (by rw [hm']; exact Nat.le_succ j) (by rw [hm']; exact hlt), Res_.go R1.out H.out.lt (fr_set 1 _), by rw [hm']; exact Nat.le_succ_of_le hm.out.le, Int.ofNat_le.1 hyb, by
              rw [hm.out.go, Stp.out, if_neg hxM, ← hy, ← hm']
              congr 1
              rw [hm']
              exact (Nat.succ_sub hm.out.le).symm⟩)
          have Hm := Lib.hid hm'
          clear hy hm'
          go_wp2_with fail
          generalize w3.setCell ⟨p, 1, none⟩ (.int .i64 m) = w4 at N ⊢
          go_roundw
          case rel => exact ⟨m, y, rfl, N⟩
          case measure => rw [N.out.sc.pos, Ps.out]; have := Hm.out; omega
    · have d1 : decide ((j : Int) < (T.length : Int)) = false := dec_not (by omega)
      have d0 : ¬ ((j : Int) < ((bs T).size : Int)) := by omega
      go_wp2_with fail
      go_quiet (fail)
      go_wp2_with fail
      have S1 := Lib.hid (hm.out.sc.drewN nq)
      have R1 := Lib.hid (show Res_ w (wo.drewN nq) p q from ⟨hm.out.res.fr.drewN _, hm.out.res.q0, hm.out.res.blk⟩)
      generalize wo.drewN nq = w2 at S1 R1 ⊢
      clear c0 c1
      have c0 := S1.out.c0
      have c1 := S1.out.c1
      obtain ⟨r0, r1, r2, r3, r4⟩ := R1.out.cells
      have z0 := R1.out.frz 0
      have z1 := R1.out.frz 1
      have z2 := R1.out.frz 2
      have z3 := R1.out.frz 3
      have z4 := R1.out.frz 4
      have hkj := hm.out.le
      have E : (bs T).extract k j = bs ((T.drop k).take (j - k)) := bs_extract T k j
      have a1 : (k : Int) ≤ (j : Int) := by omega
      have a2 : (j : Int) ≤ (bs T).size := by omega
      have e : G = .tok 4 ((T.drop k).take (j - k)) x (j - k) := by rw [HG.out, numG, hm.out.go, numGo_stop (fun c' hc' => by have := (List.getElem?_eq_some_iff.1 hc').1; omega)]
      subst e
      clear HG
      clear r0 r1 r2 r3 r4 z0 z1 z2 z3 z4
      go_still_tail 12, (by kernel_rfl)
      change wpList _ _ _ _ _ w2.drew
      have S1 := Lib.hid (S1.out.up (Fr.drew (Fr.refl (fun _ => False) w2)))
      have R1 := Lib.hid (show Res_ w w2.drew p q from ⟨R1.out.fr.drew, R1.out.q0, R1.out.blk⟩)
      generalize w2.drew = w3 at S1 R1 ⊢
      clear c0 c1
      obtain ⟨r0, r1, r2, r3, r4⟩ := R1.out.cells
      have z0 := R1.out.frz 0
      have z1 := R1.out.frz 1
      have z2 := R1.out.frz 2
      have z3 := R1.out.frz 3
      have z4 := R1.out.frz 4
      go_wp2_with fail
      obtain ⟨s2, f2, b2⟩ := R1.out.set H.out S1.out (.int .i64 4) (.string (bs ((T.drop k).take (j - k)))) (.int .i64 x) (.int .i64 0) (.int .i64 0)
      exact bodyPost_ret (res_tok (c := 2) (t := 3) (by kernel_rfl) rfl rfl b2 rfl) rfl ⟨rfl, by rw [Nat.add_sub_cancel' hm.out.le]; exact s2, f2⟩
end Go.Proofs.YtemmdbjcllcelaaDoor.Tk
