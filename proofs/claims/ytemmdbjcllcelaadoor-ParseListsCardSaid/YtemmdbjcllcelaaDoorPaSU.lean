/-
  Package parse: listed.
  Package parse: lines.
  Package parse: rules, one by one (written by wip/genPa.py).
-/
import Derived.Test.YtemmdbjcllcelaaDoorPaR
import Derived.Test.YtemmdbjcllcelaaDoorPaLess
import Derived.Test.YtemmdbjcllcelaaDoorPaJL
import Derived.Test.YtemmdbjcllcelaaDoorHeld
import Derived.Deep.Heap
import Derived.Deep.Cut
namespace Go.Proofs.YtemmdbjcllcelaaDoor.Pa
open Go.RowKit
open Go.Proofs.YtemmdbjcllcelaaDoor.Tk (Tok TokC bs tokA zeroTok set5 set5_blk set5_fr blk_set eqL)
set_option maxRecDepth 100000

/-- A row in the making. -/
structure Lp (w0 w : World) (p : Nat) (A : Option Addr) (cap : Nat) (toks : List Tok) (nest : Nat) (s : St) (v : Value) (acc : List Nd) : Prop where
  ps0 : ∃ i f l c, Ps w0 p A cap toks i nest f l c
  own : Nds w w0.heap.size v acc
  at_ : At w p A cap toks nest s
  fr : Fr (fun b => b = p) w0 w
section
variable {w w1 w0 : World} {p cap nest : Nat} {A : Option Addr} {toks : List Tok} {s s2 : St} {v : Value} {acc : List Nd}
theorem Lp.start (h : At w p A cap toks nest s) : Lp w w p A cap toks nest s (.slice none 0 0) [] := by
  obtain ⟨j, h1, _⟩ := h.ps
  exact ⟨⟨_, _, _, _, h1⟩, OwnSl.none_, h, Fr.refl _ _⟩
theorem Lp.call (h : Lp w0 w p A cap toks nest s v acc) (hf : Fr (fun b => b = p) w w1) (ha : At w1 p A cap toks nest s2) : Lp w0 w1 p A cap toks nest s2 v acc :=
  ⟨h.ps0, h.own.keep hf (fun b hb _ e => by obtain ⟨_, _, _, _, h0⟩ := h.ps0; have := h0.lt; omega), ha, Fr.trans h.fr hf (fun _ _ e => e)⟩
theorem Lp.up (h : Lp w0 w p A cap toks nest s v acc) (hf : Up w w1) : Lp w0 w1 p A cap toks nest s v acc := h.call (Fr.mono hf (fun _ _ e => e.elim)) (h.at_.up hf)
theorem Lp.push (h : Lp w0 w p A cap toks nest s v acc) (hf : Fr (fun b => b = p) w w1) (ha : At w1 p A cap toks nest s2) {t : Nd} {cs : Array Value} (ht : NdC w1 (fun b => w.heap.size ≤ b) t cs.toList) (hn : acc.length < 5000) :
    ∃ g c w', (Builtin.append_ #[25, 25] 25 #[v, .slice (some ⟨w1.heap.size, 0, none⟩) 1 1]).run Tryd.prog (w1.alloc (.cells cs 27)) = .ok (.slice (some ⟨g, 0, none⟩) (acc.length + 1) c) w' ∧
      Lp w0 w' p A cap toks nest s2 (.slice (some ⟨g, 0, none⟩) (acc.length + 1) c) (acc ++ [t]) := by
  have h1 := h.call hf ha
  obtain ⟨g, c, w', e1, e2, e3, _⟩ := h1.own.push (t := t) (cs := cs) (ht.kept (Fr.refl (fun _ => False) w1) (fun _ _ e => e) (fun b hb => ⟨Nat.le_trans h.fr.size hb, fun e => by have := (h.own.lt b e).2; omega⟩)) rfl hn h1.fr.size
  have hg := Tk.fr_grown e3
  obtain ⟨_, _, _, _, h0⟩ := h.ps0
  have hfr : Fr (fun b => b = p) w0 w' := Fr.trans h1.fr hg (fun b hb e => by have := (h1.own.lt b e).1; omega)
  exact ⟨g, c, w', e1, h.ps0, e2, ha.put h0 hfr (hg.block p ha.lt (fun e => by have := (h1.own.lt p e).1; have := h0.lt; omega)), hfr⟩
theorem Lp.done (h : Lp w0 w p A cap toks nest s v acc) {t : Nd} (ht : t.kids = acc) : DidL w0 p A cap toks nest t s (.returned v) w := by
  obtain ⟨B, c, e, _⟩ := h.own.reads.parts
  subst e ht
  exact ⟨B, c, rfl, h.own.kids, h.fr, h.at_⟩
theorem At.len (h : At w p A cap toks nest s) : toks.length - atOf w p = s.l.length ∧ s.l.length ≤ 4001 := by
  obtain ⟨j, h1, hl⟩ := h.ps
  rw [h1.pos, hl]
  have := h1.few
  simp; omega
end

theorem mrun_up {k n : Nat} {r : Rule} {d : Nat} {s : St} {x : Nd × St} (h : k ≤ n) (e : mrun k r d s = some x) : mrun n r d s = some x := by
  have := mrun_more e (n - k)
  rwa [Nat.add_sub_cancel' h] at this

set_option maxHeartbeats 4000000 in
theorem listed_run {n : Nat} {r : Rule} {g : Nat} (hr : Runs (mrun n) r g) (hE : ∀ (args : Array Value) (w : World), (callFunc g args).run Tryd.prog w = .ok (.enter g args) w) (hpre : ∀ l, Pre r l) :
    RunsL (mrun (n + 1)) (.listed r) 55 (fun p => #[.pointer (some ⟨p, 0, none⟩), mv g p]) := by
  intro w p A cap toks d s s' t h hd40 _ hm
  obtain ⟨⟨⟩, s1, h1, hx⟩ := then_some (peek_some (show mstep (mrun n) (.listed r) d s = some (t, s') from hm))
  clear hm
  replace hx := peek_some hx
  have D := Lib.hid hd40
  have M1 := Lib.hid h1
  have HR := Lib.hid hr
  have HP := Lib.hid hpre
  have L1 := Lib.hid (Lp.start h)
  clear h1 hd40 h hr hpre
  by_cases e1 : mark s1.l = [41]
  · replace hx := ite_yes e1 hx
    have z1 := txt_yes e1
    obtain ⟨⟨⟩, s2, h2, h3⟩ := then_some hx
    obtain ⟨rfl, rfl⟩ := ret_some h3
    have M2 := Lib.hid h2
    clear hx h2 h3 e1
    go_enter Tryd.func55, Tryd.ntmps55
    go_wp2_with fail
    refine (want_at L1.out.at_ (by decide) M1.out).mono ?_
    rintro e w2 ⟨rfl, a2, f2⟩
    have L2 := Lib.hid (L1.out.call f2 a2)
    clear a2 f2 L1
    go_wp2_with fail
    refine (mark_at L2.out.at_).mono ?_
    rintro e w3 ⟨rfl, u3⟩
    have L3 := Lib.hid (L2.out.up u3)
    clear u3 L2
    go_wp2_with fail
    refine (want_at L3.out.at_ (by decide) M2.out).mono ?_
    rintro e w4 ⟨rfl, a4, f4⟩
    have L4 := Lib.hid (L3.out.call f4 a4)
    clear a4 f4 L3
    go_wp2_with fail
    go_ret
    exact L4.out.done rfl
  · replace hx := ite_no e1 hx
    have z1 := txt_no e1
    obtain ⟨t1, s2, h2, h3⟩ := then_some hx
    have hlen0 := mrun_less h2
    have M2 := Lib.hid h2
    have M3 := Lib.hid h3
    have LEN := Lib.hid hlen0
    clear hx h2 h3 e1 hlen0
    go_enter Tryd.func55, Tryd.ntmps55
    go_wp2_with fail
    refine (want_at L1.out.at_ (by decide) M1.out).mono ?_
    rintro e w2 ⟨rfl, a2, f2⟩
    have L2 := Lib.hid (L1.out.call f2 a2)
    clear a2 f2 L1
    go_wp2_with fail
    refine (mark_at L2.out.at_).mono ?_
    rintro e w3 ⟨rfl, u3⟩
    have L3 := Lib.hid (L2.out.up u3)
    clear u3 L2
    go_wp2_with fail
    refine (HR.out w3 p A cap toks d _ _ _ L3.out.at_ D.out (HP.out _) M2.out).mono ?_
    rintro e w4 ⟨cs, rfl, nd, f4, a4⟩
    obtain ⟨k4, m4, n4, l4, c4, ks4⟩ := t1
    obtain ⟨A4, cc4, rfl, -⟩ := nd.row
    obtain ⟨g5, c5, w5, hrun, lp5⟩ := L3.out.push (cs := n6 k4 m4 n4 l4 c4 (.slice A4 ks4.length cc4)) f4 a4 nd (by decide)
    have HA := Lib.hid hrun
    have L5 := Lib.hid lp5
    clear hrun lp5 nd f4 a4 L3
    go_wp2_with (at_builtin; refine Lib.wpList_append_run _ rfl (.tmp 11) (.tmp 14) 25 25 rfl _ _ rfl rfl _ _ HA.out ?_)
    go_wp2_with fail
    clear HA z1
    go_loopw [5] (fun v wr => ∃ (acc : List Nd) (s5 : St) (m : Nat), Hid (Lp w wr p A cap toks d s5 v acc ∧ m ≤ n ∧ mrun m (.listLoop r acc) d s5 = some (t, s') ∧ acc.length + s5.l.length ≤ 4100)) (fun _ wr => toks.length - atOf wr p)
    case atStart => exact ⟨_, s2, n, Lib.hid ⟨L5.out, Nat.le_refl _, M3.out, by have := L5.out.at_.len.2; simp; omega⟩⟩
    case round =>
      obtain ⟨acc, s5, m, hq⟩ := hrel
      clear L5
      obtain ⟨k, hk⟩ : ∃ k, m = k + 1 := by
        cases m with
        | zero => exact absurd hq.out.2.2.1 (by simp [mrun])
        | succ k => exact ⟨k, rfl⟩
      subst hk
      obtain ⟨b, s6, hb, hx⟩ := then_some (peek_some (show mstep (mrun k) (.listLoop r acc) d s5 = some (t, s') from hq.out.2.2.1))
      have X := Lib.hid hq.out.1.at_.len.1
      rcases takes_some hb with ⟨e2, rfl, rfl⟩ | ⟨e2, rfl, rfl⟩
      · obtain ⟨t7, s7, h7, h8⟩ := then_some (ite_yes rfl hx)
        have hl7 := mrun_less h7
        have hl5 : s5.l.tail.length + 1 = s5.l.length := by
          cases hl : s5.l with
          | nil => rw [hl] at e2; simp [mark, hd] at e2
          | cons x l => simp
        simp only at hl7
        have M7 := Lib.hid (mrun_up (Nat.le_of_succ_le hq.out.2.1) h7)
        have M8 := Lib.hid h8
        have LE := Lib.hid (And.intro hl7 hl5)
        have E2 := Lib.hid e2
        clear hb hx h7 h8 hl7 hl5 e2
        go_wp2_with fail
        refine (takes_yes_at hq.out.1.at_ E2.out (by decide)).mono ?_
        rintro e w6 ⟨rfl, a6, f6⟩
        have L6 := Lib.hid (hq.out.1.call f6 a6)
        clear a6 f6
        go_wp2_with fail
        refine (HR.out w6 p A cap toks d _ _ _ L6.out.at_ D.out (HP.out _) M7.out).mono ?_
        rintro e w7 ⟨cs, rfl, nd, f7, a7⟩
        obtain ⟨k7, m7, n7, l7, c7, ks7⟩ := t7
        obtain ⟨A7, cc7, rfl, -⟩ := nd.row
        obtain ⟨g8, c8, w8, hrun, lp8⟩ := L6.out.push (cs := n6 k7 m7 n7 l7 c7 (.slice A7 ks7.length cc7)) f7 a7 nd (by have := hq.out.2.2.2; omega)
        have HA := Lib.hid hrun
        have L8 := Lib.hid lp8
        clear hrun lp8 nd f7 a7 L6
        go_wp2_with (at_builtin; refine Lib.wpList_append_run _ rfl (.tmp 18) (.tmp 21) 25 25 rfl _ _ rfl rfl _ _ HA.out ?_)
        go_wp2_with fail
        go_roundw
        case rel => exact ⟨_, s7, k, Lib.hid ⟨L8.out, Nat.le_of_succ_le hq.out.2.1, M8.out, by have := LE.out; have := hq.out.2.2.2; simp only [List.length_append, List.length_cons, List.length_nil]; omega⟩⟩
        case measure => rw [L8.out.at_.len.1, X.out]; have := LE.out; omega
      · obtain ⟨⟨⟩, s7, h7, h8⟩ := then_some (ite_no Bool.false_ne_true hx)
        obtain ⟨rfl, rfl⟩ := ret_some h8
        have M7 := Lib.hid h7
        have E2 := Lib.hid e2
        clear hb hx h7 h8 e2
        go_wp2_with fail
        refine (takes_no_at hq.out.1.at_ E2.out).mono ?_
        rintro e w6 ⟨rfl, u6⟩
        have L6 := Lib.hid (hq.out.1.up u6)
        clear u6
        go_wp2_with fail
        refine (want_at L6.out.at_ (by decide) M7.out).mono ?_
        rintro e w7 ⟨rfl, a7, f7⟩
        have L7 := Lib.hid (L6.out.call f7 a7)
        clear a7 f7 L6
        go_wp2_with fail
        go_ret
        exact L7.out.done rfl
end Go.Proofs.YtemmdbjcllcelaaDoor.Pa
namespace Go.Proofs.YtemmdbjcllcelaaDoor.Pa
open Go.RowKit
open Go.Proofs.YtemmdbjcllcelaaDoor.Tk (Tok TokC bs tokA zeroTok set5 set5_blk set5_fr blk_set eqL)
set_option maxRecDepth 100000

def badOf (w : World) (p : Nat) : Nat := match w.cell? ⟨p, 3, none⟩ with
  | some (.int _ n) => n.toNat
  | _ => 0
def mu (w : World) (p : Nat) (toks : List Tok) (file : Bool) : Nat := 2 * (toks.length - atOf w p) + (if badOf w p = 0 ∧ over file (toks.drop (atOf w p)) = false then 1 else 0)
section
variable {w : World} {p cap nest : Nat} {A : Option Addr} {toks : List Tok} {s : St}
theorem At.c3 (h : At w p A cap toks nest s) : w.cell? ⟨p, 3, none⟩ = some (.int .i64 s.f) := by
  obtain ⟨j, h1, _⟩ := h.ps
  exact h1.c3
theorem At.mu (h : At w p A cap toks nest s) (file : Bool) : mu w p toks file = 2 * s.l.length + (if s.f = 0 ∧ over file s.l = false then 1 else 0) := by
  unfold Pa.mu
  rw [h.len.1]
  obtain ⟨j, h1, hl⟩ := h.ps
  have e1 : badOf w p = s.f := by unfold badOf; rw [h1.c3]; simp
  rw [e1, h1.pos, ← hl]
end
theorem semis_over {file : Bool} {l : List Tok} (h : over file l = true) : semis l = l := by
  cases l with
  | nil => rfl
  | cons t l =>
    rw [semis, if_neg]
    intro hm
    unfold over at h
    cases file with
    | true =>
      simp only [if_true, beq_iff_eq] at h
      rw [mark_of_stop h] at hm; cases hm
    | false =>
      simp only [Bool.false_eq_true, if_false, beq_iff_eq] at h
      rw [h] at hm; cases hm
/-- A round of the lines: nearer to the end. -/
theorem round_less {file : Bool} {s5 s6 s7 : St} (h6 : s6.l.length ≤ s5.l.length) (h7 : (if over file s6.l then M.ret () else M.want [59]) s6 = some ((), s7)) :
    2 * (semis s7.l).length + (if s7.f = 0 ∧ over file (semis s7.l) = false then 1 else 0) < 2 * s5.l.length + 1 ∧ (s7.f = 0 → over file (semis s7.l) = false → (semis s7.l).length + 1 ≤ s5.l.length) := by
  by_cases ho : over file s6.l = true
  · rw [if_pos ho] at h7
    obtain ⟨_, rfl⟩ := ret_some h7
    rw [semis_over ho, ho]
    simp only [Bool.true_eq_false, and_false, if_false]
    exact ⟨by omega, fun _ h => by cases h⟩
  · rw [if_neg ho] at h7
    simp only [M.want, M.andThen, M.takes] at h7
    have hs := semis_len s7.l
    by_cases hm : mark s6.l = [59]
    · rw [if_pos hm] at h7
      simp only [if_true] at h7
      obtain ⟨_, rfl⟩ := ret_some h7
      have hl6 : s6.l.tail.length + 1 = s6.l.length := by
        cases hl : s6.l with
        | nil => rw [hl] at hm; simp [mark, hd] at hm
        | cons x l => simp
      simp only at hs ⊢
      refine ⟨?_, fun _ _ => by omega⟩
      split <;> omega
    · rw [if_neg hm] at h7
      simp only [Bool.false_eq_true, if_false, M.fail, Option.some.injEq, Prod.mk.injEq, true_and] at h7
      subst h7
      by_cases hf : s6.f = 0
      · rw [if_pos hf] at hs ⊢
        simp only at hs ⊢
        have h1 : (s6.l.drop (s6.l.length - 1)).length ≤ s6.l.length := by rw [List.length_drop]; omega
        refine ⟨?_, fun h => absurd h (by decide)⟩
        rw [if_neg (fun h => absurd h.1 (by decide))]
        omega
      · rw [if_neg hf] at hs ⊢
        refine ⟨?_, fun h => absurd h hf⟩
        rw [if_neg (fun h => hf h.1)]
        omega

set_option maxHeartbeats 4000000 in
theorem lines_run {n : Nat} {r : Rule} {g o : Nat} {file : Bool} (hr : Runs (mrun n) r g) (hE : ∀ (args : Array Value) (w : World), (callFunc g args).run Tryd.prog w = .ok (.enter g args) w) (hpre : ∀ l, Pre r l)
    (ho : ∀ (w : World) (p : Nat) (A : Option Addr) (cap : Nat) (toks : List Tok) (d : Nat) (s : St), At w p A cap toks d s → Calls Tryd.prog o #[.pointer (some ⟨p, 0, none⟩)] w fun e w' => e = .returned (.bool (over file s.l)) ∧ Up w w')
    (hEo : ∀ (args : Array Value) (w : World), (callFunc o args).run Tryd.prog w = .ok (.enter o args) w) :
    RunsL (mrun (n + 1)) (.lines r file) 17 (fun p => #[.pointer (some ⟨p, 0, none⟩), mv g p, mv o p]) := by
  intro w p A cap toks d s s' t h hd40 _ hm
  have hx : mrun n (.linesLoop r file []) d { s with l := semis s.l } = some (t, s') := show mstep (mrun n) (.lines r file) d s = some (t, s') from hm
  have D := Lib.hid hd40
  have M1 := Lib.hid hx
  have HR := Lib.hid hr
  have HP := Lib.hid hpre
  have HO := Lib.hid ho
  have L1 := Lib.hid (Lp.start h)
  clear hm hx hd40 h hr hpre ho
  go_enter Tryd.func17, Tryd.ntmps17
  go_wp2_with fail
  refine (semis_at L1.out.at_).mono ?_
  rintro e w2 ⟨rfl, a2, f2⟩
  have L2 := Lib.hid (L1.out.call f2 a2)
  clear a2 f2 L1
  go_wp2_with fail
  go_loopw [7] (fun v wr => ∃ (acc : List Nd) (s5 : St) (m : Nat), Hid (Lp w wr p A cap toks d s5 v acc ∧ m ≤ n ∧ mrun m (.linesLoop r file acc) d s5 = some (t, s') ∧ (s5.f = 0 → over file s5.l = false → acc.length + s5.l.length ≤ 4100))) (fun _ wr => mu wr p toks file)
  case atStart => exact ⟨[], _, n, Lib.hid ⟨L2.out, Nat.le_refl _, M1.out, fun _ _ => by have := L2.out.at_.len.2; simp only [List.length_nil] at this ⊢; omega⟩⟩
  case round =>
    obtain ⟨acc, s5, m, hq⟩ := hrel
    clear L2
    obtain ⟨k, hk⟩ : ∃ k, m = k + 1 := by
      cases m with
      | zero => exact absurd hq.out.2.2.1 (by simp [mrun])
      | succ k => exact ⟨k, rfl⟩
    subst hk
    have hx : (if (s5.f != 0) = true ∨ over file s5.l = true then M.ret (lst acc) else M.andThen (mrun k r d) fun t => M.andThen M.peek fun l1 => M.andThen (if over file l1 then M.ret () else M.want [59]) fun _ => M.andThen M.semis fun _ => mrun k (.linesLoop r file (acc ++ [t])) d) s5 = some (t, s') := show mstep (mrun k) (.linesLoop r file acc) d s5 = some (t, s') from hq.out.2.2.1
    have X := Lib.hid (hq.out.1.at_.mu file)
    have c3 := hq.out.1.at_.c3
    by_cases hf : s5.f = 0
    · have e0 : ((s5.f : Int) == 0) = true := by rw [hf]; rfl
      have F0 := Lib.hid hf
      by_cases hov : over file s5.l = true
      · obtain ⟨rfl, rfl⟩ := ret_some (ite_yes (.inr hov) hx)
        have OV := Lib.hid hov
        clear hx hf hov
        go_wp2_with fail
        refine (HO.out _ p A cap toks d _ hq.out.1.at_).mono ?_
        rintro e w6 ⟨rfl, u6⟩
        rw [OV.out]
        have L6 := Lib.hid (hq.out.1.up u6)
        clear u6 c3 e0
        go_wp2_with fail
        go_ret
        exact L6.out.done rfl
      · have hov' : over file s5.l = false := by simpa using hov
        obtain ⟨t7, s7, h7, h8⟩ := then_some (ite_no (fun h => h.elim (by rw [hf]; decide) hov) hx)
        obtain ⟨⟨⟩, s8, h9, h10⟩ := then_some (peek_some h8)
        have hx10 : mrun k (.linesLoop r file (acc ++ [t7])) d { s8 with l := semis s8.l } = some (t, s') := h10
        have hrl := round_less (mrun_less h7) h9
        have M7 := Lib.hid (mrun_up (Nat.le_of_succ_le hq.out.2.1) h7)
        have M9 := Lib.hid h9
        have M10 := Lib.hid hx10
        have RL := Lib.hid hrl
        have OV := Lib.hid hov'
        clear hx hf hov hov' h7 h8 h9 h10 hx10 hrl
        go_wp2_with fail
        refine (HO.out _ p A cap toks d _ hq.out.1.at_).mono ?_
        rintro e w6 ⟨rfl, u6⟩
        rw [OV.out]
        have L6 := Lib.hid (hq.out.1.up u6)
        clear u6 c3 e0
        go_wp2_with fail
        refine (HR.out w6 p A cap toks d _ _ _ L6.out.at_ D.out (HP.out _) M7.out).mono ?_
        rintro e w7 ⟨cs, rfl, nd, f7, a7⟩
        obtain ⟨k7, m7, n7, l7, c7, ks7⟩ := t7
        obtain ⟨A7, cc7, rfl, -⟩ := nd.row
        obtain ⟨g8, c8, w8, hrun, lp8⟩ := L6.out.push (cs := n6 k7 m7 n7 l7 c7 (.slice A7 ks7.length cc7)) f7 a7 nd (by have := hq.out.2.2.2 F0.out OV.out; omega)
        have HA := Lib.hid hrun
        have L8 := Lib.hid lp8
        clear hrun lp8 nd f7 a7 L6
        go_wp2_with (at_builtin; refine Lib.wpList_append_run _ rfl (.tmp 20) (.tmp 23) 25 25 rfl _ _ rfl rfl _ _ HA.out ?_)
        go_wp2_with fail
        refine (HO.out _ p A cap toks d _ L8.out.at_).mono ?_
        rintro e w9 ⟨rfl, u9⟩
        have L9 := Lib.hid (L8.out.up u9)
        clear u9 L8 HA
        by_cases ho7 : over file s7.l = true
        · rw [ho7]
          obtain ⟨-, e8⟩ := ret_some (show M.ret () s7 = some ((), s8) by have := M9.out; rwa [if_pos ho7] at this)
          have E8 := Lib.hid e8
          clear ho7 e8
          go_wp2_with fail
          refine (semis_at L9.out.at_).mono ?_
          rintro e w10 ⟨rfl, a10, f10⟩
          have L10 := Lib.hid (L9.out.call f10 a10)
          clear a10 f10 L9
          go_wp2_with fail
          go_roundw
          case rel => exact ⟨_, _, k, Lib.hid ⟨L10.out, Nat.le_of_succ_le hq.out.2.1, by rw [← E8.out]; exact M10.out, fun h1 h2 => by have := RL.out.2; rw [E8.out] at this; have := this h1 h2; have := hq.out.2.2.2 F0.out OV.out; simp only [List.length_append, List.length_cons, List.length_nil]; omega⟩⟩
          case measure =>
            have x2 := X.out
            rw [if_pos ⟨F0.out, OV.out⟩] at x2
            rw [L10.out.at_.mu file, x2]
            have := RL.out.1
            rw [E8.out] at this
            exact this
        · have ho7' : over file s7.l = false := by simpa using ho7
          rw [ho7']
          have hw := M9.out
          rw [if_neg ho7] at hw
          have W9 := Lib.hid hw
          clear hw ho7 ho7'
          go_wp2_with fail
          refine (want_at L9.out.at_ (by decide) W9.out).mono ?_
          rintro e w10 ⟨rfl, a10, f10⟩
          have L10 := Lib.hid (L9.out.call f10 a10)
          clear a10 f10 L9
          go_wp2_with fail
          refine (semis_at L10.out.at_).mono ?_
          rintro e w11 ⟨rfl, a11, f11⟩
          have L11 := Lib.hid (L10.out.call f11 a11)
          clear a11 f11 L10
          go_wp2_with fail
          go_roundw
          case rel => exact ⟨_, _, k, Lib.hid ⟨L11.out, Nat.le_of_succ_le hq.out.2.1, M10.out, fun h1 h2 => by have := RL.out.2 h1 h2; have := hq.out.2.2.2 F0.out OV.out; simp only [List.length_append, List.length_cons, List.length_nil]; omega⟩⟩
          case measure =>
            have x2 := X.out
            rw [if_pos ⟨F0.out, OV.out⟩] at x2
            rw [L11.out.at_.mu file, x2]
            exact RL.out.1
    · have e0 : ((s5.f : Int) == 0) = false := by simp; omega
      obtain ⟨rfl, rfl⟩ := ret_some (ite_yes (.inl (by simp; exact hf)) hx)
      clear hx hf
      go_wp2_with fail
      go_ret
      exact hq.out.1.done rfl
end Go.Proofs.YtemmdbjcllcelaaDoor.Pa
namespace Go.Proofs.YtemmdbjcllcelaaDoor.Pa
open Go.RowKit
open Go.Proofs.YtemmdbjcllcelaaDoor.Tk (Tok TokC bs tokA zeroTok set5 set5_blk set5_fr blk_set eqL)
set_option maxRecDepth 100000
theorem Cx.weak {w w0 : World} {p cap nest : Nat} {A : Option Addr} {toks : List Tok} {s : St} {v : Nat × Array Value} {vs : List (Nat × Array Value)} {ts : List (Nd × List Value)} (h : Cx w0 w p A cap toks nest s (v :: vs) ts) : Cx w0 w p A cap toks nest s vs ts :=
  ⟨h.ps0, h.at_, h.fr, fun x hx => h.var x (List.mem_cons_of_mem _ hx), fun k j x y hk hj e => by have := h.inj (k + 1) (j + 1) x y hk hj e; omega,
    fun t ht => (h.nd t ht).kept (Fr.refl (fun _ => False) w) (fun _ _ e => e) (fun _ hb => ⟨hb.1, fun hm => hb.2 (List.mem_cons_of_mem _ hm)⟩)⟩
theorem Cx.less {w w0 : World} {p cap nest : Nat} {A : Option Addr} {toks : List Tok} {s : St} {vs : List (Nat × Array Value)} {ts us : List (Nd × List Value)} (h : Cx w0 w p A cap toks nest s vs ts) (hs : ∀ x ∈ us, x ∈ ts) : Cx w0 w p A cap toks nest s vs us :=
  ⟨h.ps0, h.at_, h.fr, h.var, h.inj, fun t ht => h.nd t (hs t ht)⟩
set_option maxHeartbeats 4000000 in
theorem tight_at (m : List UInt8) (w : World) : Calls Tryd.prog 92 #[.string (bs m)] w fun e w' => e = .returned (.int .i64 (tight m)) ∧ Up w w' := by
  by_cases e0 : m = [124, 124]
  · have z0 := txt_yes e0
    have E := Lib.hid (show tight m = 1 by rw [e0]; decide)
    clear e0
    go_enter Tryd.func92, Tryd.ntmps92
    go_wp2_with fail
    go_ret
    exact ⟨by rw [E.out]; rfl, Fr.refl _ _⟩
  have z0 := txt_no e0
  by_cases e1 : m = [38, 38]
  · have z1 := txt_yes e1
    have E := Lib.hid (show tight m = 2 by rw [e1]; decide)
    clear e0 e1
    go_enter Tryd.func92, Tryd.ntmps92
    go_wp2_with fail
    go_ret
    exact ⟨by rw [E.out]; rfl, Fr.refl _ _⟩
  have z1 := txt_no e1
  by_cases e2 : m = [61, 61]
  · have z2 := txt_yes e2
    have E := Lib.hid (show tight m = 3 by rw [e2]; decide)
    clear e0 e1 e2
    go_enter Tryd.func92, Tryd.ntmps92
    go_wp2_with fail
    go_ret
    exact ⟨by rw [E.out]; rfl, Fr.refl _ _⟩
  have z2 := txt_no e2
  by_cases e3 : m = [33, 61]
  · have z3 := txt_yes e3
    have E := Lib.hid (show tight m = 3 by rw [e3]; decide)
    clear e0 e1 e2 e3
    go_enter Tryd.func92, Tryd.ntmps92
    go_wp2_with fail
    go_ret
    exact ⟨by rw [E.out]; rfl, Fr.refl _ _⟩
  have z3 := txt_no e3
  by_cases e4 : m = [60]
  · have z4 := txt_yes e4
    have E := Lib.hid (show tight m = 3 by rw [e4]; decide)
    clear e0 e1 e2 e3 e4
    go_enter Tryd.func92, Tryd.ntmps92
    go_wp2_with fail
    go_ret
    exact ⟨by rw [E.out]; rfl, Fr.refl _ _⟩
  have z4 := txt_no e4
  by_cases e5 : m = [60, 61]
  · have z5 := txt_yes e5
    have E := Lib.hid (show tight m = 3 by rw [e5]; decide)
    clear e0 e1 e2 e3 e4 e5
    go_enter Tryd.func92, Tryd.ntmps92
    go_wp2_with fail
    go_ret
    exact ⟨by rw [E.out]; rfl, Fr.refl _ _⟩
  have z5 := txt_no e5
  by_cases e6 : m = [62]
  · have z6 := txt_yes e6
    have E := Lib.hid (show tight m = 3 by rw [e6]; decide)
    clear e0 e1 e2 e3 e4 e5 e6
    go_enter Tryd.func92, Tryd.ntmps92
    go_wp2_with fail
    go_ret
    exact ⟨by rw [E.out]; rfl, Fr.refl _ _⟩
  have z6 := txt_no e6
  by_cases e7 : m = [62, 61]
  · have z7 := txt_yes e7
    have E := Lib.hid (show tight m = 3 by rw [e7]; decide)
    clear e0 e1 e2 e3 e4 e5 e6 e7
    go_enter Tryd.func92, Tryd.ntmps92
    go_wp2_with fail
    go_ret
    exact ⟨by rw [E.out]; rfl, Fr.refl _ _⟩
  have z7 := txt_no e7
  by_cases e8 : m = [43]
  · have z8 := txt_yes e8
    have E := Lib.hid (show tight m = 4 by rw [e8]; decide)
    clear e0 e1 e2 e3 e4 e5 e6 e7 e8
    go_enter Tryd.func92, Tryd.ntmps92
    go_wp2_with fail
    go_ret
    exact ⟨by rw [E.out]; rfl, Fr.refl _ _⟩
  have z8 := txt_no e8
  by_cases e9 : m = [45]
  · have z9 := txt_yes e9
    have E := Lib.hid (show tight m = 4 by rw [e9]; decide)
    clear e0 e1 e2 e3 e4 e5 e6 e7 e8 e9
    go_enter Tryd.func92, Tryd.ntmps92
    go_wp2_with fail
    go_ret
    exact ⟨by rw [E.out]; rfl, Fr.refl _ _⟩
  have z9 := txt_no e9
  by_cases e10 : m = [42]
  · have z10 := txt_yes e10
    have E := Lib.hid (show tight m = 5 by rw [e10]; decide)
    clear e0 e1 e2 e3 e4 e5 e6 e7 e8 e9 e10
    go_enter Tryd.func92, Tryd.ntmps92
    go_wp2_with fail
    go_ret
    exact ⟨by rw [E.out]; rfl, Fr.refl _ _⟩
  have z10 := txt_no e10
  by_cases e11 : m = [47]
  · have z11 := txt_yes e11
    have E := Lib.hid (show tight m = 5 by rw [e11]; decide)
    clear e0 e1 e2 e3 e4 e5 e6 e7 e8 e9 e10 e11
    go_enter Tryd.func92, Tryd.ntmps92
    go_wp2_with fail
    go_ret
    exact ⟨by rw [E.out]; rfl, Fr.refl _ _⟩
  have z11 := txt_no e11
  by_cases e12 : m = [37]
  · have z12 := txt_yes e12
    have E := Lib.hid (show tight m = 5 by rw [e12]; decide)
    clear e0 e1 e2 e3 e4 e5 e6 e7 e8 e9 e10 e11 e12
    go_enter Tryd.func92, Tryd.ntmps92
    go_wp2_with fail
    go_ret
    exact ⟨by rw [E.out]; rfl, Fr.refl _ _⟩
  have z12 := txt_no e12
  have E := Lib.hid (show tight m = 0 by unfold tight; simp only [e0, e1, e2, e3, e4, e5, e6, e7, e8, e9, e10, e11, e12, or_self, if_false])
  clear e0 e1 e2 e3 e4 e5 e6 e7 e8 e9 e10 e11 e12
  go_enter Tryd.func92, Tryd.ntmps92
  go_wp2_with fail
  go_ret
  exact ⟨by rw [E.out]; rfl, Fr.refl _ _⟩
theorem tight_le (m : List UInt8) : tight m ≤ 5 := by
  unfold tight; repeat (first | split | omega)
set_option maxHeartbeats 8000000 in
theorem binary_run {n : Nat} (I : Runs (mrun n) .unary 91) (J : ∀ k : Nat, k ≠ 0 → k ≤ 6 → RunsA (mrun n) (.binary k) 90 (fun p => #[.pointer (some ⟨p, 0, none⟩), .int .i64 (k : Int)])) (least : Nat) (hl0 : least ≠ 0) (hl6 : least ≤ 6) : RunsA (mrun (n + 1)) (.binary least) 90 (fun p => #[.pointer (some ⟨p, 0, none⟩), .int .i64 (least : Int)]) := by
  intro w p A cap toks d s s' t h hd40 _ hm
  have D := Lib.hid hd40
  obtain ⟨t1, s1, h1, hx⟩ := then_some (peek_some (show mstep (mrun n) (.binary least) d s = some (t, s') from hm))
  have M1 := Lib.hid h1
  have M2 := Lib.hid hx
  have HL := Lib.hid (And.intro hl0 hl6)
  clear hd40 hx h1 hm hl0 hl6
  have Ih := Lib.hid I
  have Jh := Lib.hid J
  clear I J
  have C1 := Lib.hid ((Cx.start h).alloc z6)
  clear h
  go_enter Tryd.func90, Tryd.ntmps90
  go_wp2_with fail
  change Calls _ _ _ (w.alloc zeroNd) _
  obtain ⟨q0, e0⟩ : ∃ q, q = w.heap.size := ⟨_, rfl⟩
  rw [← e0] at C1 ⊢
  clear e0
  generalize w.alloc zeroNd = w1 at *
  refine (Ih.out _ p A cap toks d _ _ _ C1.out.at_ D.out (True.intro) M1.out).mono ?_
  rintro e w2 ⟨cs2, rfl, nd2, f2, a2⟩
  have C2 := Lib.hid (C1.out.tree f2 a2 nd2)
  obtain ⟨k2, m2, n2, l2, c2, ks2⟩ := t1
  obtain ⟨A2, cc2, rfl, -⟩ := nd2.row
  clear nd2 f2 a2 C1
  have C3 := Lib.hid (C2.out.alloc #[.int .i64 k2, .string (bs m2), .int .i64 n2, .int .i64 l2, .int .i64 c2, .slice A2 ks2.length cc2])
  clear C2
  obtain ⟨x0q1, x1q1, x2q1, x3q1, x4q1, x5q1⟩ := cells6 (C3.out.cells 0 rfl)
  obtain ⟨y0q1, y1q1, y2q1, y3q1, y4q1, y5q1⟩ := frozen6 (C3.out.cells 0 rfl)
  obtain ⟨x0q0, x1q0, x2q0, x3q0, x4q0, x5q0⟩ := cells6 (C3.out.cells 1 rfl)
  obtain ⟨y0q0, y1q0, y2q0, y3q0, y4q0, y5q0⟩ := frozen6 (C3.out.cells 1 rfl)
  have ne_q1_q0 : w2.heap.size ≠ q0 := C3.out.differ 0 1 (by decide) rfl rfl
  have ne_q0_q1 : q0 ≠ w2.heap.size := C3.out.differ 1 0 (by decide) rfl rfl
  go_wp2_with fail
  clear x0q1 x1q1 x2q1 x3q1 x4q1 x5q1 y0q1 y1q1 y2q1 y3q1 y4q1 y5q1 x0q0 x1q0 x2q0 x3q0 x4q0 x5q0 y0q0 y1q0 y2q0 y3q0 y4q0 y5q0 ne_q1_q0 ne_q0_q1
  obtain ⟨q1, e_q1⟩ : ∃ q, q = w2.heap.size := ⟨_, rfl⟩
  rw [← e_q1] at C3 ⊢
  clear e_q1
  generalize (World.alloc w2 _) = w4 at *
  go_loopw [] (fun wr => ∃ (lk : Nat) (lm : List UInt8) (ln ll lc : Nat) (lks : List Nd) (LB : Option Addr) (lcc : Nat) (s5 : St) (m : Nat), Hid (Cx w wr p A cap toks d s5 [(q1, #[.int .i64 lk, .string (bs lm), .int .i64 ln, .int .i64 ll, .int .i64 lc, .slice LB lks.length lcc]), (q0, z6)] [(Nd.mk lk lm ln ll lc lks, [.int .i64 lk, .string (bs lm), .int .i64 ln, .int .i64 ll, .int .i64 lc, .slice LB lks.length lcc])] ∧ m ≤ n ∧ mrun m (.binLoop least (Nd.mk lk lm ln ll lc lks)) d s5 = some (t, s'))) (fun wr => toks.length - atOf wr p)
  case atStart => exact ⟨_, _, _, _, _, _, _, _, s1, n, Lib.hid ⟨C3.out, Nat.le_refl _, M2.out⟩⟩
  case round =>
    obtain ⟨lk, lm, ln, ll, lc, lks, LB, lcc, s5, m, hq⟩ := hrel
    clear C3
    obtain ⟨k, hk⟩ : ∃ k, m = k + 1 := by
      cases m with
      | zero => exact absurd hq.out.2.2 (by simp [mrun])
      | succ k => exact ⟨k, rfl⟩
    subst hk
    have hx : (if least ≤ tight (mark s5.l) then M.andThen M.pass fun _ => M.andThen (mrun k (.binary (tight (mark s5.l) + 1)) d) fun y => mrun k (.binLoop least (at_ 28 s5.l (mark s5.l) 0 [Nd.mk lk lm ln ll lc lks, y])) d else M.ret (Nd.mk lk lm ln ll lc lks)) s5 = some (t, s') := show mstep (mrun k) (.binLoop least (Nd.mk lk lm ln ll lc lks)) d s5 = some (t, s') from hq.out.2.2
    have X := Lib.hid hq.out.1.at_.len.1
    have LEK := Lib.hid (Nat.le_of_succ_le hq.out.2.1)
    have CQ := Lib.hid hq.out.1
    have TL := tight_le (mark s5.l)
    by_cases hc : least ≤ tight (mark s5.l)
    · replace hx := pass_some (ite_yes hc hx)
      obtain ⟨t7, s7, h7, h8⟩ := then_some hx
      have hl7 := mrun_less h7
      have K := Lib.hid (tight_kind hc HL.out.1)
      have M7 := Lib.hid (mrun_up LEK.out h7)
      have M8 := Lib.hid h8
      have hl5 : s5.l.tail.length + 1 = s5.l.length := by
        cases hl : s5.l with
        | nil => have := K.out; rw [hl] at this; exact absurd rfl this
        | cons x l => simp
      simp only at hl7
      have LE := Lib.hid (And.intro hl7 hl5)
      obtain ⟨ti, hti⟩ : ∃ ti, ti = tight (mark s5.l) := ⟨_, rfl⟩
      have TI := Lib.hid hti
      rw [← hti] at hc TL
      have cc1 : (least : Int) ≤ (ti : Int) := by omega
      have cc2 : decide ((least : Int) ≤ (ti : Int)) = true := decide_eq_true cc1
      have W := Lib.hid (show wrap64 ((ti : Int) + 1) = ((ti + 1 : Nat) : Int) by unfold wrap64; omega)
      have TB := Lib.hid (show ti + 1 ≤ 6 by omega)
      clear hx h7 h8 hl7 hl5 hc hti TL hq
      go_wp2_with fail
      refine (mark_at CQ.out.at_).mono ?_
      rintro e w101 ⟨rfl, u101⟩
      have C101 := Lib.hid (CQ.out.up u101)
      clear u101 CQ
      go_wp2_with fail
      refine (tight_at (mark s5.l) w101).mono ?_
      rintro e w102 ⟨rfl, u102⟩
      have C102 := Lib.hid (C101.out.up u102)
      clear u102 C101
      rw [← TI.out]
      obtain ⟨x0q1, x1q1, x2q1, x3q1, x4q1, x5q1⟩ := cells6 (C102.out.cells 0 rfl)
      obtain ⟨y0q1, y1q1, y2q1, y3q1, y4q1, y5q1⟩ := frozen6 (C102.out.cells 0 rfl)
      obtain ⟨x0q0, x1q0, x2q0, x3q0, x4q0, x5q0⟩ := cells6 (C102.out.cells 1 rfl)
      obtain ⟨y0q0, y1q0, y2q0, y3q0, y4q0, y5q0⟩ := frozen6 (C102.out.cells 1 rfl)
      have ne_q1_q0 : q1 ≠ q0 := C102.out.differ 0 1 (by decide) rfl rfl
      have ne_q0_q1 : q0 ≠ q1 := C102.out.differ 1 0 (by decide) rfl rfl
      go_wp2_with fail
      clear x0q1 x1q1 x2q1 x3q1 x4q1 x5q1 y0q1 y1q1 y2q1 y3q1 y4q1 y5q1 x0q0 x1q0 x2q0 x3q0 x4q0 x5q0 y0q0 y1q0 y2q0 y3q0 y4q0 y5q0 ne_q1_q0 ne_q0_q1
      clear cc1 cc2
      refine (mark_at C102.out.at_).mono ?_
      rintro e w103 ⟨rfl, u103⟩
      have C103 := Lib.hid (C102.out.up u103)
      clear u103 C102
      obtain ⟨x0q1, x1q1, x2q1, x3q1, x4q1, x5q1⟩ := cells6 (C103.out.cells 0 rfl)
      obtain ⟨y0q1, y1q1, y2q1, y3q1, y4q1, y5q1⟩ := frozen6 (C103.out.cells 0 rfl)
      obtain ⟨x0q0, x1q0, x2q0, x3q0, x4q0, x5q0⟩ := cells6 (C103.out.cells 1 rfl)
      obtain ⟨y0q0, y1q0, y2q0, y3q0, y4q0, y5q0⟩ := frozen6 (C103.out.cells 1 rfl)
      have ne_q1_q0 : q1 ≠ q0 := C103.out.differ 0 1 (by decide) rfl rfl
      have ne_q0_q1 : q0 ≠ q1 := C103.out.differ 1 0 (by decide) rfl rfl
      go_wp2_with fail
      clear x0q1 x1q1 x2q1 x3q1 x4q1 x5q1 y0q1 y1q1 y2q1 y3q1 y4q1 y5q1 x0q0 x1q0 x2q0 x3q0 x4q0 x5q0 y0q0 y1q0 y2q0 y3q0 y4q0 y5q0 ne_q1_q0 ne_q0_q1
      refine (pass_at C103.out.at_ K.out 28).mono ?_
      rintro e w104 ⟨rfl, a104, f104⟩
      have C104 := Lib.hid (C103.out.call f104 a104)
      clear a104 f104 C103
      have C105 := Lib.hid (C104.out.alloc #[.int .i64 28, .string (bs (mark s5.l)), .int .i64 0, .int .i64 (hd s5.l).line, .int .i64 (hd s5.l).col, .slice none 0 0])
      clear C104
      obtain ⟨x0q2, x1q2, x2q2, x3q2, x4q2, x5q2⟩ := cells6 (C105.out.cells 0 rfl)
      obtain ⟨y0q2, y1q2, y2q2, y3q2, y4q2, y5q2⟩ := frozen6 (C105.out.cells 0 rfl)
      obtain ⟨x0q1, x1q1, x2q1, x3q1, x4q1, x5q1⟩ := cells6 (C105.out.cells 1 rfl)
      obtain ⟨y0q1, y1q1, y2q1, y3q1, y4q1, y5q1⟩ := frozen6 (C105.out.cells 1 rfl)
      obtain ⟨x0q0, x1q0, x2q0, x3q0, x4q0, x5q0⟩ := cells6 (C105.out.cells 2 rfl)
      obtain ⟨y0q0, y1q0, y2q0, y3q0, y4q0, y5q0⟩ := frozen6 (C105.out.cells 2 rfl)
      have ne_q2_q1 : w104.heap.size ≠ q1 := C105.out.differ 0 1 (by decide) rfl rfl
      have ne_q2_q0 : w104.heap.size ≠ q0 := C105.out.differ 0 2 (by decide) rfl rfl
      have ne_q1_q2 : q1 ≠ w104.heap.size := C105.out.differ 1 0 (by decide) rfl rfl
      have ne_q1_q0 : q1 ≠ q0 := C105.out.differ 1 2 (by decide) rfl rfl
      have ne_q0_q2 : q0 ≠ w104.heap.size := C105.out.differ 2 0 (by decide) rfl rfl
      have ne_q0_q1 : q0 ≠ q1 := C105.out.differ 2 1 (by decide) rfl rfl
      go_wp2_with fail
      clear x0q2 x1q2 x2q2 x3q2 x4q2 x5q2 y0q2 y1q2 y2q2 y3q2 y4q2 y5q2 x0q1 x1q1 x2q1 x3q1 x4q1 x5q1 y0q1 y1q1 y2q1 y3q1 y4q1 y5q1 x0q0 x1q0 x2q0 x3q0 x4q0 x5q0 y0q0 y1q0 y2q0 y3q0 y4q0 y5q0 ne_q2_q1 ne_q2_q0 ne_q1_q2 ne_q1_q0 ne_q0_q2 ne_q0_q1
      obtain ⟨q2, e_q2⟩ : ∃ q, q = w104.heap.size := ⟨_, rfl⟩
      rw [← e_q2] at C105 ⊢
      clear e_q2
      generalize (World.alloc w104 _) = w106 at *
      refine (tight_at (mark s5.l) w106).mono ?_
      rintro e w107 ⟨rfl, u107⟩
      have C107 := Lib.hid (C105.out.up u107)
      clear u107 C105
      rw [← TI.out]
      obtain ⟨x0q2, x1q2, x2q2, x3q2, x4q2, x5q2⟩ := cells6 (C107.out.cells 0 rfl)
      obtain ⟨y0q2, y1q2, y2q2, y3q2, y4q2, y5q2⟩ := frozen6 (C107.out.cells 0 rfl)
      obtain ⟨x0q1, x1q1, x2q1, x3q1, x4q1, x5q1⟩ := cells6 (C107.out.cells 1 rfl)
      obtain ⟨y0q1, y1q1, y2q1, y3q1, y4q1, y5q1⟩ := frozen6 (C107.out.cells 1 rfl)
      obtain ⟨x0q0, x1q0, x2q0, x3q0, x4q0, x5q0⟩ := cells6 (C107.out.cells 2 rfl)
      obtain ⟨y0q0, y1q0, y2q0, y3q0, y4q0, y5q0⟩ := frozen6 (C107.out.cells 2 rfl)
      have ne_q2_q1 : q2 ≠ q1 := C107.out.differ 0 1 (by decide) rfl rfl
      have ne_q2_q0 : q2 ≠ q0 := C107.out.differ 0 2 (by decide) rfl rfl
      have ne_q1_q2 : q1 ≠ q2 := C107.out.differ 1 0 (by decide) rfl rfl
      have ne_q1_q0 : q1 ≠ q0 := C107.out.differ 1 2 (by decide) rfl rfl
      have ne_q0_q2 : q0 ≠ q2 := C107.out.differ 2 0 (by decide) rfl rfl
      have ne_q0_q1 : q0 ≠ q1 := C107.out.differ 2 1 (by decide) rfl rfl
      go_wp2_with fail
      clear x0q2 x1q2 x2q2 x3q2 x4q2 x5q2 y0q2 y1q2 y2q2 y3q2 y4q2 y5q2 x0q1 x1q1 x2q1 x3q1 x4q1 x5q1 y0q1 y1q1 y2q1 y3q1 y4q1 y5q1 x0q0 x1q0 x2q0 x3q0 x4q0 x5q0 y0q0 y1q0 y2q0 y3q0 y4q0 y5q0 ne_q2_q1 ne_q2_q0 ne_q1_q2 ne_q1_q0 ne_q0_q2 ne_q0_q1
      rw [W.out]
      refine (Jh.out (ti + 1) (by omega) TB.out _ p A cap toks d _ _ _ C107.out.at_ D.out (by simp [Pre]) (by have := M7.out; rw [← TI.out] at this; exact this)).mono ?_
      rintro e w108 ⟨cs108, rfl, nd108, f108, a108⟩
      have C108 := Lib.hid (C107.out.tree f108 a108 nd108)
      obtain ⟨k108, m108, n108, l108, c108, ks108⟩ := t7
      obtain ⟨A108, cc108, rfl, -⟩ := nd108.row
      clear nd108 f108 a108 C107
      have C109 := Lib.hid (C108.out.alloc #[.int .i64 k108, .string (bs m108), .int .i64 n108, .int .i64 l108, .int .i64 c108, .slice A108 ks108.length cc108])
      clear C108
      obtain ⟨x0q3, x1q3, x2q3, x3q3, x4q3, x5q3⟩ := cells6 (C109.out.cells 0 rfl)
      obtain ⟨y0q3, y1q3, y2q3, y3q3, y4q3, y5q3⟩ := frozen6 (C109.out.cells 0 rfl)
      obtain ⟨x0q2, x1q2, x2q2, x3q2, x4q2, x5q2⟩ := cells6 (C109.out.cells 1 rfl)
      obtain ⟨y0q2, y1q2, y2q2, y3q2, y4q2, y5q2⟩ := frozen6 (C109.out.cells 1 rfl)
      obtain ⟨x0q1, x1q1, x2q1, x3q1, x4q1, x5q1⟩ := cells6 (C109.out.cells 2 rfl)
      obtain ⟨y0q1, y1q1, y2q1, y3q1, y4q1, y5q1⟩ := frozen6 (C109.out.cells 2 rfl)
      obtain ⟨x0q0, x1q0, x2q0, x3q0, x4q0, x5q0⟩ := cells6 (C109.out.cells 3 rfl)
      obtain ⟨y0q0, y1q0, y2q0, y3q0, y4q0, y5q0⟩ := frozen6 (C109.out.cells 3 rfl)
      have ne_q3_q2 : w108.heap.size ≠ q2 := C109.out.differ 0 1 (by decide) rfl rfl
      have ne_q3_q1 : w108.heap.size ≠ q1 := C109.out.differ 0 2 (by decide) rfl rfl
      have ne_q3_q0 : w108.heap.size ≠ q0 := C109.out.differ 0 3 (by decide) rfl rfl
      have ne_q2_q3 : q2 ≠ w108.heap.size := C109.out.differ 1 0 (by decide) rfl rfl
      have ne_q2_q1 : q2 ≠ q1 := C109.out.differ 1 2 (by decide) rfl rfl
      have ne_q2_q0 : q2 ≠ q0 := C109.out.differ 1 3 (by decide) rfl rfl
      have ne_q1_q3 : q1 ≠ w108.heap.size := C109.out.differ 2 0 (by decide) rfl rfl
      have ne_q1_q2 : q1 ≠ q2 := C109.out.differ 2 1 (by decide) rfl rfl
      have ne_q1_q0 : q1 ≠ q0 := C109.out.differ 2 3 (by decide) rfl rfl
      have ne_q0_q3 : q0 ≠ w108.heap.size := C109.out.differ 3 0 (by decide) rfl rfl
      have ne_q0_q2 : q0 ≠ q2 := C109.out.differ 3 1 (by decide) rfl rfl
      have ne_q0_q1 : q0 ≠ q1 := C109.out.differ 3 2 (by decide) rfl rfl
      go_upto_region 7 with fail
      clear x0q3 x1q3 x2q3 x3q3 x4q3 x5q3 y0q3 y1q3 y2q3 y3q3 y4q3 y5q3 x0q2 x1q2 x2q2 x3q2 x4q2 x5q2 y0q2 y1q2 y2q2 y3q2 y4q2 y5q2 x0q1 x1q1 x2q1 x3q1 x4q1 x5q1 y0q1 y1q1 y2q1 y3q1 y4q1 y5q1 x0q0 x1q0 x2q0 x3q0 x4q0 x5q0 y0q0 y1q0 y2q0 y3q0 y4q0 y5q0 ne_q3_q2 ne_q3_q1 ne_q3_q0 ne_q2_q3 ne_q2_q1 ne_q2_q0 ne_q1_q3 ne_q1_q2 ne_q1_q0 ne_q0_q3 ne_q0_q2 ne_q0_q1
      obtain ⟨q3, e_q3⟩ : ∃ q, q = w108.heap.size := ⟨_, rfl⟩
      rw [← e_q3] at C109 ⊢
      clear e_q3
      generalize (World.alloc w108 _) = w110 at *
      obtain ⟨x0q3E, x1q3E, x2q3E, x3q3E, x4q3E, x5q3E⟩ := cells6 (C109.out.cells 0 rfl)
      obtain ⟨y0q3E, y1q3E, y2q3E, y3q3E, y4q3E, y5q3E⟩ := frozen6 (C109.out.cells 0 rfl)
      obtain ⟨x0q1E, x1q1E, x2q1E, x3q1E, x4q1E, x5q1E⟩ := cells6 (C109.out.cells 2 rfl)
      obtain ⟨y0q1E, y1q1E, y2q1E, y3q1E, y4q1E, y5q1E⟩ := frozen6 (C109.out.cells 2 rfl)
      have R111 := C109.out.row [(Nd.mk lk lm ln ll lc lks, [.int .i64 lk, .string (bs lm), .int .i64 ln, .int .i64 ll, .int .i64 lc, .slice LB lks.length lcc]), (Nd.mk k108 m108 n108 l108 c108 ks108, [.int .i64 k108, .string (bs m108), .int .i64 n108, .int .i64 l108, .int .i64 c108, .slice A108 ks108.length cc108])] (sub_cons (List.mem_cons_of_mem _ List.mem_cons_self) (sub_cons List.mem_cons_self sub_nil)) (by simp) (cs := #[.int .i64 lk, .string (bs lm), .int .i64 ln, .int .i64 ll, .int .i64 lc, .slice LB lks.length lcc, .int .i64 k108, .string (bs m108), .int .i64 n108, .int .i64 l108, .int .i64 c108, .slice A108 ks108.length cc108]) rfl
      have C111 := Lib.hid ((C109.out.more (.cells #[.int .i64 lk, .string (bs lm), .int .i64 ln, .int .i64 ll, .int .i64 lc, .slice LB lks.length lcc, .int .i64 k108, .string (bs m108), .int .i64 n108, .int .i64 l108, .int .i64 c108, .slice A108 ks108.length cc108] 27)).know (NdC.of R111 (28 : Nat) ((mark s5.l)) 0 (hd s5.l).line (hd s5.l).col))
      clear C109 R111
      obtain ⟨x0q3, x1q3, x2q3, x3q3, x4q3, x5q3⟩ := cells6 (C111.out.cells 0 rfl)
      obtain ⟨y0q3, y1q3, y2q3, y3q3, y4q3, y5q3⟩ := frozen6 (C111.out.cells 0 rfl)
      obtain ⟨x0q2, x1q2, x2q2, x3q2, x4q2, x5q2⟩ := cells6 (C111.out.cells 1 rfl)
      obtain ⟨y0q2, y1q2, y2q2, y3q2, y4q2, y5q2⟩ := frozen6 (C111.out.cells 1 rfl)
      obtain ⟨x0q1, x1q1, x2q1, x3q1, x4q1, x5q1⟩ := cells6 (C111.out.cells 2 rfl)
      obtain ⟨y0q1, y1q1, y2q1, y3q1, y4q1, y5q1⟩ := frozen6 (C111.out.cells 2 rfl)
      obtain ⟨x0q0, x1q0, x2q0, x3q0, x4q0, x5q0⟩ := cells6 (C111.out.cells 3 rfl)
      obtain ⟨y0q0, y1q0, y2q0, y3q0, y4q0, y5q0⟩ := frozen6 (C111.out.cells 3 rfl)
      have ne_q3_q2 : q3 ≠ q2 := C111.out.differ 0 1 (by decide) rfl rfl
      have ne_q3_q1 : q3 ≠ q1 := C111.out.differ 0 2 (by decide) rfl rfl
      have ne_q3_q0 : q3 ≠ q0 := C111.out.differ 0 3 (by decide) rfl rfl
      have ne_q2_q3 : q2 ≠ q3 := C111.out.differ 1 0 (by decide) rfl rfl
      have ne_q2_q1 : q2 ≠ q1 := C111.out.differ 1 2 (by decide) rfl rfl
      have ne_q2_q0 : q2 ≠ q0 := C111.out.differ 1 3 (by decide) rfl rfl
      have ne_q1_q3 : q1 ≠ q3 := C111.out.differ 2 0 (by decide) rfl rfl
      have ne_q1_q2 : q1 ≠ q2 := C111.out.differ 2 1 (by decide) rfl rfl
      have ne_q1_q0 : q1 ≠ q0 := C111.out.differ 2 3 (by decide) rfl rfl
      have ne_q0_q3 : q0 ≠ q3 := C111.out.differ 3 0 (by decide) rfl rfl
      have ne_q0_q2 : q0 ≠ q2 := C111.out.differ 3 1 (by decide) rfl rfl
      have ne_q0_q1 : q0 ≠ q1 := C111.out.differ 3 2 (by decide) rfl rfl
      go_wp2_with fail
      clear x0q3 x1q3 x2q3 x3q3 x4q3 x5q3 y0q3 y1q3 y2q3 y3q3 y4q3 y5q3 x0q2 x1q2 x2q2 x3q2 x4q2 x5q2 y0q2 y1q2 y2q2 y3q2 y4q2 y5q2 x0q1 x1q1 x2q1 x3q1 x4q1 x5q1 y0q1 y1q1 y2q1 y3q1 y4q1 y5q1 x0q0 x1q0 x2q0 x3q0 x4q0 x5q0 y0q0 y1q0 y2q0 y3q0 y4q0 y5q0 ne_q3_q2 ne_q3_q1 ne_q3_q0 ne_q2_q3 ne_q2_q1 ne_q2_q0 ne_q1_q3 ne_q1_q2 ne_q1_q0 ne_q0_q3 ne_q0_q2 ne_q0_q1 x0q3E x1q3E x2q3E x3q3E x4q3E x5q3E y0q3E y1q3E y2q3E y3q3E y4q3E y5q3E x0q1E x1q1E x2q1E x3q1E x4q1E x5q1E y0q1E y1q1E y2q1E y3q1E y4q1E y5q1E
      have C112 := Lib.hid (C111.out.set 1 rfl 5 (.slice (some ⟨w110.heap.size, 0, none⟩) 2 2))
      clear C111
      have C113 := Lib.hid (C112.out.set 2 rfl 0 (.int .i64 28))
      clear C112
      have C114 := Lib.hid (C113.out.set 2 rfl 1 (.string (bs (mark s5.l))))
      clear C113
      have C115 := Lib.hid (C114.out.set 2 rfl 2 (.int .i64 0))
      clear C114
      have C116 := Lib.hid (C115.out.set 2 rfl 3 (.int .i64 (hd s5.l).line))
      clear C115
      have C117 := Lib.hid (C116.out.set 2 rfl 4 (.int .i64 (hd s5.l).col))
      clear C116
      have C118 := Lib.hid (C117.out.set 2 rfl 5 (.slice (some ⟨w110.heap.size, 0, none⟩) 2 2))
      clear C117
      generalize (World.setCell (World.setCell (World.setCell (World.setCell (World.setCell (World.setCell (World.setCell (World.alloc w110 _) _ _) _ _) _ _) _ _) _ _) _ _) _ _) = w119 at *
      go_roundw
      case rel => exact ⟨28, mark s5.l, 0, (hd s5.l).line, (hd s5.l).col, [Nd.mk lk lm ln ll lc lks, Nd.mk k108 m108 n108 l108 c108 ks108], _, _, s7, k, Lib.hid ⟨C118.out.weak.weak.less (sub_cons List.mem_cons_self sub_nil), LEK.out, M8.out⟩⟩
      case measure => rw [C118.out.at_.len.1, X.out]; have := LE.out; omega
    · obtain ⟨rfl, rfl⟩ := ret_some (ite_no hc hx)
      obtain ⟨ti, hti⟩ : ∃ ti, ti = tight (mark s'.l) := ⟨_, rfl⟩
      have TI := Lib.hid hti
      rw [← hti] at hc
      have cc1 : ¬ (least : Int) ≤ (ti : Int) := by omega
      have cc2 : decide ((least : Int) ≤ (ti : Int)) = false := decide_eq_false cc1
      clear hx hc hti TL hq
      go_wp2_with fail
      refine (mark_at CQ.out.at_).mono ?_
      rintro e w101 ⟨rfl, u101⟩
      have C101 := Lib.hid (CQ.out.up u101)
      clear u101 CQ
      go_wp2_with fail
      refine (tight_at (mark s'.l) w101).mono ?_
      rintro e w102 ⟨rfl, u102⟩
      have C102 := Lib.hid (C101.out.up u102)
      clear u102 C101
      rw [← TI.out]
      obtain ⟨x0q1, x1q1, x2q1, x3q1, x4q1, x5q1⟩ := cells6 (C102.out.cells 0 rfl)
      obtain ⟨y0q1, y1q1, y2q1, y3q1, y4q1, y5q1⟩ := frozen6 (C102.out.cells 0 rfl)
      obtain ⟨x0q0, x1q0, x2q0, x3q0, x4q0, x5q0⟩ := cells6 (C102.out.cells 1 rfl)
      obtain ⟨y0q0, y1q0, y2q0, y3q0, y4q0, y5q0⟩ := frozen6 (C102.out.cells 1 rfl)
      have ne_q1_q0 : q1 ≠ q0 := C102.out.differ 0 1 (by decide) rfl rfl
      have ne_q0_q1 : q0 ≠ q1 := C102.out.differ 1 0 (by decide) rfl rfl
      go_wp2_with fail
      obtain ⟨b7, d7⟩ := C102.out.fin 1 rfl List.mem_cons_self
      exact bodyPost_ret (res_nodec (x := 4) (q := q0) (by kernel_rfl) rfl b7 rfl) rfl d7
end Go.Proofs.YtemmdbjcllcelaaDoor.Pa
