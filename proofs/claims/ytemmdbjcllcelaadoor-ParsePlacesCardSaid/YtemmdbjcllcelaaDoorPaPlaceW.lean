/-
  The law ParsePlaces: the walk.
-/
import Derived.Test.YtemmdbjcllcelaaDoorPaLK
import Derived.Test.YtemmdbjcllcelaaDoorHnQR
namespace Go.Proofs.YtemmdbjcllcelaaDoor.Pa
open Go.RowKit
open Go.Proofs.YtemmdbjcllcelaaDoor.Tk (Hand IntsW Laid bs LexAll)
set_option maxRecDepth 100000

theorem lexAll_low {T : List UInt8} {r : Tk.Res} (h : LexAll T r) : r.low 16385 := by
  unfold LexAll at h
  by_cases hl : 16384 < T.length
  · rw [if_pos hl] at h
    subst h
    exact (show 1 ≤ 16385 by decide)
  · rw [if_neg hl] at h
    have := h.low
    revert this
    cases r with
    | ok o => exact fun q t ht => Nat.le_trans (q t ht) (by omega)
    | bad l c e => exact fun q => Nat.le_trans q (by omega)
theorem Bad.le {T : List UInt8} {l c e : Nat} (h : Bad T l c e) : l ≤ 16385 := by
  rcases h with h | ⟨toks, n, h, hr⟩
  · exact lexAll_low h
  · exact bad_low (lexAll_low h) hr
/-- An answer of Parse, whichever it is. -/
def One (w w' : World) (T : List UInt8) (k : Nat) (m : List UInt8) (n ln cn : Nat) (A : Option Addr) (len cap l c er : Nat) : Prop :=
  (er ≠ 0 ∧ Bad T l c er) ∨ (er = 0 ∧ ∃ t, Good T t ∧ NdC w' (fun b => w.heap.size ≤ b) t [.int .i64 k, .string (bs m), .int .i64 n, .int .i64 ln, .int .i64 cn, .slice A len cap])
theorem ParseDone.one {w w' : World} {T : List UInt8} {e : Ending} (h : ParseDone w T e w') : Up w w' ∧ ∃ (k : Nat) (m : List UInt8) (n ln cn : Nat) (A : Option Addr) (len cap l c er : Nat),
    e = .returned (.tuple #[.agg #[.int .i64 k, .string (bs m), .int .i64 n, .int .i64 ln, .int .i64 cn, .slice A len cap], .agg #[.int .i64 l, .int .i64 c], .int .i64 er]) ∧ One w w' T k m n ln cn A len cap l c er := by
  obtain ⟨hu, h⟩ := h.short
  refine ⟨hu, ?_⟩
  rcases h with ⟨l, c, e, h0, hb, rfl⟩ | ⟨t, cs, hg, rfl, hn⟩
  · exact ⟨0, [], 0, 0, 0, none, 0, 0, l, c, e, rfl, .inl ⟨h0, hb⟩⟩
  · obtain ⟨k, m, n, ln, cn, ks⟩ := t
    obtain ⟨A, cap, rfl, -⟩ := hn.row
    exact ⟨k, m, n, ln, cn, A, ks.length, cap, 0, 0, 0, rfl, .inr ⟨rfl, _, hg, hn⟩⟩
set_option maxHeartbeats 8000000 in
theorem parsePlaces_any {w : World} (L : Laid w) (H : Hand w) (hw : 2 + 1 ≤ w.heap.size)
    (KN : ∀ w', Up w w' → Calls Tryd.prog 8 #[] w' fun e w2 => e = .returned (.bool true) ∧ Up w' w2)
    {A0 : Option Addr} {c0 : Nat} {xs0 : List Int} (hx0 : IntsW w A0 c0 xs0) {A1 : Option Addr} {c1 : Nat} {xs1 : List Int} (hx1 : IntsW w A1 c1 xs1) (z : Int) :
    Calls Tryd.prog 4 #[.slice A0 xs0.length c0, .slice A1 xs1.length c1, .int .i64 z] w fun e w' => e = .returned (.bool true) ∧ Up w w' := by
  have LL := Lib.hid L
  have HH := Lib.hid H
  have KK := Lib.hid KN
  have HW := Lib.hid hw
  have X0 := Lib.hid hx0
  have X1 := Lib.hid hx1
  have l0 : xs0.length ≤ 9223372036854775807 := Nat.le_trans hx0.le hx0.big
  have l1 : xs1.length ≤ 9223372036854775807 := Nat.le_trans hx1.le hx1.big
  clear L H KN hw hx0 hx1
  go_enter Tryd.func4, Tryd.ntmps4
  go_wp2_with fail
  obtain ⟨n, hn, hp⟩ := Tk.pick_nat_big z 9 (by decide) (by decide)
  refine (hp _).mono ?_
  rintro e w' ⟨rfl, rfl⟩
  clear hp
  have n0 : (0 : Int) ≤ n := Int.natCast_nonneg n
  have n9 : (n : Int) < 9 := by omega
  go_wp2_with fail
  refine (Tk.bent_any X0.out X1.out HH.out).mono ?_
  rintro e w1 ⟨s, rfl, hs, u1⟩
  obtain ⟨T, hT⟩ : ∃ T, T = s.data.toList := ⟨_, rfl⟩
  obtain rfl : s = bs T := by rw [hT]; exact Tk.bs_of s
  rw [Tk.bs_size] at hs
  have U1 := Lib.hid u1
  clear hT u1 l0 l1 X0 X1
  go_wp2_with fail
  go_loopw [8, 9] (fun uv iv wr => ∃ i : Nat, iv = .int .i64 i ∧ i ≤ n ∧ uv = .string (bs (List.replicate i 10)) ∧ wr = w1) (fun _ iv _ => n - ixOf iv)
  case atStart => exact ⟨0, rfl, Nat.zero_le _, rfl, rfl⟩
  case round =>
    obtain ⟨i, rfl, hin, rfl, rfl⟩ := hrel
    have i0 : (0 : Int) ≤ i := Int.natCast_nonneg i
    by_cases hlt : i < n
    · have d1 : decide ((i : Int) < (n : Int)) = true := decide_eq_true (by omega)
      have l1 : (i : Int) < (n : Int) := by omega
      have e1 : bs (List.replicate i 10) ++ { data := #[10] } = bs (List.replicate (i + 1) 10) := by
        rw [List.replicate_succ']; exact Tk.bs_append _ [10]
      have z1 : (bs (List.replicate i 10)).size + 1 ≤ 9223372036854775807 := by rw [Tk.bs_size, List.length_replicate]; omega
      go_wp2_with fail
      go_roundw
      case rel => exact ⟨i + 1, by push_cast; rfl, by omega, rfl, trivial⟩
      case measure => have e9 : ixOf (.int .i64 ((i : Int) + 1)) = i + 1 := (by show ((i : Int) + 1).toNat = i + 1; omega); have e8 : ixOf (.int .i64 (i : Int)) = i := (by show ((i : Int)).toNat = i; omega); rw [e9, e8]; omega
    · have d1 : decide ((i : Int) < (n : Int)) = false := decide_eq_false (by omega)
      have l1 : ¬ (i : Int) < (n : Int) := by omega
      obtain rfl : i = n := by omega
      go_wp2_with fail
      refine (parse_any T (LL.out.kept U1.out (fun h => h) (fun h => h)) (Nat.le_trans HW.out U1.out.size)).mono ?_
      rintro e w2 hd
      obtain ⟨u2, ka, ma, na, la, ca, Aa, lena, capa, pl, pc, ea, rfl, ho⟩ := hd.one
      have O2 := Lib.hid ho
      have U2 := Lib.hid (Fr.trans U1.out u2 (fun _ _ e => e))
      have e2 := Tk.bs_append (List.replicate i 10) T
      have z2 : (bs (List.replicate i 10)).size + (bs T).size ≤ 9223372036854775807 := by rw [Tk.bs_size, Tk.bs_size, List.length_replicate]; omega
      clear hd ho u2 d1 l1 hlt hin hs
      go_wp2_with fail
      obtain ⟨v3, b10, b11⟩ := two_facts w2 (.int .i64 ka) (.string (bs ma)) (.int .i64 na) (.int .i64 la) (.int .i64 ca) (.slice Aa lena capa) (.int .i64 pl) (.int .i64 pc)
      have V3 := Lib.hid v3
      have B10 := Lib.hid b10
      have B11 := Lib.hid b11
      have U3 := Lib.hid (Fr.trans U2.out v3 (fun _ _ e => e))
      clear v3 b10 b11 e2 z2
      change Calls _ _ _ (two w2 (.int .i64 ka) (.string (bs ma)) (.int .i64 na) (.int .i64 la) (.int .i64 ca) (.slice Aa lena capa) (.int .i64 pl) (.int .i64 pc)) _
      generalize two w2 (.int .i64 ka) (.string (bs ma)) (.int .i64 na) (.int .i64 la) (.int .i64 ca) (.slice Aa lena capa) (.int .i64 pl) (.int .i64 pc) = w3 at *
      obtain ⟨qa, eqa⟩ : ∃ q, q = w2.heap.size := ⟨_, rfl⟩
      rw [← eqa] at B10 B11 ⊢
      obtain ⟨qp, eqp⟩ : ∃ q, q = qa + 1 := ⟨_, rfl⟩
      rw [← eqp] at B11 ⊢
      clear eqa eqp
      refine (parse_any (List.replicate i 10 ++ T) (LL.out.kept U3.out (fun h => h) (fun h => h)) (Nat.le_trans HW.out U3.out.size)).mono ?_
      rintro e w4 hd
      obtain ⟨u4, kb, mb, nb, lb, cb, Ab, lenb, capb, ql, qc, eb, rfl, ho⟩ := hd.one
      have O4 := Lib.hid ho
      have V4 := Lib.hid (Fr.trans V3.out u4 (fun _ _ e => e))
      have U4 := Lib.hid (Fr.trans U3.out u4 (fun _ _ e => e))
      have Q10 := Lib.hid ((u4.block qa (heap_lt B10.out) (fun e => e)).trans B10.out)
      have Q11 := Lib.hid ((u4.block qp (heap_lt B11.out) (fun e => e)).trans B11.out)
      clear hd ho u4
      go_wp2_with fail
      obtain ⟨v5, b10, b11⟩ := two_facts w4 (.int .i64 kb) (.string (bs mb)) (.int .i64 nb) (.int .i64 lb) (.int .i64 cb) (.slice Ab lenb capb) (.int .i64 ql) (.int .i64 qc)
      have V5 := Lib.hid v5
      have B13 := Lib.hid b10
      have B14 := Lib.hid b11
      have U5 := Lib.hid (Fr.trans U4.out v5 (fun _ _ e => e))
      have W5 := Lib.hid (Fr.trans V4.out v5 (fun _ _ e => e))
      have R10 := Lib.hid ((v5.block qa (heap_lt Q10.out) (fun e => e)).trans Q10.out)
      have R11 := Lib.hid ((v5.block qp (heap_lt Q11.out) (fun e => e)).trans Q11.out)
      clear v5 b10 b11
      change Calls _ _ _ (two w4 (.int .i64 kb) (.string (bs mb)) (.int .i64 nb) (.int .i64 lb) (.int .i64 cb) (.slice Ab lenb capb) (.int .i64 ql) (.int .i64 qc)) _
      generalize two w4 (.int .i64 kb) (.string (bs mb)) (.int .i64 nb) (.int .i64 lb) (.int .i64 cb) (.slice Ab lenb capb) (.int .i64 ql) (.int .i64 qc) = w5 at *
      obtain ⟨qb, eqb⟩ : ∃ q, q = w4.heap.size := ⟨_, rfl⟩
      rw [← eqb] at B13 B14 ⊢
      obtain ⟨qq, eqq⟩ : ∃ q, q = qb + 1 := ⟨_, rfl⟩
      rw [← eqq] at B14 ⊢
      clear eqb eqq
      refine (KK.out w5 U5.out).mono ?_
      rintro e w6 ⟨rfl, u6⟩
      have U6 := Lib.hid (Fr.trans U5.out u6 (fun _ _ e => e))
      have W6 := Lib.hid (Fr.trans W5.out u6 (fun _ _ e => e))
      have T6 := Lib.hid (Fr.trans V5.out u6 (fun _ _ e => e))
      have C10 := Lib.hid ((u6.block qa (heap_lt R10.out) (fun e => e)).trans R10.out)
      have C11 := Lib.hid ((u6.block qp (heap_lt R11.out) (fun e => e)).trans R11.out)
      have C13 := Lib.hid ((u6.block qb (heap_lt B13.out) (fun e => e)).trans B13.out)
      have C14 := Lib.hid ((u6.block qq (heap_lt B14.out) (fun e => e)).trans B14.out)
      clear u6
      clear B10 B11 Q10 Q11 R10 R11 B13 B14
      by_cases hef : ea = eb
      · subst hef
        have f1 : ((ea : Int) == (ea : Int)) = true := by simp
        have f2 : ((ea : Int) != (ea : Int)) = false := by simp
        by_cases h0 : ea = 0
        · have z1 : ((ea : Int) == 0) = true := by simp; omega
          have z2 : ((ea : Int) != 0) = false := by rw [bne, z1]; rfl
          obtain ⟨t, u, htw, hna, hnb⟩ : ∃ t u, Tw i 16385 t u ∧ NdC w6 (fun _ => True) t [.int .i64 ka, .string (bs ma), .int .i64 na, .int .i64 la, .int .i64 ca, .slice Aa lena capa] ∧ NdC w6 (fun _ => True) u [.int .i64 kb, .string (bs mb), .int .i64 nb, .int .i64 lb, .int .i64 cb, .slice Ab lenb capb] := by
            rcases O2.out with ⟨a0, ha⟩ | ⟨a0, t, ha, hna⟩
            · exact absurd h0 a0
            · rcases O4.out with ⟨b0, hb⟩ | ⟨b0, u, hb, hnb⟩
              · exact absurd h0 b0
              · exact ⟨t, u, good_good ha hb, hna.kept W6.out (fun _ _ e => e) (fun _ _ => True.intro), hnb.kept T6.out (fun _ _ e => e) (fun _ _ => True.intro)⟩
          have TW := Lib.hid htw
          have NA := Lib.hid hna
          have NB := Lib.hid hnb
          clear O2 O4 W6 T6 C11 C14 htw hna hnb h0 V3 V4 V5 W5
          obtain ⟨x0, x1, x2, x3, x4, x5⟩ := cells6 C10.out
          obtain ⟨y0, y1, y2, y3, y4, y5⟩ := cells6 C13.out
          go_wp2_with fail
          refine (same_dn _ t u (Nat.lt_succ_self _) TW.out w6 _ _ _ _ NA.out NB.out).mono ?_
          rintro e w7 ⟨rfl, u7⟩
          have NA7 := Lib.hid (NA.out.kept u7 (fun _ _ e => e) (fun _ _ => True.intro) : NdC w7 (fun _ => True) t _)
          have NB7 := Lib.hid (NB.out.kept u7 (fun _ _ e => e) (fun _ _ => True.intro) : NdC w7 (fun _ => True) u _)
          have U7 := Lib.hid (Fr.trans U6.out u7 (fun _ _ e => e))
          have D10 := Lib.hid ((u7.block qa (heap_lt C10.out) (fun e => e)).trans C10.out)
          have D13 := Lib.hid ((u7.block qb (heap_lt C13.out) (fun e => e)).trans C13.out)
          clear x0 x1 x2 x3 x4 x5 y0 y1 y2 y3 y4 y5 u7 NA NB C10 C13
          obtain ⟨x0, x1, x2, x3, x4, x5⟩ := cells6 D10.out
          obtain ⟨y0, y1, y2, y3, y4, y5⟩ := cells6 D13.out
          go_wp2_with fail
          refine (down_dn (k := i) (B := 16385) (by decide) (by omega) _ t u (Nat.lt_succ_self _) TW.out w7 _ _ _ _ NA7.out NB7.out).mono ?_
          rintro e w8 ⟨rfl, u8⟩
          have U8 := Lib.hid (Fr.trans U7.out u8 (fun _ _ e => e))
          clear x0 x1 x2 x3 x4 x5 y0 y1 y2 y3 y4 y5 u8
          go_wp2_with fail
          go_ret
          exact ⟨rfl, U8.out⟩
        · have z1 : ((ea : Int) == 0) = false := by simp; omega
          have z2 : ((ea : Int) != 0) = true := by rw [bne, z1]; rfl
          obtain ⟨hpl, hor⟩ : pl ≤ 16385 ∧ (ea = 6 ∨ (ql = pl + i ∧ qc = pc)) := by
            rcases O2.out with ⟨a0, ha⟩ | ⟨a0, t, ha, hna⟩
            · rcases O4.out with ⟨b0, hb⟩ | ⟨b0, u, hb, hnb⟩
              · refine ⟨ha.le, ?_⟩
                rcases bad_bad ha hb with h | ⟨_, h1, h2, _⟩
                · exact .inl h
                · exact .inr ⟨h1, h2⟩
              · exact absurd b0 h0
            · exact absurd a0 h0
          obtain ⟨lnn, hlnn⟩ : ∃ lnn, lnn = pl + i := ⟨_, rfl⟩
          rw [← hlnn] at hor
          have hw : wrap64 ((pl : Int) + (i : Int)) = (lnn : Int) := by unfold wrap64; omega
          have hs : (pl : Int) + (i : Int) = (lnn : Int) := by omega
          have hlb : (lnn : Int) ≤ 20000 := by omega
          have hl0 : (0 : Int) ≤ lnn := Int.natCast_nonneg _
          obtain ⟨x0, x1, x2, x3⟩ := cells2 C11.out
          obtain ⟨y0, y1, y2, y3⟩ := cells2 C14.out
          clear O2 O4 W6 T6 C10 C13 V3 V4 V5 W5 h0 hpl hlnn
          by_cases hq : ql = lnn
          · subst hq
            have g1 : ((ql : Int) == (ql : Int)) = true := by simp
            by_cases hc : qc = pc
            · subst hc
              have g2 : ((qc : Int) == (qc : Int)) = true := by simp
              go_wp2_with fail
              go_ret
              exact ⟨rfl, U6.out⟩
            · have g2 : ((qc : Int) == (pc : Int)) = false := num_no hc
              obtain rfl : ea = 6 := hor.resolve_right (fun h => hc h.2)
              go_wp2_with fail
              go_ret
              exact ⟨rfl, U6.out⟩
          · have g1 : ((ql : Int) == (lnn : Int)) = false := num_no hq
            obtain rfl : ea = 6 := hor.resolve_right (fun h => hq h.1)
            go_wp2_with fail
            go_ret
            exact ⟨rfl, U6.out⟩
      · have f1 : ((ea : Int) == (eb : Int)) = false := by simp; omega
        have f2 : ((ea : Int) != (eb : Int)) = true := by rw [bne, f1]; rfl
        have h6 : eb = 6 := by
          rcases O2.out with ⟨a0, ha⟩ | ⟨a0, t, ha, _⟩ <;> rcases O4.out with ⟨b0, hb⟩ | ⟨b0, u, hb, _⟩
          · rcases bad_bad ha hb with h | ⟨h, _⟩
            · exact h
            · exact absurd h.symm hef
          · exact (bad_good ha hb).elim
          · exact good_bad ha hb
          · exact absurd (a0.trans b0.symm) hef
        subst h6
        have f3 : ((ea : Int) == 6) = false := by simp; omega
        clear O2 O4 C10 C11 C13 C14
        go_wp2_with fail
        refine (KK.out w6 U6.out).mono ?_
        rintro e w7 ⟨rfl, u7⟩
        have U7 := Lib.hid (Fr.trans U6.out u7 (fun _ _ e => e))
        clear u7
        go_wp2_with fail
        go_ret
        exact ⟨rfl, U7.out⟩
end Go.Proofs.YtemmdbjcllcelaaDoor.Pa
