/-
  Package token: choose, and what the chosen reader reads.
-/
import Derived.Test.YtemmdbjcllcelaaDoorTnQ
namespace Go.Proofs.YtemmdbjcllcelaaDoor.Tk
open Go.RowKit
set_option maxRecDepth 100000

/-- The reader of what stands at the next byte. -/
def readerOf (l : List UInt8) (out : List Tok) : Nat := match l with
  | [] => if lastEnds out then 40 else 65
  | b :: _ => if b = 10 then 40 else if b = 59 then 41 else if letter b.toNat then 43
    else if digit b.toNat then 45 else if b = 34 then 46 else 47

/-- What it reads. -/
def gotOf (l : List UInt8) (out : List Tok) : Got := match l with
  | [] => if lastEnds out then .tok 1 [59] 0 0 else .tok 0 [] 0 0
  | b :: _ => if b = 10 then .tok 1 [59] 0 0 else one l

theorem ReadDone.zero {w w' : World} {B p : Nat} {T : List UInt8} {k line first : Nat} {v : Value} {out : List Tok} {kind : Nat} {text : List UInt8} {e : Ending} (h : Sc w B p T k line first v out) (u : Up w w')
    (he : e = .returned (.tuple #[tokV kind text 0, .int .i64 0])) : ReadDone w B p T k line first v out (.tok kind text 0 0) e w' :=
  ⟨he, by rw [Nat.add_zero]; exact h.up u, Fr.mono u (fun _ _ h => h.elim)⟩

theorem reader_any {w : World} {B p : Nat} {T : List UInt8} {k line first : Nat} {v : Value} {out : List Tok} (h : Sc w B p T k line first v out) (L : Laid w) (hB : 2 + 1 + 1 ≤ B) :
    Calls Tryd.prog (readerOf (T.drop k) out) #[.pointer (some ⟨p, 0, none⟩)] w (ReadDone w B p T k line first v out (gotOf (T.drop k) out)) := by
  by_cases hk : k < T.length
  · obtain ⟨b, hb⟩ : ∃ b, T[k]? = some b := ⟨_, List.getElem?_eq_getElem hk⟩
    have hd := drop_at hb
    by_cases h10 : b = 10
    · have e1 : readerOf (T.drop k) out = 40 := by rw [hd]; simp [readerOf, h10]
      have e2 : gotOf (T.drop k) out = .tok 1 [59] 0 0 := by rw [hd]; simp [gotOf, h10]
      rw [e1, e2]
      exact (inserted_any p).mono fun e w' ⟨he, u⟩ => ReadDone.zero h u he
    have g0 : gotOf (T.drop k) out = one (T.drop k) := by rw [hd]; simp [gotOf, h10]
    rw [g0]
    by_cases h59 : b = 59
    · have e1 : readerOf (T.drop k) out = 41 := by rw [hd]; simp [readerOf, h59]
      have e2 : one (T.drop k) = .tok 1 [59] 0 1 := by rw [hd]; simp [one, h59]
      rw [e1, e2]
      exact semi_any h (by rw [hb, h59])
    by_cases hl : letter b.toNat = true
    · have e1 : readerOf (T.drop k) out = 43 := by rw [hd]; simp [readerOf, h10, h59, hl]
      rw [e1]
      exact name_any h L hB hb hl
    by_cases hg : digit b.toNat = true
    · have e1 : readerOf (T.drop k) out = 45 := by rw [hd]; simp [readerOf, h10, h59, hl, hg]
      have e2 : one (T.drop k) = numG T k := by
        rw [numG]
        generalize hll : T.drop k = l at *
        subst hd
        simp only [one, if_neg h59, if_neg hl, if_pos hg]
        rfl
      rw [e1, e2]
      exact number_any h
    by_cases h34 : b = 34
    · have e1 : readerOf (T.drop k) out = 46 := by rw [hd, h34]; rfl
      have e2 : one (T.drop k) = quoG T k := by
        rw [quoG]
        generalize T.drop (k + 1) = r at *
        generalize hll : T.drop k = l at *
        subst hd
        simp only [one, if_neg h59, if_neg hl, if_neg hg, if_pos h34]
        rfl
      rw [e1, e2]
      exact quoted_any h (by rw [hb, h34])
    · have e1 : readerOf (T.drop k) out = 47 := by rw [hd]; simp [readerOf, h10, h59, hl, hg, h34]
      have e2 : one (T.drop k) = (match signsL.find? (fun g => g.isPrefixOf (T.drop k)) with
          | none => .err 10
          | some g => .tok 6 g 0 g.length) := by
        generalize hll : T.drop k = l at *
        subst hd
        simp only [one, if_neg h59, if_neg hl, if_neg hg, if_neg h34]
        rfl
      rw [e1, e2]
      exact sign_any h L
  · have hd : T.drop k = [] := List.drop_eq_nil_of_le (by omega)
    rw [hd]
    cases hE : lastEnds out
    · have e1 : readerOf [] out = 65 := by simp [readerOf, hE]
      have e2 : gotOf [] out = .tok 0 [] 0 0 := by simp [gotOf, hE]
      rw [e1, e2]
      exact (end_any p).mono fun e w' ⟨he, u⟩ => ReadDone.zero h u he
    · have e1 : readerOf [] out = 40 := by simp [readerOf, hE]
      have e2 : gotOf [] out = .tok 1 [59] 0 0 := by simp [gotOf, hE]
      rw [e1, e2]
      exact (inserted_any p).mono fun e w' ⟨he, u⟩ => ReadDone.zero h u he

set_option maxHeartbeats 1000000 in
theorem atEnd_any {w : World} {B p : Nat} {T : List UInt8} {k line first : Nat} {v : Value} {out : List Tok} (h : Sc w B p T k line first v out) :
    Calls Tryd.prog 39 #[.pointer (some ⟨p, 0, none⟩)] w fun e w' => e = .returned (.func (.func (readerOf [] out)) #[.pointer (some ⟨p, 0, none⟩)] #[]) ∧ Up w w' := by
  have H := Lib.hid h
  clear h
  obtain ⟨f, hf⟩ : ∃ f, f = readerOf [] out := ⟨_, rfl⟩
  rw [← hf]
  cases hE : lastEnds out
  · have e1 : f = 65 := by rw [hf]; simp [readerOf, hE]
    subst e1
    clear hf
    go_enter Tryd.func39, Tryd.ntmps39
    go_wp2_with fail
    refine (lacksSemi_any H.out).mono ?_
    rintro e w' ⟨rfl, u⟩
    rw [hE]
    have U := Lib.hid u
    clear u
    go_wp2_with fail
    go_ret
    exact ⟨rfl, U.out⟩
  · have e1 : f = 40 := by rw [hf]; simp [readerOf, hE]
    subst e1
    clear hf
    go_enter Tryd.func39, Tryd.ntmps39
    go_wp2_with fail
    refine (lacksSemi_any H.out).mono ?_
    rintro e w' ⟨rfl, u⟩
    rw [hE]
    have U := Lib.hid u
    clear u
    go_wp2_with fail
    go_ret
    exact ⟨rfl, U.out⟩

set_option maxRecDepth 100000 in
set_option maxHeartbeats 2000000 in
theorem choose_any {w : World} {B p : Nat} {T : List UInt8} {k line first : Nat} {v : Value} {out : List Tok} (h : Sc w B p T k line first v out) :
    Calls Tryd.prog 25 #[.pointer (some ⟨p, 0, none⟩)] w fun e w' => e = .returned (.func (.func (readerOf (T.drop k) out)) #[.pointer (some ⟨p, 0, none⟩)] #[]) ∧ Up w w' := by
  have hsz := bs_size T
  have c0 := h.c0
  have c1 := h.c1
  have hkT := h.kT
  have H := Lib.hid h
  clear h
  by_cases hk : k < T.length
  · obtain ⟨b, hb⟩ : ∃ b, T[k]? = some b := ⟨_, List.getElem?_eq_getElem hk⟩
    have hks : k < (bs T).size := by rw [hsz]; exact hk
    have gk := get_bs hks hb
    have hd := drop_at hb
    have e0 : ((k : Int) == (T.length : Int)) = false := by simp; omega
    have k10 : ((b.toNat : Int) == 10) = decide (b = 10) := beqU b 10
    have k59 : ((b.toNat : Int) == 59) = decide (b = 59) := beqU b 59
    have k34 : ((b.toNat : Int) == 34) = decide (b = 34) := beqU b 34
    have LE := Lib.hid (isLetter_any (w := w) b.toNat (UInt8.toNat_lt b))
    obtain ⟨f, hf⟩ : ∃ f, f = readerOf (T.drop k) out := ⟨_, rfl⟩
    rw [← hf]
    have HF := Lib.hid (show f = readerOf (b :: T.drop (k + 1)) out by rw [hf, hd])
    clear hf hd hb
    go_enter Tryd.func25, Tryd.ntmps25
    go_wp2_with fail
    go_quiet (fail)
    have U1 := Lib.hid (show Up w (w.drewN nq) from Fr.drewN (Fr.refl _ _) _)
    have H1 := Lib.hid (H.out.up U1.out)
    generalize w.drewN nq = w1 at U1 H1 ⊢
    clear c0 c1
    have c0 := H1.out.c0
    have c1 := H1.out.c1
    go_wp2_with fail
    go_quiet (fail)
    have U2 := Lib.hid (Fr.drewN U1.out nq)
    generalize w1.drewN nq = w2 at U2 ⊢
    clear c0 c1 H1 U1 gk hks hsz e0
    by_cases h10 : b = 10
    · rw [dec_of h10] at k10
      have e1 : f = 40 := by rw [HF.out]; simp [readerOf, h10]
      subst e1
      clear HF h10 k59 k34
      go_wp2_with fail
      go_ret
      exact ⟨rfl, U2.out⟩
    rw [dec_not h10] at k10
    by_cases h59 : b = 59
    · rw [dec_of h59] at k59
      have e1 : f = 41 := by rw [HF.out]; simp [readerOf, h59]
      subst e1
      clear HF h10 h59 k34
      go_wp2_with fail
      go_ret
      exact ⟨rfl, U2.out⟩
    rw [dec_not h59] at k59
    cases hl : letter b.toNat
    · cases hg : digit b.toNat
      · by_cases h34 : b = 34
        · rw [dec_of h34] at k34
          have e1 : f = 46 := by rw [HF.out, h34]; rfl
          subst e1
          clear HF h10 h59 h34
          go_wp2_with fail
          refine (isLetter_any b.toNat (UInt8.toNat_lt b)).mono ?_
          rintro e w' ⟨rfl, rfl⟩
          rw [hl]
          go_wp2_with fail
          refine (isDigit_any b.toNat (UInt8.toNat_lt b)).mono ?_
          rintro e w' ⟨rfl, rfl⟩
          rw [hg]
          go_wp2_with fail
          go_ret
          exact ⟨rfl, U2.out⟩
        · rw [dec_not h34] at k34
          have e1 : f = 47 := by rw [HF.out]; simp [readerOf, h10, h59, hl, hg, h34]
          subst e1
          clear HF h10 h59 h34
          go_wp2_with fail
          refine (isLetter_any b.toNat (UInt8.toNat_lt b)).mono ?_
          rintro e w' ⟨rfl, rfl⟩
          rw [hl]
          go_wp2_with fail
          refine (isDigit_any b.toNat (UInt8.toNat_lt b)).mono ?_
          rintro e w' ⟨rfl, rfl⟩
          rw [hg]
          go_wp2_with fail
          go_ret
          exact ⟨rfl, U2.out⟩
      · have e1 : f = 45 := by rw [HF.out]; simp [readerOf, h10, h59, hl, hg]
        subst e1
        clear HF h10 h59
        go_wp2_with fail
        refine (isLetter_any b.toNat (UInt8.toNat_lt b)).mono ?_
        rintro e w' ⟨rfl, rfl⟩
        rw [hl]
        go_wp2_with fail
        refine (isDigit_any b.toNat (UInt8.toNat_lt b)).mono ?_
        rintro e w' ⟨rfl, rfl⟩
        rw [hg]
        go_wp2_with fail
        go_ret
        exact ⟨rfl, U2.out⟩
    · have e1 : f = 43 := by rw [HF.out]; simp [readerOf, h10, h59, hl]
      subst e1
      clear HF h10 h59
      go_wp2_with fail
      refine (isLetter_any b.toNat (UInt8.toNat_lt b)).mono ?_
      rintro e w' ⟨rfl, rfl⟩
      rw [hl]
      go_wp2_with fail
      go_ret
      exact ⟨rfl, U2.out⟩
  · have hd : T.drop k = [] := List.drop_eq_nil_of_le (by omega)
    rw [hd]
    have e0 : ((k : Int) == (T.length : Int)) = true := by simp; omega
    go_enter Tryd.func25, Tryd.ntmps25
    go_wp2_with fail
    go_quiet (fail)
    go_wp2_with fail
    refine (atEnd_any (H.out.drewN _)).mono ?_
    rintro e w' ⟨rfl, u⟩
    have U := Lib.hid (Fr.trans (Fr.drewN (Fr.refl (fun _ => False) w) _) u (fun _ _ e => e))
    clear u
    go_wp2_with fail
    go_ret
    exact ⟨rfl, U.out⟩
end Go.Proofs.YtemmdbjcllcelaaDoor.Tk
