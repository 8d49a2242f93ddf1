/-
  Where tokens stand: of chapter 3's functions on lists of bytes: no function of the program is named here.
-/
import Derived.Test.YtpobkjnlcengbaaDoorTkSpec
namespace Go.Proofs.YtpobkjnlcengbaaDoor

/-- Line and column, one byte further. -/
def adv (q : Nat × Nat) (b : UInt8) : Nat × Nat := if b = 10 then (q.1 + 1, 1) else (q.1, q.2 + 1)
/-- Line and column of an offset. -/
def pos (T : List UInt8) (i : Nat) : Nat × Nat := (T.take i).foldl adv (1, 1)
theorem pos_zero (T : List UInt8) : pos T 0 = (1, 1) := by simp [pos]
theorem pos_succ {T : List UInt8} {i : Nat} {b : UInt8} (h : T[i]? = some b) : pos T (i + 1) = adv (pos T i) b := by
  unfold pos
  rw [List.take_add_one, h, List.foldl_append]
  rfl
theorem pos_line {T : List UInt8} {i : Nat} (h : T[i]? = some 10) : pos T (i + 1) = ((pos T i).1 + 1, 1) := by rw [pos_succ h]; rfl
theorem pos_run {T : List UInt8} : ∀ (n i : Nat), i + n ≤ T.length → (∀ b ∈ (T.drop i).take n, b ≠ 10) → pos T (i + n) = ((pos T i).1, (pos T i).2 + n)
  | 0, i, _, _ => rfl
  | n + 1, i, hl, hb => by
    have hi : i < T.length := by omega
    have e := List.getElem?_eq_getElem hi
    have hd : T.drop i = T[i] :: T.drop (i + 1) := List.drop_eq_getElem_cons hi
    have hne : T[i] ≠ 10 := hb _ (by rw [hd, List.take_succ_cons]; exact List.mem_cons_self)
    have ih := pos_run (T := T) n (i + 1) (by omega) (fun b hb' => hb b (by rw [hd, List.take_succ_cons]; exact List.mem_cons_of_mem _ hb'))
    rw [show i + (n + 1) = (i + 1) + n by omega, ih, pos_succ e]
    simp only [adv, if_neg hne]
    congr 1
    omega

def before (a b : Nat × Nat) : Prop := a.1 < b.1 ∨ (a.1 = b.1 ∧ a.2 < b.2)
theorem before_adv (q : Nat × Nat) (b : UInt8) : before q (adv q b) := by
  unfold before adv
  split
  · left; simp
  · right; simp
theorem before_trans {a b c : Nat × Nat} (h : before a b) (k : before b c) : before a c := by
  unfold before at *
  omega
theorem before_ne {a b : Nat × Nat} (h : before a b) : a ≠ b := by
  rintro rfl
  unfold before at h
  omega
theorem pos_before {T : List UInt8} {i : Nat} : ∀ {j : Nat}, i < j → j ≤ T.length → before (pos T i) (pos T j)
  | 0, h, _ => by omega
  | j + 1, h, hl => by
    have e := List.getElem?_eq_getElem (show j < T.length by omega)
    have h1 := before_adv (pos T j) T[j]
    rw [← pos_succ e] at h1
    rcases Nat.lt_or_ge i j with h2 | h2
    · exact before_trans (pos_before h2 (by omega)) h1
    · obtain rfl : i = j := by omega
      exact h1
theorem pos_inj {T : List UInt8} {i j : Nat} (hi : i ≤ T.length) (hj : j ≤ T.length) (h : pos T i = pos T j) : i = j := by
  rcases Nat.lt_trichotomy i j with h1 | h1 | h1
  · exact absurd h (before_ne (pos_before h1 hj))
  · exact h1
  · exact absurd h.symm (before_ne (pos_before h1 hi))

/-- A token stands whole at an offset. -/
def whole (T : List UInt8) (t : Tok) (i : Nat) : Prop := t.kind = 0 ∨ (t.kind = 1 ∧ (i = T.length ∨ T[i]? = some 10 ∨ T[i]? = some 59)) ∨ (t.kind = 5 ∧ T[i]? = some 34) ∨
  ((t.kind = 2 ∨ t.kind = 3 ∨ t.kind = 4 ∨ t.kind = 6) ∧ i + t.text.length ≤ T.length ∧ (T.drop i).take t.text.length = t.text)

/-- Tokens and their offsets. -/
structure Pl (T : List UInt8) (out : List Tok) (os : List Nat) (k : Nat) : Prop where
  len : os.length = out.length
  at_ : ∀ (j : Nat) (t : Tok) (o : Nat), out[j]? = some t → os[j]? = some o → pos T o = (t.line, t.col) ∧ whole T t o
  up : ∀ (j : Nat) (o o' : Nat), os[j]? = some o → os[j + 1]? = some o' → o ≤ o'
  le : ∀ o ∈ os, o ≤ k
theorem Pl.nil (T : List UInt8) : Pl T [] [] 0 := ⟨rfl, by simp, by simp, by simp⟩
theorem Pl.more {T : List UInt8} {out : List Tok} {os : List Nat} {k k' : Nat} (h : Pl T out os k) (hk : k ≤ k') : Pl T out os k' := ⟨h.len, h.at_, h.up, fun o ho => Nat.le_trans (h.le o ho) hk⟩
theorem Pl.snoc {T : List UInt8} {out : List Tok} {os : List Nat} {k : Nat} (h : Pl T out os k) (t : Tok) (hp : pos T k = (t.line, t.col)) (hw : whole T t k) : Pl T (out ++ [t]) (os ++ [k]) k := by
  have hl := h.len
  refine ⟨by simp [hl], fun j t' o hj ho => ?_, fun j o o' hj hj' => ?_, fun o ho => ?_⟩
  · by_cases hlt : j < out.length
    · rw [List.getElem?_append_left hlt] at hj
      rw [List.getElem?_append_left (by omega)] at ho
      exact h.at_ j t' o hj ho
    · rw [List.getElem?_append_right (by omega)] at hj
      rw [List.getElem?_append_right (by omega)] at ho
      have h0 : j - out.length = 0 := by
        have := (List.getElem?_eq_some_iff.1 hj).1
        simp at this
        omega
      rw [h0] at hj
      rw [hl, h0] at ho
      simp at hj ho
      subst hj ho
      exact ⟨hp, hw⟩
  · by_cases hlt : j + 1 < os.length
    · rw [List.getElem?_append_left (by omega)] at hj
      rw [List.getElem?_append_left hlt] at hj'
      exact h.up j o o' hj hj'
    · have hj1 : j + 1 = os.length := by
        have := (List.getElem?_eq_some_iff.1 hj').1
        simp at this
        omega
      rw [List.getElem?_append_left (by omega)] at hj
      rw [List.getElem?_append_right (by omega), hj1, Nat.sub_self] at hj'
      simp at hj'
      subst hj'
      exact h.le o (List.mem_of_getElem? hj)
  · rcases List.mem_append.1 ho with h1 | h1
    · exact h.le o h1
    · simp at h1; omega

theorem mem_tw {q : UInt8 → Bool} : ∀ {l : List UInt8} {x : UInt8}, x ∈ l.takeWhile q → q x = true
  | [], _, h => by simp at h
  | a :: r, x, h => by
    rw [List.takeWhile_cons] at h
    split at h
    · rename_i ha
      rcases List.mem_cons.1 h with rfl | h
      · exact ha
      · exact mem_tw h
    · simp at h
theorem name_ne {b : UInt8} (h : inName b = true) : b ≠ 10 := by rintro rfl; revert h; decide
theorem digit_ne {b : UInt8} (h : digit b.toNat = true) : b ≠ 10 := by rintro rfl; revert h; decide
theorem numGo_run : ∀ (l : List UInt8) (x k y k' : Nat), numGo l x k = some (y, k') → k ≤ k' ∧ k' - k ≤ l.length ∧ ∀ b ∈ l.take (k' - k), b ≠ 10
  | [], x, k, y, k', h => by
    simp only [numGo, Option.some.injEq, Prod.mk.injEq] at h
    obtain ⟨_, rfl⟩ := h
    simp
  | b :: l, x, k, y, k', h => by
    unfold numGo at h
    split at h
    · rename_i hd
      split at h
      · cases h
      · obtain ⟨h1, h2, h3⟩ := numGo_run l _ _ _ _ h
        refine ⟨by omega, by simp; omega, fun c hc => ?_⟩
        rw [show k' - k = (k' - (k + 1)) + 1 by omega, List.take_succ_cons] at hc
        rcases List.mem_cons.1 hc with rfl | hc
        · exact digit_ne hd
        · exact h3 c hc
    · simp only [Option.some.injEq, Prod.mk.injEq] at h
      obtain ⟨_, rfl⟩ := h
      simp
theorem denoted_run {l : List UInt8} {c : UInt8} {n : Nat} (h : denoted l = some (c, n)) : 1 ≤ n ∧ n ≤ l.length ∧ ∀ b ∈ l.take n, b ≠ 10 := by
  match l, h with
  | b :: r, h =>
    simp only [denoted] at h
    split at h
    · cases h
    · rename_i hb
      have hb10 : b ≠ 10 := by rintro rfl; exact hb (by decide)
      split at h
      · simp only [Option.some.injEq, Prod.mk.injEq] at h
        obtain ⟨_, rfl⟩ := h
        refine ⟨Nat.le_refl _, by simp, fun c hc => ?_⟩
        simp at hc; subst hc; exact hb10
      · match r, h with
        | [], h => simp at h
        | d :: r', h =>
          simp only at h
          have hd : d ≠ 10 ∧ n = 2 := by
            split at h
            · rename_i e; simp at h; exact ⟨by rw [e]; decide, h.2.symm⟩
            · split at h
              · rename_i e; simp at h; exact ⟨by rw [e]; decide, h.2.symm⟩
              · split at h
                · rename_i e; simp at h; exact ⟨by rcases e with e | e <;> rw [e] <;> decide, h.2.symm⟩
                · cases h
          obtain ⟨hd, rfl⟩ := hd
          refine ⟨by omega, by simp, fun c hc => ?_⟩
          simp at hc
          rcases hc with rfl | rfl
          · exact hb10
          · exact hd
theorem txtGo_run : ∀ (f : Nat) (l acc : List UInt8) (k : Nat) (t : List UInt8) (k' : Nat), txtGo f l acc k = some (t, k') → k ≤ k' ∧ k' - k ≤ l.length ∧ ∀ b ∈ l.take (k' - k), b ≠ 10
  | 0, l, acc, k, t, k', h => by simp [txtGo] at h
  | f + 1, [], acc, k, t, k', h => by simp [txtGo] at h
  | f + 1, b :: r, acc, k, t, k', h => by
    unfold txtGo at h
    simp only at h
    split at h
    · rename_i hb
      split at h
      · cases h
      · simp only [Option.some.injEq, Prod.mk.injEq] at h
        obtain ⟨_, rfl⟩ := h
        refine ⟨by omega, by simp, fun c hc => ?_⟩
        rw [Nat.add_sub_cancel_left] at hc
        simp at hc; subst hc; rw [hb]; decide
    · cases hd : denoted (b :: r) with
      | none => rw [hd] at h; cases h
      | some p =>
        obtain ⟨c, n⟩ := p
        rw [hd] at h
        simp only at h
        obtain ⟨h1, h2, h3⟩ := txtGo_run f _ _ _ _ _ h
        obtain ⟨d1, d2, d3⟩ := denoted_run hd
        rw [List.length_drop] at h2
        refine ⟨by omega, by omega, fun x hx => ?_⟩
        rw [show k' - k = n + (k' - (k + n)) by omega, List.take_add] at hx
        rcases List.mem_append.1 hx with h4 | h4
        · exact d3 x h4
        · exact h3 x h4

theorem signs_ne : ∀ g ∈ signsL, ∀ b ∈ g, b ≠ 10 := by decide
/-- What the token at the front is, of the bytes that it takes. -/
theorem one_run {l : List UInt8} {kind : Nat} {text : List UInt8} {n used : Nat} (h : one l = .tok kind text n used) : used ≤ l.length ∧ (∀ b ∈ l.take used, b ≠ 10) ∧
    ((kind = 1 ∧ l[0]? = some 59) ∨ (kind = 5 ∧ l[0]? = some 34) ∨ ((kind = 2 ∨ kind = 3 ∨ kind = 4 ∨ kind = 6) ∧ text.length ≤ l.length ∧ l.take text.length = text)) := by
  match l, h with
  | b :: r, h =>
    simp only [one] at h
    split at h
    · rename_i hb
      cases h
      refine ⟨by simp, fun c hc => ?_, .inl ⟨rfl, by simp [hb]⟩⟩
      simp at hc; subst hc; rw [hb]; decide
    · split at h
      · have hp : ((b :: r).takeWhile inName) <+: (b :: r) := List.takeWhile_prefix _
        obtain ⟨z, hz⟩ := hp
        have htk : (b :: r).take ((b :: r).takeWhile inName).length = (b :: r).takeWhile inName := (List.prefix_iff_eq_take.1 (List.takeWhile_prefix _)).symm
        have hle : ((b :: r).takeWhile inName).length ≤ (b :: r).length := by
          have := congrArg List.length hz
          rw [List.length_append] at this
          omega
        simp only [Got.tok.injEq] at h
        obtain ⟨hk, rfl, _, rfl⟩ := h
        refine ⟨hle, fun c hc => ?_, .inr (.inr ⟨?_, hle, htk⟩)⟩
        · rw [htk] at hc
          exact name_ne (mem_tw hc)
        · subst hk
          split <;> simp
      · split at h
        · cases hn : numGo (b :: r) 0 0 with
          | none => rw [hn] at h; cases h
          | some p =>
            obtain ⟨x, k⟩ := p
            rw [hn] at h
            simp only [Got.tok.injEq] at h
            obtain ⟨rfl, rfl, _, rfl⟩ := h
            obtain ⟨_, h2, h3⟩ := numGo_run _ _ _ _ _ hn
            rw [Nat.sub_zero] at h2 h3
            refine ⟨h2, h3, .inr (.inr ⟨by simp, by rw [List.length_take]; omega, by rw [List.length_take, Nat.min_eq_left h2]⟩)⟩
        · split at h
          · rename_i hb
            cases ht : txtGo (b :: r).length r [] 1 with
            | none => rw [ht] at h; cases h
            | some p =>
              obtain ⟨t, k⟩ := p
              rw [ht] at h
              simp only [Got.tok.injEq] at h
              obtain ⟨rfl, rfl, _, rfl⟩ := h
              obtain ⟨h1, h2, h3⟩ := txtGo_run _ _ _ _ _ _ ht
              refine ⟨by simp; omega, fun c hc => ?_, .inr (.inl ⟨rfl, by simp [hb]⟩)⟩
              rw [show k = (k - 1) + 1 by omega, List.take_succ_cons] at hc
              rcases List.mem_cons.1 hc with rfl | hc
              · rw [hb]; decide
              · exact h3 c hc
          · cases hf : signsL.find? (fun g => g.isPrefixOf (b :: r)) with
            | none => rw [hf] at h; cases h
            | some g =>
              rw [hf] at h
              simp only [Got.tok.injEq] at h
              obtain ⟨rfl, rfl, _, rfl⟩ := h
              have hg := List.find?_some hf
              have hm := List.mem_of_find?_eq_some hf
              obtain ⟨z, hz⟩ := List.isPrefixOf_iff_prefix.1 hg
              have htk : (b :: r).take g.length = g := by rw [← hz]; simp
              have hle : g.length ≤ (b :: r).length := by rw [← hz]; simp
              exact ⟨hle, fun c hc => signs_ne g hm c (by rw [htk] at hc; exact hc), .inr (.inr ⟨by simp, hle, htk⟩)⟩

/-- Within All: at offset k. -/
structure Inv (T : List UInt8) (σ : St) (k : Nat) : Prop where
  l : σ.l = T.drop k
  le : k ≤ T.length
  at_ : pos T k = (σ.line, σ.col)
  pl : ∃ os, Pl T σ.out os k

theorem inv_run {T : List UInt8} {σ : St} {k : Nat} (h : Inv T σ k) (n : Nat) (hn : n ≤ σ.l.length) (hb : ∀ b ∈ σ.l.take n, b ≠ 10) : k + n ≤ T.length ∧ σ.l.drop n = T.drop (k + n) ∧ pos T (k + n) = (σ.line, σ.col + n) := by
  have hl : σ.l.length = T.length - k := by rw [h.l, List.length_drop]
  have hle := h.le
  refine ⟨by omega, by rw [h.l, List.drop_drop], ?_⟩
  rw [pos_run n k (by omega) (by rw [← h.l]; exact hb), h.at_]

theorem push_inv {T : List UInt8} {σ : St} {k kind n used : Nat} {text : List UInt8} (h : Inv T σ k) (hu : used ≤ σ.l.length) (hb : ∀ b ∈ σ.l.take used, b ≠ 10) (hw : whole T ⟨kind, text, n, σ.line, σ.col⟩ k) :
    (∀ σ', push σ kind text n used = .inl σ' → ∃ k', k ≤ k' ∧ Inv T σ' k') ∧ ∀ out, push σ kind text n used ≠ .inr (.ok out) := by
  obtain ⟨h1, h2, h3⟩ := inv_run h used hu hb
  obtain ⟨os, hp⟩ := h.pl
  unfold push
  split
  · exact ⟨fun σ' e => (by cases e), fun out e => (by cases e)⟩
  · refine ⟨fun σ' e => ?_, fun out e => (by cases e)⟩
    cases e
    exact ⟨k + used, by omega, h2, h1, h3, _, (hp.snoc ⟨kind, text, n, σ.line, σ.col⟩ h.at_ hw).more (by omega)⟩

theorem step_inv {T : List UInt8} {σ : St} {k : Nat} (h : Inv T σ k) : (∀ σ', step σ = .inl σ' → ∃ k', k ≤ k' ∧ Inv T σ' k') ∧ ∀ out, step σ = .inr (.ok out) → ∃ out' t os, out = out' ++ [t] ∧ t.kind = 0 ∧ Pl T out os T.length := by
  have hle := h.le
  cases hl : σ.l with
  | nil =>
    have hk : k = T.length := by
      have := h.l
      rw [hl] at this
      have := congrArg List.length this
      rw [List.length_drop] at this
      simp at this
      omega
    have hstep : step σ = if lastEnds σ.out then push σ 1 [59] 0 0 else if σ.out.length = 4000 then .inr (.bad σ.line σ.col 6) else .inr (.ok (σ.out ++ [⟨0, [], 0, σ.line, σ.col⟩])) := by unfold step; rw [hl]
    rw [hstep]
    split
    · obtain ⟨a, b⟩ := push_inv (n := 0) h (Nat.zero_le σ.l.length) (by simp) (show whole T ⟨1, [59], 0, σ.line, σ.col⟩ k from .inr (.inl ⟨rfl, .inl hk⟩))
      exact ⟨a, fun out e => absurd e (b out)⟩
    · split
      · exact ⟨fun _ e => (by cases e), fun _ e => (by cases e)⟩
      · refine ⟨fun _ e => (by cases e), fun out e => ?_⟩
        cases e
        obtain ⟨os, hp⟩ := h.pl
        exact ⟨_, _, os ++ [k], rfl, rfl, (hp.snoc ⟨0, [], 0, σ.line, σ.col⟩ h.at_ (.inl rfl)).more hle⟩
  | cons b r =>
    have hlen : 0 < σ.l.length := by rw [hl]; simp
    have hdl : σ.l.length = T.length - k := by rw [h.l, List.length_drop]
    have hTk : T[k]? = some b := by
      have := h.l
      rw [hl] at this
      have := congrArg (fun x : List UInt8 => x[0]?) this
      simp at this
      exact this.symm
    have hr : r = T.drop (k + 1) := by
      have := h.l
      rw [hl] at this
      have := congrArg (fun x : List UInt8 => x.drop 1) this
      simp at this
      exact this
    by_cases hb10 : b = 10
    · subst hb10
      have hstep : step σ = if lastEnds σ.out then push σ 1 [59] 0 0 else .inl ⟨r, σ.line + 1, 1, σ.out⟩ := by unfold step; rw [hl]; simp
      rw [hstep]
      split
      · obtain ⟨a, b⟩ := push_inv (n := 0) h (Nat.zero_le σ.l.length) (by simp) (show whole T ⟨1, [59], 0, σ.line, σ.col⟩ k from .inr (.inl ⟨rfl, .inr (.inl hTk)⟩))
        exact ⟨a, fun out e => absurd e (b out)⟩
      · refine ⟨fun σ' e => ?_, fun _ e => (by cases e)⟩
        cases e
        obtain ⟨os, hp⟩ := h.pl
        exact ⟨k + 1, by omega, hr, by omega, by rw [pos_line hTk, h.at_], os, hp.more (by omega)⟩
    · by_cases hbl : b = 32 ∨ b = 9 ∨ b = 13
      · have hstep : step σ = .inl ⟨r, σ.line, σ.col + 1, σ.out⟩ := by unfold step; rw [hl]; simp [hb10, hbl]
        rw [hstep]
        refine ⟨fun σ' e => ?_, fun _ e => (by cases e)⟩
        cases e
        obtain ⟨os, hp⟩ := h.pl
        obtain ⟨h1, h2, h3⟩ := inv_run h 1 hlen (by rw [hl]; simp; exact hb10)
        exact ⟨k + 1, by omega, hr, by omega, h3, os, hp.more (by omega)⟩
      · by_cases hc : [47, 47].isPrefixOf σ.l = true
        · have hstep : step σ = .inl ⟨σ.l.drop (σ.l.takeWhile (fun c => c ≠ 10)).length, σ.line, σ.col + (σ.l.takeWhile (fun c => c ≠ 10)).length, σ.out⟩ := by
            unfold step
            rw [hl] at hc ⊢
            simp [hb10, hbl, hc]
          rw [hstep]
          refine ⟨fun σ' e => ?_, fun _ e => (by cases e)⟩
          cases e
          obtain ⟨os, hp⟩ := h.pl
          obtain ⟨z, hz⟩ := List.takeWhile_prefix (fun c : UInt8 => decide (c ≠ 10)) (l := σ.l)
          have htk : σ.l.take (σ.l.takeWhile (fun c => decide (c ≠ 10))).length = σ.l.takeWhile (fun c => decide (c ≠ 10)) := by
            exact (List.prefix_iff_eq_take.1 (List.takeWhile_prefix _)).symm
          have hle2 : (σ.l.takeWhile (fun c => decide (c ≠ 10))).length ≤ σ.l.length := by
            have := congrArg List.length hz
            rw [List.length_append] at this
            omega
          obtain ⟨h1, h2, h3⟩ := inv_run h _ hle2 (fun c hcm => by
            rw [htk] at hcm
            have := mem_tw hcm
            simpa using this)
          exact ⟨_, Nat.le_add_right _ _, h2, h1, h3, os, hp.more (Nat.le_add_right _ _)⟩
        · have hstep : step σ = match one σ.l with
              | .err e => .inr (.bad σ.line σ.col e)
              | .tok kind text n used => push σ kind text n used := by
            unfold step
            rw [hl] at hc ⊢
            simp [hb10, hbl, hc]
            rfl
          rw [hstep]
          cases ho : one σ.l with
          | err e => exact ⟨fun _ e => (by cases e), fun _ e => (by cases e)⟩
          | tok kind text n used =>
            obtain ⟨o1, o2, o3⟩ := one_run ho
            have h0 : σ.l[0]? = some b := by rw [hl]; rfl
            obtain ⟨a, c⟩ := push_inv (n := n) (kind := kind) (text := text) h o1 o2 (by
              rcases o3 with ⟨rfl, e⟩ | ⟨rfl, e⟩ | ⟨hk, e1, e2⟩
              · rw [h0] at e; cases e; exact .inr (.inl ⟨rfl, .inr (.inr hTk)⟩)
              · rw [h0] at e; cases e; exact .inr (.inr (.inl ⟨rfl, hTk⟩))
              · exact .inr (.inr (.inr ⟨hk, by show k + text.length ≤ _; omega, by rw [← h.l]; exact e2⟩)))
            exact ⟨a, fun out e => absurd e (c out)⟩

theorem lex_placed {T : List UInt8} : ∀ (n : Nat) (σ : St) (k : Nat), Inv T σ k → ∀ out, runN n σ = some (.ok out) → ∃ out' t os, out = out' ++ [t] ∧ t.kind = 0 ∧ Pl T out os T.length
  | 0, _, _, _, _, h => by simp [runN] at h
  | n + 1, σ, k, hi, out, h => by
    obtain ⟨h1, h2⟩ := step_inv hi
    simp only [runN] at h
    cases hs : step σ with
    | inl σ' =>
      rw [hs] at h
      obtain ⟨k', _, hi'⟩ := h1 σ' hs
      exact lex_placed n σ' k' hi' out h
    | inr r =>
      rw [hs] at h
      cases h
      exact h2 out hs

/-- Every token stands where it says. -/
theorem lexAll_placed {T : List UInt8} {out : List Tok} (h : LexAll T (.ok out)) : ∃ out' t os, out = out' ++ [t] ∧ t.kind = 0 ∧ Pl T out os T.length := by
  unfold LexAll at h
  split at h
  · cases h
  · obtain ⟨n, hn⟩ := h
    exact lex_placed n _ 0 ⟨rfl, Nat.zero_le _, pos_zero T, [], Pl.nil T⟩ out hn
end Go.Proofs.YtpobkjnlcengbaaDoor
