/-
  What the reader of chapter 3 makes of texts that are laid together of parts with blanks between them.
-/
import Derived.Test.YtpobkjnlcengbaaDoorTkSpec
namespace Go.Proofs.YtpobkjnlcengbaaDoor
/-- Where the reader of a text is. -/
structure Spot where
  line : Nat
  col : Nat
  out : List Tok

def endLine (a : Spot) : Spot := ⟨a.line + 1, 1, if lastEnds a.out then a.out ++ [⟨1, [59], 0, a.line, a.col⟩] else a.out⟩
def tokP (a : Spot) (k : Nat) (t : List UInt8) (n used : Nat) : Spot := ⟨a.line, a.col + used, a.out ++ [⟨k, t, n, a.line, a.col⟩]⟩
def blankP (a : Spot) (n : Nat) : Spot := ⟨a.line, a.col + n, a.out⟩
def finP (a : Spot) : List Tok := (if lastEnds a.out then a.out ++ [⟨1, [59], 0, a.line, a.col⟩] else a.out) ++ [⟨0, [], 0, a.line, a.col⟩]
/-- From here the reader comes to there. -/
def To (l : List UInt8) (a : Spot) (l' : List UInt8) (a' : Spot) : Prop := ∀ R, Lex ⟨l', a'.line, a'.col, a'.out⟩ R → Lex ⟨l, a.line, a.col, a.out⟩ R
theorem To.refl (l : List UInt8) (a : Spot) : To l a l a := fun _ h => h
theorem To.trans {l l' l'' : List UInt8} {a a' a'' : Spot} (h : To l a l' a') (k : To l' a' l'' a'') : To l a l'' a'' := fun R x => h R (k R x)

theorem ends_semi (out : List Tok) (line col : Nat) : lastEnds (out ++ [⟨1, [59], 0, line, col⟩]) = false := by simp [lastEnds, mayEnd]
theorem endLine_ends (a : Spot) : lastEnds (endLine a).out = false := by
  unfold endLine
  split
  · exact ends_semi _ _ _
  · next h => simpa using h

theorem to_blank {b : UInt8} (r : List UInt8) (a : Spot) (hb : b = 32 ∨ b = 9 ∨ b = 13) : To (b :: r) a r (blankP a 1) := by
  intro R h
  refine Lex.next (σ' := ⟨r, a.line, a.col + 1, a.out⟩) ?_ h
  have : b ≠ 10 := by rintro rfl; simp at hb
  simp [step, this, hb]
theorem to_blanks : ∀ (g r : List UInt8) (a : Spot), (∀ b ∈ g, b = 32 ∨ b = 9 ∨ b = 13) → To (g ++ r) a r (blankP a g.length)
  | [], r, a, _ => To.refl _ _
  | b :: g, r, a, h => by
    refine To.trans (to_blank (g ++ r) a (h b (List.mem_cons_self ..))) ?_
    have := to_blanks g r (blankP a 1) (fun c hc => h c (List.mem_cons_of_mem _ hc))
    have e : blankP (blankP a 1) g.length = blankP a (b :: g).length := by simp [blankP]; omega
    rwa [e] at this
theorem to_line (r : List UInt8) (a : Spot) (h : a.out.length < 4000) : To (10 :: r) a r (endLine a) := by
  intro R hR
  cases he : lastEnds a.out with
  | false =>
    refine Lex.next (σ' := ⟨r, a.line + 1, 1, a.out⟩) (by simp [step, he]) ?_
    simpa [endLine, he] using hR
  | true =>
    refine Lex.next (σ' := ⟨10 :: r, a.line, a.col, a.out ++ [⟨1, [59], 0, a.line, a.col⟩]⟩) (by simp [step, he, push]; omega) ?_
    refine Lex.next (σ' := ⟨r, a.line + 1, 1, a.out ++ [⟨1, [59], 0, a.line, a.col⟩]⟩) (by simp [step, ends_semi]) ?_
    simpa [endLine, he] using hR
theorem takeWhile_all {q : UInt8 → Bool} (c : List UInt8) (r : List UInt8) (x : UInt8) (hc : ∀ b ∈ c, q b = true) (hx : q x = false) : (c ++ x :: r).takeWhile q = c := by
  induction c with
  | nil => simp [hx]
  | cons b c ih => rw [List.cons_append, List.takeWhile_cons, if_pos (hc b (List.mem_cons_self ..)), ih (fun d hd => hc d (List.mem_cons_of_mem _ hd))]
theorem to_comment (c r : List UInt8) (a : Spot) (hc : ∀ b ∈ c, b ≠ 10) : To (47 :: 47 :: c ++ 10 :: r) a (10 :: r) (blankP a (c.length + 2)) := by
  intro R h
  refine Lex.next (σ' := ⟨10 :: r, a.line, a.col + (c.length + 2), a.out⟩) ?_ h
  have ht : (47 :: 47 :: c ++ 10 :: r).takeWhile (fun c => decide (c ≠ 10)) = 47 :: 47 :: c :=
    takeWhile_all (47 :: 47 :: c) r 10 (by
      intro b hb
      rcases List.mem_cons.1 hb with rfl | hb
      · rfl
      rcases List.mem_cons.1 hb with rfl | hb
      · rfl
      simpa using hc b hb) rfl
  have e : step ⟨47 :: 47 :: c ++ 10 :: r, a.line, a.col, a.out⟩ = .inl ⟨(47 :: 47 :: c ++ 10 :: r).drop ((47 :: 47 :: c ++ 10 :: r).takeWhile (fun c => decide (c ≠ 10))).length, a.line, a.col + ((47 :: 47 :: c ++ 10 :: r).takeWhile (fun c => decide (c ≠ 10))).length, a.out⟩ := rfl
  rw [e, ht, List.drop_left]
  rfl
/-- A part of a text: a token, or a line's end (none). -/
def IsPart (x : List UInt8) (o : Option (Nat × List UInt8 × Nat)) : Prop := match o with
  | none => x = [10]
  | some (kind, text, n) => (∀ r, one (x ++ 32 :: r) = .tok kind text n x.length) ∧ (∀ r, [47, 47].isPrefixOf (x ++ 32 :: r) = false) ∧ ∃ b y, x = b :: y ∧ b ≠ 10 ∧ ¬ (b = 32 ∨ b = 9 ∨ b = 13)
theorem to_tok {x text : List UInt8} {kind n : Nat} (h : IsPart x (some (kind, text, n))) (r : List UInt8) (a : Spot) (hn : a.out.length < 4000) : To (x ++ 32 :: r) a (32 :: r) (tokP a kind text n x.length) := by
  intro R hR
  obtain ⟨h1, h2, b, y, hx, hb, hb2⟩ := h
  have hR : Lex (⟨32 :: r, a.line, a.col + x.length, a.out ++ [⟨kind, text, n, a.line, a.col⟩]⟩ : St) R := hR
  refine Lex.next ?_ hR
  have h1 := h1 r
  have h2 := h2 r
  have e : step ⟨x ++ 32 :: r, a.line, a.col, a.out⟩ = push ⟨x ++ 32 :: r, a.line, a.col, a.out⟩ kind text n x.length := by
    subst hx
    rw [List.cons_append] at h1 h2 ⊢
    simp only [step, if_neg hb, if_neg hb2, h2, h1]
    rfl
  rw [e, push, if_neg (show ¬ a.out.length = 4000 by omega), List.drop_left]
/-- The part, and the blank behind it. -/
def partP (a : Spot) (p : List UInt8 × Option (Nat × List UInt8 × Nat)) : Spot := match p.2 with
  | none => blankP (endLine a) 1
  | some (k, t, n) => blankP (tokP a k t n p.1.length) 1
def partsP (a : Spot) (ps : List (List UInt8 × Option (Nat × List UInt8 × Nat))) : Spot := ps.foldl partP a
def flat (ps : List (List UInt8 × Option (Nat × List UInt8 × Nat))) : List UInt8 := ps.flatMap fun p => p.1 ++ [32]
theorem endLine_len (a : Spot) : (endLine a).out.length ≤ a.out.length + 1 := by
  unfold endLine
  split <;> simp
theorem partP_len (a : Spot) (p : List UInt8 × Option (Nat × List UInt8 × Nat)) : (partP a p).out.length ≤ a.out.length + 1 := by
  unfold partP
  split
  · exact endLine_len a
  · simp [blankP, tokP]
theorem to_part {p : List UInt8 × Option (Nat × List UInt8 × Nat)} (h : IsPart p.1 p.2) (r : List UInt8) (a : Spot) (hn : a.out.length < 4000) : To (p.1 ++ 32 :: r) a r (partP a p) := by
  obtain ⟨x, o⟩ := p
  match o, h with
  | none, h =>
    obtain rfl : x = [10] := h
    exact (to_line (32 :: r) a hn).trans (to_blank r (endLine a) (.inl rfl))
  | some (k, t, n), h => exact (to_tok h r a hn).trans (to_blank r _ (.inl rfl))
theorem to_parts : ∀ (ps : List (List UInt8 × Option (Nat × List UInt8 × Nat))) (r : List UInt8) (a : Spot), (∀ p ∈ ps, IsPart p.1 p.2) → a.out.length + ps.length ≤ 4000 → To (flat ps ++ r) a r (partsP a ps)
  | [], r, a, _, _ => To.refl _ _
  | p :: ps, r, a, h, hn => by
    have e : flat (p :: ps) ++ r = p.1 ++ 32 :: (flat ps ++ r) := by simp [flat, List.append_assoc]
    rw [e]
    refine (to_part (h p (List.mem_cons_self ..)) (flat ps ++ r) a (by simp at hn; omega)).trans ?_
    exact to_parts ps r (partP a p) (fun q hq => h q (List.mem_cons_of_mem _ hq)) (by have := partP_len a p; simp at hn; omega)
theorem partsP_len : ∀ (ps : List (List UInt8 × Option (Nat × List UInt8 × Nat))) (a : Spot), (partsP a ps).out.length ≤ a.out.length + ps.length
  | [], a => Nat.le_refl _
  | p :: ps, a => by
    have := partsP_len ps (partP a p)
    have h2 := partP_len a p
    simp only [partsP, List.foldl_cons, List.length_cons] at this ⊢
    omega
/-- The end of a text. -/
theorem lex_fin (a : Spot) (h : a.out.length < 3999) : Lex ⟨[], a.line, a.col, a.out⟩ (.ok (finP a)) := by
  cases he : lastEnds a.out with
  | false =>
    refine Lex.done ?_
    simp [step, he, finP, show ¬ a.out.length = 4000 by omega]
  | true =>
    refine Lex.next (σ' := ⟨[], a.line, a.col, a.out ++ [⟨1, [59], 0, a.line, a.col⟩]⟩) (by simp [step, he, push]; omega) ?_
    refine Lex.done ?_
    simp [step, he, finP, ends_semi]
    omega

/-- As many lines further down. -/
def dn (d : Nat) (t : Tok) : Tok := ⟨t.kind, t.text, t.n, t.line + d, t.col⟩
theorem mayEnd_dn (d : Nat) (t : Tok) : mayEnd (dn d t) = mayEnd t := rfl
theorem lastEnds_app {X : List Tok} (hX : lastEnds X = false) (d : Nat) (o : List Tok) : lastEnds (X ++ o.map (dn d)) = lastEnds o := by
  unfold lastEnds at *
  rw [List.getLast?_append, List.getLast?_map]
  cases h : o.getLast? with
  | none => simpa using hX
  | some t => simp [mayEnd_dn]
def downP (X : List Tok) (d : Nat) (a : Spot) : Spot := ⟨a.line + d, a.col, X ++ a.out.map (dn d)⟩
theorem endLine_down {X : List Tok} (hX : lastEnds X = false) (d : Nat) (a : Spot) : endLine (downP X d a) = downP X d (endLine a) := by
  unfold endLine downP
  simp only [lastEnds_app hX]
  split <;> simp [dn, Nat.add_right_comm]
theorem partP_down {X : List Tok} (hX : lastEnds X = false) (d : Nat) (a : Spot) (p : List UInt8 × Option (Nat × List UInt8 × Nat)) : partP (downP X d a) p = downP X d (partP a p) := by
  unfold partP
  split
  · rw [endLine_down hX]; rfl
  · simp [blankP, tokP, downP, dn]
theorem partsP_down {X : List Tok} (hX : lastEnds X = false) (d : Nat) : ∀ (ps : List (List UInt8 × Option (Nat × List UInt8 × Nat))) (a : Spot), partsP (downP X d a) ps = downP X d (partsP a ps)
  | [], _ => rfl
  | p :: ps, a => by
    show partsP (partP (downP X d a) p) ps = _
    rw [partP_down hX, partsP_down hX d ps]; rfl
theorem finP_down {X : List Tok} (hX : lastEnds X = false) (d : Nat) (a : Spot) : finP (downP X d a) = X ++ (finP a).map (dn d) := by
  unfold finP
  simp only [downP, lastEnds_app hX]
  split <;> simp [dn]

def start : Spot := ⟨1, 1, []⟩
/-- The three texts of two rows of parts. -/
theorem lines_lex (pa pb : List (List UInt8 × Option (Nat × List UInt8 × Nat))) (ha : ∀ p ∈ pa, IsPart p.1 p.2) (hb : ∀ p ∈ pb, IsPart p.1 p.2) (la : pa.length ≤ 60) (lb : pb.length ≤ 60)
    (sa : (flat pa).length ≤ 2000) (sb : (flat pb).length ≤ 2000) :
    ∃ (X Y : List Tok) (L : Nat), X.length ≤ 61 ∧ Y.length ≤ 62 ∧ 0 < Y.length ∧ LexAll (flat pa ++ [10]) (.ok (X ++ [⟨0, [], 0, L + 1, 1⟩])) ∧ LexAll (flat pb) (.ok Y) ∧ LexAll (flat pa ++ [10] ++ flat pb) (.ok (X ++ Y.map (dn L))) := by
  have h1 := partsP_len pa start
  have h2 := partsP_len pb start
  have hl := endLine_len (partsP start pa)
  have he := endLine_ends (partsP start pa)
  have s0 : start.out.length = 0 := rfl
  have hge : ∀ (ps : List (List UInt8 × Option (Nat × List UInt8 × Nat))) (a : Spot), a.line ≤ (partsP a ps).line := by
    intro ps
    induction ps with
    | nil => intro a; exact Nat.le_refl _
    | cons p ps ih =>
      intro a
      refine Nat.le_trans ?_ (ih (partP a p))
      unfold partP
      split <;> simp [blankP, tokP, endLine]
  have hL := hge pa start
  have s1 : start.line = 1 := rfl
  have T1 : To (flat pa ++ [10]) start [] (endLine (partsP start pa)) := (to_parts pa [10] start ha (by omega)).trans (to_line [] _ (by omega))
  have T2 : To (flat pb ++ []) start [] (partsP start pb) := to_parts pb [] start hb (by omega)
  have T3 : To (flat pa ++ ([10] ++ (flat pb ++ []))) start [] (partsP (endLine (partsP start pa)) pb) :=
    ((to_parts pa _ start ha (by omega)).trans (to_line _ _ (by omega))).trans (to_parts pb [] _ hb (by omega))
  have hd : endLine (partsP start pa) = downP (endLine (partsP start pa)).out (partsP start pa).line start := by
    unfold downP start
    simp [endLine]
    omega
  refine ⟨(endLine (partsP start pa)).out, finP (partsP start pb), (partsP start pa).line, by omega, ?_, by simp [finP], ?_, ?_, ?_⟩
  · unfold finP
    split <;> simp <;> omega
  · unfold LexAll
    rw [if_neg (by simp; omega)]
    have := T1 _ (lex_fin _ (by omega))
    rw [finP, he] at this
    exact this
  · unfold LexAll
    rw [if_neg (by omega)]
    have := T2 _ (lex_fin _ (by omega))
    rw [List.append_nil] at this
    exact this
  · unfold LexAll
    rw [if_neg (by simp; omega)]
    rw [hd, partsP_down he, List.append_nil] at T3
    have := T3 _ (lex_fin _ (by simp [downP]; omega))
    rw [finP_down he] at this
    rw [List.append_assoc]
    exact this

/-- The hand's words as parts. -/
def handP : List (List UInt8 × Option (Nat × List UInt8 × Nat)) := [([116, 121, 112, 101], some (3, [116, 121, 112, 101], 0)), ([115, 116, 114, 117, 99, 116], some (3, [115, 116, 114, 117, 99, 116], 0)), ([105, 110, 116, 101, 114, 102, 97, 99, 101], some (3, [105, 110, 116, 101, 114, 102, 97, 99, 101], 0)), ([102, 117, 110, 99], some (3, [102, 117, 110, 99], 0)), ([118, 97, 114], some (3, [118, 97, 114], 0)), ([105, 102], some (3, [105, 102], 0)), ([101, 108, 115, 101], some (3, [101, 108, 115, 101], 0)), ([102, 111, 114], some (3, [102, 111, 114], 0)), ([98, 114, 101, 97, 107], some (3, [98, 114, 101, 97, 107], 0)), ([99, 111, 110, 116, 105, 110, 117, 101], some (3, [99, 111, 110, 116, 105, 110, 117, 101], 0)), ([114, 101, 116, 117, 114, 110], some (3, [114, 101, 116, 117, 114, 110], 0)), ([112, 114, 105, 110, 116], some (3, [112, 114, 105, 110, 116], 0)), ([108, 101, 110], some (3, [108, 101, 110], 0)), ([109, 97, 107, 101], some (3, [109, 97, 107, 101], 0)), ([110, 101, 119], some (3, [110, 101, 119], 0)), ([105, 110, 112, 117, 116], some (3, [105, 110, 112, 117, 116], 0)), ([116, 114, 117, 101], some (3, [116, 114, 117, 101], 0)), ([102, 97, 108, 115, 101], some (3, [102, 97, 108, 115, 101], 0)), ([110, 105, 108], some (3, [110, 105, 108], 0)), ([105, 110, 116], some (3, [105, 110, 116], 0)), ([98, 111, 111, 108], some (3, [98, 111, 111, 108], 0)), ([115, 116, 114, 105, 110, 103], some (3, [115, 116, 114, 105, 110, 103], 0)), ([58, 61], some (6, [58, 61], 0)), ([61, 61], some (6, [61, 61], 0)), ([38, 38], some (6, [38, 38], 0)), ([124, 124], some (6, [124, 124], 0)), ([43], some (6, [43], 0)), ([45], some (6, [45], 0)), ([42], some (6, [42], 0)), ([60], some (6, [60], 0)), ([61], some (6, [61], 0)), ([33], some (6, [33], 0)), ([40], some (6, [40], 0)), ([41], some (6, [41], 0)), ([91], some (6, [91], 0)), ([93], some (6, [93], 0)), ([123], some (6, [123], 0)), ([125], some (6, [125], 0)), ([44], some (6, [44], 0)), ([46], some (6, [46], 0)), ([59], some (1, [59], 0)), ([10], none), ([97], some (2, [97], 0)), ([55], some (4, [55], 7))]
theorem hand_parts : ∀ p ∈ handP, IsPart p.1 p.2 := by
  intro p hp
  simp only [handP, List.mem_cons, List.not_mem_nil, or_false] at hp
  rcases hp with rfl | rfl | rfl | rfl | rfl | rfl | rfl | rfl | rfl | rfl | rfl | rfl | rfl | rfl | rfl | rfl | rfl | rfl | rfl | rfl | rfl | rfl | rfl | rfl | rfl | rfl | rfl | rfl | rfl | rfl | rfl | rfl | rfl | rfl | rfl | rfl | rfl | rfl | rfl | rfl | rfl | rfl | rfl | rfl
  · exact ⟨fun r => rfl, fun r => rfl, _, _, rfl, by decide, by decide⟩
  · exact ⟨fun r => rfl, fun r => rfl, _, _, rfl, by decide, by decide⟩
  · exact ⟨fun r => rfl, fun r => rfl, _, _, rfl, by decide, by decide⟩
  · exact ⟨fun r => rfl, fun r => rfl, _, _, rfl, by decide, by decide⟩
  · exact ⟨fun r => rfl, fun r => rfl, _, _, rfl, by decide, by decide⟩
  · exact ⟨fun r => rfl, fun r => rfl, _, _, rfl, by decide, by decide⟩
  · exact ⟨fun r => rfl, fun r => rfl, _, _, rfl, by decide, by decide⟩
  · exact ⟨fun r => rfl, fun r => rfl, _, _, rfl, by decide, by decide⟩
  · exact ⟨fun r => rfl, fun r => rfl, _, _, rfl, by decide, by decide⟩
  · exact ⟨fun r => rfl, fun r => rfl, _, _, rfl, by decide, by decide⟩
  · exact ⟨fun r => rfl, fun r => rfl, _, _, rfl, by decide, by decide⟩
  · exact ⟨fun r => rfl, fun r => rfl, _, _, rfl, by decide, by decide⟩
  · exact ⟨fun r => rfl, fun r => rfl, _, _, rfl, by decide, by decide⟩
  · exact ⟨fun r => rfl, fun r => rfl, _, _, rfl, by decide, by decide⟩
  · exact ⟨fun r => rfl, fun r => rfl, _, _, rfl, by decide, by decide⟩
  · exact ⟨fun r => rfl, fun r => rfl, _, _, rfl, by decide, by decide⟩
  · exact ⟨fun r => rfl, fun r => rfl, _, _, rfl, by decide, by decide⟩
  · exact ⟨fun r => rfl, fun r => rfl, _, _, rfl, by decide, by decide⟩
  · exact ⟨fun r => rfl, fun r => rfl, _, _, rfl, by decide, by decide⟩
  · exact ⟨fun r => rfl, fun r => rfl, _, _, rfl, by decide, by decide⟩
  · exact ⟨fun r => rfl, fun r => rfl, _, _, rfl, by decide, by decide⟩
  · exact ⟨fun r => rfl, fun r => rfl, _, _, rfl, by decide, by decide⟩
  · exact ⟨fun r => rfl, fun r => rfl, _, _, rfl, by decide, by decide⟩
  · exact ⟨fun r => rfl, fun r => rfl, _, _, rfl, by decide, by decide⟩
  · exact ⟨fun r => rfl, fun r => rfl, _, _, rfl, by decide, by decide⟩
  · exact ⟨fun r => rfl, fun r => rfl, _, _, rfl, by decide, by decide⟩
  · exact ⟨fun r => rfl, fun r => rfl, _, _, rfl, by decide, by decide⟩
  · exact ⟨fun r => rfl, fun r => rfl, _, _, rfl, by decide, by decide⟩
  · exact ⟨fun r => rfl, fun r => rfl, _, _, rfl, by decide, by decide⟩
  · exact ⟨fun r => rfl, fun r => rfl, _, _, rfl, by decide, by decide⟩
  · exact ⟨fun r => rfl, fun r => rfl, _, _, rfl, by decide, by decide⟩
  · exact ⟨fun r => rfl, fun r => rfl, _, _, rfl, by decide, by decide⟩
  · exact ⟨fun r => rfl, fun r => rfl, _, _, rfl, by decide, by decide⟩
  · exact ⟨fun r => rfl, fun r => rfl, _, _, rfl, by decide, by decide⟩
  · exact ⟨fun r => rfl, fun r => rfl, _, _, rfl, by decide, by decide⟩
  · exact ⟨fun r => rfl, fun r => rfl, _, _, rfl, by decide, by decide⟩
  · exact ⟨fun r => rfl, fun r => rfl, _, _, rfl, by decide, by decide⟩
  · exact ⟨fun r => rfl, fun r => rfl, _, _, rfl, by decide, by decide⟩
  · exact ⟨fun r => rfl, fun r => rfl, _, _, rfl, by decide, by decide⟩
  · exact ⟨fun r => rfl, fun r => rfl, _, _, rfl, by decide, by decide⟩
  · exact ⟨fun r => rfl, fun r => rfl, _, _, rfl, by decide, by decide⟩
  · rfl
  · exact ⟨fun r => rfl, fun r => rfl, _, _, rfl, by decide, by decide⟩
  · exact ⟨fun r => rfl, fun r => rfl, _, _, rfl, by decide, by decide⟩

/-- The parts of the law on blanks. -/
def blankParts : List (List UInt8 × Option (Nat × List UInt8 × Nat)) := [([97], some (2, [97], 0)), ([102, 111, 114], some (3, [102, 111, 114], 0)), ([55], some (4, [55], 7)), ([34, 120, 34], some (5, [120], 0)), ([40], some (6, [40], 0)), ([41], some (6, [41], 0)), ([58, 61], some (6, [58, 61], 0)), ([123], some (6, [123], 0)), ([125], some (6, [125], 0)), ([110, 105, 108], some (3, [110, 105, 108], 0)), ([44], some (6, [44], 0)), ([10], none)]
theorem blank_parts : ∀ p ∈ blankParts, IsPart p.1 p.2 := by
  intro p hp
  simp only [blankParts, List.mem_cons, List.not_mem_nil, or_false] at hp
  rcases hp with rfl | rfl | rfl | rfl | rfl | rfl | rfl | rfl | rfl | rfl | rfl | rfl
  · exact ⟨fun r => rfl, fun r => rfl, _, _, rfl, by decide, by decide⟩
  · exact ⟨fun r => rfl, fun r => rfl, _, _, rfl, by decide, by decide⟩
  · exact ⟨fun r => rfl, fun r => rfl, _, _, rfl, by decide, by decide⟩
  · exact ⟨fun r => rfl, fun r => rfl, _, _, rfl, by decide, by decide⟩
  · exact ⟨fun r => rfl, fun r => rfl, _, _, rfl, by decide, by decide⟩
  · exact ⟨fun r => rfl, fun r => rfl, _, _, rfl, by decide, by decide⟩
  · exact ⟨fun r => rfl, fun r => rfl, _, _, rfl, by decide, by decide⟩
  · exact ⟨fun r => rfl, fun r => rfl, _, _, rfl, by decide, by decide⟩
  · exact ⟨fun r => rfl, fun r => rfl, _, _, rfl, by decide, by decide⟩
  · exact ⟨fun r => rfl, fun r => rfl, _, _, rfl, by decide, by decide⟩
  · exact ⟨fun r => rfl, fun r => rfl, _, _, rfl, by decide, by decide⟩
  · rfl

/-- A token without its column. -/
def nc (t : Tok) : Tok := ⟨t.kind, t.text, t.n, t.line, 0⟩
theorem lastEnds_nc (o : List Tok) : lastEnds (o.map nc) = lastEnds o := by
  unfold lastEnds
  rw [List.getLast?_map]
  cases o.getLast? with
  | none => rfl
  | some t => rfl
structure Like (a c : Spot) : Prop where
  line : a.line = c.line
  out : a.out.map nc = c.out.map nc
theorem Like.ends {a c : Spot} (h : Like a c) : lastEnds a.out = lastEnds c.out := by rw [← lastEnds_nc a.out, h.out, lastEnds_nc]
theorem Like.len {a c : Spot} (h : Like a c) : a.out.length = c.out.length := by
  have := congrArg List.length h.out
  simpa using this
theorem Like.blank {a c : Spot} (h : Like a c) (n m : Nat) : Like (blankP a n) (blankP c m) := ⟨h.line, h.out⟩
theorem Like.endLine {a c : Spot} (h : Like a c) : Like (endLine a) (endLine c) := by
  refine ⟨by simp [Go.Proofs.YtpobkjnlcengbaaDoor.endLine, h.line], ?_⟩
  simp only [Go.Proofs.YtpobkjnlcengbaaDoor.endLine, h.ends]
  split <;> simp [h.out, nc, h.line]
theorem Like.tok {a c : Spot} (h : Like a c) (k : Nat) (t : List UInt8) (n u v : Nat) : Like (tokP a k t n u) (tokP c k t n v) := ⟨h.line, by simp [tokP, h.out, nc, h.line]⟩
theorem Like.fin {a c : Spot} (h : Like a c) : (finP a).map nc = (finP c).map nc := by
  unfold finP
  rw [h.ends]
  split <;> simp [h.out, nc, h.line]
def bPart (k : Nat) : List UInt8 × Option (Nat × List UInt8 × Nat) := blankParts.getD k ([10], none)
theorem bPart_is {k : Nat} (hk : k < 12) : IsPart (bPart k).1 (bPart k).2 := by
  refine blank_parts _ ?_
  unfold bPart
  rw [List.getD_eq_getElem?_getD, List.getElem?_eq_getElem (show k < blankParts.length from hk)]
  exact List.getElem_mem _
def bText (q : Nat × List UInt8) : List UInt8 := if q.1 = 11 ∧ 1 < q.2.length then [32, 47, 47, 32, 102, 111, 114, 32, 34, 10] else (bPart q.1).1 ++ 32 :: q.2
theorem like_part {a c : Spot} (h : Like a c) {q : Nat × List UInt8} (hk : q.1 < 12) (hg : ∀ b ∈ q.2, b = 32 ∨ b = 9 ∨ b = 13) (hn : a.out.length < 4000) (r : List UInt8) :
    ∃ c', To (bText q ++ r) c r c' ∧ Like (partP a (bPart q.1)) c' := by
  have hc := h.len
  obtain ⟨k, g⟩ := q
  unfold bText
  split
  · next hh =>
    obtain ⟨h11, _⟩ := hh
    simp only at h11
    subst h11
    refine ⟨endLine (blankP (blankP c 1) 8), ?_, ?_⟩
    · refine (to_blank _ c (.inl rfl)).trans ((to_comment [32, 102, 111, 114, 32, 34] r (blankP c 1) (by decide)).trans (to_line r _ ?_))
      simp [blankP]; omega
    · exact ((h.blank 0 1).blank 0 8).endLine.blank 1 0
  · have hp := bPart_is (k := k) hk
    have e : (bPart k).1 ++ 32 :: g ++ r = (bPart k).1 ++ 32 :: (g ++ r) := by rw [List.append_assoc]; rfl
    rw [e]
    refine ⟨blankP (partP c (bPart k)) g.length, (to_part hp _ c (by omega)).trans (to_blanks g r _ hg), ?_⟩
    show Like (blankP (partP a (bPart k)) 0) _
    refine Like.blank ?_ _ _
    unfold partP
    split
    · exact h.endLine.blank _ _
    · exact (h.tok ..).blank _ _
def bFlat (l : List (Nat × List UInt8)) : List UInt8 := l.flatMap fun q => (bPart q.1).1 ++ [32]
def bFlatT (l : List (Nat × List UInt8)) : List UInt8 := l.flatMap bText
theorem like_parts : ∀ (l : List (Nat × List UInt8)) (a c : Spot), Like a c → (∀ q ∈ l, q.1 < 12 ∧ ∀ b ∈ q.2, b = 32 ∨ b = 9 ∨ b = 13) → a.out.length + l.length ≤ 4000 →
    ∃ a' c', To (bFlat l) a [] a' ∧ To (bFlatT l) c [] c' ∧ Like a' c' ∧ a'.out.length ≤ a.out.length + l.length
  | [], a, c, h, _, _ => ⟨a, c, To.refl _ _, To.refl _ _, h, Nat.le_refl _⟩
  | q :: l, a, c, h, hq, hn => by
    obtain ⟨h1, h2⟩ := hq q (List.mem_cons_self ..)
    simp only [List.length_cons] at hn
    obtain ⟨c1, t1, l1⟩ := like_part h h1 h2 (by omega) (bFlatT l)
    have hlen := partP_len a (bPart q.1)
    obtain ⟨a', c', t2, t3, l2, h3⟩ := like_parts l _ c1 l1 (fun x hx => hq x (List.mem_cons_of_mem _ hx)) (by omega)
    refine ⟨a', c', ?_, t1.trans t3, l2, by simp only [List.length_cons]; omega⟩
    have e : bFlat (q :: l) = (bPart q.1).1 ++ 32 :: bFlat l := by simp [bFlat]
    rw [e]
    exact (to_part (bPart_is h1) _ a (by omega)).trans t2
theorem blanks_lex (l : List (Nat × List UInt8)) (h : ∀ q ∈ l, q.1 < 12 ∧ ∀ b ∈ q.2, b = 32 ∨ b = 9 ∨ b = 13) (hl : l.length ≤ 40) (hs : (bFlat l).length ≤ 4000) (ht : (bFlatT l).length ≤ 4000) :
    ∃ X Y : List Tok, LexAll (bFlat l) (.ok X) ∧ LexAll (bFlatT l) (.ok Y) ∧ X.map nc = Y.map nc ∧ X.length ≤ 42 := by
  obtain ⟨a', c', t1, t2, hk, hn⟩ := like_parts l start start ⟨rfl, rfl⟩ h (by simp [start]; omega)
  have s0 : start.out.length = 0 := rfl
  have hc := hk.len
  refine ⟨finP a', finP c', ?_, ?_, hk.fin, ?_⟩
  · unfold LexAll
    rw [if_neg (by omega)]
    exact t1 _ (lex_fin _ (by omega))
  · unfold LexAll
    rw [if_neg (by omega)]
    exact t2 _ (lex_fin _ (by omega))
  · unfold finP
    split <;> simp <;> omega
end Go.Proofs.YtpobkjnlcengbaaDoor
