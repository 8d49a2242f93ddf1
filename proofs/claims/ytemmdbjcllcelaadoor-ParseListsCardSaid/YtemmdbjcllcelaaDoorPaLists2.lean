/-
  The text of ParseLists: its tree.
-/
import Derived.Test.YtemmdbjcllcelaaDoorPaLists
namespace Go.Proofs.YtemmdbjcllcelaaDoor.Pa
open Go.Proofs.YtemmdbjcllcelaaDoor.Tk (Tok LexAll)
set_option maxRecDepth 100000
/-- From some number of steps on. -/
def Runs_ (r : Rule) (d : Nat) (l : List Tok) (x : Rs) : Prop := ∃ N, ∀ M, N ≤ M → run M r d l = x
theorem Runs_.of {r : Rule} {d : Nat} {l : List Tok} {x : Rs} (n : Nat) (h : run n r d l = x) (hx : x ≠ .dry) : Runs_ r d l x :=
  ⟨n, fun M hM => by obtain ⟨m, rfl⟩ := Nat.exists_eq_add_of_le hM; exact run_more h hx m⟩
theorem Runs_.step {r : Rule} {d : Nat} {t : Tok} {l : List Tok} {x : Rs} (h : ∃ N, ∀ M, N ≤ M → step (run M) r d (t :: l) = x) : Runs_ r d (t :: l) x :=
  let ⟨N, h⟩ := h
  ⟨N + 1, fun M hM => by obtain ⟨m, rfl⟩ : ∃ m, M = m + 1 := ⟨M - 1, by omega⟩; exact h m (by omega)⟩
theorem ls_stmt_run (i line col : Nat) (l : List Tok) : run 12 .stmt 0 (stmtT i line col ++ l) = .ok (Nd.mk 20 [] 0 line col [Nd.mk 21 [] i line (col + 5 + 1) []]) (⟨1, [59], 0, line, col + 5 + 1 + (dig i).length + 1⟩ :: l) := by kernel_rfl
/-- One thing of a row of lines, a semicolon behind it. -/
theorem ls_loop_step {rd : Rule → Nat → List Tok → Rs} {r : Rule} {f : Bool} {d : Nat} {acc : List Nd} {l l2 : List Tok} {t : Nd} {s : Tok} (h1 : over f l = false) (h2 : rd r d l = .ok t (s :: l2)) (h3 : over f (s :: l2) = false) (h4 : mark (s :: l2) = [59]) :
    step rd (.linesLoop r f acc) d l = rd (.linesLoop r f (acc ++ [t])) d (semis l2) := by
  simp only [step]
  rw [if_neg (by rw [h1]; decide), h2]
  simp only [bind]
  rw [if_neg (by rw [h3]; decide)]
  unfold want
  rw [if_pos h4]
  rfl
theorem ls_sts_run {n i : Nat} {l : List Tok} (h : Sts n i l) : ∀ acc : List Nd, ∃ xs line col, Runs_ (.linesLoop .stmt false acc) 0 (semis l) (.ok (lst (acc ++ xs)) (tailT line col)) ∧ xs.length + i = n ∧
    ∀ j x, xs[j]? = some x → ∃ l1 c1 l2 c2, x = Nd.mk 20 [] 0 l1 c1 [Nd.mk 21 [] (i + j) l2 c2 []] := by
  have go : ∀ (i line col : Nat) (l : List Tok), (∀ acc : List Nd, ∃ xs line col, Runs_ (.linesLoop .stmt false acc) 0 (semis l) (.ok (lst (acc ++ xs)) (tailT line col)) ∧ xs.length + (i + 1) = n ∧
        ∀ j x, xs[j]? = some x → ∃ l1 c1 l2 c2, x = Nd.mk 20 [] 0 l1 c1 [Nd.mk 21 [] (i + 1 + j) l2 c2 []]) →
      ∀ acc : List Nd, ∃ xs line2 col2, Runs_ (.linesLoop .stmt false acc) 0 (stmtT i line col ++ l) (.ok (lst (acc ++ xs)) (tailT line2 col2)) ∧ xs.length + i = n ∧
        ∀ j x, xs[j]? = some x → ∃ l1 c1 l2 c2, x = Nd.mk 20 [] 0 l1 c1 [Nd.mk 21 [] (i + j) l2 c2 []] := by
    intro i line col l ih acc
    obtain ⟨xs, line2, col2, ⟨N, hN⟩, hl, hx⟩ := ih (acc ++ [Nd.mk 20 [] 0 line col [Nd.mk 21 [] i line (col + 5 + 1) []]])
    refine ⟨Nd.mk 20 [] 0 line col [Nd.mk 21 [] i line (col + 5 + 1) []] :: xs, line2, col2, Runs_.step (t := ⟨3, [112, 114, 105, 110, 116], 0, line, col⟩) ⟨N + 12, fun M hM => ?_⟩, by simp only [List.length_cons]; omega, fun j x hj => ?_⟩
    · obtain ⟨m, rfl⟩ : ∃ m, M = 12 + m := ⟨M - 12, by omega⟩
      have h2 : run (12 + m) .stmt 0 (stmtT i line col ++ l) = _ := run_more (ls_stmt_run i line col l) (by simp) m
      refine (ls_loop_step (l := stmtT i line col ++ l) (by rfl) h2 (by rfl) (by rfl)).trans ?_
      rw [hN (12 + m) (by omega)]
      simp
    · cases j with
      | zero => simp at hj; exact ⟨line, col, line, col + 5 + 1, hj.symm⟩
      | succ j =>
        obtain ⟨l1, c1, l2, c2, e⟩ := hx j x (by simpa using hj)
        exact ⟨l1, c1, l2, c2, by rw [e, show i + 1 + j = i + (j + 1) by omega]⟩
  induction h with
  | done line col => exact fun acc => ⟨[], line, col, Runs_.of 1 (by rw [List.append_nil]; rfl) (by simp), by simp, fun j x hj => by simp at hj⟩
  | one i line col l _ ih => exact fun acc => go i line col l ih acc
  | more i line col line2 col2 l _ ih => exact fun acc => go i line col ([⟨1, [59], 0, line2, col2⟩, ⟨1, [59], 0, line2, col2 + 1⟩, ⟨1, [59], 0, line2 + 1, 1⟩] ++ l) ih acc
def parN : Nat → List Nd
  | 0 => []
  | 1 => [Nd.mk 7 [112, 48] 0 1 8 [Nd.mk 8 [105, 110, 116] 0 1 11 []]]
  | 2 => [Nd.mk 7 [112, 48] 0 1 8 [Nd.mk 8 [105, 110, 116] 0 1 11 []], Nd.mk 7 [112, 49] 0 1 16 [Nd.mk 8 [105, 110, 116] 0 1 19 []]]
  | 3 => [Nd.mk 7 [112, 48] 0 1 8 [Nd.mk 8 [105, 110, 116] 0 1 11 []], Nd.mk 7 [112, 49] 0 1 16 [Nd.mk 8 [105, 110, 116] 0 1 19 []], Nd.mk 7 [112, 50] 0 1 24 [Nd.mk 8 [105, 110, 116] 0 1 27 []]]
  | 4 => [Nd.mk 7 [112, 48] 0 1 8 [Nd.mk 8 [105, 110, 116] 0 1 11 []], Nd.mk 7 [112, 49] 0 1 16 [Nd.mk 8 [105, 110, 116] 0 1 19 []], Nd.mk 7 [112, 50] 0 1 24 [Nd.mk 8 [105, 110, 116] 0 1 27 []], Nd.mk 7 [112, 51] 0 1 32 [Nd.mk 8 [105, 110, 116] 0 1 35 []]]
  | 5 => [Nd.mk 7 [112, 48] 0 1 8 [Nd.mk 8 [105, 110, 116] 0 1 11 []], Nd.mk 7 [112, 49] 0 1 16 [Nd.mk 8 [105, 110, 116] 0 1 19 []], Nd.mk 7 [112, 50] 0 1 24 [Nd.mk 8 [105, 110, 116] 0 1 27 []], Nd.mk 7 [112, 51] 0 1 32 [Nd.mk 8 [105, 110, 116] 0 1 35 []], Nd.mk 7 [112, 52] 0 1 40 [Nd.mk 8 [105, 110, 116] 0 1 43 []]]
  | 6 => [Nd.mk 7 [112, 48] 0 1 8 [Nd.mk 8 [105, 110, 116] 0 1 11 []], Nd.mk 7 [112, 49] 0 1 16 [Nd.mk 8 [105, 110, 116] 0 1 19 []], Nd.mk 7 [112, 50] 0 1 24 [Nd.mk 8 [105, 110, 116] 0 1 27 []], Nd.mk 7 [112, 51] 0 1 32 [Nd.mk 8 [105, 110, 116] 0 1 35 []], Nd.mk 7 [112, 52] 0 1 40 [Nd.mk 8 [105, 110, 116] 0 1 43 []], Nd.mk 7 [112, 53] 0 1 48 [Nd.mk 8 [105, 110, 116] 0 1 51 []]]
  | 7 => [Nd.mk 7 [112, 48] 0 1 8 [Nd.mk 8 [105, 110, 116] 0 1 11 []], Nd.mk 7 [112, 49] 0 1 16 [Nd.mk 8 [105, 110, 116] 0 1 19 []], Nd.mk 7 [112, 50] 0 1 24 [Nd.mk 8 [105, 110, 116] 0 1 27 []], Nd.mk 7 [112, 51] 0 1 32 [Nd.mk 8 [105, 110, 116] 0 1 35 []], Nd.mk 7 [112, 52] 0 1 40 [Nd.mk 8 [105, 110, 116] 0 1 43 []], Nd.mk 7 [112, 53] 0 1 48 [Nd.mk 8 [105, 110, 116] 0 1 51 []], Nd.mk 7 [112, 54] 0 1 56 [Nd.mk 8 [105, 110, 116] 0 1 59 []]]
  | 8 => [Nd.mk 7 [112, 48] 0 1 8 [Nd.mk 8 [105, 110, 116] 0 1 11 []], Nd.mk 7 [112, 49] 0 1 16 [Nd.mk 8 [105, 110, 116] 0 1 19 []], Nd.mk 7 [112, 50] 0 1 24 [Nd.mk 8 [105, 110, 116] 0 1 27 []], Nd.mk 7 [112, 51] 0 1 32 [Nd.mk 8 [105, 110, 116] 0 1 35 []], Nd.mk 7 [112, 52] 0 1 40 [Nd.mk 8 [105, 110, 116] 0 1 43 []], Nd.mk 7 [112, 53] 0 1 48 [Nd.mk 8 [105, 110, 116] 0 1 51 []], Nd.mk 7 [112, 54] 0 1 56 [Nd.mk 8 [105, 110, 116] 0 1 59 []], Nd.mk 7 [112, 55] 0 1 64 [Nd.mk 8 [105, 110, 116] 0 1 67 []]]
  | _ => []
theorem ls_par_run (m : Nat) (hm : m < 9) (S : List Tok) : ∃ q c, headT m ++ S = ⟨3, [102, 117, 110, 99], 0, 1, 1⟩ :: ⟨2, [102], 0, 1, 6⟩ :: q ∧ mark q = [40] ∧ Runs_ (.listed .param) 0 q (.ok (lst (parN m)) (⟨6, [123], 0, 1, c⟩ :: S)) ∧ (parN m).length = m := by
  rcases m with _ | _ | _ | _ | _ | _ | _ | _ | _ | m
  · exact ⟨(headT 0).tail.tail ++ S, 10, by kernel_rfl, by kernel_rfl, Runs_.of 30 (by kernel_rfl) (by simp), by kernel_rfl⟩
  · exact ⟨(headT 1).tail.tail ++ S, 16, by kernel_rfl, by kernel_rfl, Runs_.of 30 (by kernel_rfl) (by simp), by kernel_rfl⟩
  · exact ⟨(headT 2).tail.tail ++ S, 24, by kernel_rfl, by kernel_rfl, Runs_.of 30 (by kernel_rfl) (by simp), by kernel_rfl⟩
  · exact ⟨(headT 3).tail.tail ++ S, 32, by kernel_rfl, by kernel_rfl, Runs_.of 30 (by kernel_rfl) (by simp), by kernel_rfl⟩
  · exact ⟨(headT 4).tail.tail ++ S, 40, by kernel_rfl, by kernel_rfl, Runs_.of 30 (by kernel_rfl) (by simp), by kernel_rfl⟩
  · exact ⟨(headT 5).tail.tail ++ S, 48, by kernel_rfl, by kernel_rfl, Runs_.of 30 (by kernel_rfl) (by simp), by kernel_rfl⟩
  · exact ⟨(headT 6).tail.tail ++ S, 56, by kernel_rfl, by kernel_rfl, Runs_.of 30 (by kernel_rfl) (by simp), by kernel_rfl⟩
  · exact ⟨(headT 7).tail.tail ++ S, 64, by kernel_rfl, by kernel_rfl, Runs_.of 30 (by kernel_rfl) (by simp), by kernel_rfl⟩
  · exact ⟨(headT 8).tail.tail ++ S, 72, by kernel_rfl, by kernel_rfl, Runs_.of 30 (by kernel_rfl) (by simp), by kernel_rfl⟩
  · omega
theorem ls_par_names (m : Nat) (hm : m < 9) : ∀ j x, (parN m)[j]? = some x → ∃ l c ks, x = Nd.mk 7 ([112] ++ dig j) 0 l c ks := by
  have key : ∀ m, m < 9 → (parN m).length ≤ 8 ∧ ∀ j, j < 8 → ∀ x, (parN m)[j]? = some x → ∃ l c ks, x = Nd.mk 7 ([112] ++ dig j) 0 l c ks := by
    intro m hm
    rcases m with _ | _ | _ | _ | _ | _ | _ | _ | _ | m
    · refine ⟨by decide, fun j hj x hx => ?_⟩
      rcases j with _ | _ | _ | _ | _ | _ | _ | _ | j <;> first | (exfalso; omega) | (simp [parN] at hx; done) | (simp [parN] at hx; exact ⟨_, _, _, by rw [← hx]; rfl⟩)
    · refine ⟨by decide, fun j hj x hx => ?_⟩
      rcases j with _ | _ | _ | _ | _ | _ | _ | _ | j <;> first | (exfalso; omega) | (simp [parN] at hx; done) | (simp [parN] at hx; exact ⟨_, _, _, by rw [← hx]; rfl⟩)
    · refine ⟨by decide, fun j hj x hx => ?_⟩
      rcases j with _ | _ | _ | _ | _ | _ | _ | _ | j <;> first | (exfalso; omega) | (simp [parN] at hx; done) | (simp [parN] at hx; exact ⟨_, _, _, by rw [← hx]; rfl⟩)
    · refine ⟨by decide, fun j hj x hx => ?_⟩
      rcases j with _ | _ | _ | _ | _ | _ | _ | _ | j <;> first | (exfalso; omega) | (simp [parN] at hx; done) | (simp [parN] at hx; exact ⟨_, _, _, by rw [← hx]; rfl⟩)
    · refine ⟨by decide, fun j hj x hx => ?_⟩
      rcases j with _ | _ | _ | _ | _ | _ | _ | _ | j <;> first | (exfalso; omega) | (simp [parN] at hx; done) | (simp [parN] at hx; exact ⟨_, _, _, by rw [← hx]; rfl⟩)
    · refine ⟨by decide, fun j hj x hx => ?_⟩
      rcases j with _ | _ | _ | _ | _ | _ | _ | _ | j <;> first | (exfalso; omega) | (simp [parN] at hx; done) | (simp [parN] at hx; exact ⟨_, _, _, by rw [← hx]; rfl⟩)
    · refine ⟨by decide, fun j hj x hx => ?_⟩
      rcases j with _ | _ | _ | _ | _ | _ | _ | _ | j <;> first | (exfalso; omega) | (simp [parN] at hx; done) | (simp [parN] at hx; exact ⟨_, _, _, by rw [← hx]; rfl⟩)
    · refine ⟨by decide, fun j hj x hx => ?_⟩
      rcases j with _ | _ | _ | _ | _ | _ | _ | _ | j <;> first | (exfalso; omega) | (simp [parN] at hx; done) | (simp [parN] at hx; exact ⟨_, _, _, by rw [← hx]; rfl⟩)
    · refine ⟨by decide, fun j hj x hx => ?_⟩
      rcases j with _ | _ | _ | _ | _ | _ | _ | _ | j <;> first | (exfalso; omega) | (simp [parN] at hx; done) | (simp [parN] at hx; exact ⟨_, _, _, by rw [← hx]; rfl⟩)
    · omega
  intro j x hj
  have hl := (key m hm).1
  have := (List.getElem?_eq_some_iff.1 hj).1
  exact (key m hm).2 j (by omega) x hj
theorem ls_decl_run {t0 t1 : Tok} {q l5 B : List Tok} {b : Tok} {ps : List Nd} {body : Nd} (h0 : mark (t0 :: t1 :: q) = [102, 117, 110, 99]) (h1 : mark (t1 :: q) ≠ [40]) (hk : t1.kind = 2)
    (hp : Runs_ (.listed .param) 0 q (.ok (lst ps) (b :: B))) (hB : mark (b :: B) = [123]) (hb : Runs_ .block 0 (b :: B) (.ok body l5)) :
    Runs_ .decl 0 (t0 :: t1 :: q) (.ok (Nd.mk 6 t1.text 0 t0.line t0.col (none_ :: none_ :: body :: ps)) l5) := by
  obtain ⟨N1, hp⟩ := hp
  obtain ⟨N2, hb⟩ := hb
  refine Runs_.step ⟨N1 + N2 + 2, fun M hM => ?_⟩
  simp only [step]
  rw [h0, if_neg (by decide), if_pos rfl]
  obtain ⟨m, rfl⟩ : ∃ m, M = m + 1 := ⟨M - 1, by omega⟩
  show step (run m) .funcDecl 0 (t0 :: t1 :: q) = _
  simp only [step, List.tail_cons]
  have h1' : (mark (t1 :: q) = [40]) = False := eq_false h1
  simp only [h1', if_false]
  unfold name
  rw [if_pos (show (hd (t1 :: q)).kind = 2 from hk), List.tail_cons]
  show bind (run m (.listed .param) 0 q) _ = _
  rw [hp m (by omega)]
  simp only [bind]
  obtain ⟨k, rfl⟩ : ∃ k, m = k + 1 := ⟨m - 1, by omega⟩
  have ho : run (k + 1) (.orNone .anyType [[123]]) 0 (b :: B) = .ok none_ (b :: B) := by
    show step (run k) (.orNone .anyType [[123]]) 0 (b :: B) = _
    simp only [step]
    rw [if_pos (by rw [hB]; exact List.mem_singleton.2 rfl)]
  rw [ho]
  simp only
  rw [hb (k + 1) (by omega)]
  rfl
theorem ls_want_pos {s : List UInt8} {l : List Tok} {k : List Tok → Rs} (h : mark l = s) : want s l k = k l.tail := by unfold want; rw [if_pos h]
theorem ls_block_run {b : Tok} {S l5 : List Tok} {xs : List Nd} {c : Tok} (hS : S ≠ []) (hs : semis S ≠ []) (h0 : mark (b :: S) = [123]) (h : Runs_ (.linesLoop .stmt false []) 0 (semis S) (.ok (lst xs) (c :: l5))) (hc : mark (c :: l5) = [125]) :
    Runs_ .block 0 (b :: S) (.ok (Nd.mk 10 [] 0 b.line b.col xs) l5) := by
  obtain ⟨N, h⟩ := h
  refine Runs_.step ⟨N + 3, fun M hM => ?_⟩
  obtain ⟨m, rfl⟩ : ∃ m, M = m + 2 := ⟨M - 2, by omega⟩
  simp only [step]
  have hl : run (m + 1) (.lines .stmt false) 0 S = .ok (lst xs) (c :: l5) := by
    cases S with
    | nil => exact absurd rfl hS
    | cons s S =>
      show step (run m) (.lines .stmt false) 0 (s :: S) = _
      simp only [step]
      exact h m (by omega)
  have hb : run (m + 2) (.braced .stmt) 0 (b :: S) = .ok (lst xs) l5 := by
    show step (run (m + 1)) (.braced .stmt) 0 (b :: S) = _
    simp only [step]
    rw [ls_want_pos h0, List.tail_cons, hl]
    simp only [bind]
    rw [ls_want_pos hc]
    rfl
  rw [hb]
  rfl
theorem ls_file_run {t : Tok} {l : List Tok} {f : Nd} {line col : Nat} (h1 : mark (t :: l) ≠ [59]) (h0 : t.kind ≠ 0) (h : Runs_ .decl 0 (t :: l) (.ok f (tailT line col).tail)) :
    Runs_ .file 0 (t :: l) (.ok (Nd.mk 1 [] 0 t.line t.col [f]) [⟨0, [], 0, line + 1 + 1, 1⟩]) := by
  obtain ⟨N, h⟩ := h
  refine Runs_.step ⟨N + 4, fun M hM => ?_⟩
  obtain ⟨m, rfl⟩ : ∃ m, M = m + 3 := ⟨M - 3, by omega⟩
  have hs : semis (t :: l) = t :: l := by simp only [semis]; rw [if_neg h1]
  have hov : over true (t :: l) = false := by
    show ((hd (t :: l)).kind == 0) = false
    exact beq_eq_false_iff_ne.2 h0
  have hl : run (m + 3) (.lines .decl true) 0 (t :: l) = .ok (lst [f]) [⟨0, [], 0, line + 1 + 1, 1⟩] := by
    show step (run (m + 2)) (.lines .decl true) 0 (t :: l) = _
    simp only [step]
    rw [hs]
    show step (run (m + 1)) (.linesLoop .decl true []) 0 (t :: l) = _
    refine (ls_loop_step hov (h (m + 1) (by omega)) (by rfl) (by rfl)).trans ?_
    rfl
  simp only [step]
  rw [hl]
  rfl
theorem Sts.ne {n i : Nat} {l : List Tok} (h : Sts n i l) : l ≠ [] := by
  cases h <;> simp [stmtT, tailT]
theorem Sts.semis {n i : Nat} {l : List Tok} (h : Sts n i l) : semis l ≠ [] := by
  cases h with
  | done line col => exact fun e => by cases e
  | one i line col l h => exact fun e => by cases e
  | more i line col line2 col2 l h => exact fun e => by cases e
/-- The tree of ParseLists' text. -/
theorem lists_tree (b : Nat → Bool) (m n : Nat) (hm : m < 9) (hn : n ≤ 29) (hT : (headB m ++ midB ++ (stB b 0 n ++ tailB)).length ≤ 16384) :
    ∃ toks N r xs l0 c0 l1 c1 l2 c2, LexAll (headB m ++ midB ++ (stB b 0 n ++ tailB)) (.ok toks) ∧
      run N .file 0 toks = .ok (Nd.mk 1 [] 0 l0 c0 [Nd.mk 6 [102] 0 l1 c1 (none_ :: none_ :: Nd.mk 10 [] 0 l2 c2 xs :: parN m)]) r ∧ xs.length = n ∧
      ∀ j x, xs[j]? = some x → ∃ l1 c1 l2 c2, x = Nd.mk 20 [] 0 l1 c1 [Nd.mk 21 [] j l2 c2 []] := by
  obtain ⟨S, hS, hL⟩ := lists_lex b m n hm hn hT
  obtain ⟨q, c, e, hq, hp, hpl⟩ := ls_par_run m hm S
  obtain ⟨xs, line, col, hr, hx, hall⟩ := ls_sts_run hS []
  have hb := ls_block_run (b := ⟨6, [123], 0, 1, c⟩) hS.ne hS.semis (by rfl) hr (by rfl)
  have hd := ls_decl_run (t0 := ⟨3, [102, 117, 110, 99], 0, 1, 1⟩) (t1 := ⟨2, [102], 0, 1, 6⟩) (by rfl) (by rw [show mark (⟨2, [102], 0, 1, 6⟩ :: q) = [] from rfl]; decide) rfl hp (by rfl) hb
  obtain ⟨N, hf⟩ := ls_file_run (line := line) (col := col) (by rw [show mark (⟨3, [102, 117, 110, 99], 0, 1, 1⟩ :: ⟨2, [102], 0, 1, 6⟩ :: q) = [102, 117, 110, 99] from rfl]; decide) (by decide) hd
  refine ⟨_, N, _, xs, _, _, _, _, _, _, hL, by rw [e]; exact hf N (Nat.le_refl _), by omega, fun j x hj => ?_⟩
  obtain ⟨l1, c1, l2, c2, e⟩ := hall j x hj
  exact ⟨l1, c1, l2, c2, by rw [e, Nat.zero_add]⟩
end Go.Proofs.YtemmdbjcllcelaaDoor.Pa
