/-
  The grammar comes to an end: steps enough for any row of tokens that an End ends. No function of the program is named here.
  The grammar comes to an end: every rule. No function of the program is named here (written by wip/genPaTot.py).
  The tokens of a text: the last one, and it alone, is an End; they are not too many. No function of the program is named here.
-/
import Derived.Test.YtemmdbjcllcelaaDoorPaMS
import Derived.Test.YtemmdbjcllcelaaDoorPaLess
import Derived.Test.YtemmdbjcllcelaaDoorPaX
import Derived.Test.YtemmdbjcllcelaaDoorTnSpec
namespace Go.Proofs.YtemmdbjcllcelaaDoor.Pa
open Go.Proofs.YtemmdbjcllcelaaDoor.Tk (Tok)

def rank : Rule → Nat
  | .file => 50
  | .lines _ _ => 45
  | .linesLoop _ _ _ => 44
  | .decl => 43
  | .typeDecl => 42
  | .funcDecl => 42
  | .orNone _ _ => 40
  | .parts _ ps _ => 24 + ps.length
  | .stmt => 23
  | .choose => 22
  | .elsePart => 22
  | .block => 21
  | .varStmt => 21
  | .ifStmt => 21
  | .forStmt => 21
  | .returnStmt => 21
  | .printStmt => 21
  | .simple => 21
  | .expr => 20
  | .binary _ => 19
  | .unary => 18
  | .post => 17
  | .prime => 16
  | .marked => 15
  | .built _ _ => 14
  | .wrapped => 14
  | .postLoop _ => 13
  | .dotted _ => 12
  | .indexed _ => 12
  | .binLoop _ _ => 11
  | .listed _ => 10
  | .braced _ => 10
  | .listLoop _ _ => 9
  | .field => 9
  | .param => 9
  | .method => 9
  | .receiver => 9
  | .anyType => 8
  | .typeOnly => 7
theorem Ends.pos {T : Tok} {l : List Tok} (h : Ends T l) : 0 < l.length := by obtain ⟨pre, rfl, _⟩ := h; simp
theorem run_less {T : Tok} (hT : T.kind = 0) {n : Nat} {r : Rule} {d : Nat} {l : List Tok} (hp : Pre r l) (he : Ends T l) {t : Nd} {l1 : List Tok} (h : run n r d l = .ok t l1) : Ends T l1 ∧ l1.length ≤ l.length := by
  obtain ⟨h1, h2⟩ := (run_sour hT n r d l hp he).ok 0 0 t l1 h
  exact ⟨h2, mrun_less h1⟩
section
variable {T : Tok} (hT : T.kind = 0)
theorem nd_fail {l : List Tok} (he : Ends T l) (e : Nat) : fail e l ≠ .dry := by
  cases l with
  | nil => have := he.pos; simp at this
  | cons t l => simp [fail]
theorem nd_ok (t : Nd) (l : List Tok) : Rs.ok t l ≠ .dry := by simp
theorem nd_bind (hT : T.kind = 0) {n : Nat} {r : Rule} {d : Nat} {l : List Tok} {k : Nd → List Tok → Rs} (hn : run n r d l ≠ .dry) (hp : Pre r l) (he : Ends T l) (hk : ∀ t l1, Ends T l1 → l1.length ≤ l.length → k t l1 ≠ .dry) : bind (run n r d l) k ≠ .dry := by
  cases h : run n r d l with
  | ok t l1 =>
    obtain ⟨h1, h2⟩ := run_less hT hp he h
    exact hk t l1 h1 h2
  | bad a b c => simp [bind]
  | dry => exact absurd h hn
theorem tail_len {l : List Tok} (h : (hd l).kind ≠ 0 ∨ 0 < l.length) : l.tail.length + 1 ≤ l.length ∨ l = [] := by
  cases l with
  | nil => exact .inr rfl
  | cons t l => exact .inl (by simp)
theorem Ends.tail_len {l : List Tok} (h : Ends T l) : l.tail.length + 1 = l.length := by
  cases l with
  | nil => have := h.pos; simp at this
  | cons t l => simp
theorem nd_want (hT : T.kind = 0) {m : List UInt8} (hm : m ≠ []) {l : List Tok} {k : List Tok → Rs} (he : Ends T l) (hk : Ends T l.tail → l.tail.length + 1 = l.length → k l.tail ≠ .dry) : want m l k ≠ .dry := by
  unfold want
  split
  · rename_i h
    exact hk (he.tail hT (mark_kind h hm)) he.tail_len
  · exact nd_fail he 13
theorem nd_name (hT : T.kind = 0) {l : List Tok} {k : List UInt8 → List Tok → Rs} (he : Ends T l) (hk : (hd l).kind = 2 → Ends T l.tail → l.tail.length + 1 = l.length → k (hd l).text l.tail ≠ .dry) : name l k ≠ .dry := by
  unfold name
  split
  · rename_i h
    exact hk h (he.tail hT (by omega)) he.tail_len
  · exact nd_fail he 13
theorem nd_if {c : Prop} [Decidable c] {x y : Rs} (hx : c → x ≠ .dry) (hy : ¬ c → y ≠ .dry) : (if c then x else y) ≠ .dry := by
  split
  · exact hx (by assumption)
  · exact hy (by assumption)
end
theorem over_semis {file : Bool} {l : List Tok} (h : over file l = true) : semis l = l := by
  cases l with
  | nil => rfl
  | cons t l =>
    rw [semis, if_neg]
    intro hm
    unfold over at h
    cases file with
    | true =>
      simp only [if_true, beq_iff_eq] at h
      have : mark (t :: l) = [] := by simp [mark, h]
      rw [this] at hm; cases hm
    | false =>
      simp only [Bool.false_eq_true, if_false, beq_iff_eq] at h
      rw [h] at hm; cases hm
theorem nd_over {n : Nat} {r : Rule} {f : Bool} {acc : List Nd} {d : Nat} {T : Tok} {l : List Tok} (he : Ends T l) (ho : over f l = true) (hn : 0 < n) : run n (.linesLoop r f acc) d (semis l) ≠ .dry := by
  rw [over_semis ho]
  cases n with
  | zero => omega
  | succ n =>
    cases l with
    | nil => have := he.pos; simp at this
    | cons t l =>
      show step (run n) (.linesLoop r f acc) d (t :: l) ≠ .dry
      simp only [step]
      rw [if_pos ho]; simp
end Go.Proofs.YtemmdbjcllcelaaDoor.Pa
namespace Go.Proofs.YtemmdbjcllcelaaDoor.Pa
open Go.Proofs.YtemmdbjcllcelaaDoor.Tk (Tok)
theorem mark_tail {l : List Tok} {m : List UInt8} (h : mark l = m) (hm : m ≠ []) : l.tail.length + 1 = l.length := by
  cases l with
  | nil => exact absurd h.symm hm
  | cons t l => simp
theorem rank_low {r : Rule} (h : Low r) : rank r ≤ 20 := by rcases h with rfl | rfl | rfl <;> decide
theorem rank_line {r : Rule} (h : Line r) : rank r ≤ 43 := by rcases h with rfl | rfl | rfl | rfl <;> decide
set_option maxHeartbeats 4000000 in
theorem step_tot {T : Tok} (hT : T.kind = 0) {n : Nat} (H : ∀ r d l, Pre r l → Ends T l → 100 * l.length + rank r ≤ n → run n r d l ≠ .dry) (r : Rule) (d : Nat) (l : List Tok) (hp : Pre r l) (he : Ends T l) (hn : 100 * l.length + rank r ≤ n + 1) : step (run n) r d l ≠ .dry := by
  have hl := he.tail_len
  cases r
  case parts first ps acc =>
    obtain ⟨h1, h2⟩ : ps.length ≤ 2 ∧ ∀ p ∈ ps, p = .expr ∨ p = .anyType := hp
    cases ps with
    | nil => exact nd_ok _ _
    | cons p ps =>
      have h3 : ps.length ≤ 2 ∧ ∀ q ∈ ps, q = .expr ∨ q = .anyType := ⟨by simp at h1; omega, fun q hq => h2 q (List.mem_cons_of_mem _ hq)⟩
      have h4 : p = .expr ∨ p = .anyType := h2 p List.mem_cons_self
      have h5 : ∀ l, Pre p l := fun l => by rcases h4 with rfl | rfl <;> trivial
      have h6 : rank p ≤ 20 := by rcases h4 with rfl | rfl <;> decide
      have h7 : rank (.parts first (p :: ps) acc) = 25 + ps.length := by simp [rank]; omega
      have h8 : ∀ b acc, rank (.parts b ps acc) = 24 + ps.length := fun _ _ => rfl
      rw [h7] at hn
      simp only [step]
      refine nd_if (fun _ => ?_) (fun _ => ?_)
      · exact nd_bind hT (H _ _ _ (h5 _) he (by omega)) (h5 _) he (fun t l1 e1 g1 => H _ _ _ h3 e1 (by rw [h8]; omega))
      · exact nd_want hT (by decide) he (fun e1 g1 => nd_bind hT (H _ _ _ (h5 _) e1 (by omega)) (h5 _) e1 (fun t l2 e2 g2 => H _ _ _ h3 e2 (by rw [h8]; omega)))
  case built kind ps =>
    obtain ⟨h1, h2⟩ : (hd l).kind ≠ 0 ∧ ps.length ≤ 2 ∧ ∀ p ∈ ps, p = .expr ∨ p = .anyType := hp
    have h8 : ∀ b acc, rank (.parts b ps acc) = 24 + ps.length := fun _ _ => rfl
    have h9 : rank (.built kind ps) = 14 := rfl
    rw [h9] at hn
    simp only [step]
    have e0 := he.tail hT h1
    exact nd_want hT (by decide) e0 (fun e1 g1 => nd_bind hT (H _ _ _ h2 e1 (by rw [h8]; omega)) h2 e1 (fun t l2 e2 g2 => nd_want hT (by decide) e2 (fun _ _ => nd_ok _ _)))
  case listed r => 
    have hr := rank_low hp
    have h9 : ∀ acc, rank (.listLoop r acc) = 9 := fun _ => rfl
    have h10 : rank (.listed r) = 10 := rfl
    rw [h10] at hn
    simp only [step]
    refine nd_want hT (by decide) he (fun e1 g1 => nd_if (fun _ => nd_ok _ _) (fun _ => ?_))
    exact nd_bind hT (H _ _ _ (pre_low hp _) e1 (by omega)) (pre_low hp _) e1 (fun t l2 e2 g2 => H (.listLoop r [t]) _ _ hp e2 (by rw [h9]; omega))
  case listLoop r acc =>
    have hr := rank_low hp
    have h9 : ∀ acc, rank (.listLoop r acc) = 9 := fun _ => rfl
    rw [h9] at hn
    simp only [step]
    refine nd_if (fun hm => ?_) (fun _ => nd_want hT (by decide) he (fun _ _ => nd_ok _ _))
    have e1 := he.tail hT (mark_kind hm (by decide))
    exact nd_bind hT (H _ _ _ (pre_low hp _) e1 (by omega)) (pre_low hp _) e1 (fun t l2 e2 g2 => H (.listLoop r (acc ++ [t])) _ _ hp e2 (by rw [h9]; omega))
  case orNone r ms =>
    have hr := rank_low hp
    have h9 : rank (.orNone r ms) = 40 := rfl
    rw [h9] at hn
    simp only [step]
    exact nd_if (fun _ => nd_ok _ _) (fun _ => H _ _ _ (pre_low hp _) he (by omega))
  case lines r f =>
    have h9 : rank (.lines r f) = 45 := rfl
    have h10 : rank (.linesLoop r f []) = 44 := rfl
    rw [h9] at hn
    simp only [step]
    exact H (.linesLoop r f []) _ _ hp (he.semis hT) (by rw [h10]; have := semis_len l; omega)
  case linesLoop r f acc =>
    have hr := rank_line hp
    have h10 : ∀ acc, rank (.linesLoop r f acc) = 44 := fun _ => rfl
    rw [h10] at hn
    simp only [step]
    refine nd_if (fun _ => nd_ok _ _) (fun _ => ?_)
    refine nd_bind hT (H _ _ _ (pre_line hp _) he (by omega)) (pre_line hp _) he (fun t l1 e1 g1 => nd_if (fun ho => ?_) (fun _ => ?_))
    · exact nd_over e1 ho (by have := he.pos; omega)
    · exact nd_want hT (by decide) e1 (fun e2 g2 => H (.linesLoop r f (acc ++ [t])) _ _ hp (e2.semis hT) (by rw [h10]; have := semis_len l1.tail; omega))
  case braced r =>
    have h9 : rank (.braced r) = 10 := rfl
    have h10 : rank (.lines r false) = 45 := rfl
    rw [h9] at hn
    simp only [step]
    exact nd_want hT (by decide) he (fun e1 g1 => nd_bind hT (H (.lines r false) _ _ hp e1 (by rw [h10]; omega)) hp e1 (fun t l2 e2 g2 => nd_want hT (by decide) e2 (fun _ _ => nd_ok _ _)))
  case postLoop x =>
    have h9 : ∀ x, rank (.postLoop x) = 13 := fun _ => rfl
    have h10 : ∀ x, rank (.dotted x) = 12 := fun _ => rfl
    have h11 : ∀ x, rank (.indexed x) = 12 := fun _ => rfl
    rw [h9] at hn
    simp only [step]
    refine nd_if (fun hm => ?_) (fun _ => nd_if (fun hm => ?_) (fun _ => nd_ok _ _))
    · have hk := mark_kind hm (by decide)
      have hnd := H (.dotted x) d l hk he (by rw [h10]; omega)
      cases h : run n (.dotted x) d l with
      | ok t l1 =>
        obtain ⟨g1, g2⟩ := (run_sour hT n (.dotted x) d l hk he).ok 0 0 t l1 h
        have g3 := dotted_less g1
        exact H (.postLoop t) _ _ True.intro g2 (by rw [h9]; simp only at g3; omega)
      | bad a b c => simp [bind]
      | dry => exact absurd h hnd
    · have hk := mark_kind hm (by decide)
      have hnd := H (.indexed x) d l hk he (by rw [h11]; omega)
      cases h : run n (.indexed x) d l with
      | ok t l1 =>
        obtain ⟨g1, g2⟩ := (run_sour hT n (.indexed x) d l hk he).ok 0 0 t l1 h
        have g3 := indexed_less g1
        exact H (.postLoop t) _ _ True.intro g2 (by rw [h9]; simp only at g3; omega)
      | bad a b c => simp [bind]
      | dry => exact absurd h hnd
  case dotted x =>
    have h9 : rank (.dotted x) = 12 := rfl
    have h10 : rank (.listed .expr) = 10 := rfl
    have h11 : rank .anyType = 8 := rfl
    rw [h9] at hn
    have hk : (hd l).kind ≠ 0 := hp
    have e0 := he.tail hT hk
    have hL : Low .expr := .inr (.inl rfl)
    simp only [step]
    refine nd_if (fun hm => ?_) (fun _ => nd_name hT e0 (fun _ e1 g1 => nd_if (fun _ => nd_bind hT (H (.listed .expr) _ _ hL e1 (by rw [h10]; omega)) hL e1 (fun _ _ _ _ => nd_ok _ _)) (fun _ => nd_ok _ _)))
    have e1 := e0.tail hT (mark_kind hm (by decide))
    have g1 := e0.tail_len
    exact nd_bind hT (H .anyType _ _ True.intro e1 (by rw [h11]; omega)) True.intro e1 (fun t l2 e2 g2 => nd_want hT (by decide) e2 (fun _ _ => nd_ok _ _))
  all_goals simp only [Pre] at hp
  all_goals simp only [rank] at hn
  all_goals simp only [step, typedName]
  all_goals repeat' first
    | exact nd_ok _ _
    | exact nd_fail (by (first | assumption | exact Ends.tail (by assumption) hT (by (first | assumption | exact mark_kind (by assumption) (by decide) | exact two_kind (by assumption) (by decide) (by decide) | exact word_kind (by assumption) (by decide) (by decide) (by decide) | exact tight_kind (by assumption) (by assumption) | omega)) | exact Ends.semis hT (by assumption) | exact Ends.semis hT (Ends.tail (by assumption) hT (by (first | assumption | exact mark_kind (by assumption) (by decide) | exact two_kind (by assumption) (by decide) (by decide) | exact word_kind (by assumption) (by decide) (by decide) (by decide) | exact tight_kind (by assumption) (by assumption) | omega))))) _
    | exact H _ _ _ (by (first | exact True.intro | (first | assumption | exact mark_kind (by assumption) (by decide) | exact two_kind (by assumption) (by decide) (by decide) | exact word_kind (by assumption) (by decide) (by decide) (by decide) | exact tight_kind (by assumption) (by assumption) | omega) | (simp [Pre, Low, Line]; done) | exact pre_low (by assumption) _ | exact pre_line (by assumption) _ | exact ⟨by (first | assumption | exact mark_kind (by assumption) (by decide) | exact two_kind (by assumption) (by decide) (by decide) | exact word_kind (by assumption) (by decide) (by decide) (by decide) | exact tight_kind (by assumption) (by assumption) | omega), by decide, by simp⟩)) (by (first | assumption | exact Ends.tail (by assumption) hT (by (first | assumption | exact mark_kind (by assumption) (by decide) | exact two_kind (by assumption) (by decide) (by decide) | exact word_kind (by assumption) (by decide) (by decide) (by decide) | exact tight_kind (by assumption) (by assumption) | omega)) | exact Ends.semis hT (by assumption) | exact Ends.semis hT (Ends.tail (by assumption) hT (by (first | assumption | exact mark_kind (by assumption) (by decide) | exact two_kind (by assumption) (by decide) (by decide) | exact word_kind (by assumption) (by decide) (by decide) (by decide) | exact tight_kind (by assumption) (by assumption) | omega))))) (by (first | (simp only [rank] at *; omega) | (have q := mark_tail (by assumption) (by decide); simp only [rank] at *; omega)))
    | (refine nd_want hT (by decide) (by (first | assumption | exact Ends.tail (by assumption) hT (by (first | assumption | exact mark_kind (by assumption) (by decide) | exact two_kind (by assumption) (by decide) (by decide) | exact word_kind (by assumption) (by decide) (by decide) (by decide) | exact tight_kind (by assumption) (by assumption) | omega)) | exact Ends.semis hT (by assumption) | exact Ends.semis hT (Ends.tail (by assumption) hT (by (first | assumption | exact mark_kind (by assumption) (by decide) | exact two_kind (by assumption) (by decide) (by decide) | exact word_kind (by assumption) (by decide) (by decide) (by decide) | exact tight_kind (by assumption) (by assumption) | omega))))) (fun _ _ => ?_))
    | (refine nd_name hT (by (first | assumption | exact Ends.tail (by assumption) hT (by (first | assumption | exact mark_kind (by assumption) (by decide) | exact two_kind (by assumption) (by decide) (by decide) | exact word_kind (by assumption) (by decide) (by decide) (by decide) | exact tight_kind (by assumption) (by assumption) | omega)) | exact Ends.semis hT (by assumption) | exact Ends.semis hT (Ends.tail (by assumption) hT (by (first | assumption | exact mark_kind (by assumption) (by decide) | exact two_kind (by assumption) (by decide) (by decide) | exact word_kind (by assumption) (by decide) (by decide) (by decide) | exact tight_kind (by assumption) (by assumption) | omega))))) (fun _ _ _ => ?_))
    | (refine nd_bind hT (H _ _ _ (by (first | exact True.intro | (first | assumption | exact mark_kind (by assumption) (by decide) | exact two_kind (by assumption) (by decide) (by decide) | exact word_kind (by assumption) (by decide) (by decide) (by decide) | exact tight_kind (by assumption) (by assumption) | omega) | (simp [Pre, Low, Line]; done) | exact pre_low (by assumption) _ | exact pre_line (by assumption) _ | exact ⟨by (first | assumption | exact mark_kind (by assumption) (by decide) | exact two_kind (by assumption) (by decide) (by decide) | exact word_kind (by assumption) (by decide) (by decide) (by decide) | exact tight_kind (by assumption) (by assumption) | omega), by decide, by simp⟩)) (by (first | assumption | exact Ends.tail (by assumption) hT (by (first | assumption | exact mark_kind (by assumption) (by decide) | exact two_kind (by assumption) (by decide) (by decide) | exact word_kind (by assumption) (by decide) (by decide) (by decide) | exact tight_kind (by assumption) (by assumption) | omega)) | exact Ends.semis hT (by assumption) | exact Ends.semis hT (Ends.tail (by assumption) hT (by (first | assumption | exact mark_kind (by assumption) (by decide) | exact two_kind (by assumption) (by decide) (by decide) | exact word_kind (by assumption) (by decide) (by decide) (by decide) | exact tight_kind (by assumption) (by assumption) | omega))))) (by (first | (simp only [rank] at *; omega) | (have q := mark_tail (by assumption) (by decide); simp only [rank] at *; omega)))) (by (first | exact True.intro | (first | assumption | exact mark_kind (by assumption) (by decide) | exact two_kind (by assumption) (by decide) (by decide) | exact word_kind (by assumption) (by decide) (by decide) (by decide) | exact tight_kind (by assumption) (by assumption) | omega) | (simp [Pre, Low, Line]; done) | exact pre_low (by assumption) _ | exact pre_line (by assumption) _ | exact ⟨by (first | assumption | exact mark_kind (by assumption) (by decide) | exact two_kind (by assumption) (by decide) (by decide) | exact word_kind (by assumption) (by decide) (by decide) (by decide) | exact tight_kind (by assumption) (by assumption) | omega), by decide, by simp⟩)) (by (first | assumption | exact Ends.tail (by assumption) hT (by (first | assumption | exact mark_kind (by assumption) (by decide) | exact two_kind (by assumption) (by decide) (by decide) | exact word_kind (by assumption) (by decide) (by decide) (by decide) | exact tight_kind (by assumption) (by assumption) | omega)) | exact Ends.semis hT (by assumption) | exact Ends.semis hT (Ends.tail (by assumption) hT (by (first | assumption | exact mark_kind (by assumption) (by decide) | exact two_kind (by assumption) (by decide) (by decide) | exact word_kind (by assumption) (by decide) (by decide) (by decide) | exact tight_kind (by assumption) (by assumption) | omega))))) (fun _ _ _ _ => ?_))
    | (refine nd_if (fun _ => ?_) (fun _ => ?_))
theorem run_tot {T : Tok} (hT : T.kind = 0) : ∀ (n : Nat) (r : Rule) (d : Nat) (l : List Tok), Pre r l → Ends T l → 100 * l.length + rank r ≤ n → run n r d l ≠ .dry
  | 0, r, d, l, _, he, hn => by have := he.pos; omega
  | n + 1, r, d, [], _, he, _ => by have := he.pos; simp at this
  | n + 1, r, d, t :: l, hp, he, hn => step_tot hT (run_tot hT n) r d (t :: l) hp he hn
/-- The machine comes to an end, as the grammar says. -/
theorem file_ends {T : Tok} (hT : T.kind = 0) {toks : List Tok} (he : Ends T toks) : ∃ n,
    (∃ t rest, run n .file 0 toks = .ok t rest ∧ mrun (n + 12) .file 0 ⟨toks, 0, 0, 0⟩ = some (t, ⟨rest, 0, 0, 0⟩)) ∨
    (∃ line col e t, run n .file 0 toks = .bad line col e ∧ e ≠ 0 ∧ mrun (n + 12) .file 0 ⟨toks, 0, 0, 0⟩ = some (t, ⟨[T], e, line, col⟩)) := by
  have hd := run_tot hT (100 * toks.length + 50) .file 0 toks True.intro he (Nat.le_refl _)
  refine ⟨100 * toks.length + 50, ?_⟩
  have hs := run_sour hT (100 * toks.length + 50) .file 0 toks True.intro he
  cases h : run (100 * toks.length + 50) .file 0 toks with
  | ok t rest => exact .inl ⟨t, rest, rfl, (hs.ok 0 0 t rest h).1⟩
  | bad line col e =>
    obtain ⟨h1, t, h2⟩ := hs.bad 0 0 line col e h
    exact .inr ⟨line, col, e, t, rfl, h1, h2⟩
  | dry => exact absurd h hd
end Go.Proofs.YtemmdbjcllcelaaDoor.Pa
namespace Go.Proofs.YtemmdbjcllcelaaDoor.Pa
open Go.Proofs.YtemmdbjcllcelaaDoor.Tk (Tok Got Res one push lastEnds Lex LexAll)

theorem one_kind {l : List UInt8} {kind : Nat} {text : List UInt8} {n used : Nat} (h : one l = .tok kind text n used) : kind ≠ 0 := by
  unfold one at h
  cases l with
  | nil => cases h
  | cons b r =>
    simp only at h
    split at h
    · cases h; decide
    · split at h
      · simp only [Got.tok.injEq] at h
        obtain ⟨h, _⟩ := h
        subst h
        split <;> decide
      · split at h
        · split at h
          · cases h
          · cases h; decide
        · split at h
          · split at h
            · cases h
            · cases h; decide
          · split at h
            · cases h
            · cases h; decide
structure Fair (σ : Tk.St) : Prop where
  kinds : ∀ t ∈ σ.out, t.kind ≠ 0
  few : σ.out.length ≤ 4000
theorem push_fair {σ σ' : Tk.St} (h : Fair σ) {kind n used : Nat} {text : List UInt8} (hk : kind ≠ 0) (e : push σ kind text n used = .inl σ') : Fair σ' := by
  unfold push at e
  split at e
  · cases e
  · rename_i hf
    simp only [Sum.inl.injEq] at e
    subst e
    refine ⟨fun t ht => ?_, by have := h.few; simp; omega⟩
    rcases List.mem_append.1 ht with ht | ht
    · exact h.kinds t ht
    · rw [List.mem_singleton.1 ht]; exact hk
theorem push_ok {σ : Tk.St} {kind n used : Nat} {text : List UInt8} {out : List Tok} (e : push σ kind text n used = .inr (.ok out)) : False := by
  unfold push at e
  split at e <;> cases e
theorem step_fair {σ : Tk.St} (h : Fair σ) : (∀ σ', Tk.step σ = .inl σ' → Fair σ') ∧ ∀ out, Tk.step σ = .inr (.ok out) → ∃ T : Tok, T.kind = 0 ∧ Ends T out ∧ out.length ≤ 4001 := by
  unfold Tk.step
  cases hl : σ.l with
  | nil =>
    simp only
    split
    · exact ⟨fun σ' e => push_fair h (by decide) e, fun out e => (push_ok e).elim⟩
    · split
      · exact ⟨fun σ' e => (by cases e), fun out e => (by cases e)⟩
      · refine ⟨fun σ' e => (by cases e), fun out e => ?_⟩
        simp only [Sum.inr.injEq, Res.ok.injEq] at e
        subst e
        exact ⟨_, rfl, ⟨σ.out, rfl, h.kinds⟩, by have := h.few; simp; omega⟩
  | cons b r =>
    simp only
    split
    · split
      · exact ⟨fun σ' e => push_fair h (by decide) e, fun out e => (push_ok e).elim⟩
      · exact ⟨fun σ' e => by simp only [Sum.inl.injEq] at e; subst e; exact ⟨h.kinds, h.few⟩, fun out e => (by cases e)⟩
    · split
      · exact ⟨fun σ' e => by simp only [Sum.inl.injEq] at e; subst e; exact ⟨h.kinds, h.few⟩, fun out e => (by cases e)⟩
      · split
        · exact ⟨fun σ' e => by simp only [Sum.inl.injEq] at e; subst e; exact ⟨h.kinds, h.few⟩, fun out e => (by cases e)⟩
        · cases ho : one (b :: r) with
          | err e0 => exact ⟨fun σ' e => (by cases e), fun out e => (by cases e)⟩
          | tok kind text n used => exact ⟨fun σ' e => push_fair h (one_kind ho) e, fun out e => (push_ok e).elim⟩
theorem runN_fair : ∀ {n : Nat} {σ : Tk.St} {out : List Tok}, Fair σ → Tk.runN n σ = some (.ok out) → ∃ T : Tok, T.kind = 0 ∧ Ends T out ∧ out.length ≤ 4001
  | 0, _, _, _, h => by simp [Tk.runN] at h
  | n + 1, σ, out, hf, h => by
    simp only [Tk.runN] at h
    cases hs : Tk.step σ with
    | inl σ' => rw [hs] at h; exact runN_fair ((step_fair hf).1 σ' hs) h
    | inr r =>
      rw [hs] at h
      simp only [Option.some.injEq] at h
      subst h
      exact (step_fair hf).2 out hs
theorem lex_ends {T : List UInt8} {out : List Tok} (h : LexAll T (.ok out)) : ∃ e : Tok, e.kind = 0 ∧ Ends e out ∧ out.length ≤ 4001 := by
  unfold LexAll at h
  split at h
  · cases h
  · obtain ⟨n, hn⟩ := h
    exact runN_fair ⟨fun t ht => by simp at ht, by simp⟩ hn
theorem Ends.last_iff {T : Tok} (hT : T.kind = 0) {l : List Tok} (h : Ends T l) (j : Nat) (t : Tok) (hj : l[j]? = some t) : t.kind = 0 ↔ j + 1 = l.length := by
  obtain ⟨pre, rfl, hp⟩ := h
  by_cases hlt : j < pre.length
  · rw [List.getElem?_append_left hlt] at hj
    have := hp t (List.mem_of_getElem? hj)
    simp; omega
  · have hj2 := (List.getElem?_eq_some_iff.1 hj).1
    simp only [List.length_append, List.length_cons, List.length_nil] at hj2
    rw [List.getElem?_append_right (by omega), show j - pre.length = 0 by omega] at hj
    simp only [List.getElem?_cons_zero, Option.some.injEq] at hj
    subst hj
    simp [hT]; omega
end Go.Proofs.YtemmdbjcllcelaaDoor.Pa
