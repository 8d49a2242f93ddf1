/-
  Chapter 4's functions on tokens: tokens some lines further down give the same tree, its places so many lines further down.
  turnstoneref3.Same and turnstonelaw4.down: of a tree and of the same one, lines further down, the answer is yes.
-/
import Derived.Test.YtemmdbjcllcelaaDoorPaSpec
import Derived.Test.YtemmdbjcllcelaaDoorPaM
import Derived.Test.YtemmdbjcllcelaaDoorHeld
namespace Go.Proofs.YtemmdbjcllcelaaDoor.Pa
open Go.Proofs.YtemmdbjcllcelaaDoor.Tk (Tok)

def dn (k : Nat → Nat) (t : Tok) : Tok := { t with line := k t.line }
/-- The same tree, so many lines further down. -/
inductive Td (k : Nat → Nat) : Nd → Nd → Prop
  | none_ : Td k none_ none_
  | mk (kind : Nat) (nm : List UInt8) (n l c : Nat) (ks ks' : List Nd) (hl : ks.length = ks'.length) (h : ∀ (i : Nat) (x y : Nd), ks[i]? = some x → ks'[i]? = some y → Td k x y) : Td k (.mk kind nm n l c ks) (.mk kind nm n (k l) c ks')
def Dns (k : Nat → Nat) (l m : List Nd) : Prop := l.length = m.length ∧ ∀ (i : Nat) (x y : Nd), l[i]? = some x → m[i]? = some y → Td k x y
inductive DnL (k : Nat → Nat) : Nd → Nd → Prop
  | mk (l m : List Nd) (h : Dns k l m) : DnL k (lst l) (lst m)
theorem Dns.nil {k : Nat → Nat} : Dns k [] [] := ⟨rfl, fun i x y h => by simp at h⟩
theorem Dns.cons {k : Nat → Nat} {x y : Nd} {l m : List Nd} (h : Td k x y) (t : Dns k l m) : Dns k (x :: l) (y :: m) := ⟨by simp [t.1], fun i a b ha hb => by
  cases i with
  | zero => simp at ha hb; subst ha hb; exact h
  | succ i => simp only [List.getElem?_cons_succ] at ha hb; exact t.2 i a b ha hb⟩
theorem Dns.snoc {k : Nat → Nat} {x y : Nd} {l m : List Nd} (t : Dns k l m) (h : Td k x y) : Dns k (l ++ [x]) (m ++ [y]) := ⟨by simp [t.1], fun i a b ha hb => by
  by_cases hi : i < l.length
  · rw [List.getElem?_append_left hi] at ha
    rw [List.getElem?_append_left (by rw [← t.1]; exact hi)] at hb
    exact t.2 i a b ha hb
  · rw [List.getElem?_append_right (by omega)] at ha
    rw [List.getElem?_append_right (by rw [← t.1]; omega), ← t.1] at hb
    cases hj : i - l.length with
    | zero => rw [hj] at ha hb; simp at ha hb; subst ha hb; exact h
    | succ j => rw [hj] at ha; simp at ha⟩
/-- Answers: a tree, or a row of trees, and what is left. -/
inductive RsDn (k : Nat → Nat) : Bool → Rs → Rs → Prop
  | ok (t u : Nd) (l : List Tok) (h : Td k t u) : RsDn k false (.ok t l) (.ok u (l.map (dn k)))
  | row (a b : List Nd) (l : List Tok) (h : Dns k a b) : RsDn k true (.ok (lst a) l) (.ok (lst b) (l.map (dn k)))
  | bad (q : Bool) (a b c : Nat) : RsDn k q (.bad a b c) (.bad (k a) b c)
  | dry (q : Bool) : RsDn k q .dry .dry
/-- Does a rule answer a row of trees? -/
def rowy : Rule → Bool
  | .lines _ _ | .linesLoop _ _ _ | .braced _ | .listed _ | .listLoop _ _ | .parts _ _ _ => true
  | _ => false
/-- A rule that holds no tree. -/
def plain : Rule → Bool
  | .binLoop _ _ | .postLoop _ | .dotted _ | .indexed _ | .linesLoop _ _ _ | .listLoop _ _ | .parts _ _ _ => false
  | .lines r _ | .braced r | .listed r | .orNone r _ => plain r && !rowy r
  | .built _ ps => ps.all fun p => match p with
    | .expr | .anyType => true
    | _ => false
  | _ => true
def one_ (p : Rule) : Bool := match p with
  | .expr | .anyType => true
  | _ => false
inductive RuDn (k : Nat → Nat) : Rule → Rule → Prop
  | same (r : Rule) (h : plain r = true) : RuDn k r r
  | binLoop (a : Nat) (x y : Nd) (h : Td k x y) : RuDn k (.binLoop a x) (.binLoop a y)
  | postLoop (x y : Nd) (h : Td k x y) : RuDn k (.postLoop x) (.postLoop y)
  | dotted (x y : Nd) (h : Td k x y) : RuDn k (.dotted x) (.dotted y)
  | indexed (x y : Nd) (h : Td k x y) : RuDn k (.indexed x) (.indexed y)
  | linesLoop (r : Rule) (f : Bool) (a b : List Nd) (hr : plain r = true ∧ rowy r = false) (h : Dns k a b) : RuDn k (.linesLoop r f a) (.linesLoop r f b)
  | listLoop (r : Rule) (a b : List Nd) (hr : plain r = true ∧ rowy r = false) (h : Dns k a b) : RuDn k (.listLoop r a) (.listLoop r b)
  | parts (f : Bool) (ps : List Rule) (a b : List Nd) (hr : ps.all one_ = true) (h : Dns k a b) : RuDn k (.parts f ps a) (.parts f ps b)
section
variable {k : Nat → Nat}
theorem mark_dn (l : List Tok) : mark (l.map (dn k)) = mark l := by cases l <;> rfl
theorem hd_kind (l : List Tok) : (hd (l.map (dn k))).kind = (hd l).kind := by cases l <;> rfl
theorem hd_text (l : List Tok) : (hd (l.map (dn k))).text = (hd l).text := by cases l <;> rfl
theorem hd_n (l : List Tok) : (hd (l.map (dn k))).n = (hd l).n := by cases l <;> rfl
theorem tail_dn (l : List Tok) : (l.map (dn k)).tail = l.tail.map (dn k) := by cases l <;> rfl
theorem over_dn (f : Bool) (l : List Tok) : over f (l.map (dn k)) = over f l := by unfold over; rw [hd_kind, mark_dn]
theorem semis_dn : ∀ l : List Tok, semis (l.map (dn k)) = (semis l).map (dn k)
  | [] => rfl
  | t :: l => by
    have hm : mark (dn k t :: l.map (dn k)) = mark (t :: l) := mark_dn (t :: l)
    simp only [List.map_cons, semis]
    rw [hm]
    split
    · exact semis_dn l
    · rfl
theorem fail_dn (q : Bool) (e : Nat) (l : List Tok) : RsDn k q (fail e l) (fail e (l.map (dn k))) := by
  cases l with
  | nil => exact .dry _
  | cons t l => exact .bad _ _ _ _
theorem mark_ne {l : List Tok} {s : List UInt8} (h : mark l = s) (hs : s ≠ []) : l ≠ [] := by
  rintro rfl
  exact hs h.symm
theorem want_dn {q : Bool} {s : List UInt8} {l : List Tok} {f g : List Tok → Rs} (h : ∀ l, RsDn k q (f l) (g (l.map (dn k)))) : RsDn k q (want s l f) (want s (l.map (dn k)) g) := by
  unfold want
  rw [mark_dn, tail_dn]
  split
  · exact h _
  · exact fail_dn _ _ _
theorem name_dn {q : Bool} {l : List Tok} {f g : List UInt8 → List Tok → Rs} (h : l ≠ [] → ∀ s l, RsDn k q (f s l) (g s (l.map (dn k)))) : RsDn k q (name l f) (name (l.map (dn k)) g) := by
  unfold name
  rw [hd_kind, hd_text, tail_dn]
  split
  · rename_i hk
    exact h (by rintro rfl; exact absurd hk (by decide)) _ _
  · exact fail_dn _ _ _
theorem bind_dn {q : Bool} {a b : Rs} {f g : Nd → List Tok → Rs} (h : RsDn k false a b) (hf : ∀ t u l, Td k t u → RsDn k q (f t l) (g u (l.map (dn k)))) : RsDn k q (bind a f) (bind b g) := by
  cases h with
  | ok t u l h => exact hf t u l h
  | bad => exact .bad _ _ _ _
  | dry => exact .dry _
theorem bind_row {q : Bool} {a b : Rs} {f g : Nd → List Tok → Rs} (h : RsDn k true a b) (hf : ∀ x y l, Dns k x y → RsDn k q (f (lst x) l) (g (lst y) (l.map (dn k)))) : RsDn k q (bind a f) (bind b g) := by
  cases h with
  | row x y l h => exact hf x y l h
  | bad => exact .bad _ _ _ _
  | dry => exact .dry _
theorem at_dn {l : List Tok} (hl : l ≠ []) (kind : Nat) (nm : List UInt8) (n : Nat) {ks ks' : List Nd} (h : Dns k ks ks') : Td k (at_ kind l nm n ks) (at_ kind (l.map (dn k)) nm n ks') := by
  cases l with
  | nil => exact absurd rfl hl
  | cons t l => exact .mk _ _ _ _ _ _ _ h.1 h.2
variable {rd : Rule → Nat → List Tok → Rs}
theorem typed_dn (h : ∀ r r' d l, RuDn k r r' → RsDn k (rowy r) (rd r d l) (rd r' d (l.map (dn k)))) (kind d : Nat) {l : List Tok} (hl : l ≠ []) : RsDn k false (typedName rd kind d l) (typedName rd kind d (l.map (dn k))) := by
  unfold typedName
  refine name_dn fun _ nm l1 => bind_dn (h .anyType .anyType d l1 (.same _ rfl)) fun t u l2 ht => .ok _ _ _ (at_dn hl _ _ _ (.cons ht .nil))
theorem Td.kids {x y : Nd} (h : Td k x y) : Dns k x.kids y.kids := by
  cases h with
  | none_ => exact .nil
  | mk _ _ _ _ _ ks ks' hl h => exact ⟨hl, h⟩
set_option maxHeartbeats 4000000 in
theorem step_dn (h : ∀ r r' d l, RuDn k r r' → RsDn k (rowy r) (rd r d l) (rd r' d (l.map (dn k)))) {r r' : Rule} (hr : RuDn k r r') (d : Nat) {l : List Tok} (hl : l ≠ []) :
    RsDn k (rowy r) (step rd r d l) (step rd r' d (l.map (dn k))) := by
  have hs : ∀ r d l, plain r = true → rowy r = false → RsDn k false (rd r d l) (rd r d (l.map (dn k))) := fun r d l hp hq => by
    have := h r r d l (.same r hp)
    rwa [hq] at this
  cases hr with
  | binLoop a x y hx =>
    simp only [step, rowy, mark_dn, tail_dn]
    split
    · exact bind_dn (hs _ _ _ (by rfl) (by rfl)) fun t u l1 ht => h _ _ _ _ (.binLoop _ _ _ (at_dn hl _ _ _ (.cons hx (.cons ht .nil))))
    · exact .ok _ _ _ hx
  | postLoop x y hx =>
    simp only [step, rowy, mark_dn]
    split
    · exact bind_dn (h _ _ _ _ (.dotted _ _ hx)) fun t u l1 ht => h _ _ _ _ (.postLoop _ _ ht)
    · split
      · exact bind_dn (h _ _ _ _ (.indexed _ _ hx)) fun t u l1 ht => h _ _ _ _ (.postLoop _ _ ht)
      · exact .ok _ _ _ hx
  | dotted x y hx =>
    simp only [step, rowy, mark_dn, tail_dn]
    split
    · exact bind_dn (hs _ _ _ (by rfl) (by rfl)) fun t u l1 ht => want_dn fun l2 => .ok _ _ _ (at_dn hl _ _ _ (.cons hx (.cons ht .nil)))
    · refine name_dn fun _ nm l1 => ?_
      simp only [mark_dn]
      split
      · exact bind_row (h (.listed .expr) _ _ _ (.same _ rfl)) fun a b l2 hab => .ok _ _ _ (at_dn hl _ _ _ (.cons hx hab))
      · exact .ok _ _ _ (at_dn hl _ _ _ (.cons hx .nil))
  | indexed x y hx =>
    simp only [step, rowy, tail_dn]
    exact bind_dn (hs _ _ _ (by rfl) (by rfl)) fun t u l1 ht => want_dn fun l2 => .ok _ _ _ (at_dn hl _ _ _ (.cons hx (.cons ht .nil)))
  | linesLoop r f a b hr hab =>
    simp only [step, rowy, over_dn]
    split
    · exact .row _ _ _ hab
    · have hq := h r r d l (.same r hr.1)
      rw [hr.2] at hq
      refine bind_dn hq fun t u l1 ht => ?_
      simp only [over_dn, semis_dn]
      split
      · exact h (.linesLoop r f (a ++ [t])) _ _ _ (.linesLoop _ _ _ _ hr (hab.snoc ht))
      · refine want_dn fun l2 => ?_
        rw [semis_dn]
        exact h (.linesLoop r f (a ++ [t])) _ _ _ (.linesLoop _ _ _ _ hr (hab.snoc ht))
  | listLoop r a b hr hab =>
    simp only [step, rowy, mark_dn, tail_dn]
    split
    · have hq := h r r d l.tail (.same r hr.1)
      rw [hr.2] at hq
      exact bind_dn hq fun t u l1 ht => h (.listLoop r (a ++ [t])) _ _ _ (.listLoop _ _ _ hr (hab.snoc ht))
    · exact want_dn fun l1 => .row _ _ _ hab
  | parts f ps a b hr hab =>
    cases ps with
    | nil => simp only [step, rowy]; exact .row _ _ _ hab
    | cons p ps =>
      rw [List.all_cons, Bool.and_eq_true] at hr
      have hp : plain p = true ∧ rowy p = false := by
        have := hr.1
        unfold one_ at this
        split at this <;> first | exact ⟨rfl, rfl⟩ | cases this
      have hq : ∀ l, RsDn k false (rd p d l) (rd p d (l.map (dn k))) := fun l => by
        have := h p p d l (.same p hp.1)
        rwa [hp.2] at this
      simp only [step, rowy]
      split
      · exact bind_dn (hq l) fun t u l1 ht => h (.parts false ps (a ++ [t])) _ _ _ (.parts _ _ _ _ hr.2 (hab.snoc ht))
      · exact want_dn fun l1 => bind_dn (hq l1) fun t u l2 ht => h (.parts false ps (a ++ [t])) _ _ _ (.parts _ _ _ _ hr.2 (hab.snoc ht))
  | same r hp =>
    cases r with
    | binLoop | postLoop | dotted | indexed | linesLoop | listLoop | parts => exact absurd hp (by simp [plain])
    | lines r f =>
      simp only [plain, Bool.and_eq_true, Bool.not_eq_true'] at hp
      simp only [step, rowy, semis_dn]
      exact h (.linesLoop r f []) _ _ _ (.linesLoop _ _ _ _ hp .nil)
    | braced r =>
      simp only [plain, Bool.and_eq_true, Bool.not_eq_true'] at hp
      simp only [step, rowy]
      exact want_dn fun l1 => bind_row (h (.lines r false) _ _ _ (.same _ (by simp [plain, hp.1, hp.2]))) fun a b l2 hab => want_dn fun l3 => .row _ _ _ hab
    | listed r =>
      simp only [plain, Bool.and_eq_true, Bool.not_eq_true'] at hp
      simp only [step, rowy]
      refine want_dn fun l1 => ?_
      simp only [mark_dn, tail_dn]
      split
      · exact .row _ _ _ .nil
      · have hq := h r r d l1 (.same r hp.1)
        rw [hp.2] at hq
        exact bind_dn hq fun t u l2 ht => h (.listLoop r [t]) _ _ _ (.listLoop _ _ _ hp (.cons ht .nil))
    | orNone r ms =>
      simp only [plain, Bool.and_eq_true, Bool.not_eq_true'] at hp
      simp only [step, rowy, mark_dn]
      split
      · exact .ok _ _ _ .none_
      · have hq := h r r d l (.same r hp.1)
        rwa [hp.2] at hq
    | built kind ps =>
      simp only [step, rowy, tail_dn]
      refine want_dn fun l1 => bind_row (h (.parts true ps []) _ _ _ (.parts _ _ _ _ ?_ .nil)) fun a b l2 hab => want_dn fun l3 => .ok _ _ _ (at_dn hl _ _ _ hab)
      exact hp
    | file => simp only [step, rowy]; exact bind_row (h (.lines .decl true) _ _ _ (.same _ rfl)) fun a b l1 hab => .ok _ _ _ (at_dn hl _ _ _ hab)
    | field => exact typed_dn h 4 d hl
    | param => exact typed_dn h 7 d hl
    | method =>
      simp only [step, rowy]
      exact name_dn fun _ nm l1 => bind_row (h (.listed .anyType) _ _ _ (.same _ rfl)) fun a b l2 hab => bind_dn (h (.orNone .anyType [[59], [125]]) _ _ _ (.same _ rfl)) fun t u l3 ht => .ok _ _ _ (at_dn hl _ _ _ (.cons ht hab))
    | funcDecl =>
      have go : ∀ (x y : Nd) (l1 : List Tok), Td k x y → RsDn k false
          (name l1 fun nm l2 => bind (rd (.listed .param) d l2) fun ps l3 => bind (rd (.orNone .anyType [[123]]) d l3) fun res l4 => bind (rd .block d l4) fun body l5 => .ok (at_ 6 l nm 0 (x :: res :: body :: ps.kids)) l5)
          (name (l1.map (dn k)) fun nm l2 => bind (rd (.listed .param) d l2) fun ps l3 => bind (rd (.orNone .anyType [[123]]) d l3) fun res l4 => bind (rd .block d l4) fun body l5 => .ok (at_ 6 (l.map (dn k)) nm 0 (y :: res :: body :: ps.kids)) l5) := fun x y l1 hxy =>
        name_dn fun _ nm l2 => bind_row (h (.listed .param) _ _ _ (.same _ rfl)) fun a b l3 hab => bind_dn (h (.orNone .anyType [[123]]) _ _ _ (.same _ rfl)) fun t u l4 ht => bind_dn (h .block _ _ _ (.same _ rfl)) fun t2 u2 l5 ht2 =>
          .ok _ _ _ (at_dn hl _ _ _ (.cons hxy (.cons ht (.cons ht2 hab))))
      simp only [step, rowy, mark_dn, tail_dn]
      split
      · exact bind_dn (h .receiver _ _ _ (.same _ rfl)) fun t u l1 ht => go t u l1 ht
      · exact go _ _ _ .none_
    | receiver =>
      simp only [step, rowy]
      exact want_dn fun l1 => name_dn fun h1 nm l2 => name_dn fun h2 tn l3 => want_dn fun l4 => .ok _ _ _ (at_dn h1 _ _ _ (.cons (at_dn h2 _ _ _ .nil) .nil))
    | simple =>
      simp only [step, rowy]
      refine bind_dn (h .expr _ _ _ (.same _ rfl)) fun t u l1 ht => ?_
      simp only [mark_dn, tail_dn]
      split
      · rename_i hm
        exact bind_dn (h .expr _ _ _ (.same _ rfl)) fun t2 u2 l2 ht2 => .ok _ _ _ (at_dn (mark_ne hm (by simp)) _ _ _ (.cons ht (.cons ht2 .nil)))
      · split
        · rename_i hm
          exact bind_dn (h .expr _ _ _ (.same _ rfl)) fun t2 u2 l2 ht2 => .ok _ _ _ (at_dn (mark_ne hm (by simp)) _ _ _ (.cons ht (.cons ht2 .nil)))
        · exact .ok _ _ _ (at_dn hl _ _ _ (.cons ht .nil))
    | _ =>
      simp only [step, rowy, mark_dn, tail_dn, hd_kind, hd_text, hd_n]
      repeat' first
        | exact fail_dn _ _ _
        | exact hs _ _ _ (by rfl) (by rfl)
        | exact .ok _ _ _ (at_dn hl _ _ _ .nil)
        | exact .ok _ _ _ .none_
        | (refine want_dn fun _ => ?_)
        | (refine name_dn fun _ _ _ => ?_)
        | (refine bind_row (h (.listed .expr) _ _ _ (.same _ rfl)) fun _ _ _ _ => ?_)
        | (refine bind_row (h (.braced .method) _ _ _ (.same _ rfl)) fun _ _ _ _ => ?_)
        | (refine bind_row (h (.braced .field) _ _ _ (.same _ rfl)) fun _ _ _ _ => ?_)
        | (refine bind_row (h (.braced .stmt) _ _ _ (.same _ rfl)) fun _ _ _ _ => ?_)
        | (refine bind_dn (hs _ _ _ (by rfl) (by rfl)) fun _ _ _ _ => ?_)
        | exact h _ _ _ _ (.binLoop _ _ _ ‹_›)
        | exact h _ _ _ _ (.postLoop _ _ ‹_›)
        | exact .ok _ _ _ (at_dn hl _ _ _ ‹_›)
        | exact .ok _ _ _ ‹_›
        | exact .ok _ _ _ (at_dn hl _ _ _ (.cons ‹_› .nil))
        | exact .ok _ _ _ (at_dn hl _ _ _ (.cons ‹Td k _ _› (.cons .none_ .nil)))
        | (refine .ok _ _ _ (at_dn hl _ _ _ ?_))
        | (refine Dns.cons ?_ ?_)
        | exact Dns.nil
        | assumption
        | (simp only [mark_dn, tail_dn])
        | split
theorem run_dn : ∀ (n : Nat) {r r' : Rule} (_ : RuDn k r r') (d : Nat) (l : List Tok), RsDn k (rowy r) (run n r d l) (run n r' d (l.map (dn k)))
  | 0, _, _, _, _, _ => .dry _
  | _ + 1, _, _, _, _, [] => .dry _
  | n + 1, _, _, hr, d, t :: l => step_dn (fun _ _ d l hr => run_dn n hr d l) hr d (by simp)
end
end Go.Proofs.YtemmdbjcllcelaaDoor.Pa
namespace Go.Proofs.YtemmdbjcllcelaaDoor.Pa
open Go.RowKit
open Go.Proofs.YtemmdbjcllcelaaDoor.Tk (Tok bs)
set_option maxRecDepth 100000
/-- Lines that stay below a bound: a tree that min turns into itself. -/
abbrev Low_ (B : Nat) (t : Nd) : Prop := Td (fun l => min l B) t t
/-- What the two trees are to one another. -/
structure Tw (k B : Nat) (a b : Nd) : Prop where
  d : Td (fun l => l + k) a b
  low : Low_ B a
theorem dn_kids {g : Nat → Nat} {ka na la ca kb nb lb cb : Nat} {ma mb : List UInt8} {ks ks' : List Nd} (h : Td g (.mk ka ma na la ca ks) (.mk kb mb nb lb cb ks')) : ka = kb ∧ ma = mb ∧ na = nb ∧ ca = cb ∧ ks.length = ks'.length ∧ (lb = g la ∨ ka = 38 ∧ la = 0 ∧ lb = 0) ∧ ∀ (i : Nat) (x y : Nd), ks[i]? = some x → ks'[i]? = some y → Td g x y := by
  cases h with
  | none_ => exact ⟨rfl, rfl, rfl, rfl, rfl, .inr ⟨rfl, rfl, rfl⟩, fun i x y hx _ => by simp at hx⟩
  | mk _ _ _ _ _ _ _ hl hk => exact ⟨rfl, rfl, rfl, rfl, hl, .inl rfl, hk⟩
theorem Tw.kids {k B ka na la ca kb nb lb cb : Nat} {ma mb : List UInt8} {ks ks' : List Nd} (h : Tw k B (.mk ka ma na la ca ks) (.mk kb mb nb lb cb ks')) (i : Nat) (x y : Nd) (hx : ks[i]? = some x) (hy : ks'[i]? = some y) : Tw k B x y :=
  ⟨(dn_kids h.d).2.2.2.2.2.2 i x y hx hy, (dn_kids h.low).2.2.2.2.2.2 i x x hx hx⟩
theorem Tw.line {k B ka na la ca kb nb lb cb : Nat} {ma mb : List UInt8} {ks ks' : List Nd} (h : Tw k B (.mk ka ma na la ca ks) (.mk kb mb nb lb cb ks')) : (lb = la + k ∧ la ≤ B) ∨ ka = 38 := by
  rcases (dn_kids h.d).2.2.2.2.2.1 with e | e
  · rcases (dn_kids h.low).2.2.2.2.2.1 with e2 | e2
    · exact .inl ⟨e, by have e2 : la = min la B := e2; omega⟩
    · exact .inr e2.1
  · exact .inr e.1
set_option maxHeartbeats 4000000 in
theorem same_dn {k B : Nat} : ∀ (N : Nat) (a b : Nd), SizeOf.sizeOf a < N → Tw k B a b → ∀ (w : World) (ca cb : List Value) (Ga Gb : Nat → Prop), NdC w Ga a ca → NdC w Gb b cb →
    Calls Tryd.prog 10 #[.agg ca.toArray, .agg cb.toArray] w fun e w' => e = .returned (.bool true) ∧ Up w w'
  | 0, _, _, h, _ => by omega
  | N + 1, .mk kd nm nn al co ks, .mk kd2 nm2 nn2 bl co2 ks2, hN, h => by
    intro w va vb Ga Gb ha hb
    obtain ⟨e1, e2, e3, e4, e5, _⟩ := dn_kids h.d
    have hln := h.line
    obtain ⟨A, ac, rfl, hka⟩ := ha.row
    obtain ⟨B2, bc, rfl, hkb⟩ := hb.row
    subst e1 e2 e3 e4
    rw [← e5]
    have V := ((Fr.refl (fun _ => False) w).alloc (.cells #[.int .i64 kd, .string (bs nm), .int .i64 nn, .int .i64 al, .int .i64 co, .slice A ks.length ac] 27)).alloc (.cells #[.int .i64 kd, .string (bs nm), .int .i64 nn, .int .i64 bl, .int .i64 co, .slice B2 ks.length bc] 27)
    have KA := Lib.hid (KidsP.kept hka V (fun _ _ e => e) (fun _ h => h))
    have KB := Lib.hid (KidsP.kept hkb V (fun _ _ e => e) (fun _ h => h))
    have X2 := Lib.hid ((Below.heap_alloc (w.alloc (.cells #[.int .i64 kd, .string (bs nm), .int .i64 nn, .int .i64 al, .int .i64 co, .slice A ks.length ac] 27)) (.cells #[.int .i64 kd, .string (bs nm), .int .i64 nn, .int .i64 bl, .int .i64 co, .slice B2 ks.length bc] 27) w.heap.size (by simp)).trans (heap_alloc_new w _))
    have x3 := heap_alloc_new (w.alloc (.cells #[.int .i64 kd, .string (bs nm), .int .i64 nn, .int .i64 al, .int .i64 co, .slice A ks.length ac] 27)) (.cells #[.int .i64 kd, .string (bs nm), .int .i64 nn, .int .i64 bl, .int .i64 co, .slice B2 ks.length bc] 27)
    rw [World.size_alloc] at x3
    have X3 := Lib.hid x3
    have VV := Lib.hid V
    have E5 := Lib.hid e5
    have TW := Lib.hid h
    have HN := Lib.hid hN
    have IH := Lib.hid (fun (a b : Nd) (h1 : SizeOf.sizeOf a < N) (h2 : Tw k B a b) => same_dn N a b h1 h2)
    have LN := Lib.hid hln
    have big := hka.big
    have lec := hka.le
    obtain ⟨n, hn⟩ : ∃ n, n = ks.length := ⟨_, rfl⟩
    have NL := Lib.hid hn
    rw [← hn] at lec KA KB X2 X3 VV ⊢
    have n0 : (0 : Int) ≤ n := Int.natCast_nonneg n
    clear ha hb hka hkb h e5 hN hn V x3 hln
    go_enter Tryd.func10, Tryd.ntmps10
    obtain ⟨a0, a1, a2, a3, a4, a5⟩ := cells6 X2.out
    obtain ⟨c0, c1, c2, c3, c4, c5⟩ := cells6 X3.out
    go_wp2_with fail
    obtain ⟨b2, eb2⟩ : ∃ q, q = w.heap.size := ⟨_, rfl⟩
    rw [← eb2] at X2 X3 ⊢
    obtain ⟨b3, eb3⟩ : ∃ q, q = b2 + 1 := ⟨_, rfl⟩
    rw [← eb3] at X3 ⊢
    clear a0 a1 a2 a3 a4 a5 c0 c1 c2 c3 c4 c5 eb2 eb3
    generalize (World.alloc (World.alloc w _) _) = w2 at *
    go_loopw [5] (fun iv wr => ∃ i : Nat, iv = .int .i64 i ∧ i ≤ n ∧ Hid (Up w2 wr)) (fun iv _ => n - ixOf iv)
    case atStart => exact ⟨0, rfl, Nat.zero_le _, Lib.hid (Fr.refl _ _)⟩
    case round =>
      obtain ⟨i, rfl, hin, hu⟩ := hrel
      have i0 : (0 : Int) ≤ i := Int.natCast_nonneg i
      have Y2 := Lib.hid ((hu.out.block b2 (heap_lt X2.out) (fun e => e)).trans X2.out)
      have Y3 := Lib.hid ((hu.out.block b3 (heap_lt X3.out) (fun e => e)).trans X3.out)
      by_cases hlt : i < n
      · have d1 : decide ((i : Int) < (n : Int)) = true := decide_eq_true (by omega)
        have l1 : (i : Int) < (n : Int) := by omega
        have hil : i < ks.length := by have := NL.out; omega
        have hil2 : i < ks2.length := by have := E5.out; omega
        obtain ⟨xb, xo, rfl, -, xlt, xall⟩ := KA.out.at_ (fun e => by rw [e] at hil; simp at hil)
        obtain ⟨yb, yo, rfl, -, ylt, yall⟩ := KB.out.at_ (fun e => by rw [e] at hil2; simp at hil2)
        obtain ⟨xs, hx, hxs, xc⟩ := xall i _ (List.getElem?_eq_getElem hil)
        obtain ⟨ys, hy, hys, yc⟩ := yall i _ (List.getElem?_eq_getElem hil2)
        have TK := Lib.hid (TW.out.kids i _ _ (List.getElem?_eq_getElem hil) (List.getElem?_eq_getElem hil2))
        have SZ := Lib.hid (show SizeOf.sizeOf ks[i] < N from by have h1 := List.sizeOf_lt_of_mem (List.getElem_mem hil); have h2 := HN.out; simp only [Nd.mk.sizeOf_spec] at h2; omega)
        have XC := Lib.hid (fun (j : Nat) (u : Value) (h : xs[j]? = some u) => (hu.out.cell (p := ⟨xb, xo + i * 6 + j, none⟩) xlt (fun e => e)).trans (xc j u h))
        have YC := Lib.hid (fun (j : Nat) (u : Value) (h : ys[j]? = some u) => (hu.out.cell (p := ⟨yb, yo + i * 6 + j, none⟩) ylt (fun e => e)).trans (yc j u h))
        have NX := Lib.hid (hx.kept hu.out (fun _ _ e => e) (fun _ h => h))
        have NY := Lib.hid (hy.kept hu.out (fun _ _ e => e) (fun _ h => h))
        generalize ks[i] = xt at *
        generalize ks2[i] = yt at *
        obtain ⟨xk, xm, xn, xl, xq, xks⟩ := xt
        obtain ⟨yk, ym, yn, yl, yq, yks⟩ := yt
        obtain ⟨xA, xcc, rfl, -⟩ := NX.out.row
        obtain ⟨yA, ycc, rfl, -⟩ := NY.out.row
        have hia : ∀ w, (Instr.indexAt 25 (.slice (some ⟨xb, xo, none⟩) n ac) (.int .i64 i)).run Tryd.prog w = .ok (.pointer (some ⟨xb, xo + i * 6, none⟩)) w := by
          intro w
          rw [run_indexAt_slice (h := by kernel_rfl), if_pos ⟨i0, l1⟩, show (sizeOf (Tryd.prog.elem 25)).run Tryd.prog w = .ok 6 w from by kernel_rfl]
          simp [Result.andThen, Addr.add]
        have hib : ∀ w, (Instr.indexAt 25 (.slice (some ⟨yb, yo, none⟩) n bc) (.int .i64 i)).run Tryd.prog w = .ok (.pointer (some ⟨yb, yo + i * 6, none⟩)) w := by
          intro w
          rw [run_indexAt_slice (h := by kernel_rfl), if_pos ⟨i0, l1⟩, show (sizeOf (Tryd.prog.elem 25)).run Tryd.prog w = .ok 6 w from by kernel_rfl]
          simp [Result.andThen, Addr.add]
        clear hil hil2 xlt xall ylt yall hx hxs xc hy hys yc
        obtain ⟨f0, f1, f2, f3, f4, f5⟩ := cells6 Y2.out
        obtain ⟨h0, h1, h2, h3, h4, h5⟩ := cells6 Y3.out
        go_upto_region 6 with fail
        clear f0 f1 f2 f3 f4 f5 h0 h1 h2 h3 h4 h5
        refine wp_region_held_drew (S := fun W => W.heap[b2]? = some (.cells #[.int .i64 kd, .string (bs nm), .int .i64 nn, .int .i64 al, .int .i64 co, .slice (some ⟨xb, xo, none⟩) n ac] 27 (0, 0)) ∧ W.heap[b3]? = some (.cells #[.int .i64 kd, .string (bs nm), .int .i64 nn, .int .i64 bl, .int .i64 co, .slice (some ⟨yb, yo, none⟩) n bc] 27 (0, 0)) ∧ (∀ (j : Nat) (u : Value), [.int .i64 xk, .string (bs xm), .int .i64 xn, .int .i64 xl, .int .i64 xq, .slice xA xks.length xcc][j]? = some u → W.cell? ⟨xb, xo + i * 6 + j, none⟩ = some u) ∧ ∀ (j : Nat) (u : Value), [.int .i64 yk, .string (bs ym), .int .i64 yn, .int .i64 yl, .int .i64 yq, .slice yA yks.length ycc][j]? = some u → W.cell? ⟨yb, yo + i * 6 + j, none⟩ = some u) (by kernel_rfl) (by exact ⟨Y2.out, Y3.out, XC.out, YC.out⟩) (fun hHeld => ?_)
        have UD := Lib.hid (hu.out.drew)
        have NXD := Lib.hid (NX.out.kept ((Fr.refl (fun _ => False) wr).drew) (fun _ _ e => e) (fun _ h => h))
        have NYD := Lib.hid (NY.out.kept ((Fr.refl (fun _ => False) wr).drew) (fun _ _ e => e) (fun _ h => h))
        clear NX NY XC YC Y2 Y3
        generalize wr.drew = wd at *
        refine held_take (i := 0) (d := some 41) (v := ?_) rfl rfl (by kernel_rfl) (by kernel_rfl) (by kernel_rfl) (fun _ _ _ h => h) (by rfl) ?_ (by assumption) ?_
        rotate_left 1
        focus (intro w hSw; (try dsimp only at hSw); go_simp; first | done | with_reducible rfl)
        simp only [Act.put, List.setIfInBounds_toArray, List.set_cons_zero, List.set_cons_succ]
        refine held_take (i := 1) (d := some 42) (v := ?_) rfl rfl (by kernel_rfl) (by kernel_rfl) (by kernel_rfl) (fun _ _ _ h => h) (by rfl) ?_ (by assumption) ?_
        rotate_left 1
        focus (intro w hSw; obtain ⟨k0, k1, k2, k3, k4, k5⟩ := cells6 hSw.1; (try dsimp only at hSw); go_simp; first | done | with_reducible rfl)
        simp only [Act.put, List.setIfInBounds_toArray, List.set_cons_zero, List.set_cons_succ]
        refine held_take (i := 2) (d := some 43) (v := ?_) rfl rfl (by kernel_rfl) (by kernel_rfl) (by kernel_rfl) (fun _ _ _ h => h) (by rfl) ?_ (by assumption) ?_
        rotate_left 1
        focus (intro w hSw; (try dsimp only at hSw); go_simp; first | done | with_reducible rfl)
        simp only [Act.put, List.setIfInBounds_toArray, List.set_cons_zero, List.set_cons_succ]
        refine held_take (i := 3) (d := some 44) (v := ?_) rfl rfl (by kernel_rfl) (by kernel_rfl) (by kernel_rfl) (fun _ _ _ h => h) (by rfl) ?_ (by assumption) ?_
        rotate_left 1
        focus (intro w hSw; have q := hia w; (try dsimp only at hSw); go_simp; first | done | with_reducible rfl)
        simp only [Act.put, List.setIfInBounds_toArray, List.set_cons_zero, List.set_cons_succ]
        refine held_take (i := 4) (d := some 45) (v := ?_) rfl rfl (by kernel_rfl) (by kernel_rfl) (by kernel_rfl) (fun _ _ _ h => h) (by rfl) ?_ (by assumption) ?_
        rotate_left 1
        focus (intro w hSw; have k0 := hSw.2.2.1 0 _ rfl; have k1 := hSw.2.2.1 1 _ rfl; have k2 := hSw.2.2.1 2 _ rfl; have k3 := hSw.2.2.1 3 _ rfl; have k4 := hSw.2.2.1 4 _ rfl; have k5 := hSw.2.2.1 5 _ rfl; rw [Nat.add_zero] at k0; (try dsimp only at hSw); go_simp; first | done | with_reducible rfl)
        simp only [Act.put, List.setIfInBounds_toArray, List.set_cons_zero, List.set_cons_succ]
        refine held_take (i := 5) (d := some 46) (v := ?_) rfl rfl (by kernel_rfl) (by kernel_rfl) (by kernel_rfl) (fun _ _ _ h => h) (by rfl) ?_ (by assumption) ?_
        rotate_left 1
        focus (intro w hSw; (try dsimp only at hSw); go_simp; first | done | with_reducible rfl)
        simp only [Act.put, List.setIfInBounds_toArray, List.set_cons_zero, List.set_cons_succ]
        refine held_take (i := 6) (d := some 47) (v := ?_) rfl rfl (by kernel_rfl) (by kernel_rfl) (by kernel_rfl) (fun _ _ _ h => h) (by rfl) ?_ (by assumption) ?_
        rotate_left 1
        focus (intro w hSw; obtain ⟨k0, k1, k2, k3, k4, k5⟩ := cells6 hSw.2.1; (try dsimp only at hSw); go_simp; first | done | with_reducible rfl)
        simp only [Act.put, List.setIfInBounds_toArray, List.set_cons_zero, List.set_cons_succ]
        refine held_take (i := 7) (d := some 48) (v := ?_) rfl rfl (by kernel_rfl) (by kernel_rfl) (by kernel_rfl) (fun _ _ _ h => h) (by rfl) ?_ (by assumption) ?_
        rotate_left 1
        focus (intro w hSw; (try dsimp only at hSw); go_simp; first | done | with_reducible rfl)
        simp only [Act.put, List.setIfInBounds_toArray, List.set_cons_zero, List.set_cons_succ]
        refine held_take (i := 8) (d := some 49) (v := ?_) rfl rfl (by kernel_rfl) (by kernel_rfl) (by kernel_rfl) (fun _ _ _ h => h) (by rfl) ?_ (by assumption) ?_
        rotate_left 1
        focus (intro w hSw; have q := hib w; (try dsimp only at hSw); go_simp; first | done | with_reducible rfl)
        simp only [Act.put, List.setIfInBounds_toArray, List.set_cons_zero, List.set_cons_succ]
        refine held_take (i := 9) (d := some 50) (v := ?_) rfl rfl (by kernel_rfl) (by kernel_rfl) (by kernel_rfl) (fun _ _ _ h => h) (by rfl) ?_ (by assumption) ?_
        rotate_left 1
        focus (intro w hSw; have k0 := hSw.2.2.2 0 _ rfl; have k1 := hSw.2.2.2 1 _ rfl; have k2 := hSw.2.2.2 2 _ rfl; have k3 := hSw.2.2.2 3 _ rfl; have k4 := hSw.2.2.2 4 _ rfl; have k5 := hSw.2.2.2 5 _ rfl; rw [Nat.add_zero] at k0; (try dsimp only at hSw); go_simp; first | done | with_reducible rfl)
        simp only [Act.put, List.setIfInBounds_toArray, List.set_cons_zero, List.set_cons_succ]
        refine wpAnyH_ready (rs := [10]) (by kernel_rfl) (by simp) ?_
        refine (AllReadyH.cons (o := _) rfl (fun K hK => ?_) AllReadyH.nil)
        go_simp
        refine (IH.out _ _ SZ.out TK.out wd _ _ _ _ NXD.out NYD.out).mono ?_
        rintro e w7 ⟨rfl, u7⟩
        have U7 := Lib.hid (Fr.trans UD.out u7 (fun _ _ e => e))
        have HH := Lib.hid hHeld
        go_simp
        refine hK.out _ _ (by exact ⟨(u7.block b2 (heap_lt HH.out.1) (fun e => e)).trans HH.out.1, (u7.block b3 (heap_lt HH.out.2.1) (fun e => e)).trans HH.out.2.1, fun j u hj => (u7.cell (p := ⟨xb, xo + i * 6 + j, none⟩) (World.block_lt_of_cell? wd _ (HH.out.2.2.1 j u hj)) (fun e => e)).trans (HH.out.2.2.1 j u hj), fun j u hj => (u7.cell (p := ⟨yb, yo + i * 6 + j, none⟩) (World.block_lt_of_cell? wd _ (HH.out.2.2.2 j u hj)) (fun e => e)).trans (HH.out.2.2.2 j u hj)⟩) (fun hHeld2 => ?_)
        clear hK K u7 hHeld
        refine held_take (i := 11) (d := some 52) (v := ?_) rfl rfl (by kernel_rfl) (by kernel_rfl) (by kernel_rfl) (fun _ _ _ h => h) (by rfl) ?_ (by assumption) ?_
        rotate_left 1
        focus (intro w hSw; (try dsimp only at hSw); go_simp; first | done | with_reducible rfl)
        simp only [Act.put, List.setIfInBounds_toArray, List.set_cons_zero, List.set_cons_succ]
        refine wpAnyH_done (by kernel_rfl) ?_ _
        clear hHeld2 HH
        go_wp2_with fail
        exact ⟨⟨i + 1, by push_cast; rfl, by omega, Lib.hid U7.out⟩, by have e9 : ixOf (.int .i64 ((i : Int) + 1)) = i + 1 := (by show ((i : Int) + 1).toNat = i + 1; omega); have e8 : ixOf (.int .i64 (i : Int)) = i := (by show ((i : Int)).toNat = i; omega); rw [e9, e8]; omega⟩
      · have d1 : decide ((i : Int) < (n : Int)) = false := decide_eq_false (by omega)
        have l1 : ¬ (i : Int) < (n : Int) := by omega
        obtain ⟨f0, f1, f2, f3, f4, f5⟩ := cells6 Y2.out
        have UU := Lib.hid (Fr.trans VV.out hu.out (fun _ _ e => e))
        go_wp2_with fail
        go_ret
        exact ⟨rfl, UU.out⟩
set_option maxHeartbeats 4000000 in
theorem down_dn {k B : Nat} (hB : B ≤ 1000000) (hk : k ≤ 1000) : ∀ (N : Nat) (a b : Nd), SizeOf.sizeOf a < N → Tw k B a b → ∀ (w : World) (ca cb : List Value) (Ga Gb : Nat → Prop), NdC w Ga a ca → NdC w Gb b cb →
    Calls Tryd.prog 11 #[.agg ca.toArray, .agg cb.toArray, .int .i64 k] w fun e w' => e = .returned (.bool true) ∧ Up w w'
  | 0, _, _, h, _ => by omega
  | N + 1, .mk kd nm nn al co ks, .mk kd2 nm2 nn2 bl co2 ks2, hN, h => by
    intro w va vb Ga Gb ha hb
    obtain ⟨e1, e2, e3, e4, e5, _⟩ := dn_kids h.d
    have hln := h.line
    obtain ⟨A, ac, rfl, hka⟩ := ha.row
    obtain ⟨B2, bc, rfl, hkb⟩ := hb.row
    subst e1 e2 e3 e4
    rw [← e5]
    have V := ((Fr.refl (fun _ => False) w).alloc (.cells #[.int .i64 kd, .string (bs nm), .int .i64 nn, .int .i64 al, .int .i64 co, .slice A ks.length ac] 27)).alloc (.cells #[.int .i64 kd, .string (bs nm), .int .i64 nn, .int .i64 bl, .int .i64 co, .slice B2 ks.length bc] 27)
    have KA := Lib.hid (KidsP.kept hka V (fun _ _ e => e) (fun _ h => h))
    have KB := Lib.hid (KidsP.kept hkb V (fun _ _ e => e) (fun _ h => h))
    have X2 := Lib.hid ((Below.heap_alloc (w.alloc (.cells #[.int .i64 kd, .string (bs nm), .int .i64 nn, .int .i64 al, .int .i64 co, .slice A ks.length ac] 27)) (.cells #[.int .i64 kd, .string (bs nm), .int .i64 nn, .int .i64 bl, .int .i64 co, .slice B2 ks.length bc] 27) w.heap.size (by simp)).trans (heap_alloc_new w _))
    have x3 := heap_alloc_new (w.alloc (.cells #[.int .i64 kd, .string (bs nm), .int .i64 nn, .int .i64 al, .int .i64 co, .slice A ks.length ac] 27)) (.cells #[.int .i64 kd, .string (bs nm), .int .i64 nn, .int .i64 bl, .int .i64 co, .slice B2 ks.length bc] 27)
    rw [World.size_alloc] at x3
    have X3 := Lib.hid x3
    have VV := Lib.hid V
    have E5 := Lib.hid e5
    have TW := Lib.hid h
    have HN := Lib.hid hN
    have IH := Lib.hid (fun (a b : Nd) (h1 : SizeOf.sizeOf a < N) (h2 : Tw k B a b) => down_dn hB hk N a b h1 h2)
    have LN := Lib.hid hln
    have big := hka.big
    have lec := hka.le
    obtain ⟨n, hn⟩ : ∃ n, n = ks.length := ⟨_, rfl⟩
    have NL := Lib.hid hn
    rw [← hn] at lec KA KB X2 X3 VV ⊢
    have n0 : (0 : Int) ≤ n := Int.natCast_nonneg n
    clear ha hb hka hkb h e5 hN hn V x3 hln
    by_cases h38 : kd = 38
    · subst h38
      go_enter Tryd.func11, Tryd.ntmps11
      obtain ⟨a0, a1, a2, a3, a4, a5⟩ := cells6 X2.out
      obtain ⟨c0, c1, c2, c3, c4, c5⟩ := cells6 X3.out
      go_wp2_with fail
      obtain ⟨b2, eb2⟩ : ∃ q, q = w.heap.size := ⟨_, rfl⟩
      rw [← eb2] at X2 X3 ⊢
      obtain ⟨b3, eb3⟩ : ∃ q, q = b2 + 1 := ⟨_, rfl⟩
      rw [← eb3] at X3 ⊢
      clear a0 a1 a2 a3 a4 a5 c0 c1 c2 c3 c4 c5 eb2 eb3
      generalize (World.alloc (World.alloc w _) _) = w2 at *
      go_loopw [7] (fun iv wr => ∃ i : Nat, iv = .int .i64 i ∧ i ≤ n ∧ Hid (Up w2 wr)) (fun iv _ => n - ixOf iv)
      case atStart => exact ⟨0, rfl, Nat.zero_le _, Lib.hid (Fr.refl _ _)⟩
      case round =>
        obtain ⟨i, rfl, hin, hu⟩ := hrel
        have i0 : (0 : Int) ≤ i := Int.natCast_nonneg i
        have Y2 := Lib.hid ((hu.out.block b2 (heap_lt X2.out) (fun e => e)).trans X2.out)
        have Y3 := Lib.hid ((hu.out.block b3 (heap_lt X3.out) (fun e => e)).trans X3.out)
        by_cases hlt : i < n
        · have d1 : decide ((i : Int) < (n : Int)) = true := decide_eq_true (by omega)
          have l1 : (i : Int) < (n : Int) := by omega
          have hil : i < ks.length := by have := NL.out; omega
          have hil2 : i < ks2.length := by have := E5.out; omega
          obtain ⟨xb, xo, rfl, -, xlt, xall⟩ := KA.out.at_ (fun e => by rw [e] at hil; simp at hil)
          obtain ⟨yb, yo, rfl, -, ylt, yall⟩ := KB.out.at_ (fun e => by rw [e] at hil2; simp at hil2)
          obtain ⟨xs, hx, hxs, xc⟩ := xall i _ (List.getElem?_eq_getElem hil)
          obtain ⟨ys, hy, hys, yc⟩ := yall i _ (List.getElem?_eq_getElem hil2)
          have TK := Lib.hid (TW.out.kids i _ _ (List.getElem?_eq_getElem hil) (List.getElem?_eq_getElem hil2))
          have SZ := Lib.hid (show SizeOf.sizeOf ks[i] < N from by have h1 := List.sizeOf_lt_of_mem (List.getElem_mem hil); have h2 := HN.out; simp only [Nd.mk.sizeOf_spec] at h2; omega)
          have XC := Lib.hid (fun (j : Nat) (u : Value) (h : xs[j]? = some u) => (hu.out.cell (p := ⟨xb, xo + i * 6 + j, none⟩) xlt (fun e => e)).trans (xc j u h))
          have YC := Lib.hid (fun (j : Nat) (u : Value) (h : ys[j]? = some u) => (hu.out.cell (p := ⟨yb, yo + i * 6 + j, none⟩) ylt (fun e => e)).trans (yc j u h))
          have NX := Lib.hid (hx.kept hu.out (fun _ _ e => e) (fun _ h => h))
          have NY := Lib.hid (hy.kept hu.out (fun _ _ e => e) (fun _ h => h))
          generalize ks[i] = xt at *
          generalize ks2[i] = yt at *
          obtain ⟨xk, xm, xn, xl, xq, xks⟩ := xt
          obtain ⟨yk, ym, yn, yl, yq, yks⟩ := yt
          obtain ⟨xA, xcc, rfl, -⟩ := NX.out.row
          obtain ⟨yA, ycc, rfl, -⟩ := NY.out.row
          have hia : ∀ w, (Instr.indexAt 25 (.slice (some ⟨xb, xo, none⟩) n ac) (.int .i64 i)).run Tryd.prog w = .ok (.pointer (some ⟨xb, xo + i * 6, none⟩)) w := by
            intro w
            rw [run_indexAt_slice (h := by kernel_rfl), if_pos ⟨i0, l1⟩, show (sizeOf (Tryd.prog.elem 25)).run Tryd.prog w = .ok 6 w from by kernel_rfl]
            simp [Result.andThen, Addr.add]
          have hib : ∀ w, (Instr.indexAt 25 (.slice (some ⟨yb, yo, none⟩) n bc) (.int .i64 i)).run Tryd.prog w = .ok (.pointer (some ⟨yb, yo + i * 6, none⟩)) w := by
            intro w
            rw [run_indexAt_slice (h := by kernel_rfl), if_pos ⟨i0, l1⟩, show (sizeOf (Tryd.prog.elem 25)).run Tryd.prog w = .ok 6 w from by kernel_rfl]
            simp [Result.andThen, Addr.add]
          clear hil hil2 xlt xall ylt yall hx hxs xc hy hys yc
          obtain ⟨f0, f1, f2, f3, f4, f5⟩ := cells6 Y2.out
          obtain ⟨h0, h1, h2, h3, h4, h5⟩ := cells6 Y3.out
          go_upto_region 6 with fail
          clear f0 f1 f2 f3 f4 f5 h0 h1 h2 h3 h4 h5
          refine wp_region_held_drew (S := fun W => W.heap[b2]? = some (.cells #[.int .i64 38, .string (bs nm), .int .i64 nn, .int .i64 al, .int .i64 co, .slice (some ⟨xb, xo, none⟩) n ac] 27 (0, 0)) ∧ W.heap[b3]? = some (.cells #[.int .i64 38, .string (bs nm), .int .i64 nn, .int .i64 bl, .int .i64 co, .slice (some ⟨yb, yo, none⟩) n bc] 27 (0, 0)) ∧ (∀ (j : Nat) (u : Value), [.int .i64 xk, .string (bs xm), .int .i64 xn, .int .i64 xl, .int .i64 xq, .slice xA xks.length xcc][j]? = some u → W.cell? ⟨xb, xo + i * 6 + j, none⟩ = some u) ∧ ∀ (j : Nat) (u : Value), [.int .i64 yk, .string (bs ym), .int .i64 yn, .int .i64 yl, .int .i64 yq, .slice yA yks.length ycc][j]? = some u → W.cell? ⟨yb, yo + i * 6 + j, none⟩ = some u) (by kernel_rfl) (by exact ⟨Y2.out, Y3.out, XC.out, YC.out⟩) (fun hHeld => ?_)
          have UD := Lib.hid (hu.out.drew)
          have NXD := Lib.hid (NX.out.kept ((Fr.refl (fun _ => False) wr).drew) (fun _ _ e => e) (fun _ h => h))
          have NYD := Lib.hid (NY.out.kept ((Fr.refl (fun _ => False) wr).drew) (fun _ _ e => e) (fun _ h => h))
          clear NX NY XC YC Y2 Y3
          generalize wr.drew = wd at *
          refine held_take (i := 0) (d := some 43) (v := ?_) rfl rfl (by kernel_rfl) (by kernel_rfl) (by kernel_rfl) (fun _ _ _ h => h) (by rfl) ?_ (by assumption) ?_
          rotate_left 1
          focus (intro w hSw; (try dsimp only at hSw); go_simp; first | done | with_reducible rfl)
          simp only [Act.put, List.setIfInBounds_toArray, List.set_cons_zero, List.set_cons_succ]
          refine held_take (i := 1) (d := some 44) (v := ?_) rfl rfl (by kernel_rfl) (by kernel_rfl) (by kernel_rfl) (fun _ _ _ h => h) (by rfl) ?_ (by assumption) ?_
          rotate_left 1
          focus (intro w hSw; obtain ⟨k0, k1, k2, k3, k4, k5⟩ := cells6 hSw.1; (try dsimp only at hSw); go_simp; first | done | with_reducible rfl)
          simp only [Act.put, List.setIfInBounds_toArray, List.set_cons_zero, List.set_cons_succ]
          refine held_take (i := 2) (d := some 45) (v := ?_) rfl rfl (by kernel_rfl) (by kernel_rfl) (by kernel_rfl) (fun _ _ _ h => h) (by rfl) ?_ (by assumption) ?_
          rotate_left 1
          focus (intro w hSw; (try dsimp only at hSw); go_simp; first | done | with_reducible rfl)
          simp only [Act.put, List.setIfInBounds_toArray, List.set_cons_zero, List.set_cons_succ]
          refine held_take (i := 3) (d := some 46) (v := ?_) rfl rfl (by kernel_rfl) (by kernel_rfl) (by kernel_rfl) (fun _ _ _ h => h) (by rfl) ?_ (by assumption) ?_
          rotate_left 1
          focus (intro w hSw; have q := hia w; (try dsimp only at hSw); go_simp; first | done | with_reducible rfl)
          simp only [Act.put, List.setIfInBounds_toArray, List.set_cons_zero, List.set_cons_succ]
          refine held_take (i := 4) (d := some 47) (v := ?_) rfl rfl (by kernel_rfl) (by kernel_rfl) (by kernel_rfl) (fun _ _ _ h => h) (by rfl) ?_ (by assumption) ?_
          rotate_left 1
          focus (intro w hSw; have k0 := hSw.2.2.1 0 _ rfl; have k1 := hSw.2.2.1 1 _ rfl; have k2 := hSw.2.2.1 2 _ rfl; have k3 := hSw.2.2.1 3 _ rfl; have k4 := hSw.2.2.1 4 _ rfl; have k5 := hSw.2.2.1 5 _ rfl; rw [Nat.add_zero] at k0; (try dsimp only at hSw); go_simp; first | done | with_reducible rfl)
          simp only [Act.put, List.setIfInBounds_toArray, List.set_cons_zero, List.set_cons_succ]
          refine held_take (i := 5) (d := some 48) (v := ?_) rfl rfl (by kernel_rfl) (by kernel_rfl) (by kernel_rfl) (fun _ _ _ h => h) (by rfl) ?_ (by assumption) ?_
          rotate_left 1
          focus (intro w hSw; (try dsimp only at hSw); go_simp; first | done | with_reducible rfl)
          simp only [Act.put, List.setIfInBounds_toArray, List.set_cons_zero, List.set_cons_succ]
          refine held_take (i := 6) (d := some 49) (v := ?_) rfl rfl (by kernel_rfl) (by kernel_rfl) (by kernel_rfl) (fun _ _ _ h => h) (by rfl) ?_ (by assumption) ?_
          rotate_left 1
          focus (intro w hSw; obtain ⟨k0, k1, k2, k3, k4, k5⟩ := cells6 hSw.2.1; (try dsimp only at hSw); go_simp; first | done | with_reducible rfl)
          simp only [Act.put, List.setIfInBounds_toArray, List.set_cons_zero, List.set_cons_succ]
          refine held_take (i := 7) (d := some 50) (v := ?_) rfl rfl (by kernel_rfl) (by kernel_rfl) (by kernel_rfl) (fun _ _ _ h => h) (by rfl) ?_ (by assumption) ?_
          rotate_left 1
          focus (intro w hSw; (try dsimp only at hSw); go_simp; first | done | with_reducible rfl)
          simp only [Act.put, List.setIfInBounds_toArray, List.set_cons_zero, List.set_cons_succ]
          refine held_take (i := 8) (d := some 51) (v := ?_) rfl rfl (by kernel_rfl) (by kernel_rfl) (by kernel_rfl) (fun _ _ _ h => h) (by rfl) ?_ (by assumption) ?_
          rotate_left 1
          focus (intro w hSw; have q := hib w; (try dsimp only at hSw); go_simp; first | done | with_reducible rfl)
          simp only [Act.put, List.setIfInBounds_toArray, List.set_cons_zero, List.set_cons_succ]
          refine held_take (i := 9) (d := some 52) (v := ?_) rfl rfl (by kernel_rfl) (by kernel_rfl) (by kernel_rfl) (fun _ _ _ h => h) (by rfl) ?_ (by assumption) ?_
          rotate_left 1
          focus (intro w hSw; have k0 := hSw.2.2.2 0 _ rfl; have k1 := hSw.2.2.2 1 _ rfl; have k2 := hSw.2.2.2 2 _ rfl; have k3 := hSw.2.2.2 3 _ rfl; have k4 := hSw.2.2.2 4 _ rfl; have k5 := hSw.2.2.2 5 _ rfl; rw [Nat.add_zero] at k0; (try dsimp only at hSw); go_simp; first | done | with_reducible rfl)
          simp only [Act.put, List.setIfInBounds_toArray, List.set_cons_zero, List.set_cons_succ]
          refine held_take (i := 10) (d := some 53) (v := ?_) rfl rfl (by kernel_rfl) (by kernel_rfl) (by kernel_rfl) (fun _ _ _ h => h) (by rfl) ?_ (by assumption) ?_
          rotate_left 1
          focus (intro w hSw; (try dsimp only at hSw); go_simp; first | done | with_reducible rfl)
          simp only [Act.put, List.setIfInBounds_toArray, List.set_cons_zero, List.set_cons_succ]
          refine wpAnyH_ready (rs := [11]) (by kernel_rfl) (by simp) ?_
          refine (AllReadyH.cons (o := _) rfl (fun K hK => ?_) AllReadyH.nil)
          go_simp
          refine (IH.out _ _ SZ.out TK.out wd _ _ _ _ NXD.out NYD.out).mono ?_
          rintro e w7 ⟨rfl, u7⟩
          have U7 := Lib.hid (Fr.trans UD.out u7 (fun _ _ e => e))
          have HH := Lib.hid hHeld
          go_simp
          refine hK.out _ _ (by exact ⟨(u7.block b2 (heap_lt HH.out.1) (fun e => e)).trans HH.out.1, (u7.block b3 (heap_lt HH.out.2.1) (fun e => e)).trans HH.out.2.1, fun j u hj => (u7.cell (p := ⟨xb, xo + i * 6 + j, none⟩) (World.block_lt_of_cell? wd _ (HH.out.2.2.1 j u hj)) (fun e => e)).trans (HH.out.2.2.1 j u hj), fun j u hj => (u7.cell (p := ⟨yb, yo + i * 6 + j, none⟩) (World.block_lt_of_cell? wd _ (HH.out.2.2.2 j u hj)) (fun e => e)).trans (HH.out.2.2.2 j u hj)⟩) (fun hHeld2 => ?_)
          clear hK K u7 hHeld
          refine held_take (i := 12) (d := some 55) (v := ?_) rfl rfl (by kernel_rfl) (by kernel_rfl) (by kernel_rfl) (fun _ _ _ h => h) (by rfl) ?_ (by assumption) ?_
          rotate_left 1
          focus (intro w hSw; (try dsimp only at hSw); go_simp; first | done | with_reducible rfl)
          simp only [Act.put, List.setIfInBounds_toArray, List.set_cons_zero, List.set_cons_succ]
          refine wpAnyH_done (by kernel_rfl) ?_ _
          clear hHeld2 HH
          go_wp2_with fail
          go_roundw
          case rel => exact ⟨i + 1, by push_cast; rfl, by omega, Lib.hid U7.out⟩
          case measure => have e9 : ixOf (.int .i64 ((i : Int) + 1)) = i + 1 := (by show ((i : Int) + 1).toNat = i + 1; omega); have e8 : ixOf (.int .i64 (i : Int)) = i := (by show ((i : Int)).toNat = i; omega); rw [e9, e8]; omega
        · have d1 : decide ((i : Int) < (n : Int)) = false := decide_eq_false (by omega)
          have l1 : ¬ (i : Int) < (n : Int) := by omega
          obtain ⟨f0, f1, f2, f3, f4, f5⟩ := cells6 Y2.out
          have UU := Lib.hid (Fr.trans VV.out hu.out (fun _ _ e => e))
          go_wp2_with fail
          go_ret
          exact ⟨rfl, UU.out⟩
    · have z1 : ¬ (kd : Int) = 38 := by omega
      have z2 : ((kd : Int) == 38) = false := num_no (m := 38) h38
      have z3 : ((kd : Int) != 38) = true := by rw [bne, z2]; rfl
      have hbl : bl = al + k ∧ al ≤ B := LN.out.resolve_right h38
      have hw : wrap64 ((al : Int) + (k : Int)) = (bl : Int) := by unfold wrap64; omega
      clear h38 hbl
      go_enter Tryd.func11, Tryd.ntmps11
      obtain ⟨a0, a1, a2, a3, a4, a5⟩ := cells6 X2.out
      obtain ⟨c0, c1, c2, c3, c4, c5⟩ := cells6 X3.out
      go_wp2_with fail
      obtain ⟨b2, eb2⟩ : ∃ q, q = w.heap.size := ⟨_, rfl⟩
      rw [← eb2] at X2 X3 ⊢
      obtain ⟨b3, eb3⟩ : ∃ q, q = b2 + 1 := ⟨_, rfl⟩
      rw [← eb3] at X3 ⊢
      clear a0 a1 a2 a3 a4 a5 c0 c1 c2 c3 c4 c5 eb2 eb3
      generalize (World.alloc (World.alloc w _) _) = w2 at *
      rw [hw]
      clear hw
      go_loopw [7] (fun iv wr => ∃ i : Nat, iv = .int .i64 i ∧ i ≤ n ∧ Hid (Up w2 wr)) (fun iv _ => n - ixOf iv)
      case atStart => exact ⟨0, rfl, Nat.zero_le _, Lib.hid (Fr.refl _ _)⟩
      case round =>
        obtain ⟨i, rfl, hin, hu⟩ := hrel
        have i0 : (0 : Int) ≤ i := Int.natCast_nonneg i
        have Y2 := Lib.hid ((hu.out.block b2 (heap_lt X2.out) (fun e => e)).trans X2.out)
        have Y3 := Lib.hid ((hu.out.block b3 (heap_lt X3.out) (fun e => e)).trans X3.out)
        by_cases hlt : i < n
        · have d1 : decide ((i : Int) < (n : Int)) = true := decide_eq_true (by omega)
          have l1 : (i : Int) < (n : Int) := by omega
          have hil : i < ks.length := by have := NL.out; omega
          have hil2 : i < ks2.length := by have := E5.out; omega
          obtain ⟨xb, xo, rfl, -, xlt, xall⟩ := KA.out.at_ (fun e => by rw [e] at hil; simp at hil)
          obtain ⟨yb, yo, rfl, -, ylt, yall⟩ := KB.out.at_ (fun e => by rw [e] at hil2; simp at hil2)
          obtain ⟨xs, hx, hxs, xc⟩ := xall i _ (List.getElem?_eq_getElem hil)
          obtain ⟨ys, hy, hys, yc⟩ := yall i _ (List.getElem?_eq_getElem hil2)
          have TK := Lib.hid (TW.out.kids i _ _ (List.getElem?_eq_getElem hil) (List.getElem?_eq_getElem hil2))
          have SZ := Lib.hid (show SizeOf.sizeOf ks[i] < N from by have h1 := List.sizeOf_lt_of_mem (List.getElem_mem hil); have h2 := HN.out; simp only [Nd.mk.sizeOf_spec] at h2; omega)
          have XC := Lib.hid (fun (j : Nat) (u : Value) (h : xs[j]? = some u) => (hu.out.cell (p := ⟨xb, xo + i * 6 + j, none⟩) xlt (fun e => e)).trans (xc j u h))
          have YC := Lib.hid (fun (j : Nat) (u : Value) (h : ys[j]? = some u) => (hu.out.cell (p := ⟨yb, yo + i * 6 + j, none⟩) ylt (fun e => e)).trans (yc j u h))
          have NX := Lib.hid (hx.kept hu.out (fun _ _ e => e) (fun _ h => h))
          have NY := Lib.hid (hy.kept hu.out (fun _ _ e => e) (fun _ h => h))
          generalize ks[i] = xt at *
          generalize ks2[i] = yt at *
          obtain ⟨xk, xm, xn, xl, xq, xks⟩ := xt
          obtain ⟨yk, ym, yn, yl, yq, yks⟩ := yt
          obtain ⟨xA, xcc, rfl, -⟩ := NX.out.row
          obtain ⟨yA, ycc, rfl, -⟩ := NY.out.row
          have hia : ∀ w, (Instr.indexAt 25 (.slice (some ⟨xb, xo, none⟩) n ac) (.int .i64 i)).run Tryd.prog w = .ok (.pointer (some ⟨xb, xo + i * 6, none⟩)) w := by
            intro w
            rw [run_indexAt_slice (h := by kernel_rfl), if_pos ⟨i0, l1⟩, show (sizeOf (Tryd.prog.elem 25)).run Tryd.prog w = .ok 6 w from by kernel_rfl]
            simp [Result.andThen, Addr.add]
          have hib : ∀ w, (Instr.indexAt 25 (.slice (some ⟨yb, yo, none⟩) n bc) (.int .i64 i)).run Tryd.prog w = .ok (.pointer (some ⟨yb, yo + i * 6, none⟩)) w := by
            intro w
            rw [run_indexAt_slice (h := by kernel_rfl), if_pos ⟨i0, l1⟩, show (sizeOf (Tryd.prog.elem 25)).run Tryd.prog w = .ok 6 w from by kernel_rfl]
            simp [Result.andThen, Addr.add]
          clear hil hil2 xlt xall ylt yall hx hxs xc hy hys yc
          obtain ⟨f0, f1, f2, f3, f4, f5⟩ := cells6 Y2.out
          obtain ⟨h0, h1, h2, h3, h4, h5⟩ := cells6 Y3.out
          go_upto_region 6 with fail
          clear f0 f1 f2 f3 f4 f5 h0 h1 h2 h3 h4 h5
          refine wp_region_held_drew (S := fun W => W.heap[b2]? = some (.cells #[.int .i64 kd, .string (bs nm), .int .i64 nn, .int .i64 al, .int .i64 co, .slice (some ⟨xb, xo, none⟩) n ac] 27 (0, 0)) ∧ W.heap[b3]? = some (.cells #[.int .i64 kd, .string (bs nm), .int .i64 nn, .int .i64 bl, .int .i64 co, .slice (some ⟨yb, yo, none⟩) n bc] 27 (0, 0)) ∧ (∀ (j : Nat) (u : Value), [.int .i64 xk, .string (bs xm), .int .i64 xn, .int .i64 xl, .int .i64 xq, .slice xA xks.length xcc][j]? = some u → W.cell? ⟨xb, xo + i * 6 + j, none⟩ = some u) ∧ ∀ (j : Nat) (u : Value), [.int .i64 yk, .string (bs ym), .int .i64 yn, .int .i64 yl, .int .i64 yq, .slice yA yks.length ycc][j]? = some u → W.cell? ⟨yb, yo + i * 6 + j, none⟩ = some u) (by kernel_rfl) (by exact ⟨Y2.out, Y3.out, XC.out, YC.out⟩) (fun hHeld => ?_)
          have UD := Lib.hid (hu.out.drew)
          have NXD := Lib.hid (NX.out.kept ((Fr.refl (fun _ => False) wr).drew) (fun _ _ e => e) (fun _ h => h))
          have NYD := Lib.hid (NY.out.kept ((Fr.refl (fun _ => False) wr).drew) (fun _ _ e => e) (fun _ h => h))
          clear NX NY XC YC Y2 Y3
          generalize wr.drew = wd at *
          refine held_take (i := 0) (d := some 43) (v := ?_) rfl rfl (by kernel_rfl) (by kernel_rfl) (by kernel_rfl) (fun _ _ _ h => h) (by rfl) ?_ (by assumption) ?_
          rotate_left 1
          focus (intro w hSw; (try dsimp only at hSw); go_simp; first | done | with_reducible rfl)
          simp only [Act.put, List.setIfInBounds_toArray, List.set_cons_zero, List.set_cons_succ]
          refine held_take (i := 1) (d := some 44) (v := ?_) rfl rfl (by kernel_rfl) (by kernel_rfl) (by kernel_rfl) (fun _ _ _ h => h) (by rfl) ?_ (by assumption) ?_
          rotate_left 1
          focus (intro w hSw; obtain ⟨k0, k1, k2, k3, k4, k5⟩ := cells6 hSw.1; (try dsimp only at hSw); go_simp; first | done | with_reducible rfl)
          simp only [Act.put, List.setIfInBounds_toArray, List.set_cons_zero, List.set_cons_succ]
          refine held_take (i := 2) (d := some 45) (v := ?_) rfl rfl (by kernel_rfl) (by kernel_rfl) (by kernel_rfl) (fun _ _ _ h => h) (by rfl) ?_ (by assumption) ?_
          rotate_left 1
          focus (intro w hSw; (try dsimp only at hSw); go_simp; first | done | with_reducible rfl)
          simp only [Act.put, List.setIfInBounds_toArray, List.set_cons_zero, List.set_cons_succ]
          refine held_take (i := 3) (d := some 46) (v := ?_) rfl rfl (by kernel_rfl) (by kernel_rfl) (by kernel_rfl) (fun _ _ _ h => h) (by rfl) ?_ (by assumption) ?_
          rotate_left 1
          focus (intro w hSw; have q := hia w; (try dsimp only at hSw); go_simp; first | done | with_reducible rfl)
          simp only [Act.put, List.setIfInBounds_toArray, List.set_cons_zero, List.set_cons_succ]
          refine held_take (i := 4) (d := some 47) (v := ?_) rfl rfl (by kernel_rfl) (by kernel_rfl) (by kernel_rfl) (fun _ _ _ h => h) (by rfl) ?_ (by assumption) ?_
          rotate_left 1
          focus (intro w hSw; have k0 := hSw.2.2.1 0 _ rfl; have k1 := hSw.2.2.1 1 _ rfl; have k2 := hSw.2.2.1 2 _ rfl; have k3 := hSw.2.2.1 3 _ rfl; have k4 := hSw.2.2.1 4 _ rfl; have k5 := hSw.2.2.1 5 _ rfl; rw [Nat.add_zero] at k0; (try dsimp only at hSw); go_simp; first | done | with_reducible rfl)
          simp only [Act.put, List.setIfInBounds_toArray, List.set_cons_zero, List.set_cons_succ]
          refine held_take (i := 5) (d := some 48) (v := ?_) rfl rfl (by kernel_rfl) (by kernel_rfl) (by kernel_rfl) (fun _ _ _ h => h) (by rfl) ?_ (by assumption) ?_
          rotate_left 1
          focus (intro w hSw; (try dsimp only at hSw); go_simp; first | done | with_reducible rfl)
          simp only [Act.put, List.setIfInBounds_toArray, List.set_cons_zero, List.set_cons_succ]
          refine held_take (i := 6) (d := some 49) (v := ?_) rfl rfl (by kernel_rfl) (by kernel_rfl) (by kernel_rfl) (fun _ _ _ h => h) (by rfl) ?_ (by assumption) ?_
          rotate_left 1
          focus (intro w hSw; obtain ⟨k0, k1, k2, k3, k4, k5⟩ := cells6 hSw.2.1; (try dsimp only at hSw); go_simp; first | done | with_reducible rfl)
          simp only [Act.put, List.setIfInBounds_toArray, List.set_cons_zero, List.set_cons_succ]
          refine held_take (i := 7) (d := some 50) (v := ?_) rfl rfl (by kernel_rfl) (by kernel_rfl) (by kernel_rfl) (fun _ _ _ h => h) (by rfl) ?_ (by assumption) ?_
          rotate_left 1
          focus (intro w hSw; (try dsimp only at hSw); go_simp; first | done | with_reducible rfl)
          simp only [Act.put, List.setIfInBounds_toArray, List.set_cons_zero, List.set_cons_succ]
          refine held_take (i := 8) (d := some 51) (v := ?_) rfl rfl (by kernel_rfl) (by kernel_rfl) (by kernel_rfl) (fun _ _ _ h => h) (by rfl) ?_ (by assumption) ?_
          rotate_left 1
          focus (intro w hSw; have q := hib w; (try dsimp only at hSw); go_simp; first | done | with_reducible rfl)
          simp only [Act.put, List.setIfInBounds_toArray, List.set_cons_zero, List.set_cons_succ]
          refine held_take (i := 9) (d := some 52) (v := ?_) rfl rfl (by kernel_rfl) (by kernel_rfl) (by kernel_rfl) (fun _ _ _ h => h) (by rfl) ?_ (by assumption) ?_
          rotate_left 1
          focus (intro w hSw; have k0 := hSw.2.2.2 0 _ rfl; have k1 := hSw.2.2.2 1 _ rfl; have k2 := hSw.2.2.2 2 _ rfl; have k3 := hSw.2.2.2 3 _ rfl; have k4 := hSw.2.2.2 4 _ rfl; have k5 := hSw.2.2.2 5 _ rfl; rw [Nat.add_zero] at k0; (try dsimp only at hSw); go_simp; first | done | with_reducible rfl)
          simp only [Act.put, List.setIfInBounds_toArray, List.set_cons_zero, List.set_cons_succ]
          refine held_take (i := 10) (d := some 53) (v := ?_) rfl rfl (by kernel_rfl) (by kernel_rfl) (by kernel_rfl) (fun _ _ _ h => h) (by rfl) ?_ (by assumption) ?_
          rotate_left 1
          focus (intro w hSw; (try dsimp only at hSw); go_simp; first | done | with_reducible rfl)
          simp only [Act.put, List.setIfInBounds_toArray, List.set_cons_zero, List.set_cons_succ]
          refine wpAnyH_ready (rs := [11]) (by kernel_rfl) (by simp) ?_
          refine (AllReadyH.cons (o := _) rfl (fun K hK => ?_) AllReadyH.nil)
          go_simp
          refine (IH.out _ _ SZ.out TK.out wd _ _ _ _ NXD.out NYD.out).mono ?_
          rintro e w7 ⟨rfl, u7⟩
          have U7 := Lib.hid (Fr.trans UD.out u7 (fun _ _ e => e))
          have HH := Lib.hid hHeld
          go_simp
          refine hK.out _ _ (by exact ⟨(u7.block b2 (heap_lt HH.out.1) (fun e => e)).trans HH.out.1, (u7.block b3 (heap_lt HH.out.2.1) (fun e => e)).trans HH.out.2.1, fun j u hj => (u7.cell (p := ⟨xb, xo + i * 6 + j, none⟩) (World.block_lt_of_cell? wd _ (HH.out.2.2.1 j u hj)) (fun e => e)).trans (HH.out.2.2.1 j u hj), fun j u hj => (u7.cell (p := ⟨yb, yo + i * 6 + j, none⟩) (World.block_lt_of_cell? wd _ (HH.out.2.2.2 j u hj)) (fun e => e)).trans (HH.out.2.2.2 j u hj)⟩) (fun hHeld2 => ?_)
          clear hK K u7 hHeld
          refine held_take (i := 12) (d := some 55) (v := ?_) rfl rfl (by kernel_rfl) (by kernel_rfl) (by kernel_rfl) (fun _ _ _ h => h) (by rfl) ?_ (by assumption) ?_
          rotate_left 1
          focus (intro w hSw; (try dsimp only at hSw); go_simp; first | done | with_reducible rfl)
          simp only [Act.put, List.setIfInBounds_toArray, List.set_cons_zero, List.set_cons_succ]
          refine wpAnyH_done (by kernel_rfl) ?_ _
          clear hHeld2 HH
          go_wp2_with fail
          go_roundw
          case rel => exact ⟨i + 1, by push_cast; rfl, by omega, Lib.hid U7.out⟩
          case measure => have e9 : ixOf (.int .i64 ((i : Int) + 1)) = i + 1 := (by show ((i : Int) + 1).toNat = i + 1; omega); have e8 : ixOf (.int .i64 (i : Int)) = i := (by show ((i : Int)).toNat = i; omega); rw [e9, e8]; omega
        · have d1 : decide ((i : Int) < (n : Int)) = false := decide_eq_false (by omega)
          have l1 : ¬ (i : Int) < (n : Int) := by omega
          obtain ⟨f0, f1, f2, f3, f4, f5⟩ := cells6 Y2.out
          have UU := Lib.hid (Fr.trans VV.out hu.out (fun _ _ e => e))
          go_wp2_with fail
          go_ret
          exact ⟨rfl, UU.out⟩
end Go.Proofs.YtemmdbjcllcelaaDoor.Pa
