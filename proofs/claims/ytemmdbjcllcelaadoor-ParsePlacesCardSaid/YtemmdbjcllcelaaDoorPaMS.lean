/-
  The parser said as a machine: what is left of the tokens, what is wrong and where; it goes on after an error as the program does. No function of the program is named here.
  The grammar's trees are the machine's.
  The machine after an error: it stays, and gives some tree.
  The grammar's errors are the machine's.
  The grammar's errors are the machine's: rule by rule.
  The grammar's errors are the machine's: a step, and all of it.
-/
import Derived.Test.YtemmdbjcllcelaaDoorPaSpec
namespace Go.Proofs.YtemmdbjcllcelaaDoor.Pa
open Go.Proofs.YtemmdbjcllcelaaDoor.Tk (Tok)

structure St where
  l : List Tok
  f : Nat
  line : Nat
  col : Nat
abbrev M (α : Type) := St → Option (α × St)
namespace M
def ret {α : Type} (a : α) : M α := fun s => some (a, s)
def andThen {α β : Type} (x : M α) (k : α → M β) : M β := fun s => match x s with
  | none => none
  | some (a, s') => k a s'
def peek : M (List Tok) := fun s => some (s.l, s)
def bad : M Bool := fun s => some (s.f != 0, s)
/-- On to the next token. -/
def pass : M Unit := fun s => some ((), { s with l := s.l.tail })
/-- The first error stands; the last token comes next. -/
def fail (e : Nat) : M Unit := fun s => some ((), if s.f = 0 then ⟨s.l.drop (s.l.length - 1), e, (hd s.l).line, (hd s.l).col⟩ else s)
def takes (m : List UInt8) : M Bool := fun s => if mark s.l = m then some (true, { s with l := s.l.tail }) else some (false, s)
def want (m : List UInt8) : M Unit := andThen (takes m) fun b => if b then ret () else fail 13
def name : M (List UInt8) := andThen peek fun l => if (hd l).kind = 2 then andThen pass fun _ => ret (hd l).text else andThen (fail 13) fun _ => ret []
def semis : M Unit := fun s => some ((), { s with l := Pa.semis s.l })
def zero : Nd := .mk 0 [] 0 0 0 []
end M
open M in
section
variable (rd : Rule → Nat → M Nd)
def M.typedName (kind d : Nat) : M Nd := M.andThen peek fun l => M.andThen name fun nm => M.andThen (rd .anyType d) fun t => ret (at_ kind l nm 0 [t])
def M.within (r : Rule) (d : Nat) : M Nd := if d = 40 then M.andThen (M.fail 14) fun _ => ret zero else rd r (d + 1)
/-- One step into the grammar. -/
def mstep (r : Rule) (d : Nat) : M Nd := M.andThen peek fun l => match r with
  | .file => M.andThen (rd (.lines .decl true) d) fun t => ret (at_ 1 l [] 0 t.kids)
  | .decl => if mark l = [116, 121, 112, 101] then rd .typeDecl d else if mark l = [102, 117, 110, 99] then rd .funcDecl d else M.andThen (M.fail 13) fun _ => ret zero
  | .typeDecl => M.andThen M.pass fun _ => M.andThen M.name fun nm => M.andThen (takes [105, 110, 116, 101, 114, 102, 97, 99, 101]) fun b =>
      if b then M.andThen (rd (.braced .method) d) fun t => ret (at_ 3 l nm 0 t.kids)
      else M.andThen (M.want [115, 116, 114, 117, 99, 116]) fun _ => M.andThen (rd (.braced .field) d) fun t => ret (at_ 2 l nm 0 t.kids)
  | .field => M.typedName rd 4 d
  | .param => M.typedName rd 7 d
  | .method => M.andThen M.name fun nm => M.andThen (rd (.listed .anyType) d) fun ps => M.andThen (rd (.orNone .anyType [[59], [125]]) d) fun res => ret (at_ 5 l nm 0 (res :: ps.kids))
  | .funcDecl => M.andThen M.pass fun _ => M.andThen peek fun l1 => M.andThen (if mark l1 = [40] then rd .receiver d else ret none_) fun recv => M.andThen M.name fun nm => M.andThen (rd (.listed .param) d) fun ps =>
      M.andThen (rd (.orNone .anyType [[123]]) d) fun res => M.andThen (rd .block d) fun body => ret (at_ 6 l nm 0 (recv :: res :: body :: ps.kids))
  | .receiver => M.andThen (M.want [40]) fun _ => M.andThen peek fun l1 => M.andThen M.name fun nm => M.andThen peek fun l2 => M.andThen M.name fun tn => M.andThen (M.want [41]) fun _ => ret (at_ 7 l1 nm 0 [at_ 8 l2 tn 0 []])
  | .anyType => M.within rd .typeOnly d
  | .typeOnly =>
      if mark l = [91] then M.andThen M.pass fun _ => M.andThen (M.want [93]) fun _ => M.andThen (rd .anyType d) fun t => ret (at_ 9 l [] 0 [t])
      else if mark l = [105, 110, 116] ∨ mark l = [98, 111, 111, 108] ∨ mark l = [115, 116, 114, 105, 110, 103] ∨ (hd l).kind = 2 then M.andThen M.pass fun _ => ret (at_ 8 l (hd l).text 0 [])
      else M.andThen (M.fail 13) fun _ => ret zero
  | .expr => M.within rd (.binary 1) d
  | .binary least => M.andThen (rd .unary d) fun x => rd (.binLoop least x) d
  | .binLoop least left => if least ≤ tight (mark l) then M.andThen M.pass fun _ => M.andThen (rd (.binary (tight (mark l) + 1)) d) fun y => rd (.binLoop least (at_ 28 l (mark l) 0 [left, y])) d else ret left
  | .unary => if mark l = [45] ∨ mark l = [33] then M.andThen M.pass fun _ => M.andThen (rd .unary d) fun x => ret (at_ 27 l (mark l) 0 [x]) else rd .post d
  | .post => M.andThen (rd .prime d) fun x => rd (.postLoop x) d
  | .postLoop x => if mark l = [46] then M.andThen (rd (.dotted x) d) fun y => rd (.postLoop y) d
      else if mark l = [91] then M.andThen (rd (.indexed x) d) fun y => rd (.postLoop y) d else ret x
  | .dotted x => M.andThen M.pass fun _ => M.andThen (takes [40]) fun b =>
      if b then M.andThen (rd .anyType d) fun t => M.andThen (M.want [41]) fun _ => ret (at_ 37 l [] 0 [x, t])
      else M.andThen M.name fun nm => M.andThen peek fun l1 => if mark l1 = [40] then M.andThen (rd (.listed .expr) d) fun ps => ret (at_ 31 l nm 0 (x :: ps.kids)) else ret (at_ 30 l nm 0 [x])
  | .indexed x => M.andThen M.pass fun _ => M.andThen (rd .expr d) fun y => M.andThen (M.want [93]) fun _ => ret (at_ 32 l [] 0 [x, y])
  | .prime =>
      if (hd l).kind = 4 then M.andThen M.pass fun _ => ret (at_ 21 l [] (hd l).n [])
      else if (hd l).kind = 5 then M.andThen M.pass fun _ => ret (at_ 24 l (hd l).text 0 [])
      else if (hd l).kind = 2 then M.andThen M.name fun nm => M.andThen peek fun l1 => if mark l1 = [40] then M.andThen (rd (.listed .expr) d) fun ps => ret (at_ 29 l nm 0 ps.kids) else ret (at_ 26 l nm 0 [])
      else rd .marked d
  | .marked =>
      if mark l = [116, 114, 117, 101] then M.andThen M.pass fun _ => ret (at_ 22 l [] 0 [])
      else if mark l = [102, 97, 108, 115, 101] then M.andThen M.pass fun _ => ret (at_ 23 l [] 0 [])
      else if mark l = [110, 105, 108] then M.andThen M.pass fun _ => ret (at_ 25 l [] 0 [])
      else if mark l = [108, 101, 110] then rd (.built 33 [.expr]) d
      else if mark l = [109, 97, 107, 101] then rd (.built 34 [.anyType, .expr]) d
      else if mark l = [110, 101, 119] then rd (.built 35 [.anyType]) d
      else if mark l = [105, 110, 112, 117, 116] then rd (.built 36 []) d
      else if mark l = [40] then rd .wrapped d
      else M.andThen (M.fail 13) fun _ => ret zero
  | .built kind ps => M.andThen M.pass fun _ => M.andThen (M.want [40]) fun _ => M.andThen (rd (.parts true ps []) d) fun t => M.andThen (M.want [41]) fun _ => ret (at_ kind l [] 0 t.kids)
  | .parts first ps acc => match ps with
    | [] => ret (lst acc)
    | p :: ps => M.andThen (if first then ret () else M.want [44]) fun _ => M.andThen (rd p d) fun t => rd (.parts false ps (acc ++ [t])) d
  | .wrapped => M.andThen (M.want [40]) fun _ => M.andThen (rd .expr d) fun x => M.andThen (M.want [41]) fun _ => ret x
  | .block => M.andThen (rd (.braced .stmt) d) fun t => ret (at_ 10 l [] 0 t.kids)
  | .stmt => M.within rd .choose d
  | .choose =>
      if mark l = [123] then rd .block d
      else if mark l = [118, 97, 114] then rd .varStmt d
      else if mark l = [105, 102] then rd .ifStmt d
      else if mark l = [102, 111, 114] then rd .forStmt d
      else if mark l = [98, 114, 101, 97, 107] then M.andThen M.pass fun _ => ret (at_ 16 l [] 0 [])
      else if mark l = [99, 111, 110, 116, 105, 110, 117, 101] then M.andThen M.pass fun _ => ret (at_ 17 l [] 0 [])
      else if mark l = [114, 101, 116, 117, 114, 110] then rd .returnStmt d
      else if mark l = [112, 114, 105, 110, 116] then rd .printStmt d
      else rd .simple d
  | .varStmt => M.andThen M.pass fun _ => M.andThen M.name fun nm => M.andThen (rd .anyType d) fun t => M.andThen (takes [61]) fun b => M.andThen (if b then rd .expr d else ret none_) fun x => ret (at_ 11 l nm 0 [t, x])
  | .ifStmt => M.andThen M.pass fun _ => M.andThen (rd .expr d) fun x => M.andThen (rd .block d) fun b => M.andThen (rd .elsePart d) fun e => ret (at_ 14 l [] 0 [x, b, e])
  | .elsePart => M.andThen (takes [101, 108, 115, 101]) fun b => if b then M.andThen peek fun l1 => if mark l1 = [105, 102] then rd .ifStmt d else rd .block d else ret none_
  | .forStmt => M.andThen M.pass fun _ => M.andThen (rd (.orNone .expr [[123]]) d) fun x => M.andThen (rd .block d) fun b => ret (at_ 15 l [] 0 [x, b])
  | .returnStmt => M.andThen M.pass fun _ => M.andThen (rd (.orNone .expr [[59], [125]]) d) fun x => ret (at_ 18 l [] 0 [x])
  | .printStmt => M.andThen M.pass fun _ => M.andThen (M.want [40]) fun _ => M.andThen (rd .expr d) fun x => M.andThen (M.want [41]) fun _ => ret (at_ 20 l [] 0 [x])
  | .simple => M.andThen (rd .expr d) fun x => M.andThen peek fun l1 =>
      if mark l1 = [58, 61] then M.andThen M.pass fun _ => M.andThen (rd .expr d) fun y => ret (at_ 12 l1 [] 0 [x, y])
      else if mark l1 = [61] then M.andThen M.pass fun _ => M.andThen (rd .expr d) fun y => ret (at_ 13 l1 [] 0 [x, y])
      else ret (at_ 19 l [] 0 [x])
  | .lines r f => M.andThen M.semis fun _ => rd (.linesLoop r f []) d
  | .linesLoop r f acc => M.andThen bad fun b => if b = true ∨ over f l = true then ret (lst acc)
      else M.andThen (rd r d) fun t => M.andThen peek fun l1 => M.andThen (if over f l1 then ret () else M.want [59]) fun _ => M.andThen M.semis fun _ => rd (.linesLoop r f (acc ++ [t])) d
  | .braced r => M.andThen (M.want [123]) fun _ => M.andThen (rd (.lines r false) d) fun t => M.andThen (M.want [125]) fun _ => ret t
  | .listed r => M.andThen (M.want [40]) fun _ => M.andThen peek fun l1 => if mark l1 = [41] then M.andThen (M.want [41]) fun _ => ret (lst []) else M.andThen (rd r d) fun t => rd (.listLoop r [t]) d
  | .listLoop r acc => M.andThen (takes [44]) fun b => if b then M.andThen (rd r d) fun t => rd (.listLoop r (acc ++ [t])) d else M.andThen (M.want [41]) fun _ => ret (lst acc)
  | .orNone r ms => if mark l ∈ ms then ret none_ else rd r d
end
/-- So many steps. -/
def mrun : Nat → Rule → Nat → M Nd
  | 0 => fun _ _ _ => none
  | n + 1 => fun r d => mstep (mrun n) r d

/-- More steps turn nothing. -/
def M.le {α : Type} (a b : M α) : Prop := ∀ s, a s = none ∨ a s = b s
theorem M.le.refl {α : Type} (a : M α) : M.le a a := fun _ => .inr rfl
theorem M.then_le {α β : Type} {a b : M α} {k k' : α → M β} (h : M.le a b) (hk : ∀ x, M.le (k x) (k' x)) : M.le (M.andThen a k) (M.andThen b k') := by
  intro s
  simp only [M.andThen]
  rcases h s with e | e
  · exact .inl (by rw [e])
  · rw [← e]
    cases a s with
    | none => exact .inl rfl
    | some p => exact hk p.1 p.2
theorem M.le.at_ {α : Type} {a b : M α} (h : M.le a b) (s : St) : a s = none ∨ a s = b s := h s
theorem M.le.of {α : Type} {a b : M α} (h : ∀ s, a s = none ∨ a s = b s) : M.le a b := h
attribute [local irreducible] M.le
theorem mstep_le {rd rd' : Rule → Nat → M Nd} (h : ∀ r d, M.le (rd r d) (rd' r d)) (r : Rule) (d : Nat) : M.le (mstep rd r d) (mstep rd' r d) := by
  refine M.then_le (.refl _) fun l => ?_
  cases r <;> simp only [M.typedName, M.within] <;> repeat' first
    | exact M.le.refl _
    | exact h _ _
    | (refine M.then_le ?_ ?_)
    | (intro _)
    | split
theorem mrun_le : ∀ (n : Nat) (r : Rule) (d : Nat), M.le (mrun n r d) (mrun (n + 1) r d)
  | 0, _, _ => .of fun _ => .inl rfl
  | n + 1, r, d => mstep_le (fun r d => mrun_le n r d) r d
theorem mrun_more {n : Nat} {r : Rule} {d : Nat} {s : St} {x : Nd × St} (h : mrun n r d s = some x) : ∀ k, mrun (n + k) r d s = some x
  | 0 => h
  | k + 1 => by
    rcases (mrun_le (n + k) r d).at_ s with e | e
    · rw [mrun_more h k] at e; cases e
    · rw [show n + (k + 1) = n + k + 1 from rfl, ← e]; exact mrun_more h k
end Go.Proofs.YtemmdbjcllcelaaDoor.Pa
namespace Go.Proofs.YtemmdbjcllcelaaDoor.Pa
open Go.Proofs.YtemmdbjcllcelaaDoor.Tk (Tok)

/-- Where the grammar says a tree, so does the machine. -/
def Fits (x : Rs) (m : M Nd) (l : List Tok) : Prop := ∀ (a b : Nat) (t : Nd) (rest : List Tok), x = .ok t rest → m ⟨l, 0, a, b⟩ = some (t, ⟨rest, 0, a, b⟩)
section
variable {x : Rs} {l : List Tok}
theorem fits_ok (t : Nd) (l : List Tok) : Fits (.ok t l) (M.ret t) l := by
  intro a b t' rest h; cases h; rfl
theorem fits_dry (m : M Nd) (l : List Tok) : Fits .dry m l := by intro a b t rest h; cases h
theorem fits_fail (e : Nat) (k : List Tok) (m : M Nd) (l : List Tok) : Fits (fail e k) m l := by
  intro a b t rest h
  cases k <;> cases h
theorem fits_bind {m : M Nd} {k : Nd → List Tok → Rs} {k' : Nd → M Nd} (h : Fits x m l) (hk : ∀ t rest, Fits (k t rest) (k' t) rest) : Fits (bind x k) (M.andThen m k') l := by
  intro a b t rest e
  cases hx : x with
  | ok t1 r1 =>
    rw [hx] at e
    simp only [M.andThen, h a b t1 r1 hx]
    exact hk t1 r1 a b t rest e
  | bad => rw [hx] at e; cases e
  | dry => rw [hx] at e; cases e
theorem fits_pass {k' : Unit → M Nd} (h : Fits x (k' ()) l.tail) : Fits x (M.andThen M.pass k') l := fun a b t rest e => h a b t rest e
theorem fits_peek {k' : List Tok → M Nd} (h : Fits x (k' l) l) : Fits x (M.andThen M.peek k') l := fun a b t rest e => h a b t rest e
theorem fits_semis {k' : Unit → M Nd} (h : Fits x (k' ()) (semis l)) : Fits x (M.andThen M.semis k') l := fun a b t rest e => h a b t rest e
theorem fits_ret {α : Type} {v : α} {k' : α → M Nd} (h : Fits x (k' v) l) : Fits x (M.andThen (M.ret v) k') l := fun a b t rest e => h a b t rest e
theorem fits_bad {k' : Bool → M Nd} (h : Fits x (k' false) l) : Fits x (M.andThen M.bad k') l := fun a b t rest e => h a b t rest e
theorem fits_takes {s : List UInt8} {k' : Bool → M Nd} (h1 : mark l = s → Fits x (k' true) l.tail) (h2 : mark l ≠ s → Fits x (k' false) l) : Fits x (M.andThen (M.takes s) k') l := by
  intro a b t rest e
  by_cases hm : mark l = s
  · simp only [M.andThen, M.takes, if_pos hm]; exact h1 hm a b t rest e
  · simp only [M.andThen, M.takes, if_neg hm]; exact h2 hm a b t rest e
theorem fits_want {s : List UInt8} {k : List Tok → Rs} {k' : Unit → M Nd} (h : mark l = s → Fits (k l.tail) (k' ()) l.tail) : Fits (want s l k) (M.andThen (M.want s) k') l := by
  intro a b t rest e
  by_cases hm : mark l = s
  · rw [want, if_pos hm] at e
    simp only [M.andThen, M.want, M.takes, if_pos hm]
    exact h hm a b t rest e
  · rw [want, if_neg hm] at e
    exact absurd e (by cases l <;> exact nofun)
theorem fits_name {k : List UInt8 → List Tok → Rs} {k' : List UInt8 → M Nd} (h : (hd l).kind = 2 → Fits (k (hd l).text l.tail) (k' (hd l).text) l.tail) : Fits (name l k) (M.andThen M.name k') l := by
  intro a b t rest e
  by_cases hm : (hd l).kind = 2
  · rw [name, if_pos hm] at e
    simp only [M.andThen, M.name, M.peek, if_pos hm, M.pass, M.ret]
    exact h hm a b t rest e
  · rw [name, if_neg hm] at e
    exact absurd e (by cases l <;> exact nofun)
theorem fits_if {c : Prop} [Decidable c] {y : Rs} {m n : M Nd} (h1 : c → Fits x m l) (h2 : ¬ c → Fits y n l) : Fits (if c then x else y) (if c then m else n) l := by
  split
  · exact h1 ‹_›
  · exact h2 ‹_›
theorem fits_takes_if {y : Rs} {s : List UInt8} {k' : Bool → M Nd} (h1 : mark l = s → Fits x (k' true) l.tail) (h2 : mark l ≠ s → Fits y (k' false) l) : Fits (if mark l = s then x else y) (M.andThen (M.takes s) k') l := by
  split
  · exact fits_takes (fun _ => h1 ‹_›) (fun n => absurd ‹_› n)
  · exact fits_takes (fun n => absurd n ‹_›) (fun _ => h2 ‹_›)
theorem fits_nameT {k' : List UInt8 → M Nd} (hk : (hd l).kind = 2) (h : Fits x (k' (hd l).text) l.tail) : Fits x (M.andThen M.name k') l := by
  intro a b t rest e
  simp only [M.andThen, M.name, M.peek, if_pos hk, M.pass, M.ret]
  exact h a b t rest e
theorem fits_wantT {s : List UInt8} {k' : Unit → M Nd} (hk : mark l = s) (h : Fits x (k' ()) l.tail) : Fits x (M.andThen (M.want s) k') l := by
  intro a b t rest e
  simp only [M.andThen, M.want, M.takes, if_pos hk]
  exact h a b t rest e
theorem fits_ifthen {α : Type} {c : Prop} [Decidable c] {y : Rs} {m n : M α} {k' : α → M Nd} (h1 : c → Fits x (M.andThen m k') l) (h2 : ¬ c → Fits y (M.andThen n k') l) : Fits (if c then x else y) (M.andThen (if c then m else n) k') l := by
  split
  · exact h1 ‹_›
  · exact h2 ‹_›
end
attribute [local irreducible] Fits M.andThen
theorem step_fits {rd : Rule → Nat → List Tok → Rs} {rd' : Rule → Nat → M Nd} (h : ∀ r d l, Fits (rd r d l) (rd' r d) l) (r : Rule) (d : Nat) (l : List Tok) : Fits (step rd r d l) (mstep rd' r d) l := by
  refine fits_peek ?_
  cases r
  case parts first ps acc =>
    cases ps <;> simp only [step]
    · exact fits_ok _ _
    · (repeat' first | exact fits_ok _ _ | assumption | exact fits_fail _ _ _ _ | (refine fits_want ?_) | (refine fits_name ?_) | (refine fits_pass ?_) | (refine fits_peek ?_) | (refine fits_semis ?_) | (refine fits_bad ?_) | (refine fits_ret ?_) | (refine fits_takes_if ?_ ?_) | (refine fits_nameT (by assumption) ?_) | (refine fits_wantT (by assumption) ?_) | (refine fits_ifthen ?_ ?_) | (refine fits_if ?_ ?_) | (refine fits_bind ?_ ?_) | (intro _ _) | (intro _) | (simp only [↓reduceIte, Bool.false_eq_true, false_or]))
      all_goals exact h _ _ _
  all_goals simp only [step, typedName, M.typedName, M.within]
  all_goals (repeat' first | exact fits_ok _ _ | assumption | exact fits_fail _ _ _ _ | (refine fits_want ?_) | (refine fits_name ?_) | (refine fits_pass ?_) | (refine fits_peek ?_) | (refine fits_semis ?_) | (refine fits_bad ?_) | (refine fits_ret ?_) | (refine fits_takes_if ?_ ?_) | (refine fits_nameT (by assumption) ?_) | (refine fits_wantT (by assumption) ?_) | (refine fits_ifthen ?_ ?_) | (refine fits_if ?_ ?_) | (refine fits_bind ?_ ?_) | (intro _ _) | (intro _) | (simp only [↓reduceIte, Bool.false_eq_true, false_or]))
  all_goals exact h _ _ _
theorem run_fits : ∀ (n : Nat) (r : Rule) (d : Nat) (l : List Tok), Fits (run n r d l) (mrun n r d) l
  | 0, _, _, _ => fits_dry _ _
  | _ + 1, _, _, [] => fits_dry _ _
  | n + 1, r, d, t :: l => step_fits (run_fits n) r d (t :: l)
end Go.Proofs.YtemmdbjcllcelaaDoor.Pa
namespace Go.Proofs.YtemmdbjcllcelaaDoor.Pa
open Go.Proofs.YtemmdbjcllcelaaDoor.Tk (Tok)

/-- Something is wrong, and the last token comes next. -/
structure Still (s : St) : Prop where
  f : s.f ≠ 0
  one : ∃ t : Tok, s.l = [t] ∧ t.kind = 0
theorem Still.mark {s : St} (h : Still s) : mark s.l = [] := by
  obtain ⟨t, e, k⟩ := h.one
  rw [e]; simp [Pa.mark, hd, k]
theorem Still.kind {s : St} (h : Still s) : (hd s.l).kind = 0 := by
  obtain ⟨t, e, k⟩ := h.one
  rw [e]; exact k
theorem Still.semis {s : St} (h : Still s) : Pa.semis s.l = s.l := by
  obtain ⟨t, e, k⟩ := h.one
  rw [e, Pa.semis, if_neg]
  simp [Pa.mark, hd, k]
/-- It stays. -/
def Stays {α : Type} (m : M α) : Prop := ∀ s, Still s → ∃ a, m s = some (a, s)
section
variable {α : Type}
theorem stays_ret (a : α) : Stays (M.ret a) := fun _ _ => ⟨a, rfl⟩
theorem stays_then {β : Type} {m : M α} {k : α → M β} (h : Stays m) (hk : ∀ a, Stays (k a)) : Stays (M.andThen m k) := by
  intro s hs
  obtain ⟨a, e⟩ := h s hs
  obtain ⟨b, e'⟩ := hk a s hs
  exact ⟨b, by simp only [M.andThen, e, e']⟩
theorem stays_fail (e : Nat) : Stays (M.fail e) := fun s hs => ⟨(), by simp only [M.fail, if_neg hs.f]⟩
theorem stays_takes {m : List UInt8} (hm : m ≠ []) : Stays (M.takes m) := fun s hs => ⟨false, by simp only [M.takes]; rw [if_neg]; rw [hs.mark]; exact fun e => hm e.symm⟩
theorem stays_want {m : List UInt8} (hm : m ≠ []) : Stays (M.want m) := stays_then (stays_takes hm) fun b => by
  cases b
  · exact stays_fail 13
  · exact stays_ret ()
theorem stays_name : Stays M.name := fun s hs => by
  obtain ⟨a, e⟩ := stays_then (stays_fail 13) (fun _ => stays_ret ([] : List UInt8)) s hs
  refine ⟨a, ?_⟩
  simp only [M.name]
  change (if (hd s.l).kind = 2 then _ else (M.andThen (M.fail 13) fun _ => M.ret [])) s = _
  rw [if_neg (by rw [hs.kind]; decide)]
  exact e
theorem stays_semis : Stays M.semis := fun s hs => ⟨(), by simp [M.semis, hs.semis]⟩
theorem stays_bad {k : Bool → M α} (h : Stays (k true)) : Stays (M.andThen M.bad k) := fun s hs => by
  obtain ⟨a, e⟩ := h s hs
  exact ⟨a, by simp only [M.andThen, M.bad]; rw [show (s.f != 0) = true by simpa using hs.f]; exact e⟩
theorem stays_takes_then {m : List UInt8} (hm : m ≠ []) {k : Bool → M α} (h : Stays (k false)) : Stays (M.andThen (M.takes m) k) := fun s hs => by
  obtain ⟨a, e⟩ := h s hs
  exact ⟨a, by simp only [M.andThen, M.takes]; rw [if_neg (by rw [hs.mark]; exact fun e => hm e.symm)]; exact e⟩
theorem stays_peek {k : List Tok → M α} (h : ∀ l, mark l = [] → (hd l).kind = 0 → Stays (k l)) : Stays (M.andThen M.peek k) := fun s hs => h s.l hs.mark hs.kind s hs
theorem stays_if {c : Prop} [Decidable c] {m n : M α} (h1 : c → Stays m) (h2 : ¬ c → Stays n) : Stays (if c then m else n) := by
  split
  · exact h1 ‹_›
  · exact h2 ‹_›
end
attribute [local irreducible] Stays M.andThen
/-- The rules that stay within n steps. -/
theorem still_typeOnly (n d : Nat) : Stays (mrun (n + 1) .typeOnly d) := by
  rw [mrun]
  refine stays_peek fun l h1 h2 => ?_
  simp only [h1, h2]
  rw [if_neg (by decide), if_neg (by decide)]
  (repeat' first | exact stays_ret _ | exact stays_fail _ | exact stays_name | exact stays_semis | exact stays_want (by decide) | assumption | (refine stays_bad ?_) | (refine stays_takes_then (by decide) ?_) | (refine stays_then ?_ ?_) | (intro _) | (simp only [↓reduceIte, Bool.false_eq_true, true_or]))
theorem still_anyType (n d : Nat) : Stays (mrun (n + 2) .anyType d) := by
  rw [mrun]
  refine stays_peek fun l h1 h2 => ?_
  simp only [M.within]
  refine stays_if (fun _ => by (repeat' first | exact stays_ret _ | exact stays_fail _ | exact stays_name | exact stays_semis | exact stays_want (by decide) | assumption | (refine stays_bad ?_) | (refine stays_takes_then (by decide) ?_) | (refine stays_then ?_ ?_) | (intro _) | (simp only [↓reduceIte, Bool.false_eq_true, true_or]))) (fun _ => still_typeOnly n _)
theorem still_marked (n d : Nat) : Stays (mrun (n + 1) .marked d) := by
  rw [mrun]
  refine stays_peek fun l h1 h2 => ?_
  simp only [h1]
  repeat rw [if_neg (by decide)]
  (repeat' first | exact stays_ret _ | exact stays_fail _ | exact stays_name | exact stays_semis | exact stays_want (by decide) | assumption | (refine stays_bad ?_) | (refine stays_takes_then (by decide) ?_) | (refine stays_then ?_ ?_) | (intro _) | (simp only [↓reduceIte, Bool.false_eq_true, true_or]))
theorem still_prime (n d : Nat) : Stays (mrun (n + 2) .prime d) := by
  rw [mrun]
  refine stays_peek fun l h1 h2 => ?_
  simp only [h2]
  repeat rw [if_neg (by decide)]
  exact still_marked n d
theorem still_postLoop (n d : Nat) (x : Nd) : Stays (mrun (n + 1) (.postLoop x) d) := by
  rw [mrun]
  refine stays_peek fun l h1 h2 => ?_
  simp only [h1]
  repeat rw [if_neg (by decide)]
  (repeat' first | exact stays_ret _ | exact stays_fail _ | exact stays_name | exact stays_semis | exact stays_want (by decide) | assumption | (refine stays_bad ?_) | (refine stays_takes_then (by decide) ?_) | (refine stays_then ?_ ?_) | (intro _) | (simp only [↓reduceIte, Bool.false_eq_true, true_or]))
theorem still_post (n d : Nat) : Stays (mrun (n + 3) .post d) := by
  rw [mrun]
  exact stays_peek fun l h1 h2 => stays_then (still_prime n d) fun x => still_postLoop (n + 1) d x
theorem still_unary (n d : Nat) : Stays (mrun (n + 4) .unary d) := by
  rw [mrun]
  refine stays_peek fun l h1 h2 => ?_
  simp only [h1]
  rw [if_neg (by decide)]
  exact still_post n d
theorem still_binLoop (n d k : Nat) (x : Nd) : Stays (mrun (n + 1) (.binLoop (k + 1) x) d) := by
  rw [mrun]
  refine stays_peek fun l h1 h2 => ?_
  simp only [h1]
  rw [if_neg (by simp [tight])]
  (repeat' first | exact stays_ret _ | exact stays_fail _ | exact stays_name | exact stays_semis | exact stays_want (by decide) | assumption | (refine stays_bad ?_) | (refine stays_takes_then (by decide) ?_) | (refine stays_then ?_ ?_) | (intro _) | (simp only [↓reduceIte, Bool.false_eq_true, true_or]))
theorem still_binary (n d k : Nat) : Stays (mrun (n + 5) (.binary (k + 1)) d) := by
  rw [mrun]
  exact stays_peek fun l h1 h2 => stays_then (still_unary n d) fun x => still_binLoop (n + 3) d k x
theorem still_expr (n d : Nat) : Stays (mrun (n + 6) .expr d) := by
  rw [mrun]
  refine stays_peek fun l h1 h2 => ?_
  simp only [M.within]
  refine stays_if (fun _ => by (repeat' first | exact stays_ret _ | exact stays_fail _ | exact stays_name | exact stays_semis | exact stays_want (by decide) | assumption | (refine stays_bad ?_) | (refine stays_takes_then (by decide) ?_) | (refine stays_then ?_ ?_) | (intro _) | (simp only [↓reduceIte, Bool.false_eq_true, true_or]))) (fun _ => still_binary n _ 0)
theorem still_typedName (n d kind : Nat) : Stays (M.typedName (mrun (n + 2)) kind d) := by
  unfold M.typedName
  exact stays_peek fun l h1 h2 => stays_then stays_name fun nm => stays_then (still_anyType n d) fun t => stays_ret _
theorem still_linesLoop (n d : Nat) (r : Rule) (f : Bool) (acc : List Nd) : Stays (mrun (n + 1) (.linesLoop r f acc) d) := by
  rw [mrun]
  refine stays_peek fun l h1 h2 => ?_
  refine stays_bad ?_
  rw [if_pos (.inl rfl)]
  (repeat' first | exact stays_ret _ | exact stays_fail _ | exact stays_name | exact stays_semis | exact stays_want (by decide) | assumption | (refine stays_bad ?_) | (refine stays_takes_then (by decide) ?_) | (refine stays_then ?_ ?_) | (intro _) | (simp only [↓reduceIte, Bool.false_eq_true, true_or]))
theorem still_lines (n d : Nat) (r : Rule) (f : Bool) : Stays (mrun (n + 2) (.lines r f) d) := by
  rw [mrun]
  exact stays_peek fun l h1 h2 => stays_then stays_semis fun _ => still_linesLoop n d r f []
theorem still_braced (n d : Nat) (r : Rule) : Stays (mrun (n + 3) (.braced r) d) := by
  rw [mrun]
  exact stays_peek fun l h1 h2 => stays_then (stays_want (by decide)) fun _ => stays_then (still_lines n d r false) fun t => stays_then (stays_want (by decide)) fun _ => stays_ret _
theorem still_block (n d : Nat) : Stays (mrun (n + 4) .block d) := by
  rw [mrun]
  exact stays_peek fun l h1 h2 => stays_then (still_braced n d .stmt) fun t => stays_ret _
theorem still_listLoop (n d : Nat) (r : Rule) (acc : List Nd) : Stays (mrun (n + 1) (.listLoop r acc) d) := by
  rw [mrun]
  refine stays_peek fun l h1 h2 => stays_takes_then (by decide) ?_
  (repeat' first | exact stays_ret _ | exact stays_fail _ | exact stays_name | exact stays_semis | exact stays_want (by decide) | assumption | (refine stays_bad ?_) | (refine stays_takes_then (by decide) ?_) | (refine stays_then ?_ ?_) | (intro _) | (simp only [↓reduceIte, Bool.false_eq_true, true_or]))
theorem still_listed (n d : Nat) (r : Rule) (h : Stays (mrun (n + 1) r d)) : Stays (mrun (n + 2) (.listed r) d) := by
  rw [mrun]
  refine stays_peek fun l h1 h2 => stays_then (stays_want (by decide)) fun _ => stays_peek fun l h1 h2 => ?_
  rw [if_neg (by rw [h1]; decide)]
  exact stays_then h fun t => still_listLoop n d r [t]
theorem still_orNone (n d : Nat) (r : Rule) (ms : List (List UInt8)) (h : Stays (mrun n r d)) : Stays (mrun (n + 1) (.orNone r ms) d) := by
  rw [mrun]
  exact stays_peek fun l h1 h2 => stays_if (fun _ => stays_ret _) (fun _ => h)
end Go.Proofs.YtemmdbjcllcelaaDoor.Pa
namespace Go.Proofs.YtemmdbjcllcelaaDoor.Pa
open Go.Proofs.YtemmdbjcllcelaaDoor.Tk (Tok)

/-- The last token, and it alone is of kind 0. -/
def Ends (T : Tok) (l : List Tok) : Prop := ∃ pre : List Tok, l = pre ++ [T] ∧ ∀ t ∈ pre, t.kind ≠ 0
structure Sour (T : Tok) (x : Rs) (m : M Nd) (l : List Tok) : Prop where
  ok : ∀ (a b : Nat) (t : Nd) (rest : List Tok), x = .ok t rest → m ⟨l, 0, a, b⟩ = some (t, ⟨rest, 0, a, b⟩) ∧ Ends T rest
  bad : ∀ (a b line col e : Nat), x = .bad line col e → e ≠ 0 ∧ ∃ t, m ⟨l, 0, a, b⟩ = some (t, ⟨[T], e, line, col⟩)
section
variable {T : Tok} (hT : T.kind = 0) {x : Rs} {l : List Tok}
theorem Ends.tail {l : List Tok} (h : Ends T l) (hT : T.kind = 0) (hk : (hd l).kind ≠ 0) : Ends T l.tail := by
  obtain ⟨pre, rfl, hp⟩ := h
  cases pre with
  | nil => exact absurd hT hk
  | cons t pre => exact ⟨pre, rfl, fun u hu => hp u (List.mem_cons_of_mem _ hu)⟩
theorem Ends.last {l : List Tok} (h : Ends T l) : l.drop (l.length - 1) = [T] := by
  obtain ⟨pre, rfl, _⟩ := h
  simp
theorem mark_kind {l : List Tok} {s : List UInt8} (h : mark l = s) (hs : s ≠ []) : (hd l).kind ≠ 0 := by
  intro h0
  apply hs
  rw [← h, mark, h0]; simp
theorem Ends.semis (hT : T.kind = 0) : ∀ {l : List Tok}, Ends T l → Ends T (Pa.semis l)
  | [], h => h
  | t :: l, h => by
    rw [Pa.semis]
    split
    · rename_i hm
      exact Ends.semis hT (h.tail hT (mark_kind hm (by decide)))
    · exact h
theorem still_of {e line col : Nat} (hT : T.kind = 0) (he : e ≠ 0) : Still ⟨[T], e, line, col⟩ := ⟨he, T, rfl, hT⟩

theorem sour_ok (t : Nd) (h : Ends T l) : Sour T (.ok t l) (M.ret t) l :=
  ⟨fun a b t' rest e => by cases e; exact ⟨rfl, h⟩, fun _ _ _ _ _ e => by cases e⟩
theorem sour_dry (m : M Nd) (l : List Tok) : Sour T .dry m l := ⟨fun _ _ _ _ e => (by cases e), fun _ _ _ _ _ e => (by cases e)⟩
theorem sour_fail {e : Nat} (he : e ≠ 0) (z : Nd) (h : Ends T l) : Sour T (fail e l) (M.andThen (M.fail e) fun _ => M.ret z) l := by
  refine ⟨fun a b t rest h0 => (by cases l <;> cases h0), fun a b line col e' h0 => ?_⟩
  have hl := h.last
  cases l with
  | nil => cases h0
  | cons u l =>
    cases h0
    exact ⟨he, z, by simp only [M.andThen, M.fail, M.ret]; rw [if_pos trivial, hl]; rfl⟩
theorem sour_bind (hT : T.kind = 0) {m : M Nd} {k : Nd → List Tok → Rs} {k' : Nd → M Nd} (h : Sour T x m l) (hk : ∀ t rest, Ends T rest → Sour T (k t rest) (k' t) rest) (hs : ∀ t, Stays (k' t)) : Sour T (bind x k) (M.andThen m k') l := by
  refine ⟨fun a b t rest e => ?_, fun a b line col e' e => ?_⟩
  · cases hx : x with
    | ok t1 r1 =>
      rw [hx] at e
      obtain ⟨e1, h1⟩ := h.ok a b t1 r1 hx
      simp only [M.andThen, e1]
      exact (hk t1 r1 h1).ok a b t rest e
    | bad => rw [hx] at e; cases e
    | dry => rw [hx] at e; cases e
  · cases hx : x with
    | ok t1 r1 =>
      rw [hx] at e
      obtain ⟨e1, h1⟩ := h.ok a b t1 r1 hx
      simp only [M.andThen, e1]
      exact (hk t1 r1 h1).bad a b line col e' e
    | bad p q r =>
      rw [hx] at e
      cases e
      obtain ⟨h0, t, e1⟩ := h.bad a b _ _ _ hx
      obtain ⟨t', e2⟩ := hs t _ (still_of hT h0)
      exact ⟨h0, t', by simp only [M.andThen, e1]; exact e2⟩
    | dry => rw [hx] at e; cases e
theorem sour_pass (hT : T.kind = 0) {k' : Unit → M Nd} (h : Ends T l) (hk : (hd l).kind ≠ 0) (h1 : Ends T l.tail → Sour T x (k' ()) l.tail) : Sour T x (M.andThen M.pass k') l :=
  have h2 := h1 (h.tail hT hk)
  ⟨fun a b t rest e => h2.ok a b t rest e, fun a b line col e' e => h2.bad a b line col e' e⟩
theorem sour_peek {k' : List Tok → M Nd} (h : Sour T x (k' l) l) : Sour T x (M.andThen M.peek k') l := ⟨fun a b t rest e => h.ok a b t rest e, fun a b line col e' e => h.bad a b line col e' e⟩
theorem sour_ret {α : Type} {v : α} {k' : α → M Nd} (h : Sour T x (k' v) l) : Sour T x (M.andThen (M.ret v) k') l := ⟨fun a b t rest e => h.ok a b t rest e, fun a b line col e' e => h.bad a b line col e' e⟩
theorem sour_bad {k' : Bool → M Nd} (h : Sour T x (k' false) l) : Sour T x (M.andThen M.bad k') l := ⟨fun a b t rest e => h.ok a b t rest e, fun a b line col e' e => h.bad a b line col e' e⟩
theorem sour_semis (hT : T.kind = 0) {k' : Unit → M Nd} (h : Ends T l) (h1 : Ends T (semis l) → Sour T x (k' ()) (semis l)) : Sour T x (M.andThen M.semis k') l :=
  have h2 := h1 (h.semis hT)
  ⟨fun a b t rest e => h2.ok a b t rest e, fun a b line col e' e => h2.bad a b line col e' e⟩
theorem sour_wantT (hT : T.kind = 0) {s : List UInt8} (hs : s ≠ []) {k' : Unit → M Nd} (h : Ends T l) (hk : mark l = s) (h1 : Ends T l.tail → Sour T x (k' ()) l.tail) : Sour T x (M.andThen (M.want s) k') l := by
  have h2 := h1 (h.tail hT (mark_kind hk hs))
  refine ⟨fun a b t rest e => ?_, fun a b line col e' e => ?_⟩ <;> simp only [M.andThen, M.want, M.takes, if_pos hk]
  · exact h2.ok a b t rest e
  · exact h2.bad a b line col e' e
theorem sour_want (hT : T.kind = 0) {s : List UInt8} (hs : s ≠ []) {k : List Tok → Rs} {k' : Unit → M Nd} (h : Ends T l) (h1 : mark l = s → Ends T l.tail → Sour T (k l.tail) (k' ()) l.tail) (hst : Stays (k' ())) : Sour T (want s l k) (M.andThen (M.want s) k') l := by
  by_cases hm : mark l = s
  · rw [want, if_pos hm]
    exact sour_wantT hT hs h hm (h1 hm)
  · rw [want, if_neg hm]
    refine ⟨fun a b t rest h0 => (by cases l <;> cases h0), fun a b line col e' h0 => ?_⟩
    have hl := h.last
    cases l with
    | nil => cases h0
    | cons u l =>
      cases h0
      obtain ⟨t, e⟩ := hst ⟨[T], 13, u.line, u.col⟩ (still_of hT (by decide))
      refine ⟨by decide, t, ?_⟩
      simp only [M.andThen, M.want, M.takes, if_neg hm, Bool.false_eq_true, ↓reduceIte, M.fail]
      rw [hl]
      exact e
theorem sour_nameT (hT : T.kind = 0) {k' : List UInt8 → M Nd} (h : Ends T l) (hk : (hd l).kind = 2) (h1 : Ends T l.tail → Sour T x (k' (hd l).text) l.tail) : Sour T x (M.andThen M.name k') l := by
  have h2 := h1 (h.tail hT (by rw [hk]; decide))
  refine ⟨fun a b t rest e => ?_, fun a b line col e' e => ?_⟩ <;> simp only [M.andThen, M.name, M.peek, if_pos hk, M.pass, M.ret]
  · exact h2.ok a b t rest e
  · exact h2.bad a b line col e' e
theorem sour_name (hT : T.kind = 0) {k : List UInt8 → List Tok → Rs} {k' : List UInt8 → M Nd} (h : Ends T l) (h1 : (hd l).kind = 2 → Ends T l.tail → Sour T (k (hd l).text l.tail) (k' (hd l).text) l.tail) (hst : Stays (k' [])) : Sour T (name l k) (M.andThen M.name k') l := by
  by_cases hm : (hd l).kind = 2
  · rw [name, if_pos hm]
    exact sour_nameT hT h hm (h1 hm)
  · rw [name, if_neg hm]
    refine ⟨fun a b t rest h0 => (by cases l <;> cases h0), fun a b line col e' h0 => ?_⟩
    have hl := h.last
    cases l with
    | nil => cases h0
    | cons u l =>
      cases h0
      obtain ⟨t, e⟩ := hst ⟨[T], 13, u.line, u.col⟩ (still_of hT (by decide))
      refine ⟨by decide, t, ?_⟩
      simp only [M.andThen, M.name, M.peek, if_neg hm, M.fail, M.ret]
      rw [if_pos trivial, hl]
      exact e
theorem sour_takes_if (hT : T.kind = 0) {y : Rs} {s : List UInt8} (hs : s ≠ []) {k' : Bool → M Nd} (h : Ends T l) (h1 : mark l = s → Ends T l.tail → Sour T x (k' true) l.tail) (h2 : mark l ≠ s → Sour T y (k' false) l) : Sour T (if mark l = s then x else y) (M.andThen (M.takes s) k') l := by
  split
  · rename_i hm
    have h3 := h1 hm (h.tail hT (mark_kind hm hs))
    refine ⟨fun a b t rest e => ?_, fun a b line col e' e => ?_⟩ <;> simp only [M.andThen, M.takes, if_pos hm]
    · exact h3.ok a b t rest e
    · exact h3.bad a b line col e' e
  · rename_i hm
    have h3 := h2 hm
    refine ⟨fun a b t rest e => ?_, fun a b line col e' e => ?_⟩ <;> simp only [M.andThen, M.takes, if_neg hm]
    · exact h3.ok a b t rest e
    · exact h3.bad a b line col e' e
theorem sour_if {c : Prop} [Decidable c] {y : Rs} {m n : M Nd} (h1 : c → Sour T x m l) (h2 : ¬ c → Sour T y n l) : Sour T (if c then x else y) (if c then m else n) l := by
  split
  · exact h1 ‹_›
  · exact h2 ‹_›
theorem sour_ifthen {α : Type} {c : Prop} [Decidable c] {y : Rs} {m n : M α} {k' : α → M Nd} (h1 : c → Sour T x (M.andThen m k') l) (h2 : ¬ c → Sour T y (M.andThen n k') l) : Sour T (if c then x else y) (M.andThen (if c then m else n) k') l := by
  split
  · exact h1 ‹_›
  · exact h2 ‹_›
end
end Go.Proofs.YtemmdbjcllcelaaDoor.Pa
namespace Go.Proofs.YtemmdbjcllcelaaDoor.Pa
open Go.Proofs.YtemmdbjcllcelaaDoor.Tk (Tok)

/-- The rules that stay. -/
def Safe : Rule → Prop
  | .anyType | .expr | .param | .unary | .postLoop _ | .block | .elsePart => True
  | .binary k | .binLoop k _ => k ≠ 0
  | .listed r | .orNone r _ => r = .anyType ∨ r = .expr ∨ r = .param
  | .braced _ | .lines _ _ | .linesLoop _ _ _ | .listLoop _ _ => True
  | .parts _ ps _ => ps.length ≤ 2 ∧ ∀ p ∈ ps, p = .expr ∨ p = .anyType
  | _ => False
def Calm (rd : Rule → Nat → M Nd) : Prop := ∀ (r : Rule) (d : Nat), Safe r → Stays (rd r d)

theorem still_param (n d : Nat) : Stays (mrun (n + 3) .param d) := by
  rw [mrun]
  exact stays_peek fun l h1 h2 => still_typedName n d 7
theorem still_elsePart (n d : Nat) : Stays (mrun (n + 1) .elsePart d) := by
  rw [mrun]
  refine stays_peek fun l h1 h2 => stays_takes_then (by decide) ?_
  exact stays_ret _
theorem still_oneOf (n d : Nat) {r : Rule} (h : r = .expr ∨ r = .anyType) : Stays (mrun (n + 6) r d) := by
  rcases h with rfl | rfl
  · exact still_expr n d
  · exact still_anyType (n + 4) d
theorem still_sep (b : Bool) : Stays (if b = true then M.ret () else M.want [44]) := stays_if (fun _ => stays_ret _) (fun _ => stays_want (by decide))
theorem still_parts (n d : Nat) : ∀ (k : Nat) (b : Bool) (ps : List Rule) (acc : List Nd), ps.length ≤ k → (∀ p ∈ ps, p = .expr ∨ p = .anyType) → Stays (mrun (n + 6 + k + 1) (.parts b ps acc) d)
  | k, b, [], acc, _, _ => by
    rw [mrun]
    exact stays_peek fun l h1 h2 => stays_ret _
  | 0, _, _ :: _, _, h, _ => absurd h (by simp)
  | k + 1, b, p :: ps, acc, h, hp => by
    rw [mrun]
    refine stays_peek fun l h1 h2 => stays_then (still_sep b) fun _ => stays_then ?_ fun t => ?_
    · have := still_oneOf (n + k + 1) d (hp p List.mem_cons_self)
      rwa [show n + k + 1 + 6 = n + 6 + (k + 1) by omega] at this
    · exact still_parts n d k false ps _ (by simpa using h) (fun q hq => hp q (List.mem_cons_of_mem _ hq))
theorem still_low (n d : Nat) {r : Rule} (h : r = .anyType ∨ r = .expr ∨ r = .param) : Stays (mrun (n + 6) r d) := by
  rcases h with rfl | rfl | rfl
  · exact still_anyType (n + 4) d
  · exact still_expr n d
  · exact still_param (n + 3) d
theorem calm (n : Nat) : Calm (mrun (n + 12)) := by
  intro r d h
  cases r <;> simp only [Safe] at h
  case anyType => exact still_anyType (n + 10) d
  case expr => exact still_expr (n + 6) d
  case param => exact still_param (n + 9) d
  case unary => exact still_unary (n + 8) d
  case postLoop x => exact still_postLoop (n + 11) d x
  case block => exact still_block (n + 8) d
  case elsePart => exact still_elsePart (n + 11) d
  case binary k =>
    obtain ⟨j, rfl⟩ : ∃ j, k = j + 1 := ⟨k - 1, by omega⟩
    exact still_binary (n + 7) d j
  case binLoop k x =>
    obtain ⟨j, rfl⟩ : ∃ j, k = j + 1 := ⟨k - 1, by omega⟩
    exact still_binLoop (n + 11) d j x
  case listed r => exact still_listed (n + 10) d r (still_low (n + 5) d h)
  case orNone r ms => exact still_orNone (n + 11) d r ms (still_low (n + 5) d h)
  case braced r => exact still_braced (n + 9) d r
  case lines r f => exact still_lines (n + 10) d r f
  case linesLoop r f acc => exact still_linesLoop (n + 11) d r f acc
  case listLoop r acc => exact still_listLoop (n + 11) d r acc
  case parts b ps acc => exact still_parts (n + 3) d 2 b ps acc h.1 h.2
end Go.Proofs.YtemmdbjcllcelaaDoor.Pa
namespace Go.Proofs.YtemmdbjcllcelaaDoor.Pa
open Go.Proofs.YtemmdbjcllcelaaDoor.Tk (Tok)

abbrev Low (r : Rule) : Prop := r = .anyType ∨ r = .expr ∨ r = .param
abbrev Line (r : Rule) : Prop := r = .decl ∨ r = .method ∨ r = .field ∨ r = .stmt
/-- What a rule may ask of what comes next. -/
def Pre (r : Rule) (l : List Tok) : Prop := match r with
  | .typeDecl | .funcDecl | .dotted _ | .indexed _ | .varStmt | .ifStmt | .forStmt | .returnStmt | .printStmt => (hd l).kind ≠ 0
  | .built _ ps => (hd l).kind ≠ 0 ∧ ps.length ≤ 2 ∧ ∀ p ∈ ps, p = .expr ∨ p = .anyType
  | .parts _ ps _ => ps.length ≤ 2 ∧ ∀ p ∈ ps, p = .expr ∨ p = .anyType
  | .binary k | .binLoop k _ => k ≠ 0
  | .listed r | .listLoop r _ | .orNone r _ => Low r
  | .lines r _ | .linesLoop r _ _ | .braced r => Line r
  | _ => True
theorem pre_low {r : Rule} (h : Low r) (l : List Tok) : Pre r l := by rcases h with rfl | rfl | rfl <;> trivial
theorem pre_line {r : Rule} (h : Line r) (l : List Tok) : Pre r l := by rcases h with rfl | rfl | rfl | rfl <;> trivial
theorem safe_low {r : Rule} (h : Low r) : Safe r := by rcases h with rfl | rfl | rfl <;> trivial
theorem tight_kind {k : Nat} {l : List Tok} (h : k ≤ tight (mark l)) (h0 : k ≠ 0) : (hd l).kind ≠ 0 := by
  intro e
  have : mark l = [] := by simp [mark, e]
  rw [this] at h
  simp [tight] at h
  exact h0 h
theorem word_kind {a b c : List UInt8} {l : List Tok} (h : mark l = a ∨ mark l = b ∨ mark l = c ∨ (hd l).kind = 2) (ha : a ≠ []) (hb : b ≠ []) (hc : c ≠ []) : (hd l).kind ≠ 0 := by
  rcases h with h | h | h | h
  · exact mark_kind h ha
  · exact mark_kind h hb
  · exact mark_kind h hc
  · omega
theorem two_kind {a b : List UInt8} {l : List Tok} (h : mark l = a ∨ mark l = b) (ha : a ≠ []) (hb : b ≠ []) : (hd l).kind ≠ 0 := by
  rcases h with h | h
  · exact mark_kind h ha
  · exact mark_kind h hb

attribute [local irreducible] Stays M.andThen
set_option maxHeartbeats 4000000 in
theorem step_sour {T : Tok} (hT : T.kind = 0) {rd : Rule → Nat → List Tok → Rs} {rd' : Rule → Nat → M Nd} (hc : Calm rd') (h : ∀ r d l, Pre r l → Ends T l → Sour T (rd r d l) (rd' r d) l) (r : Rule) (d : Nat) (l : List Tok) (hp : Pre r l) (he : Ends T l) : Sour T (step rd r d l) (mstep rd' r d) l := by
  refine sour_peek ?_
  cases r
  case parts first ps acc =>
    obtain ⟨h1, h2⟩ : ps.length ≤ 2 ∧ ∀ p ∈ ps, p = .expr ∨ p = .anyType := hp
    cases ps with
    | nil => exact sour_ok _ he
    | cons p ps =>
      have h3 : ps.length ≤ 2 ∧ ∀ q ∈ ps, q = .expr ∨ q = .anyType := ⟨by simp at h1; omega, fun q hq => h2 q (List.mem_cons_of_mem _ hq)⟩
      have h4 : p = .expr ∨ p = .anyType := h2 p List.mem_cons_self
      have h5 : ∀ l, Pre p l := fun l => by rcases h4 with rfl | rfl <;> trivial
      have h6 : Safe p := by rcases h4 with rfl | rfl <;> trivial
      simp only [step]
      refine sour_ifthen (fun _ => sour_ret (sour_bind hT (h _ _ _ (h5 _) he) (fun t rest h7 => h _ _ _ h3 h7) (fun t => hc _ _ h3))) (fun _ => ?_)
      exact sour_want hT (by decide) he (fun _ h8 => sour_bind hT (h _ _ _ (h5 _) h8) (fun t rest h7 => h _ _ _ h3 h7) (fun t => hc _ _ h3)) (stays_then (hc _ _ h6) (fun t => hc _ _ h3))
  case built kind ps =>
    obtain ⟨h1, h2⟩ : (hd l).kind ≠ 0 ∧ ps.length ≤ 2 ∧ ∀ p ∈ ps, p = .expr ∨ p = .anyType := hp
    simp only [step]
    exact sour_pass hT he h1 fun h3 => sour_want hT (by decide) h3 (fun _ h4 => sour_bind hT (h _ _ _ h2 h4) (fun t rest h5 => sour_want hT (by decide) h5 (fun _ h6 => sour_ok _ h6) (stays_ret _)) (fun t => stays_then (stays_want (by decide)) fun _ => stays_ret _))
      (stays_then (hc _ _ h2) fun t => stays_then (stays_want (by decide)) fun _ => stays_ret _)
  all_goals simp only [Pre] at hp
  all_goals simp only [step, typedName, M.typedName, M.within]
  all_goals repeat' first
    | exact sour_ok _ (by assumption)
    | exact sour_fail (by decide) _ (by assumption)
    | exact h _ _ _ (by (first | exact True.intro | (first | assumption | exact mark_kind (by assumption) (by decide) | exact two_kind (by assumption) (by decide) (by decide) | exact word_kind (by assumption) (by decide) (by decide) (by decide) | exact tight_kind (by assumption) (by assumption) | omega) | (simp [Pre, Low, Line]; done) | exact pre_low (by assumption) _ | exact pre_line (by assumption) _ | exact ⟨by (first | assumption | exact mark_kind (by assumption) (by decide) | exact two_kind (by assumption) (by decide) (by decide) | exact word_kind (by assumption) (by decide) (by decide) (by decide) | exact tight_kind (by assumption) (by assumption) | omega), by decide, by simp⟩)) (by assumption)
    | exact stays_ret _
    | exact stays_fail _
    | exact stays_name
    | exact stays_semis
    | exact stays_want (by decide)
    | exact hc _ _ (by (first | exact True.intro | assumption | exact safe_low (by assumption) | (simp [Safe]; done)))
    | (refine sour_want hT (by decide) (by assumption) ?_ ?_)
    | (refine sour_name hT (by assumption) ?_ ?_)
    | (refine sour_pass hT (by assumption) (by (first | assumption | exact mark_kind (by assumption) (by decide) | exact two_kind (by assumption) (by decide) (by decide) | exact word_kind (by assumption) (by decide) (by decide) (by decide) | exact tight_kind (by assumption) (by assumption) | omega)) ?_)
    | (refine sour_peek ?_)
    | (refine sour_semis hT (by assumption) ?_)
    | (refine sour_bad ?_)
    | (refine sour_ret ?_)
    | (refine sour_takes_if hT (by decide) (by assumption) ?_ ?_)
    | (refine sour_nameT hT (by assumption) (by assumption) ?_)
    | (refine sour_wantT hT (by decide) (by assumption) (by assumption) ?_)
    | (refine sour_ifthen ?_ ?_)
    | (refine sour_if ?_ ?_)
    | (refine sour_bind hT ?_ ?_ ?_)
    | (refine stays_takes_then (by decide) ?_)
    | (refine stays_peek fun _ _ _ => ?_)
    | (rw [if_neg (by rw [‹mark _ = []›]; decide)])
    | (refine stays_then (stays_if ?_ ?_) ?_)
    | (refine stays_then ?_ ?_)
    | (intro _ _ _)
    | (intro _ _)
    | (intro _)
    | (simp only [Bool.false_eq_true, false_or])
theorem run_sour {T : Tok} (hT : T.kind = 0) : ∀ (n : Nat) (r : Rule) (d : Nat) (l : List Tok), Pre r l → Ends T l → Sour T (run n r d l) (mrun (n + 12) r d) l
  | 0, _, _, _, _, _ => sour_dry _ _
  | _ + 1, _, _, [], _, _ => sour_dry _ _
  | n + 1, r, d, t :: l, hp, he => by
    have := step_sour hT (calm n) (run_sour hT n) r d (t :: l) hp he
    rw [show n + 1 + 12 = n + 12 + 1 by omega]
    exact this
end Go.Proofs.YtemmdbjcllcelaaDoor.Pa
