/-
  Chapter 4 said as functions on lists of tokens: trees, or the first error: no function of the program is named here.
-/
import Derived.Test.YtemmdbjcllcelaaDoorTnSpec
namespace Go.Proofs.YtemmdbjcllcelaaDoor.Pa
open Go.Proofs.YtemmdbjcllcelaaDoor.Tk (Tok)

/-- A tree. -/
inductive Nd
  | mk (kind : Nat) (name : List UInt8) (n line col : Nat) (kids : List Nd)
inductive Rs
  | ok (t : Nd) (rest : List Tok)
  | bad (line col e : Nat)
  | dry
def none_ : Nd := .mk 38 [] 0 0 0 []
/-- Trees in a row. -/
def lst (l : List Nd) : Nd := .mk 0 [] 0 0 0 l
def Nd.kids : Nd → List Nd
  | .mk _ _ _ _ _ l => l
def hd (l : List Tok) : Tok := match l with
  | [] => ⟨0, [], 0, 0, 0⟩
  | t :: _ => t
def mark (l : List Tok) : List UInt8 := if (hd l).kind = 6 ∨ (hd l).kind = 3 ∨ (hd l).kind = 1 then (hd l).text else []
def fail (e : Nat) (l : List Tok) : Rs := match l with
  | [] => .dry
  | t :: _ => .bad t.line t.col e
def bind (r : Rs) (k : Nd → List Tok → Rs) : Rs := match r with
  | .ok t l => k t l
  | .bad a b c => .bad a b c
  | .dry => .dry
def want (s : List UInt8) (l : List Tok) (k : List Tok → Rs) : Rs := if mark l = s then k l.tail else fail 13 l
def name (l : List Tok) (k : List UInt8 → List Tok → Rs) : Rs := if (hd l).kind = 2 then k (hd l).text l.tail else fail 13 l
/-- A node of a kind at the next token. -/
def at_ (kind : Nat) (l : List Tok) (nm : List UInt8) (n : Nat) (kids : List Nd) : Nd := .mk kind nm n (hd l).line (hd l).col kids
def semis : List Tok → List Tok
  | [] => []
  | t :: l => if mark (t :: l) = [59] then semis l else t :: l
def over (file : Bool) (l : List Tok) : Bool := if file then (hd l).kind == 0 else mark l == [125]
def tight (s : List UInt8) : Nat :=
  if s = [124, 124] then 1 else if s = [38, 38] then 2
  else if s = [61, 61] ∨ s = [33, 61] ∨ s = [60] ∨ s = [60, 61] ∨ s = [62] ∨ s = [62, 61] then 3
  else if s = [43] ∨ s = [45] then 4 else if s = [42] ∨ s = [47] ∨ s = [37] then 5 else 0

inductive Rule
  | file | decl | typeDecl | funcDecl | field | param | method | receiver | anyType | typeOnly
  | expr | binary (least : Nat) | binLoop (least : Nat) (left : Nd) | unary | post | postLoop (n : Nd) | dotted (x : Nd) | indexed (x : Nd) | prime | marked | wrapped
  | block | stmt | choose | varStmt | ifStmt | elsePart | forStmt | returnStmt | printStmt | simple
  | lines (r : Rule) (file : Bool) | linesLoop (r : Rule) (file : Bool) (acc : List Nd) | braced (r : Rule)
  | listed (r : Rule) | listLoop (r : Rule) (acc : List Nd)
  | orNone (r : Rule) (marks : List (List UInt8))
  | built (kind : Nat) (parts : List Rule) | parts (first : Bool) (ps : List Rule) (acc : List Nd)

section
variable (rd : Rule → Nat → List Tok → Rs)
def typedName (kind d : Nat) (l : List Tok) : Rs := name l fun nm l1 => bind (rd .anyType d l1) fun t l2 => .ok (at_ kind l nm 0 [t]) l2
/-- One step into the grammar. -/
def step (r : Rule) (d : Nat) (l : List Tok) : Rs := match r with
  | .file => bind (rd (.lines .decl true) d l) fun t l1 => .ok (at_ 1 l [] 0 t.kids) l1
  | .decl => if mark l = [116, 121, 112, 101] then rd .typeDecl d l else if mark l = [102, 117, 110, 99] then rd .funcDecl d l else fail 13 l
  | .typeDecl => name l.tail fun nm l1 =>
      if mark l1 = [105, 110, 116, 101, 114, 102, 97, 99, 101] then bind (rd (.braced .method) d l1.tail) fun t l2 => .ok (at_ 3 l nm 0 t.kids) l2
      else want [115, 116, 114, 117, 99, 116] l1 fun l2 => bind (rd (.braced .field) d l2) fun t l3 => .ok (at_ 2 l nm 0 t.kids) l3
  | .field => typedName rd 4 d l
  | .param => typedName rd 7 d l
  | .method => name l fun nm l1 => bind (rd (.listed .anyType) d l1) fun ps l2 => bind (rd (.orNone .anyType [[59], [125]]) d l2) fun res l3 => .ok (at_ 5 l nm 0 (res :: ps.kids)) l3
  | .funcDecl =>
      let go := fun (recv : Nd) (l1 : List Tok) => name l1 fun nm l2 => bind (rd (.listed .param) d l2) fun ps l3 => bind (rd (.orNone .anyType [[123]]) d l3) fun res l4 => bind (rd .block d l4) fun body l5 => .ok (at_ 6 l nm 0 (recv :: res :: body :: ps.kids)) l5
      if mark l.tail = [40] then bind (rd .receiver d l.tail) go else go none_ l.tail
  | .receiver => want [40] l fun l1 => name l1 fun nm l2 => name l2 fun tn l3 => want [41] l3 fun l4 => .ok (at_ 7 l1 nm 0 [at_ 8 l2 tn 0 []]) l4
  | .anyType => if d = 40 then fail 14 l else rd .typeOnly (d + 1) l
  | .typeOnly =>
      if mark l = [91] then want [93] l.tail fun l1 => bind (rd .anyType d l1) fun t l2 => .ok (at_ 9 l [] 0 [t]) l2
      else if mark l = [105, 110, 116] ∨ mark l = [98, 111, 111, 108] ∨ mark l = [115, 116, 114, 105, 110, 103] ∨ (hd l).kind = 2 then .ok (at_ 8 l (hd l).text 0 []) l.tail
      else fail 13 l
  | .expr => if d = 40 then fail 14 l else rd (.binary 1) (d + 1) l
  | .binary least => bind (rd .unary d l) fun x l1 => rd (.binLoop least x) d l1
  | .binLoop least left => if least ≤ tight (mark l) then bind (rd (.binary (tight (mark l) + 1)) d l.tail) fun y l1 => rd (.binLoop least (at_ 28 l (mark l) 0 [left, y])) d l1 else .ok left l
  | .unary => if mark l = [45] ∨ mark l = [33] then bind (rd .unary d l.tail) fun x l1 => .ok (at_ 27 l (mark l) 0 [x]) l1 else rd .post d l
  | .post => bind (rd .prime d l) fun x l1 => rd (.postLoop x) d l1
  | .postLoop x => if mark l = [46] then bind (rd (.dotted x) d l) fun y l1 => rd (.postLoop y) d l1
      else if mark l = [91] then bind (rd (.indexed x) d l) fun y l1 => rd (.postLoop y) d l1 else .ok x l
  | .dotted x =>
      if mark l.tail = [40] then bind (rd .anyType d l.tail.tail) fun t l1 => want [41] l1 fun l2 => .ok (at_ 37 l [] 0 [x, t]) l2
      else name l.tail fun nm l1 => if mark l1 = [40] then bind (rd (.listed .expr) d l1) fun ps l2 => .ok (at_ 31 l nm 0 (x :: ps.kids)) l2 else .ok (at_ 30 l nm 0 [x]) l1
  | .indexed x => bind (rd .expr d l.tail) fun y l1 => want [93] l1 fun l2 => .ok (at_ 32 l [] 0 [x, y]) l2
  | .prime =>
      if (hd l).kind = 4 then .ok (at_ 21 l [] (hd l).n []) l.tail
      else if (hd l).kind = 5 then .ok (at_ 24 l (hd l).text 0 []) l.tail
      else if (hd l).kind = 2 then (if mark l.tail = [40] then bind (rd (.listed .expr) d l.tail) fun ps l1 => .ok (at_ 29 l (hd l).text 0 ps.kids) l1 else .ok (at_ 26 l (hd l).text 0 []) l.tail)
      else rd .marked d l
  | .marked =>
      if mark l = [116, 114, 117, 101] then .ok (at_ 22 l [] 0 []) l.tail
      else if mark l = [102, 97, 108, 115, 101] then .ok (at_ 23 l [] 0 []) l.tail
      else if mark l = [110, 105, 108] then .ok (at_ 25 l [] 0 []) l.tail
      else if mark l = [108, 101, 110] then rd (.built 33 [.expr]) d l
      else if mark l = [109, 97, 107, 101] then rd (.built 34 [.anyType, .expr]) d l
      else if mark l = [110, 101, 119] then rd (.built 35 [.anyType]) d l
      else if mark l = [105, 110, 112, 117, 116] then rd (.built 36 []) d l
      else if mark l = [40] then rd .wrapped d l
      else fail 13 l
  | .built kind ps => want [40] l.tail fun l1 => bind (rd (.parts true ps []) d l1) fun t l2 => want [41] l2 fun l3 => .ok (at_ kind l [] 0 t.kids) l3
  | .parts first ps acc => match ps with
    | [] => .ok (lst acc) l
    | p :: ps => if first then bind (rd p d l) fun t l1 => rd (.parts false ps (acc ++ [t])) d l1
      else want [44] l fun l1 => bind (rd p d l1) fun t l2 => rd (.parts false ps (acc ++ [t])) d l2
  | .wrapped => want [40] l fun l1 => bind (rd .expr d l1) fun x l2 => want [41] l2 fun l3 => .ok x l3
  | .block => bind (rd (.braced .stmt) d l) fun t l1 => .ok (at_ 10 l [] 0 t.kids) l1
  | .stmt => if d = 40 then fail 14 l else rd .choose (d + 1) l
  | .choose =>
      if mark l = [123] then rd .block d l
      else if mark l = [118, 97, 114] then rd .varStmt d l
      else if mark l = [105, 102] then rd .ifStmt d l
      else if mark l = [102, 111, 114] then rd .forStmt d l
      else if mark l = [98, 114, 101, 97, 107] then .ok (at_ 16 l [] 0 []) l.tail
      else if mark l = [99, 111, 110, 116, 105, 110, 117, 101] then .ok (at_ 17 l [] 0 []) l.tail
      else if mark l = [114, 101, 116, 117, 114, 110] then rd .returnStmt d l
      else if mark l = [112, 114, 105, 110, 116] then rd .printStmt d l
      else rd .simple d l
  | .varStmt => name l.tail fun nm l1 => bind (rd .anyType d l1) fun t l2 =>
      if mark l2 = [61] then bind (rd .expr d l2.tail) fun x l3 => .ok (at_ 11 l nm 0 [t, x]) l3 else .ok (at_ 11 l nm 0 [t, none_]) l2
  | .ifStmt => bind (rd .expr d l.tail) fun x l1 => bind (rd .block d l1) fun b l2 => bind (rd .elsePart d l2) fun e l3 => .ok (at_ 14 l [] 0 [x, b, e]) l3
  | .elsePart => if mark l = [101, 108, 115, 101] then (if mark l.tail = [105, 102] then rd .ifStmt d l.tail else rd .block d l.tail) else .ok none_ l
  | .forStmt => bind (rd (.orNone .expr [[123]]) d l.tail) fun x l1 => bind (rd .block d l1) fun b l2 => .ok (at_ 15 l [] 0 [x, b]) l2
  | .returnStmt => bind (rd (.orNone .expr [[59], [125]]) d l.tail) fun x l1 => .ok (at_ 18 l [] 0 [x]) l1
  | .printStmt => want [40] l.tail fun l1 => bind (rd .expr d l1) fun x l2 => want [41] l2 fun l3 => .ok (at_ 20 l [] 0 [x]) l3
  | .simple => bind (rd .expr d l) fun x l1 =>
      if mark l1 = [58, 61] then bind (rd .expr d l1.tail) fun y l2 => .ok (at_ 12 l1 [] 0 [x, y]) l2
      else if mark l1 = [61] then bind (rd .expr d l1.tail) fun y l2 => .ok (at_ 13 l1 [] 0 [x, y]) l2
      else .ok (at_ 19 l [] 0 [x]) l1
  | .lines r f => rd (.linesLoop r f []) d (semis l)
  | .linesLoop r f acc => if over f l then .ok (lst acc) l
      else bind (rd r d l) fun t l1 => if over f l1 then rd (.linesLoop r f (acc ++ [t])) d (semis l1) else want [59] l1 fun l2 => rd (.linesLoop r f (acc ++ [t])) d (semis l2)
  | .braced r => want [123] l fun l1 => bind (rd (.lines r false) d l1) fun t l2 => want [125] l2 fun l3 => .ok t l3
  | .listed r => want [40] l fun l1 => if mark l1 = [41] then .ok (lst []) l1.tail else bind (rd r d l1) fun t l2 => rd (.listLoop r [t]) d l2
  | .listLoop r acc => if mark l = [44] then bind (rd r d l.tail) fun t l1 => rd (.listLoop r (acc ++ [t])) d l1 else want [41] l fun l1 => .ok (lst acc) l1
  | .orNone r ms => if mark l ∈ ms then .ok none_ l else rd r d l
end
/-- So many steps. -/
def run : Nat → Rule → Nat → List Tok → Rs
  | 0 => fun _ _ _ => .dry
  | n + 1 => fun r d l => match l with
    | [] => .dry
    | t :: l => step (run n) r d (t :: l)

/-- More steps turn nothing. -/
def Rs.le (a b : Rs) : Prop := a = .dry ∨ a = b
theorem Rs.le.refl (a : Rs) : Rs.le a a := .inr rfl
theorem bind_le {a b : Rs} {k k' : Nd → List Tok → Rs} (h : Rs.le a b) (hk : ∀ t l, Rs.le (k t l) (k' t l)) : Rs.le (bind a k) (bind b k') := by
  rcases h with rfl | rfl
  · exact .inl rfl
  · cases a with
    | ok t l => exact hk t l
    | bad => exact .inr rfl
    | dry => exact .inl rfl
theorem want_le {s : List UInt8} {l : List Tok} {k k' : List Tok → Rs} (hk : ∀ l, Rs.le (k l) (k' l)) : Rs.le (want s l k) (want s l k') := by
  unfold want; split
  · exact hk _
  · exact .refl _
theorem name_le {l : List Tok} {k k' : List UInt8 → List Tok → Rs} (hk : ∀ s l, Rs.le (k s l) (k' s l)) : Rs.le (name l k) (name l k') := by
  unfold name; split
  · exact hk _ _
  · exact .refl _
theorem step_le {rd rd' : Rule → Nat → List Tok → Rs} (h : ∀ r d l, Rs.le (rd r d l) (rd' r d l)) (r : Rule) (d : Nat) (l : List Tok) : Rs.le (step rd r d l) (step rd' r d l) := by
  cases r <;> simp only [step, typedName] <;> repeat' first
    | exact Rs.le.refl _
    | exact h _ _ _
    | (refine bind_le ?_ ?_)
    | (refine want_le ?_)
    | (refine name_le ?_)
    | (intro _ _)
    | (intro _)
    | split
theorem run_le : ∀ (n : Nat) (r : Rule) (d : Nat) (l : List Tok), Rs.le (run n r d l) (run (n + 1) r d l)
  | 0, _, _, _ => .inl rfl
  | _ + 1, _, _, [] => .refl _
  | n + 1, r, d, t :: l => step_le (run_le n) r d (t :: l)
theorem run_more {n : Nat} {r : Rule} {d : Nat} {l : List Tok} {x : Rs} (h : run n r d l = x) (hx : x ≠ .dry) : ∀ m, run (n + m) r d l = x
  | 0 => h
  | m + 1 => by
    have h1 := run_more h hx m
    rcases run_le (n + m) r d l with h2 | h2
    · rw [h1] at h2; exact absurd h2 hx
    · rw [← Nat.add_assoc, ← h2]; exact h1
/-- What the grammar says of a rule: with enough steps. -/
def Says (r : Rule) (d : Nat) (l : List Tok) (x : Rs) : Prop := x ≠ .dry ∧ ∃ n, run n r d l = x
theorem Says.det {r : Rule} {d : Nat} {l : List Tok} {x y : Rs} (h : Says r d l x) (k : Says r d l y) : x = y := by
  obtain ⟨hx, n, hn⟩ := h
  obtain ⟨hy, m, hm⟩ := k
  have a := run_more hn hx m
  have b := run_more hm hy n
  rw [Nat.add_comm, a] at b
  exact b
end Go.Proofs.YtemmdbjcllcelaaDoor.Pa
