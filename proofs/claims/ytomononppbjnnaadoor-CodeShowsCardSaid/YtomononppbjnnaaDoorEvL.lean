/-
  A run that is reckoned over blocks with names of its own: code and calls, reckoned: no function of a program is named here.
-/
import Derived.Test.YtomononppbjnnaaDoorEvK
namespace Go.Proofs.YtomononppbjnnaaDoor
noncomputable section

/-- A frame. -/
structure En where
  n : Nat
  t : Tr Value
def En.get (e : En) (i : Nat) : Value := match Nat.blt i e.n with
  | true => match Tr.get 30 e.t i with
    | some v => v
    | none => undef
  | false => undef
def En.act (e : En) : Act := { tmps := ⟨(List.range e.n).map e.get⟩, defers := [] }
def En.eval (e : En) : Operand → Value
  | .tmp t => e.get t
  | .const v => v
  | .global g => .pointer (some ⟨g, 0, none⟩)
  | .func f => .func (.func f) #[] #[]
def En.put (e : En) (d : Option Tmp) (v : Value) : En := match d with
  | some d => match Nat.blt d e.n with
    | true => ⟨e.n, Tr.set 30 e.t d v⟩
    | false => e
  | none => e
theorem En.eval_eq (e : En) : e.act.eval = e.eval := by
  funext x
  cases x with
  | tmp t =>
    simp only [Act.eval, En.act, En.eval]
    rw [Array.getD_eq_getD_getElem?]
    by_cases h : t < e.n
    · simp [h]
    · have : e.get t = undef := by unfold En.get; rw [show Nat.blt t e.n = false by cases hb : Nat.blt t e.n; rfl; exact absurd (by simpa [Nat.blt_eq] using hb) h]
      rw [this]; simp [h]
  | _ => rfl
theorem En.put_eq {e : En} (h : e.n + 1 < 2 ^ 30) (d : Option Tmp) (v : Value) : (e.put d v).act = e.act.put d v := by
  cases d with
  | none => rfl
  | some d =>
    unfold En.put
    simp only
    cases hb : Nat.blt d e.n with
    | false =>
      have hd : ¬ d < e.n := fun h => by rw [show Nat.blt d e.n = true by simpa [Nat.blt_eq] using h] at hb; cases hb
      simp only [En.act, Act.put]
      congr 1
      apply Array.toList_inj.1
      rw [Array.toList_setIfInBounds]
      simp only
      rw [List.set_eq_of_length_le (by rw [List.length_map, List.length_range]; exact Nat.le_of_not_lt hd)]
    | true =>
      have hd : d < e.n := by simpa [Nat.blt_eq] using hb
      simp only [En.act, Act.put]
      congr 1
      apply Array.toList_inj.1
      rw [Array.toList_setIfInBounds]
      simp only
      refine List.ext_getElem? fun i => ?_
      rw [List.getElem?_set]
      by_cases hi : d = i
      · subst hi
        rw [if_pos rfl, if_pos (by simpa using hd)]
        simp only [List.getElem?_map, List.getElem?_range hd, Option.map_some]
        unfold En.get
        simp only
        rw [hb, Tr.get_set_eq _ _ _ _ (Nat.lt_of_le_of_lt (Nat.succ_le_of_lt hd) (Nat.lt_of_succ_lt h))]
      · rw [if_neg hi]
        simp only [List.getElem?_map]
        cases hr : (List.range e.n)[i]? with
        | none => rfl
        | some j =>
          have hj : j = i := by
            have hlt := (List.getElem?_eq_some_iff.1 hr).1
            simp at hlt
            rw [List.getElem?_range hlt] at hr
            exact (Option.some.inj hr).symm
          subst hj
          simp only [Option.map_some]
          unfold En.get
          simp only
          rw [Tr.get_set_ne _ _ _ _ _ hi]

def wantX (ops : Array Oper) (e : En) (o : Oper) : Bool := match o.guard with
  | none => true
  | some (j, want) => match dstOf ops j with
    | some d => match e.get d with
      | .bool b => b == want
      | _ => false
    | none => false
theorem wantX_eq (ops : Array Oper) (e : En) (o : Oper) : Region.wanted o (yielded ops e.act.tmps) = wantX ops e o := by
  unfold Region.wanted wantX
  cases o.guard with
  | none => rfl
  | some g =>
    obtain ⟨j, want⟩ := g
    simp only
    unfold yielded dstOf
    cases hd : (ops[j]?).bind (·.dst) with
    | none => simp
    | some d =>
      simp only [Option.bind_some, En.act]
      by_cases h : d < e.n
      · rw [List.getElem?_toArray, List.getElem?_map, List.getElem?_range h]
        simp only [Option.map_some]
        cases e.get d <;> simp
      · have : e.get d = undef := by unfold En.get; rw [show Nat.blt d e.n = false by cases hb : Nat.blt d e.n; rfl; exact absurd (by simpa [Nat.blt_eq] using hb) h]
        rw [this, List.getElem?_toArray, List.getElem?_map, List.getElem?_eq_none (by simpa using h)]
        rfl

/-- A call, reckoned: its value, the blocks behind it, what was touched of those that stood ahead. -/
abbrev CallX := FuncId → List Value → Hs → Option (Value × Hs × Fo)

def stepX (F : Oper → (Operand → Value) → Prog) (C : CallX) (ops : Array Oper) (o : Oper) (e : En) (h : Hs) : Option (Value × Hs × Fo) :=
  match wantX ops e o with
  | false => some (undef, h, [])
  | true => match runP h.nx (F o e.eval) h [] with
    | some (.val v, h', φ) => some (v, h', φ)
    | some (.skip, h', φ) => some (undef, h', φ)
    | some (.enter f l, h', φ) => match C f l h' with
      | some (v, h'', ψ) => some (v, h'', φ.join (ψ.cut h.nx))
      | none => none
    | none => none

/-- One that was carried out: its number, the names of its own blocks, what it touched. -/
structure Rec where
  i : Nat
  a : Nat
  b : Nat
  φ : Fo
/-- The operations of a region, one by one. -/
def regX (F : Oper → (Operand → Value) → Prog) (C : CallX) (ops : Array Oper) : List Oper → Nat → En → Hs → Option (En × Hs × List Rec)
  | [], _, e, h => some (e, h, [])
  | o :: l, i, e, h => match stepX F C ops o e h with
    | some (v, h', φ) => match regX F C ops l (i + 1) (e.put o.dst v) h' with
      | some (e', h'', rs) => some (e', h'', ⟨i, h.nx, h'.nx, φ⟩ :: rs)
      | none => none
    | none => none
def foots : List Rec → Fo
  | [] => []
  | r :: l => r.φ.join (foots l)

/-- Which operations stand ahead, bit by bit. -/
def ancGo : List Oper → List Nat → List Nat
  | [], acc => acc
  | o :: l, acc => ancGo l (acc ++ [o.after.toList.foldl (fun s g => match Region.binds .any g with
    | true => Nat.lor (Nat.lor s (Nat.shiftLeft 1 g.on)) (acc.getD g.on 0)
    | false => s) 0])
def ancs (ops : Array Oper) : List Nat := ancGo ops.toList []
def pairX (anc : List Nat) (r : Rec) : List Rec → Bool
  | [] => true
  | u :: l => match (anc.getD u.i 0).testBit r.i with
    | true => pairX anc r l
    | false => match noClash r.φ u.φ, noneIn r.a r.b u.φ with
      | true, true => pairX anc r l
      | _, _ => false
def pairsX (anc : List Nat) : List Rec → Bool
  | [] => true
  | r :: l => match pairX anc r l with
    | true => pairsX anc l
    | false => false
/-- What can be seen of a region ahead of all runs. -/
def opdsOk (ng : Nat) (ops : Array Oper) : Bool := ops.toList.all fun o => o.op.operands.toList.all (opdOk ng)
def regOk (ops : Array Oper) : Bool :=
  (ops.toList.zipIdx.all fun (o, j) => o.after.toList.all fun g => !Region.binds .any g || Nat.blt g.on j) &&
  (let anc := ancs ops; ops.toList.zipIdx.all fun (x, i) => ops.toList.zipIdx.all fun (y, j) => !Nat.blt i j || ((anc.getD j 0).testBit i || x.apart ops y))

inductive Xx
  | normal
  | ret
  | exit (id : Nat)
def Xx.out : Xx → Exit
  | .normal => .normal
  | .ret => .ret
  | .exit id => .exit id

/-- Code, reckoned. -/
def codeX (F : Oper → (Operand → Value) → Prog) (ng : Nat) (C : CallX) : Nat → Code → En → Hs → Option (Xx × En × Hs × Fo)
  | 0, _, _, _ => none
  | n + 1, c, e, h => match c with
    | .skip => some (.normal, e, h, [])
    | .label _ => some (.normal, e, h, [])
    | .ret => some (.ret, e, h, [])
    | .exit id => some (.exit id, e, h, [])
    | .seq a b => match codeX F ng C n a e h with
      | some (.normal, e1, h1, φ) => (match codeX F ng C n b e1 h1 with
        | some (x, e2, h2, ψ) => some (x, e2, h2, φ.join (ψ.cut h.nx))
        | none => none)
      | r => r
    | .cond c a b => match opdOk ng c, e.eval c with
      | true, .bool true => codeX F ng C n a e h
      | true, .bool false => codeX F ng C n b e h
      | _, _ => none
    | .block id c => match codeX F ng C n c e h with
      | some (.exit k, e1, h1, φ) => (match Nat.beq k id with
        | true => some (.normal, e1, h1, φ)
        | false => some (.exit k, e1, h1, φ))
      | r => r
    | .loop c => match codeX F ng C n c e h with
      | some (.normal, e1, h1, φ) => (match codeX F ng C n (.loop c) e1 h1 with
        | some (x, e2, h2, ψ) => some (x, e2, h2, φ.join (ψ.cut h.nx))
        | none => none)
      | r => r
    | .region _ ops draw => match opdsOk ng ops with
      | true => (match regX F C ops ops.toList 0 e h with
        | some (e', h', rs) => (match draw with
          | false => some (.normal, e', h', (foots rs).cut h.nx)
          | true => match regOk ops, pairsX (ancs ops) rs with
            | true, true => some (.normal, e', h', (foots rs).cut h.nx)
            | _, _ => none)
        | none => none)
      | false => none
    | _ => none

/-- A call, reckoned: d calls in one another. -/
def callX (F : Oper → (Operand → Value) → Prog) (fnOf : FuncId → Option Func) (rs : (Tmp → Value) → List ResultVar → Prog) (ng fuel : Nat) : Nat → CallX
  | 0 => fun _ _ _ => none
  | d + 1 => fun f l h => match fnOf f with
    | some fn => match fn.body, Nat.blt (fn.ntmps + l.length + 3) lim with
      | some c, true => match codeX F ng (callX F fnOf rs ng fuel d) fuel c ⟨l.length + (fn.ntmps - l.length), Tr.row .e 0 l⟩ h with
        | some (.normal, e, h', φ) | some (.ret, e, h', φ) => (match runP h.nx (rs e.get fn.results.toList) h' [] with
          | some (.val v, h'', ψ) => some (v, h'', φ.join ψ)
          | _ => none)
        | _ => none
      | _, _ => none
    | none => none
end
end Go.Proofs.YtomononppbjnnaaDoor
