/-
  A run that is reckoned over blocks with names of its own: operations, regions in every order, code, calls: no function of a program is named here.
-/
import Derived.Test.YtjeplkbdgphfoaaDoorEvB
import Derived.Orders
import Derived.LoopN
namespace Go.Proofs.YtjeplkbdgphfoaaDoor
open Go.RowKit

/-- What an operation does, said of named blocks. -/
inductive Prog
  | val (v : Value)
  | skip
  | enter (f : FuncId) (args : List Value)
  | fail
  | rd (b o : Nat) (k : Value → Prog)
  | wr (b o : Nat) (v : Value) (k : Prog)
  | nw (ty : TypeId × Nat) (cs : List Value) (k : Nat → Prog)
  | mv (a : Nat) (ty : TypeId × Nat) (n : Nat) (cs : List Value) (k : Nat → Prog)
  | tq (b : Nat) (k : TypeId → Prog)
  | mrd (b : Nat) (k : Nat → List Value → Prog)
  | mwr (b cl : Nat) (l : List Value) (k : Prog)
  | mnw (ty : TypeId) (k : Nat → Prog)
inductive Out
  | val (v : Value)
  | skip
  | enter (f : FuncId) (args : List Value)

inductive PR : Prog → List Ac → Out → Prop
  | val (v : Value) : PR (.val v) [] (.val v)
  | skip : PR .skip [] .skip
  | enter (f : FuncId) (l : List Value) : PR (.enter f l) [] (.enter f l)
  | rd {b o : Nat} {v : Value} {k : Value → Prog} {t : List Ac} {r : Out} (ho : o ≠ tyOff) (h : PR (k v) t r) : PR (.rd b o k) (.rd b o v :: t) r
  | tq {b : Nat} {ty : TypeId} {k : TypeId → Prog} {t : List Ac} {r : Out} (h : PR (k ty) t r) : PR (.tq b k) (.rd b tyOff (tyV ty) :: t) r
  | wr {b o : Nat} {v : Value} {ho : o ≠ tyOff} {k : Prog} {t : List Ac} {r : Out} (h : PR k t r) : PR (.wr b o v k) (.wr b o v :: t) r
  | nw {ty : TypeId × Nat} {hnm : ty.2 ≠ mp} {b : Nat} {cs : List Value} {k : Nat → Prog} {t : List Ac} {r : Out} (h : PR (k b) t r) : PR (.nw ty cs k) (.nw b ty cs :: t) r
  | mv {a b n : Nat} {ty : TypeId × Nat} {cs : List Value} {k : Nat → Prog} {t : List Ac} {r : Out} (h : PR (k b) t r) : PR (.mv a ty n cs k) (.mv a b ty n cs :: t) r
  | mrd {b cl : Nat} {l : List Value} {k : Nat → List Value → Prog} {t : List Ac} {r : Out} (h : PR (k cl l) t r) : PR (.mrd b k) (.rd b tyOff (mapV cl l) :: t) r
  | mwr {b cl : Nat} {l : List Value} {k : Prog} {t : List Ac} {r : Out} (h : PR k t r) : PR (.mwr b cl l k) (.wr b tyOff (mapV cl l) :: t) r
  | mnw {ty : TypeId} {b : Nat} {k : Nat → Prog} {t : List Ac} {r : Out} (h : PR (k b) t r) : PR (.mnw ty k) (.nw b (ty, mp) [mapV 0 []] :: t) r

def NextR (ρ : Rho) : Out → Next → Prop
  | .val v, .value v' => V ρ v v'
  | .skip, .skip => True
  | .enter f l, .enter f' l' => f = f' ∧ VL ρ l l'.toList
  | _, _ => False

def Sim (P : Program) (p : Prog) (s : Sem Next) (ρ : Rho) (w : World) : Prop :=
  ∀ H t r, PR p t r → Valid H t → WR P ρ H w → ∃ n w' ρ', s.run P w = .ok n w' ∧ Went P ρ H w t ρ' w' ∧ NextR ρ' r n

/-- A frame over named blocks, and the frame that runs. -/
structure ER (ρ : Rho) (e a : Act) : Prop where
  size : e.tmps.size = a.tmps.size
  tm : ∀ (i : Nat) (v v' : Value), e.tmps[i]? = some v → a.tmps[i]? = some v' → V ρ v v'
  de : e.defers = []
  da : a.defers = []

def opdOk (ng : Nat) : Operand → Bool
  | .const v => ground v
  | .global g => Nat.blt g ng
  | _ => true
/-- What is known of the names besides, and stays so. -/
class Fx where
  holds : Rho → Prop
  more : ∀ ρ ρ' : Rho, (∀ b x, ρ b = some x → ρ' b = some x) → holds ρ → holds ρ'
structure GL [Fx] (ρ : Rho) (ng : Nat) : Prop where
  gl : ∀ g, g < ng → ∃ κ, ρ g = some (g, κ)
  fx : Fx.holds ρ

theorem V.undef {ρ : Rho} : V ρ undef undef := .tuple [] [] rfl (by simp)
section
variable {P : Program} {ρ ρ' : Rho} {H : Hp} {w w' : World} {e a : Act} {ng : Nat}

theorem ER.more (h : ER ρ e a) (hr : ∀ b x, ρ b = some x → ρ' b = some x) : ER ρ' e a := ⟨h.size, fun i v v' x y => (h.tm i v v' x y).more hr, h.de, h.da⟩
theorem GL.more [Fx] (h : GL ρ ng) (hr : ∀ b x, ρ b = some x → ρ' b = some x) : GL ρ' ng := ⟨fun g hg => by obtain ⟨κ, e⟩ := h.gl g hg; exact ⟨κ, hr _ _ e⟩, Fx.more ρ ρ' hr h.fx⟩
theorem ER.eval [Fx] (h : ER ρ e a) (g : GL ρ ng) {x : Operand} (hx : opdOk ng x = true) : V ρ (e.eval x) (a.eval x) := by
  cases x with
  | tmp t =>
    simp only [Act.eval]
    rcases Nat.lt_or_ge t e.tmps.size with ht | ht
    · have h1 := Array.getElem?_eq_getElem ht
      have h2 := Array.getElem?_eq_getElem (show t < a.tmps.size by rw [← h.size]; exact ht)
      rw [Array.getD_eq_getD_getElem?, Array.getD_eq_getD_getElem?, h1, h2]
      exact h.tm t _ _ h1 h2
    · rw [Array.getD_eq_getD_getElem?, Array.getD_eq_getD_getElem?, Array.getElem?_eq_none ht, Array.getElem?_eq_none (by rw [← h.size]; exact ht)]
      exact V.undef
  | const v => exact V.ground hx
  | global k =>
    obtain ⟨κ, hk⟩ := g.gl k (by simpa [opdOk, Nat.blt_eq] using hx)
    exact .ptr k k κ 0 hk
  | func f => exact .func f [] [] [] [] rfl rfl (by simp) (by simp)
theorem ER.put (h : ER ρ e a) (d : Option Tmp) {v v' : Value} (hv : V ρ v v') : ER ρ (e.put d v) (a.put d v') := by
  cases d with
  | none => exact h
  | some d =>
    refine ⟨by simp [Act.put, h.size], fun i u u' x y => ?_, h.de, h.da⟩
    simp only [Act.put] at x y
    rw [Array.getElem?_setIfInBounds] at x y
    by_cases hi : d = i
    · subst hi
      rw [if_pos rfl] at x y
      split at x
      · cases x
        rw [if_pos (by rw [← h.size]; assumption)] at y
        cases y
        exact hv
      · cases x
    · rw [if_neg hi] at x y
      exact h.tm i u u' x y
theorem V.bool_eq {b : Bool} {v' : Value} (h : V ρ (.bool b) v') : v' = .bool b := by cases h; rfl
theorem ER.yield_eq (h : ER ρ e a) (ops : Array Oper) (j : Nat) : yielded ops a.tmps j = yielded ops e.tmps j := by
  unfold yielded
  cases hd : (ops[j]?).bind (·.dst) with
  | none => rfl
  | some d =>
    simp only [Option.bind_some]
    rcases Nat.lt_or_ge d e.tmps.size with ht | ht
    · have h1 := Array.getElem?_eq_getElem ht
      have h2 := Array.getElem?_eq_getElem (show d < a.tmps.size by rw [← h.size]; exact ht)
      have hv := h.tm d _ _ h1 h2
      rw [h1, h2]
      revert hv
      generalize e.tmps[d]'ht = v
      generalize a.tmps[d]'_ = v'
      intro hv
      cases hv <;> rfl
    · rw [Array.getElem?_eq_none ht, Array.getElem?_eq_none (by rw [← h.size]; exact ht)]
theorem ER.wanted (h : ER ρ e a) (ops : Array Oper) (o : Oper) : Region.wanted o (yielded ops a.tmps) = Region.wanted o (yielded ops e.tmps) := by
  unfold Region.wanted
  cases o.guard with
  | none => rfl
  | some g => obtain ⟨j, b⟩ := g; simp only [h.yield_eq]
end

/-- What an operation does, for all operations: it hangs on its operands alone, and it is what the operation does. -/
structure OpA (P : Program) (ng : Nat) where
  f : Oper → (Operand → Value) → Prog
  congr : ∀ (o : Oper) (ρ ρ' : Operand → Value), (∀ x ∈ o.op.operands, ρ x = ρ' x) → f o ρ = f o ρ'
  sound : ∀ (o : Oper) (e a : Act) (ρ : Rho) (w : World), (∀ x ∈ o.op.operands, V ρ (e.eval x) (a.eval x)) → Sim P (f o e.eval) (execOp a.eval o) ρ w

abbrev CallK := FuncId → List Value → List Ac → Value → Prop

section
variable {P : Program} {ng : Nat} (A : OpA P ng) (K : CallK)

def OpR (o : Oper) (e : Act) (t : List Ac) (v : Value) : Prop :=
  (∀ x ∈ o.op.operands, opdOk ng x = true) ∧ ∃ t1 r, PR (A.f o e.eval) t1 r ∧ match r with
    | .val u => t = t1 ∧ v = u
    | .skip => t = t1 ∧ v = undef
    | .enter f l => ∃ t2, t = t1 ++ t2 ∧ K f l t2 v

def StepR (ops : Array Oper) (i : Nat) (e : Act) (t : List Ac) (v : Value) : Prop :=
  match ops[i]? with
  | none => False
  | some o => if Region.wanted o (yielded ops e.tmps) = true then OpR A K o e t v else t = [] ∧ v = undef

def dstOf (ops : Array Oper) (i : Nat) : Option Tmp := (ops[i]?).bind (·.dst)

/-- A step: which operation, its deeds, its value. -/
structure Stp where
  i : Nat
  t : List Ac
  v : Value
def SeqR (ops : Array Oper) : List Stp → Act → Prop
  | [], _ => True
  | s :: l, e => StepR A K ops s.i e s.t s.v ∧ SeqR ops l (e.put (dstOf ops s.i) s.v)
end
def acts : List Stp → List Ac
  | [] => []
  | s :: l => s.t ++ acts l
def fin (ops : Array Oper) : List Stp → Act → Act
  | [], e => e
  | s :: l, e => fin ops l (e.put (dstOf ops s.i) s.v)
theorem acts_append {l m : List Stp} : acts (l ++ m) = acts l ++ acts m := by
  induction l with
  | nil => rfl
  | cons s l ih => simp [acts, ih]

/-- What calls do is so. -/
def KSound [Fx] (P : Program) (ng : Nat) (K : CallK) : Prop :=
  ∀ f l t v, K f l t v → ∀ ρ H w (l' : Array Value), Valid H t → WR P ρ H w → GL ρ ng → VL ρ l l'.toList →
    Calls P f l' w fun e w' => ∃ v' ρ', e = .returned v' ∧ V ρ' v v' ∧ Went P ρ H w t ρ' w'

section
variable {P : Program} {ng : Nat} {A : OpA P ng} {K : CallK} {Q : Exit → Act → World → Prop}

theorem step_sound [Fx] (hK : KSound P ng K) {ops : Array Oper} {i : Nat} {e a : Act} {t : List Ac} {v : Value} {ρ : Rho} {H : Hp} {w : World} {N : Act → World → Prop}
    (h : StepR A K ops i e t v) (hv : Valid H t) (hw : WR P ρ H w) (he : ER ρ e a) (hg : GL ρ ng)
    (hn : ∀ a' w' ρ', Went P ρ H w t ρ' w' → ER ρ' (e.put (dstOf ops i) v) a' → N a' w') : wpOp P ops Q i N a w := by
  unfold StepR at h
  unfold wpOp
  cases ho : ops[i]? with
  | none => rw [ho] at h; exact h.elim
  | some o =>
    rw [ho] at h
    simp only at h ⊢
    have hd : dstOf ops i = o.dst := by simp [dstOf, ho]
    rw [hd] at hn
    rw [he.wanted]
    by_cases hwt : Region.wanted o (yielded ops e.tmps) = true
    · rw [if_pos hwt] at h ⊢
      obtain ⟨hok, t1, r, hpr, hm⟩ := h
      left
      have hs := A.sound o e a ρ w (fun x hx => he.eval hg (hok x hx)) H t1 r hpr
      unfold Oper.wp
      cases r with
      | val u =>
        obtain ⟨rfl, rfl⟩ := hm
        obtain ⟨n, w', ρ', hrun, hwent, hnx⟩ := hs hv hw
        rw [hrun]
        cases n <;> simp only [NextR] at hnx <;> try exact hnx.elim
        exact hn _ _ ρ' hwent ((he.more hwent.ext).put _ hnx)
      | skip =>
        obtain ⟨rfl, rfl⟩ := hm
        obtain ⟨n, w', ρ', hrun, hwent, hnx⟩ := hs hv hw
        rw [hrun]
        cases n <;> simp only [NextR] at hnx <;> try exact hnx.elim
        exact hn _ _ ρ' hwent ((he.more hwent.ext).put _ V.undef)
      | enter f l =>
        obtain ⟨t2, rfl, hk⟩ := hm
        rw [Valid.append] at hv
        obtain ⟨n, w', ρ', hrun, hwent, hnx⟩ := hs hv.1 hw
        rw [hrun]
        cases n <;> simp only [NextR] at hnx <;> try exact hnx.elim
        rename_i f' l'
        obtain ⟨rfl, hl⟩ := hnx
        rw [Oper.upon_enter]
        refine (hK f l t2 v hk ρ' _ w' l' hv.2 hwent.wr (hg.more hwent.ext) hl).mono ?_
        rintro e' w'' ⟨v', ρ'', rfl, hvv, hwent2⟩
        have hw2 := hwent.trans hwent2
        exact hn _ _ ρ'' hw2 ((he.more hw2.ext).put _ hvv)
    · rw [if_neg hwt] at h ⊢
      obtain ⟨rfl, rfl⟩ := h
      exact hn _ _ ρ (Went.refl hw) (he.put _ V.undef)

/-- A region, operation by operation. -/
theorem seq_sound [Fx] (hK : KSound P ng K) {ops : Array Oper} : ∀ {l : List Stp} {e a : Act} {ρ : Rho} {H : Hp} {w : World}, SeqR A K ops l e → Valid H (acts l) → WR P ρ H w → ER ρ e a → GL ρ ng →
    (∀ a' w' ρ', Went P ρ H w (acts l) ρ' w' → ER ρ' (fin ops l e) a' → Q .normal a' w') → wpOps P ops Q (l.map (·.i)) a w
  | [], e, a, ρ, H, w, _, _, hw, he, _, hq => hq a w ρ (Went.refl hw) he
  | s :: l, e, a, ρ, H, w, hs, hv, hw, he, hg, hq => by
    simp only [acts] at hv hq
    rw [Valid.append] at hv
    rw [List.map_cons, wpOps_cons]
    refine step_sound hK hs.1 hv.1 hw he hg fun a' w' ρ' h1 h2 => ?_
    exact seq_sound hK hs.2 hv.2 h1.wr h2 (hg.more h1.ext) fun a'' w'' ρ'' h3 h4 => hq a'' w'' ρ'' (h1.trans h3) h4

/-- A step that looks at nothing of another's. -/
theorem step_put {ops : Array Oper} {i : Nat} {e : Act} {t : List Ac} {v : Value} {d : Option Tmp} {u : Value} {o : Oper} (ho : ops[i]? = some o) (h : ∀ x, d = some x → x ∉ o.looksAt ops) :
    StepR A K ops i (e.put d u) t v ↔ StepR A K ops i e t v := by
  unfold StepR
  rw [ho]
  simp only [wanted_put o e d u h]
  have hc : A.f o (e.put d u).eval = A.f o e.eval := A.congr o _ _ fun x hx => Act.eval_put fun y hy hxy => h y hy (by
    subst hxy
    exact List.mem_append_left _ (List.mem_filterMap.2 ⟨.tmp y, by simpa using hx, rfl⟩))
  unfold OpR
  rw [hc]

/-- Two steps that have nothing in common. -/
def StpApart (ops : Array Oper) (s u : Stp) : Prop := AllApart s.t u.t ∧ ∃ x y, ops[s.i]? = some x ∧ ops[u.i]? = some y ∧ x.apart ops y = true

theorem seq_swap1 {ops : Array Oper} {s u : Stp} {l : List Stp} {e : Act} (ha : StpApart ops s u) (h : SeqR A K ops (s :: u :: l) e) :
    SeqR A K ops (u :: s :: l) e ∧ fin ops (u :: s :: l) e = fin ops (s :: u :: l) e := by
  obtain ⟨_, x, y, hx, hy, hap⟩ := ha
  obtain ⟨h1, h2, h3⟩ := Oper.apart_spec hap
  obtain ⟨k1, k2, k3⟩ := h
  have dx : dstOf ops s.i = x.dst := by simp [dstOf, hx]
  have dy : dstOf ops u.i = y.dst := by simp [dstOf, hy]
  rw [dx] at k2 k3
  rw [dy] at k3
  rw [step_put hy h1] at k2
  have hc := Act.put_comm e s.v u.v h2
  rw [hc] at k3
  refine ⟨⟨k2, ?_, ?_⟩, ?_⟩
  · rw [dy, step_put hx h3]; exact k1
  · rw [dx, dy]; exact k3
  · simp only [fin]; rw [dx, dy, hc]

theorem bring {ops : Array Oper} {s : Stp} {m : List Stp} : ∀ {l : List Stp} {e : Act} {H : Hp}, (∀ x ∈ l, StpApart ops x s) → SeqR A K ops (l ++ s :: m) e → Valid H (acts (l ++ s :: m)) →
    SeqR A K ops (s :: (l ++ m)) e ∧ fin ops (s :: (l ++ m)) e = fin ops (l ++ s :: m) e ∧ Valid H (acts (s :: (l ++ m))) ∧ apps H (acts (s :: (l ++ m))) = apps H (acts (l ++ s :: m))
  | [], e, H, _, hs, hv => ⟨hs, rfl, hv, rfl⟩
  | x :: l, e, H, ha, hs, hv => by
    have hx := ha x List.mem_cons_self
    obtain ⟨k1, k2⟩ := hs
    have hv2 : Valid H (x.t ++ acts (l ++ s :: m)) := hv
    rw [Valid.append] at hv2
    obtain ⟨q1, q2, q3, q4⟩ := bring (l := l) (H := apps H x.t) (fun y hy => ha y (List.mem_cons_of_mem _ hy)) k2 hv2.2
    obtain ⟨r1, r2⟩ := seq_swap1 (l := l ++ m) hx ⟨k1, q1⟩
    refine ⟨r1, ?_, ?_, ?_⟩
    · show fin ops (s :: x :: (l ++ m)) e = _
      rw [r2]
      show fin ops (s :: (l ++ m)) _ = _
      rw [q2]
      rfl
    · show Valid H (s.t ++ (x.t ++ acts (l ++ m)))
      have : Valid H (x.t ++ (s.t ++ acts (l ++ m))) := Valid.append.2 ⟨hv2.1, q3⟩
      rw [← List.append_assoc, Valid.append] at this ⊢
      obtain ⟨sw1, sw2⟩ := swap hx.1 this.1
      exact ⟨sw1, by rw [← sw2]; exact this.2⟩
    · show apps H (s.t ++ (x.t ++ acts (l ++ m))) = apps H (x.t ++ acts (l ++ s :: m))
      have : Valid H (x.t ++ (s.t ++ acts (l ++ m))) := Valid.append.2 ⟨hv2.1, q3⟩
      rw [← List.append_assoc, Valid.append] at this
      obtain ⟨sw1, sw2⟩ := swap hx.1 this.1
      rw [apps_append (t := x.t), ← q4]
      simp only [acts]
      rw [← apps_append, ← List.append_assoc, ← List.append_assoc, apps_append, apps_append (t := x.t ++ s.t), sw2]

/-- One operation stands ahead of another by the edges. -/
inductive Anc (ops : Array Oper) : Nat → Nat → Prop
  | edge {i j : Nat} {o : Oper} {g : Edge} (ho : ops[j]? = some o) (hg : g ∈ o.after) (hb : Region.binds .any g = true) (he : g.on = i) : Anc ops i j
  | more {i k j : Nat} (h1 : Anc ops i k) (h2 : Anc ops k j) : Anc ops i j

/-- Steps of which each two are in order, or have nothing in common. -/
def PairsOk (ops : Array Oper) : List Stp → Prop
  | [] => True
  | s :: l => (∀ u ∈ l, Anc ops s.i u.i ∨ StpApart ops s u) ∧ PairsOk ops l
theorem PairsOk.drop {ops : Array Oper} {s : Stp} {m : List Stp} : ∀ {l : List Stp}, PairsOk ops (l ++ s :: m) → (∀ x ∈ l, Anc ops x.i s.i ∨ StpApart ops x s) ∧ PairsOk ops (l ++ m)
  | [], h => ⟨by simp, h.2⟩
  | x :: l, h => by
    obtain ⟨h1, h2⟩ := h
    obtain ⟨k1, k2⟩ := PairsOk.drop h2
    refine ⟨fun y hy => ?_, fun u hu => h1 u ?_, k2⟩
    · rcases List.mem_cons.1 hy with rfl | hy
      · exact h1 s (by simp)
      · exact k1 y hy
    · rcases List.mem_append.1 hu with hu | hu
      · exact List.mem_append_left _ hu
      · exact List.mem_append_right _ (List.mem_cons_of_mem _ hu)

/-- Edges lead back. -/
def Backs (ops : Array Oper) : Prop := ∀ (j : Nat) (o : Oper) (g : Edge), ops[j]? = some o → g ∈ o.after → Region.binds .any g = true → g.on < j

theorem anc_listed {ops : Array Oper} {listed : Array Bool} (hc : ∀ (j : Nat) (o : Oper) (g : Edge), ops[j]? = some o → listed.getD j true = true → g ∈ o.after → Region.binds .any g = true → listed.getD g.on true = true) {i j : Nat}
    (h : Anc ops i j) (hj : ∀ (o : Oper) (g : Edge), ops[j]? = some o → g ∈ o.after → Region.binds .any g = true → listed.getD g.on true = true) : listed.getD i true = true := by
  induction h with
  | edge ho hg hb he => rw [← he]; exact hj _ _ ho hg hb
  | more _ _ ih1 ih2 => exact ih1 fun o g ho hg hb => hc _ o g ho (ih2 hj) hg hb

theorem Went.congr {ρ ρ' : Rho} {H : Hp} {w w' : World} {t u : List Ac} (h : Went P ρ H w t ρ' w') (h1 : apps H t = apps H u) (h2 : ∀ b, b ∈ wrote t → b ∈ wrote u) : Went P ρ H w u ρ' w' :=
  ⟨by rw [← h1]; exact h.wr, h.ext, h.fr.mono fun i _ ⟨b, hb, κ, hr⟩ => ⟨b, h2 b hb, κ, hr⟩, fun b k κ hb => by
    rcases h.new b k κ hb with h3 | h3 | ⟨a, ha, κ', h3⟩
    · exact .inl h3
    · exact .inr (.inl h3)
    · exact .inr (.inr ⟨a, h2 a ha, κ', h3⟩)⟩

theorem getD_flip {listed : Array Bool} {j : Nat} (hj : j < listed.size) : listed.getD j false = listed.getD j true := by
  rw [Array.getD_eq_getD_getElem?, Array.getD_eq_getD_getElem?, Array.getElem?_eq_getElem hj]; rfl

theorem any_sound [Fx] (hK : KSound P ng K) {ops : Array Oper} (hB : Backs ops) : ∀ (fuel : Nat) (l : List Stp) (listed : Array Bool) (e a : Act) (ρ : Rho) (H : Hp) (w : World), l.length ≤ fuel → listed.size = ops.size →
    (∀ j, j < ops.size → (listed.getD j true = false ↔ j ∈ l.map (·.i))) → (l.map (·.i)).Pairwise (· < ·) →
    (∀ (j : Nat) (o : Oper) (g : Edge), ops[j]? = some o → listed.getD j true = true → g ∈ o.after → Region.binds .any g = true → listed.getD g.on true = true) →
    PairsOk ops l → SeqR A K ops l e → Valid H (acts l) → WR P ρ H w → ER ρ e a → GL ρ ng →
    (∀ a' w' ρ', Went P ρ H w (acts l) ρ' w' → ER ρ' (fin ops l e) a' → Q .normal a' w') →
    wpAny P .any ops Q fuel listed a w := by
  intro fuel
  induction fuel with
  | zero =>
    intro l listed e a ρ H w hl hsz hmem _ _ _ _ _ hw he _ hq
    obtain rfl : l = [] := List.eq_nil_of_length_eq_zero (by omega)
    refine ⟨List.eq_nil_iff_forall_not_mem.2 fun j hj => ?_, hq a w ρ (Went.refl hw) he⟩
    obtain ⟨h0, o, ho, _⟩ := mem_ready.1 hj
    have := (hmem j (Array.getElem?_eq_some_iff.1 ho).1).1 h0
    simp at this
  | succ fuel ih =>
    intro l listed e a ρ H w hl hsz hmem hsort hclos hpair hseq hval hw he hg hq
    refine ⟨fun hr => ?_, fun i hi => ?_⟩
    · cases l with
      | nil => exact hq a w ρ (Went.refl hw) he
      | cons s l =>
        exfalso
        have hs := hseq.1
        unfold StepR at hs
        cases ho : ops[s.i]? with
        | none => rw [ho] at hs; exact hs
        | some o =>
          have hlt := (Array.getElem?_eq_some_iff.1 ho).1
          have : s.i ∈ Region.ready .any ops listed := by
            refine mem_ready.2 ⟨(hmem s.i hlt).2 (by simp), o, ho, fun g hge hb => ?_⟩
            have hlt2 := hB s.i o g ho hge hb
            rw [getD_flip (by omega)]
            cases hgt : listed.getD g.on true with
            | true => rfl
            | false =>
              exfalso
              have hm := (hmem g.on (by omega)).1 hgt
              rw [List.map_cons] at hm hsort
              rcases List.mem_cons.1 hm with h1 | h1
              · omega
              · have := (List.pairwise_cons.1 hsort).1 _ h1
                omega
          rw [hr] at this
          cases this
    · obtain ⟨hun, o, ho, hall⟩ := mem_ready.1 hi
      have hlt := (Array.getElem?_eq_some_iff.1 ho).1
      have him := (hmem i hlt).1 hun
      obtain ⟨s, hsl, rfl⟩ := List.mem_map.1 him
      obtain ⟨l1, l2, rfl⟩ := List.append_of_mem hsl
      obtain ⟨hp1, hp2⟩ := PairsOk.drop hpair
      have hpre : ∀ (o' : Oper) (g : Edge), ops[s.i]? = some o' → g ∈ o'.after → Region.binds .any g = true → listed.getD g.on true = true := by
        intro o' g ho' hge hb
        rw [ho] at ho'; cases ho'
        have := hall g hge hb
        have hlt2 := hB s.i o g ho hge hb
        rwa [getD_flip (by omega)] at this
      have hap : ∀ x ∈ l1, StpApart ops x s := by
        intro x hx
        rcases hp1 x hx with h1 | h1
        · exfalso
          have h2 := anc_listed hclos h1 hpre
          have hxl : x.i < ops.size := by
            rcases Nat.lt_or_ge x.i ops.size with h3 | h3
            · exact h3
            · exfalso
              have : x.i < s.i := by
                have hs2 := hsort
                rw [List.map_append, List.map_cons, List.pairwise_append] at hs2
                exact hs2.2.2 x.i (List.mem_map.2 ⟨x, hx, rfl⟩) s.i (by simp)
              omega
          have h3 := (hmem x.i hxl).2 (List.mem_map.2 ⟨x, by simp [hx], rfl⟩)
          rw [h2] at h3
          cases h3
        · exact h1
      obtain ⟨b1, b2, b3, b4⟩ := bring hap hseq hval
      have hv3 : Valid H (s.t ++ acts (l1 ++ l2)) := b3
      rw [Valid.append] at hv3
      have hni : s.i ∉ (l1 ++ l2).map (·.i) := by
        intro hm
        have hs2 := hsort
        rw [List.map_append, List.map_cons, List.pairwise_append] at hs2
        rw [List.map_append] at hm
        rcases List.mem_append.1 hm with h1 | h1
        · have := hs2.2.2 s.i h1 s.i (by simp); omega
        · have := (List.pairwise_cons.1 hs2.2.1).1 s.i h1; omega
      refine step_sound hK b1.1 hv3.1 hw he hg fun a' w' ρ' h1 h2 => ?_
      refine ih (l1 ++ l2) _ _ a' ρ' _ w' (by simp at hl ⊢; omega) (by simpa using hsz) (fun j hj => ?_) (hsort.sublist (by simp [List.map_append])) (fun j o' g ho' hj hge hb => ?_) hp2 b1.2 hv3.2 h1.wr h2 (hg.more h1.ext) fun a'' w'' ρ'' h3 h4 => ?_
      · by_cases hjs : s.i = j
        · subst hjs
          have : (listed.setIfInBounds s.i true).getD s.i true = true := by
            rw [Array.getD_eq_getD_getElem?, Array.getElem?_setIfInBounds, if_pos rfl, if_pos (by omega)]; rfl
          rw [this]
          exact ⟨fun h => (by cases h), fun h => absurd h hni⟩
        · rw [getD_set_ne true hjs, hmem j hj]
          simp only [List.map_append, List.map_cons, List.mem_append, List.mem_cons]
          constructor
          · rintro (h | h | h)
            · exact .inl h
            · exact absurd h.symm hjs
            · exact .inr h
          · rintro (h | h)
            · exact .inl h
            · exact .inr (.inr h)
      · have keep : ∀ k, listed.getD k true = true → (listed.setIfInBounds s.i true).getD k true = true := by
          intro k hk
          by_cases hks : s.i = k
          · subst hks
            rw [Array.getD_eq_getD_getElem?, Array.getElem?_setIfInBounds, if_pos rfl, if_pos (by omega)]; rfl
          · rw [getD_set_ne true hks]; exact hk
        by_cases hjs : s.i = j
        · subst hjs; exact keep _ (hpre o' g ho' hge hb)
        · rw [getD_set_ne true hjs] at hj
          exact keep _ (hclos j o' g ho' hj hge hb)
      · refine hq a'' w'' ρ'' ((h1.trans h3).congr b4 fun b hb => ?_) (by rw [← b2]; exact h4)
        rw [acts_append]
        rw [acts_append] at hb
        simp only [acts, wrote_append, List.mem_append] at hb ⊢
        rcases hb with h5 | h5 | h5
        · exact .inr (.inl h5)
        · exact .inl h5
        · exact .inr (.inr h5)
end
end Go.Proofs.YtjeplkbdgphfoaaDoor
