/-
  A run that is reckoned over blocks with names of its own: regions made ready once: no function of a program is named here.
-/
import Derived.Test.YtjeplkbdgphfoaaDoorEvT
namespace Go.Proofs.YtjeplkbdgphfoaaDoor
open Go.RowKit
noncomputable section

/-- 0: it touches nothing; 1: it only reads; 2: any. -/
def kindOf (o : Op) : Nat := match o with
  | .move _ | .assign _ | .pick _ _ _ | .fieldAddr _ _ _ | .field _ _ _ | .indexAddr _ _ _ | .index _ _ _ | .binOp _ _ _ _ _ | .unOp _ _ _ | .extract _ _ | .slice _ _ _ _ _ | .nilCheck _ | .makeFunc _ _ _ | .makeInterface _ _ | .typeAssert _ _ _ _ => 0
  | .load _ _ | .convert _ _ _ | .lookup _ _ _ _ => 1
  | .call c => (match c.callee with
    | .builtin .len => 0
    | _ => 2)
  | _ => 2

def PureP (p : Prog) : Prop := p = .fail ∨ ∃ v, p = .val v
theorem PureP.nil {p : Prog} (h : PureP p) {t : List Ac} {r : Out} (k : PR p t r) : t = [] ∧ ∃ v, r = .val v := by
  rcases h with rfl | ⟨v, rfl⟩
  · cases k
  · cases k; exact ⟨rfl, v, rfl⟩
section
variable {P : Program}
theorem ground_pure {o : Oper} {ev : Operand → Value} : PureP (groundP P o ev) := by
  unfold groundP
  split
  · exact .inl rfl
  · split
    · split
      · split
        · exact .inr ⟨_, rfl⟩
        · exact .inl rfl
      · exact .inl rfl
    · exact .inl rfl
theorem field_pure {s : TypeId} {v : Value} {i : Nat} : PureP (fieldP P s v i) := by
  unfold fieldP; repeat' split
  all_goals first | exact .inl rfl | exact .inr ⟨_, rfl⟩
theorem ix_pure {t : TypeId} {v w : Value} : PureP (ixP P t v w) := by
  unfold ixP; repeat' split
  all_goals first | exact .inl rfl | exact .inr ⟨_, rfl⟩
theorem fieldV_pure {t : TypeId} {v : Value} {i : Nat} : PureP (fieldVP P t v i) := by
  unfold fieldVP; repeat' split
  all_goals first | exact .inl rfl | exact .inr ⟨_, rfl⟩
theorem extract_pure {v : Value} {i : Nat} : PureP (extractP v i) := by
  unfold extractP; repeat' split
  all_goals first | exact .inl rfl | exact .inr ⟨_, rfl⟩
theorem sl_pure {t : TypeId} {v : Value} {a b : Option Value} : PureP (slP P t v a b) := by
  unfold slP; repeat' split
  all_goals first | exact .inl rfl | exact .inr ⟨_, rfl⟩
theorem slA_pure {t : TypeId} {v : Value} {a b : Option Value} : PureP (slAP P t v a b) := by
  unfold slAP; repeat' split
  all_goals first | exact .inl rfl | exact .inr ⟨_, rfl⟩
theorem sst_pure {t : TypeId} {v : ByteArray} {a b : Option Value} : PureP (sstP P t v a b) := by
  unfold sstP; repeat' split
  all_goals first | exact .inl rfl | exact .inr ⟨_, rfl⟩
theorem idx_pure {t : TypeId} {v : ByteArray} {n : Int} : PureP (idxP P t v n) := by
  unfold idxP; repeat' split
  all_goals first | exact .inl rfl | exact .inr ⟨_, rfl⟩
theorem cvt_pure {t u : TypeId} {n : Int} : PureP (cvtP P t u n) := by
  unfold cvtP; repeat' split
  all_goals first | exact .inl rfl | exact .inr ⟨_, rfl⟩
theorem ptr_pure {t : TypeId} {op : BinOp} {a b : Addr} : PureP (ptrB P t op a b) := by
  unfold ptrB; repeat' split
  all_goals first | exact .inl rfl | exact .inr ⟨_, rfl⟩
theorem bin_pure {o : Oper} {op : BinOp} {t : TypeId} {ev : Operand → Value} {a b : Value} : PureP (binP P o op t ev a b) := by
  unfold binP; repeat' split
  all_goals first | exact .inl rfl | exact .inr ⟨_, rfl⟩ | exact ground_pure | exact ptr_pure
theorem len_pure {o : Oper} {c : Call} {ev : Operand → Value} (hc : c.callee = .builtin .len) : PureP (callP P o c ev) := by
  unfold callP; rw [hc]; simp only; repeat' split
  all_goals first | exact .inl rfl | exact .inr ⟨_, rfl⟩ | exact ground_pure

theorem mkI_pure {t : TypeId} {v : Value} : PureP (mkIP P t v) := by
  unfold mkIP; repeat' split
  all_goals first | exact .inl rfl | exact .inr ⟨_, rfl⟩
theorem assert_pure {v : Value} {t : TypeId} {ok : Bool} : PureP (assertP P v t ok) := by
  unfold assertP; repeat' split
  all_goals first | exact .inl rfl | exact .inr ⟨_, rfl⟩
theorem quiet_pure {o : Oper} {ev : Operand → Value} (h : kindOf o.op = 0) : PureP (opF P o ev) := by
  unfold opF
  split <;> rename_i ho <;> (try rw [ho] at h)
  all_goals first
    | exact .inr ⟨_, rfl⟩
    | exact ground_pure
    | exact field_pure
    | exact ix_pure
    | exact fieldV_pure
    | exact extract_pure
    | exact bin_pure
    | exact mkI_pure
    | exact assert_pure
    | exact absurd h (by simp only [kindOf]; decide)
    | skip
  all_goals first
    | (split <;> first | exact .inl rfl | exact .inr ⟨_, rfl⟩ | exact ground_pure | exact sl_pure | exact slA_pure | exact sst_pure | exact idx_pure)
    | (simp only [kindOf] at h; split at h; (rename_i hc; exact len_pure hc); exact absurd h (by decide))

/-- It only reads. -/
def isRd (a : Ac) : Prop := ∃ b o v, a = .rd b o v
def ReadP (p : Prog) : Prop := ∀ t r, PR p t r → (∀ a ∈ t, isRd a) ∧ ∃ v, r = .val v
theorem PureP.read {p : Prog} (h : PureP p) : ReadP p := fun t r k => by
  obtain ⟨rfl, hv⟩ := h.nil k
  exact ⟨fun a ha => (by cases ha), hv⟩
theorem rdN_read {b : Nat} {g : List Value → Prog} (h : ∀ l, ReadP (g l)) : ∀ (n o : Nat) (acc : List Value), ReadP (rdN b n o acc g)
  | 0, o, acc => h _
  | n + 1, o, acc => fun t r k => by
    cases k with
    | rd _ k =>
      obtain ⟨h1, h2⟩ := rdN_read h n (o + 1) _ _ _ k
      refine ⟨fun a ha => ?_, h2⟩
      rcases List.mem_cons.1 ha with rfl | ha
      · exact ⟨_, _, _, rfl⟩
      · exact h1 a ha
theorem val_read (v : Value) : ReadP (.val v) := PureP.read (.inr ⟨v, rfl⟩)
theorem fail_read : ReadP .fail := PureP.read (.inl rfl)
theorem load_read {t : TypeId} {v : Value} : ReadP (loadP P t v .val) := by
  unfold loadP
  split
  · split
    · split
      · split
        · exact rdN_read (fun l => val_read _) _ _ _
        · exact fail_read
      · intro t r k
        cases k with
        | rd _ k =>
          cases k
          refine ⟨fun a ha => ?_, _, rfl⟩
          obtain rfl := List.mem_singleton.1 ha
          exact ⟨_, _, _, rfl⟩
    · exact fail_read
  · exact fail_read
theorem bytes_read {s d : TypeId} {v : Value} : ReadP (bytesP P s d v) := by
  unfold bytesP
  split
  · split
    · refine rdN_read (fun l => ?_) _ _ _
      split
      · exact val_read _
      · exact fail_read
    · exact fail_read
  · exact fail_read
theorem rd_read {b o : Nat} {g : Value → Prog} (h : ∀ v, ReadP (g v)) : ReadP (.rd b o g) := fun t r k => by
  cases k with
  | rd _ k =>
    obtain ⟨h1, h2⟩ := h _ _ _ k
    refine ⟨fun a ha => ?_, h2⟩
    rcases List.mem_cons.1 ha with rfl | ha
    · exact ⟨_, _, _, rfl⟩
    · exact h1 a ha
theorem tq_read {b : Nat} {g : TypeId → Prog} (h : ∀ t, ReadP (g t)) : ReadP (.tq b g) := fun t r k => by
  cases k with
  | tq k =>
    obtain ⟨h1, h2⟩ := h _ _ _ k
    refine ⟨fun a ha => ?_, h2⟩
    rcases List.mem_cons.1 ha with rfl | ha
    · exact ⟨_, _, _, rfl⟩
    · exact h1 a ha
theorem uptr_read {s d : TypeId} {v : Value} : ReadP (uptrP P s d v) := by
  unfold uptrP; repeat' split
  all_goals first
    | exact fail_read
    | exact rd_read fun _ => val_read _
    | refine tq_read fun t => ?_
  split
  · split
    · exact fail_read
    · split
      · exact rd_read fun _ => val_read _
      · exact fail_read
  · exact fail_read
theorem mrd_read {b : Nat} {g : Nat → List Value → Prog} (h : ∀ c l, ReadP (g c l)) : ReadP (.mrd b g) := fun t r k => by
  cases k with
  | mrd k =>
    obtain ⟨h1, h2⟩ := h _ _ _ _ k
    refine ⟨fun a ha => ?_, h2⟩
    rcases List.mem_cons.1 ha with rfl | ha
    · exact ⟨_, _, _, rfl⟩
    · exact h1 a ha
theorem look_read {t : TypeId} {x k : Value} {ok : Bool} : ReadP (lookP P t x k ok) := by
  unfold lookP; repeat' split
  all_goals first
    | exact fail_read
    | exact val_read _
    | refine mrd_read fun c l => ?_
  repeat' split
  all_goals first
    | exact fail_read
    | exact val_read _
theorem reader_read {o : Oper} {ev : Operand → Value} (h : kindOf o.op = 1) : ReadP (opF P o ev) := by
  unfold opF
  split <;> rename_i ho <;> (try rw [ho] at h)
  all_goals first
    | exact load_read
    | exact look_read
    | exact ground_pure.read
    | exact absurd h (by simp only [kindOf]; decide)
    | skip
  all_goals first
    | (split <;> first | exact bytes_read | exact cvt_pure.read | exact uptr_read | exact ground_pure.read)
    | (simp only [kindOf] at h; split at h <;> exact absurd h (by decide))
end

section
variable {P : Program} {R : Rt} {ng n : Nat} {hN : NamesOk P} {K : CallK}

theorem step_quiet {ops : Array Oper} {i : Nat} {o : Oper} {e : Act} {t : List Ac} {v : Value} (ho : ops[i]? = some o) (hk : kindOf o.op = 0) (h : StepR (opA hN ng) K ops i e t v) : t = [] := by
  unfold StepR at h
  rw [ho] at h
  simp only at h
  split at h
  · obtain ⟨_, t1, r, h1, h2⟩ := h
    obtain ⟨rfl, u, rfl⟩ := (quiet_pure hk).nil h1
    exact h2.1
  · exact h.1
theorem step_reader {ops : Array Oper} {i : Nat} {o : Oper} {e : Act} {t : List Ac} {v : Value} (ho : ops[i]? = some o) (hk : kindOf o.op = 1) (h : StepR (opA hN ng) K ops i e t v) : ∀ a ∈ t, isRd a := by
  unfold StepR at h
  rw [ho] at h
  simp only at h
  split at h
  · obtain ⟨_, t1, r, h1, h2⟩ := h
    obtain ⟨h3, u, rfl⟩ := reader_read hk _ _ h1
    rw [h2.1]; exact h3
  · rw [h.1]; exact fun a ha => by cases ha

theorem op_sound (hR : R.Ok P) {o : Oper} {z : OpZ} (hz : Ref P R n z o) (hT : ∀ x ∈ o.op.operands, opdT n x = true) (hok : ∀ x ∈ o.op.operands, opdOk ng x = true) {C : CZ} (hC : CSoundZ C K)
    {thr : Nat} {fr : Frm} {h : Hs} {f : Fz} {k : KO} {q : Res} (hi : h.Inv) (ht : thr ≤ h.nx) (hq : rok q) (e : z.run C thr fr h f k = q) :
    ∃ t v h' f', OpR (opA hN ng) K o (Frm.act n fr) t v ∧ LeftZ thr h f h' f' t ∧ k v h' f' = q := by
  have e2 := hz hT C thr fr h f k (by rw [e]; exact hq)
  rw [e, opFQ_eq hR] at e2
  obtain ⟨t1, r, h1, f1, p1, p2, p3⟩ := runZ_sound hi ht hq e2
  cases r with
  | val v => exact ⟨t1, v, h1, f1, ⟨hok, t1, .val v, p1, rfl, rfl⟩, p2, p3⟩
  | skip => exact ⟨t1, undef, h1, f1, ⟨hok, t1, .skip, p1, rfl, rfl⟩, p2, p3⟩
  | enter g l =>
    obtain ⟨t2, v, h2, f2, k1, k2, k3⟩ := hC thr g l h1 f1 k q p2.inv (Nat.le_trans ht p2.le) hq p3
    exact ⟨t1 ++ t2, v, h2, f2, ⟨hok, t1, .enter g l, p1, t2, rfl, k1⟩, p2.trans k2, k3⟩

def allB {α : Type} (p : α → Bool) (l : List α) : Bool := List.rec (motive := fun _ => Bool) true (fun x _ ih => Bool.rec (motive := fun _ => Bool) false ih (p x)) l
theorem allB_spec {α : Type} {p : α → Bool} : ∀ {l : List α}, allB p l = true → ∀ x ∈ l, p x = true
  | [], _, x, hx => by cases hx
  | y :: l, h, x, hx => by
    have h : Bool.rec (motive := fun _ => Bool) false (allB p l) (p y) = true := h
    cases hp : p y with
    | false => rw [hp] at h; cases h
    | true =>
      rw [hp] at h
      rcases List.mem_cons.1 hx with rfl | hx
      · exact hp
      · exact allB_spec h x hx
abbrev KF := Frm → Hs → Fz → Res
/-- A step: its guard, its operation, its result. -/
structure StQ where
  run : CZ → Nat → Frm → Hs → Fz → KF → Res
def plainQ (o : OpZ) (d : Dst) : StQ := ⟨fun C thr fr h f k => o.run C thr fr h f fun v h f => k (d.s fr v) h f⟩
def isB (want : Bool) (v : Value) : Bool := Vw.rec (motive := fun _ => Bool) (fun _ _ => false) (fun _ _ => false) (fun x => Bool.rec (motive := fun _ => Bool) (Bool.rec (motive := fun _ => Bool) true false want) want x) (fun _ _ _ _ => false) (fun _ => false) (fun _ => false) (fun _ => false) (fun _ => false) false (view v)
def guardQ (g : Opd) (want : Bool) (d : Dst) (s : StQ) : StQ := ⟨fun C thr fr h f k => Bool.rec (motive := fun _ => Res) (k (d.s fr undef) h f) (s.run C thr fr h f k) (isB want (g.v fr))⟩
def mvQ (x : Opd) (d : Dst) : StQ := ⟨fun _ _ fr h f k => k (d.s fr (x.v fr)) h f⟩
def mvOf (o : Op) : Option Operand := Op.rec (motive := fun _ => Option Operand) (fun x => some x) (fun x => some x) (fun _ _ _ => none) (fun _ => none) (fun _ _ => none) (fun _ _ => none) (fun _ _ _ => none) (fun _ _ _ _ => none) (fun _ _ => none) (fun _ _ _ => none) (fun _ => none) (fun _ => none) (fun _ => none) (fun _ _ _ _ _ => none) (fun _ _ _ => none) (fun _ _ _ => none) (fun _ _ => none) (fun _ _ => none) (fun _ _ _ => none) (fun _ _ => none) (fun _ _ => none) (fun _ _ _ => none) (fun _ _ _ _ _ => none) (fun _ _ _ => none) (fun _ _ _ => none) (fun _ _ _ => none) (fun _ _ _ => none) (fun _ _ _ _ => none) (fun _ _ _ _ => none) (fun _ _ _ => none) (fun _ _ _ _ => none) (fun _ _ => none) (fun _ _ => none) (fun _ => none) (fun _ _ _ _ => none) (fun _ _ => none) (fun _ => none) (fun _ => none) (fun _ => none) (fun _ => none) (fun _ _ => none) (fun _ _ _ => none) (fun _ _ => none) o
theorem mvOf_spec {o : Op} {x : Operand} (h : mvOf o = some x) : o = .move x ∨ o = .assign x := by
  cases o with
  | move y => cases h; exact .inl rfl
  | assign y => cases h; exact .inr rfl
  | _ => cases h
def doQ (P : Program) (R : Rt) (o : Oper) : StQ := Option.rec (motive := fun _ => StQ) (plainQ (mkOp P R o) (dstZ o.dst)) (fun x => mvQ (opd x) (dstZ o.dst)) (mvOf o.op)
theorem doQ_eq (P : Program) (R : Rt) (o : Oper) : doQ P R o = plainQ (mkOp P R o) (dstZ o.dst) := by
  unfold doQ
  cases hm : mvOf o.op with
  | none => rfl
  | some x => rcases mvOf_spec hm with ho | ho <;> (unfold mkOp; rw [ho]; rfl)
def dstN (ops : Array Oper) (j : Nat) : Option Tmp := Option.rec (motive := fun _ => Option Tmp) none (fun o => o.dst) (nthZ j ops.toList)
theorem dstN_eq (ops : Array Oper) (j : Nat) : dstN ops j = dstOf ops j := by
  unfold dstN dstOf
  rw [nthZ_eq, Array.getElem?_toList]
  cases ops[j]? <;> rfl
def stepQ (P : Program) (R : Rt) (ops : Array Oper) (o : Oper) : StQ := match o.guard with
  | none => doQ P R o
  | some (j, want) => (match dstN ops j with
    | some t => guardQ (opd (.tmp t)) want (dstZ o.dst) (doQ P R o)
    | none => ⟨fun _ _ _ _ _ _ => .no "guard"⟩)
def stOk (ng n : Nat) (ops : Array Oper) (o : Oper) : Bool := Bool.rec (motive := fun _ => Bool) false (Bool.rec (motive := fun _ => Bool) false (Option.rec (motive := fun _ => Bool) true (fun g => dstT n (dstN ops g.1)) o.guard) (dstT n o.dst)) (allB (fun x => Bool.rec (motive := fun _ => Bool) false (opdT n x) (opdOk ng x)) o.op.operands.toList)
theorem stOk_spec {ops : Array Oper} {o : Oper} (h : stOk ng n ops o = true) : (∀ x ∈ o.op.operands, opdOk ng x = true ∧ opdT n x = true) ∧ dstT n o.dst = true ∧ ∀ g, o.guard = some g → dstT n (dstOf ops g.1) = true := by
  unfold stOk at h
  cases h1 : allB (fun x => Bool.rec (motive := fun _ => Bool) false (opdT n x) (opdOk ng x)) o.op.operands.toList with
  | false => rw [h1] at h; cases h
  | true =>
    rw [h1] at h
    cases h2 : dstT n o.dst with
    | false => rw [h2] at h; cases h
    | true =>
      rw [h2] at h
      refine ⟨fun x hx => ?_, rfl, fun g hg => ?_⟩
      · have h3 := allB_spec h1 x (Array.mem_toList_iff.2 hx)
        cases h4 : opdOk ng x with
        | false => rw [h4] at h3; cases h3
        | true => rw [h4] at h3; exact ⟨rfl, h3⟩
      · rw [hg] at h; rw [← dstN_eq]; exact h
theorem isB_eq (want : Bool) (v : Value) : isB want v = (match v with | .bool b => b == want | _ => false) := by
  cases v with
  | bool b => cases b <;> cases want <;> rfl
  | _ =>
    unfold isB
    rw [view_eq]
    unfold viewM
    split <;> first | rfl | (rename_i e; cases e)
theorem wanted_eq {ops : Array Oper} {o : Oper} {fr : Frm} {j t : Nat} {want : Bool} (hg : o.guard = some (j, want)) (hd : dstOf ops j = some t) (ht : t < n) : Region.wanted o (yielded ops (Frm.act n fr).tmps) = isB want ((slotOf t).g fr) := by
  unfold Region.wanted
  rw [hg, isB_eq]
  simp only
  unfold yielded
  rw [show (ops[j]?).bind (·.dst) = some t from hd]
  simp only [Option.bind_some, Frm.act]
  rw [List.getElem?_toArray, List.getElem?_map, List.getElem?_range ht]
  simp only [Option.map_some]
  cases (slotOf t).g fr <;> simp
theorem stepQ_sound (hR : R.Ok P) {C : CZ} (hC : CSoundZ C K) {ops : Array Oper} {i : Nat} {o : Oper} (ho : ops[i]? = some o) (hs : stOk ng n ops o = true)
    {thr : Nat} {fr : Frm} {h : Hs} {f : Fz} {k : KF} {q : Res} (hi : h.Inv) (ht : thr ≤ h.nx) (hq : rok q) (e : (stepQ P R ops o).run C thr fr h f k = q) :
    ∃ t v fr' h' f', StepR (opA hN ng) K ops i (Frm.act n fr) t v ∧ Frm.act n fr' = (Frm.act n fr).put o.dst v ∧ LeftZ thr h f h' f' t ∧ k fr' h' f' = q := by
  obtain ⟨hs1, hs2, hs3⟩ := stOk_spec hs
  have hT : ∀ x ∈ o.op.operands, opdT n x = true := fun x hx => (hs1 x hx).2
  have hok : ∀ x ∈ o.op.operands, opdOk ng x = true := fun x hx => (hs1 x hx).1
  have main : Region.wanted o (yielded ops (Frm.act n fr).tmps) = true → (plainQ (mkOp P R o) (dstZ o.dst)).run C thr fr h f k = q → ∃ t v fr' h' f', StepR (opA hN ng) K ops i (Frm.act n fr) t v ∧ Frm.act n fr' = (Frm.act n fr).put o.dst v ∧ LeftZ thr h f h' f' t ∧ k fr' h' f' = q := by
    intro hw e
    obtain ⟨t, v, h', f', q1, q2, q3⟩ := op_sound (hN := hN) hR (mkOp_ref hR) hT hok hC hi ht hq e
    refine ⟨t, v, _, h', f', ?_, dst_put hs2 fr v, q2, q3⟩
    unfold StepR
    rw [ho]
    simp only [hw, if_true]
    exact q1
  unfold stepQ at e
  simp only [doQ_eq, dstN_eq] at e
  split at e
  · rename_i hg
    exact main (by unfold Region.wanted; rw [hg]) e
  · rename_i j want hg
    split at e
    · rename_i t hd
      have hs3 := hs3 _ hg
      simp only [hd] at hs3
      have htn : t < n := blt_lt hs3
      have hw := wanted_eq (fr := fr) hg hd htn
      have e : Bool.rec (motive := fun _ => Res) (k ((dstZ o.dst).s fr undef) h f) ((plainQ (mkOp P R o) (dstZ o.dst)).run C thr fr h f k) (isB want ((slotOf t).g fr)) = q := e
      cases hb : isB want ((slotOf t).g fr) with
      | true => rw [hb] at e hw; exact main hw e
      | false =>
        rw [hb] at e hw
        refine ⟨[], undef, _, h, f, ?_, dst_put hs2 fr undef, LeftZ.refl hi f, e⟩
        unfold StepR
        rw [ho]
        simp [hw]
    · rw [← e] at hq; exact (rok_no hq).elim

/-- The steps of a region. -/
def mkQ (P : Program) (R : Rt) (ops : Array Oper) (l : List Oper) : List StQ := List.rec (motive := fun _ => List StQ) [] (fun o _ ih => stepQ P R ops o :: ih) l
def runQ (l : List StQ) : CZ → Nat → Frm → Hs → Fz → KF → Res := List.rec (motive := fun _ => CZ → Nat → Frm → Hs → Fz → KF → Res) (fun _ _ fr h f k => k fr h f) (fun s _ ih C thr fr h f k => s.run C thr fr h f fun fr h f => ih C thr fr h f k) l

theorem runQ_sound (hR : R.Ok P) {C : CZ} (hC : CSoundZ C K) {ops : Array Oper} (hs : ∀ o ∈ ops.toList, stOk ng n ops o = true) {k : KF} {q : Res} (hq : rok q) {thr : Nat} : ∀ (l : List Oper) (i : Nat) (fr : Frm) (h : Hs) (f : Fz), l = ops.toList.drop i → h.Inv → thr ≤ h.nx → runQ (mkQ P R ops l) C thr fr h f k = q →
    ∃ st fr' h' f', st.map (·.i) = List.range' i l.length ∧ SeqR (opA hN ng) K ops st (Frm.act n fr) ∧ fin ops st (Frm.act n fr) = Frm.act n fr' ∧ LeftZ thr h f h' f' (acts st) ∧ k fr' h' f' = q
  | [], i, fr, h, f, _, hi, _, e => ⟨[], fr, h, f, rfl, trivial, rfl, LeftZ.refl hi f, e⟩
  | o :: l, i, fr, h, f, hl, hi, ht, e => by
    have hoi : ops[i]? = some o := by
      rw [← Array.getElem?_toList]
      have := congrArg (fun l => l[0]?) hl
      simpa using this.symm
    have hl2 : l = ops.toList.drop (i + 1) := by
      have := congrArg List.tail hl
      simpa [List.tail_drop] using this
    have e : (stepQ P R ops o).run C thr fr h f (fun fr h f => runQ (mkQ P R ops l) C thr fr h f k) = q := e
    obtain ⟨t, v, fr1, h1, f1, p1, p2, p3, p4⟩ := stepQ_sound (hN := hN) hR hC hoi (hs o (Array.mem_toList_iff.2 (Array.mem_of_getElem? hoi))) hi ht hq e
    obtain ⟨st, fr', h', f', q1, q2, q3, q4, q5⟩ := runQ_sound hR hC hs hq l (i + 1) fr1 h1 f1 hl2 p3.inv (Nat.le_trans ht p3.le) p4
    have hd : dstOf ops i = o.dst := by simp [dstOf, hoi]
    rw [p2] at q2 q3
    exact ⟨⟨i, t, v⟩ :: st, fr', h', f', by simp [q1, List.range'_succ], ⟨p1, by rw [hd]; exact q2⟩, by simp only [fin]; rw [hd]; exact q3, p3.trans q4, q5⟩

/-- Which operations stand ahead, bit by bit, all in one number. -/
def anM (W M j : Nat) : Nat := Nat.mod (Nat.shiftRight M (Nat.mul j W)) (Nat.shiftLeft 1 W)
def edM (W M : Nat) (gs : List Edge) : Nat := List.rec (motive := fun _ => Nat) 0 (fun g _ ih => Bool.rec (motive := fun _ => Nat) ih (Nat.lor (Nat.lor (Nat.shiftLeft 1 g.on) (anM W M g.on)) ih) (Region.binds .any g)) gs
def anB (W : Nat) (l : List Oper) : Nat → Nat → Nat := List.rec (motive := fun _ => Nat → Nat → Nat) (fun _ M => M) (fun o _ ih j M => ih (Nat.succ j) (Nat.lor M (Nat.shiftLeft (Nat.mod (edM W M o.after.toList) (Nat.shiftLeft 1 W)) (Nat.mul j W)))) l
def anAll (ops : Array Oper) : Nat := anB (lenZ ops.toList) ops.toList 0 0
def anAt (ops : Array Oper) (i : Nat) : Nat := anM (lenZ ops.toList) (anAll ops) i
theorem edM_sound {ops : Array Oper} {W M j : Nat} {o : Oper} (ho : ops[j]? = some o) (h : ∀ j i, (anM W M j).testBit i = true → Anc ops i j) : ∀ (gs : List Edge), (∀ g ∈ gs, g ∈ o.after) → ∀ i, (edM W M gs).testBit i = true → Anc ops i j
  | [], _, i, hi => by
    have : (0 : Nat).testBit i = true := hi
    simp at this
  | g :: gs, hm, i, hi => by
    have ih := edM_sound ho h gs (fun x hx => hm x (List.mem_cons_of_mem _ hx)) i
    have hi : (Bool.rec (motive := fun _ => Nat) (edM W M gs) (Nat.lor (Nat.lor (Nat.shiftLeft 1 g.on) (anM W M g.on)) (edM W M gs)) (Region.binds .any g)).testBit i = true := hi
    cases hb : Region.binds .any g with
    | false => rw [hb] at hi; exact ih hi
    | true =>
      rw [hb] at hi
      have hi : ((1 <<< g.on ||| anM W M g.on) ||| edM W M gs).testBit i = true := hi
      have hedge : Anc ops g.on j := .edge ho (hm g List.mem_cons_self) hb rfl
      rw [Nat.testBit_or, Nat.testBit_or, Bool.or_eq_true, Bool.or_eq_true] at hi
      rcases hi with (hi | hi) | hi
      · rw [Nat.one_shiftLeft, Nat.testBit_two_pow] at hi
        rw [← of_decide_eq_true hi]; exact hedge
      · exact .more (h g.on i hi) hedge
      · exact ih hi
theorem anB_sound {ops : Array Oper} {W : Nat} : ∀ (l : List Oper) (j0 M : Nat), l = ops.toList.drop j0 → (∀ j i, (anM W M j).testBit i = true → Anc ops i j) → ∀ j i, (anM W (anB W l j0 M) j).testBit i = true → Anc ops i j
  | [], _, _, _, h => h
  | o :: l, j0, M, hl, h => by
    have hoi : ops[j0]? = some o := by
      rw [← Array.getElem?_toList]
      have := congrArg (fun l => l[0]?) hl
      simpa using this.symm
    show ∀ j i, (anM W (anB W l (j0 + 1) (Nat.lor M (Nat.shiftLeft (Nat.mod (edM W M o.after.toList) (Nat.shiftLeft 1 W)) (Nat.mul j0 W)))) j).testBit i = true → Anc ops i j
    refine anB_sound l (j0 + 1) _ (by
      have := congrArg List.tail hl
      simpa [List.tail_drop] using this) fun j i hb => ?_
    have key : ∀ (M' : Nat) (j i : Nat), (anM W M' j).testBit i = (decide (i < W) && M'.testBit (j * W + i)) := fun M' j i => by
      show ((M' >>> (j * W)) % (1 <<< W)).testBit i = _
      rw [Nat.one_shiftLeft, Nat.testBit_mod_two_pow, Nat.testBit_shiftRight]
    have hb2 := hb
    rw [key] at hb2
    rw [Bool.and_eq_true] at hb2
    obtain ⟨hiW, hb3⟩ := hb2
    have hiW := of_decide_eq_true hiW
    have hb3 : (M ||| ((edM W M o.after.toList) % (1 <<< W)) <<< (j0 * W)).testBit (j * W + i) = true := hb3
    rw [Nat.testBit_or, Bool.or_eq_true] at hb3
    rcases hb3 with hb3 | hb3
    · exact h j i (by rw [key, hb3]; simp [hiW])
    · rw [Nat.testBit_shiftLeft, Bool.and_eq_true, Nat.one_shiftLeft, Nat.testBit_mod_two_pow, Bool.and_eq_true] at hb3
      obtain ⟨g1, g2, g3⟩ := hb3
      have g1 := of_decide_eq_true g1
      have g2 := of_decide_eq_true g2
      have hj : j = j0 := by
        rcases Nat.lt_trichotomy j j0 with hlt | he | hgt
        · have : (j + 1) * W ≤ j0 * W := Nat.mul_le_mul_right _ hlt
          rw [Nat.add_mul] at this; omega
        · exact he
        · have : (j0 + 1) * W ≤ j * W := Nat.mul_le_mul_right _ hgt
          rw [Nat.add_mul] at this; omega
      subst hj
      rw [Nat.add_sub_cancel_left] at g3
      exact edM_sound hoi h o.after.toList (fun g hg => Array.mem_toList_iff.1 hg) i g3
theorem anAt_sound {ops : Array Oper} {i j : Nat} (h : (anAt ops j).testBit i = true) : Anc ops i j :=
  anB_sound ops.toList 0 0 rfl (fun j i hb => by
    have : ((0 >>> (j * lenZ ops.toList)) % (1 <<< lenZ ops.toList)).testBit i = true := hb
    simp at this) j i h

/-- What was touched by one. -/
structure RecZ where
  i : Nat
  an : Nat
  rd : Bool
  a : Nat
  b : Nat
  f : Fz
abbrev KR := Frm → Hs → Fz → List RecZ → Res
structure StZ where
  run : CZ → Nat → Frm → Hs → Fz → List RecZ → KR → Res
def softZ (s : StQ) : StZ := ⟨fun C thr fr h f rs k => s.run C thr fr h f fun fr h f => k fr h f rs⟩
def loudZ (i an : Nat) (rd : Bool) (s : StQ) : StZ := ⟨fun C thr fr h f rs k => s.run C h.nx fr h ⟨0, 0⟩ fun fr' h' f' => k fr' h' (f.join (f'.cut thr)) (⟨i, an, rd, h.nx, h'.nx, f'⟩ :: rs)⟩
def stepZ (P : Program) (R : Rt) (ops : Array Oper) (i : Nat) (o : Oper) : StZ := match Nat.beq (kindOf o.op) 0 with
  | true => softZ (stepQ P R ops o)
  | false => loudZ i (anAt ops i) (Nat.beq (kindOf o.op) 1) (stepQ P R ops o)
def mkZ (P : Program) (R : Rt) (ops : Array Oper) (l : List Oper) : Nat → List StZ := List.rec (motive := fun _ => Nat → List StZ) (fun _ => []) (fun o _ ih i => stepZ P R ops i o :: ih (Nat.succ i)) l
def runR (l : List StZ) : CZ → Nat → Frm → Hs → Fz → List RecZ → KR → Res := List.rec (motive := fun _ => CZ → Nat → Frm → Hs → Fz → List RecZ → KR → Res) (fun _ _ fr h f rs k => k fr h f rs) (fun s _ ih C thr fr h f rs k => s.run C thr fr h f rs fun fr h f rs => ih C thr fr h f rs k) l

inductive Rk (ops : Array Oper) : List Stp → List RecZ → Nat → Prop
  | nil (hi : Nat) : Rk ops [] [] hi
  | soft {st : List Stp} {rs : List RecZ} {hi hi' : Nat} {s : Stp} (h : Rk ops st rs hi) (ht : s.t = []) (hh : hi ≤ hi') : Rk ops (st ++ [s]) rs hi'
  | loud {st : List Stp} {rs : List RecZ} {hi : Nat} {s : Stp} {r : RecZ} (h : Rk ops st rs hi) (h1 : hi ≤ r.a) (h2 : r.a ≤ r.b) (h3 : s.i = r.i) (h4 : AllZ r.a r.a r.b r.f s.t) (h5 : r.rd = true → ∀ a ∈ s.t, isRd a) (h6 : r.an = anAt ops s.i) : Rk ops (st ++ [s]) (r :: rs) r.b

theorem runR_sound (hR : R.Ok P) {C : CZ} (hC : CSoundZ C K) {ops : Array Oper} (hs : ∀ o ∈ ops.toList, stOk ng n ops o = true) {k : KR} {q : Res} (hq : rok q) {thr : Nat} : ∀ (l : List Oper) (i : Nat) (fr : Frm) (h : Hs) (f : Fz) (rs : List RecZ) (st0 : List Stp), l = ops.toList.drop i → h.Inv → thr ≤ h.nx → Rk ops st0 rs h.nx → runR (mkZ P R ops l i) C thr fr h f rs k = q →
    ∃ st fr' h' f' rs', st.map (·.i) = List.range' i l.length ∧ SeqR (opA hN ng) K ops st (Frm.act n fr) ∧ fin ops st (Frm.act n fr) = Frm.act n fr' ∧ LeftZ thr h f h' f' (acts st) ∧ Rk ops (st0 ++ st) rs' h'.nx ∧ k fr' h' f' rs' = q
  | [], i, fr, h, f, rs, st0, _, hi, _, hk, e => ⟨[], fr, h, f, rs, rfl, trivial, rfl, LeftZ.refl hi f, by rw [List.append_nil]; exact hk, e⟩
  | o :: l, i, fr, h, f, rs, st0, hl, hi, ht, hk, e => by
    have hoi : ops[i]? = some o := by
      rw [← Array.getElem?_toList]
      have := congrArg (fun l => l[0]?) hl
      simpa using this.symm
    have hl2 : l = ops.toList.drop (i + 1) := by
      have := congrArg List.tail hl
      simpa [List.tail_drop] using this
    have hd : dstOf ops i = o.dst := by simp [dstOf, hoi]
    have hso := hs o (Array.mem_toList_iff.2 (Array.mem_of_getElem? hoi))
    have e : (stepZ P R ops i o).run C thr fr h f rs (fun fr h f rs => runR (mkZ P R ops l (i + 1)) C thr fr h f rs k) = q := e
    have go : ∀ (t : List Ac) (v : Value) (fr1 : Frm) (h1 : Hs) (f1 : Fz) (rs1 : List RecZ), StepR (opA hN ng) K ops i (Frm.act n fr) t v → Frm.act n fr1 = (Frm.act n fr).put o.dst v → LeftZ thr h f h1 f1 t → Rk ops (st0 ++ [⟨i, t, v⟩]) rs1 h1.nx → runR (mkZ P R ops l (i + 1)) C thr fr1 h1 f1 rs1 k = q →
        ∃ st fr' h' f' rs', st.map (·.i) = List.range' i (o :: l).length ∧ SeqR (opA hN ng) K ops st (Frm.act n fr) ∧ fin ops st (Frm.act n fr) = Frm.act n fr' ∧ LeftZ thr h f h' f' (acts st) ∧ Rk ops (st0 ++ st) rs' h'.nx ∧ k fr' h' f' rs' = q := by
      intro t v fr1 h1 f1 rs1 p1 p2 p3 p5 p4
      obtain ⟨st, fr', h', f', rs', q1, q2, q3, q4, q6, q5⟩ := runR_sound hR hC hs hq l (i + 1) fr1 h1 f1 rs1 (st0 ++ [⟨i, t, v⟩]) hl2 p3.inv (Nat.le_trans ht p3.le) p5 p4
      rw [p2] at q2 q3
      exact ⟨⟨i, t, v⟩ :: st, fr', h', f', rs', by simp [q1, List.range'_succ], ⟨p1, by rw [hd]; exact q2⟩, by simp only [fin]; rw [hd]; exact q3, p3.trans q4, by rw [List.append_assoc] at q6; exact q6, q5⟩
    unfold stepZ at e
    split at e
    · rename_i hk0
      have e : (stepQ P R ops o).run C thr fr h f (fun fr h f => runR (mkZ P R ops l (i + 1)) C thr fr h f rs k) = q := e
      obtain ⟨t, v, fr1, h1, f1, p1, p2, p3, p4⟩ := stepQ_sound (hN := hN) hR hC hoi hso hi ht hq e
      exact go t v fr1 h1 f1 rs p1 p2 p3 (.soft hk (step_quiet hoi (Nat.eq_of_beq_eq_true hk0) p1) p3.le) p4
    · have e : (stepQ P R ops o).run C h.nx fr h ⟨0, 0⟩ (fun fr' h' f' => runR (mkZ P R ops l (i + 1)) C thr fr' h' (f.join (f'.cut thr)) (⟨i, anAt ops i, Nat.beq (kindOf o.op) 1, h.nx, h'.nx, f'⟩ :: rs) k) = q := e
      obtain ⟨t, v, fr1, h1, f1, p1, p2, p3, p4⟩ := stepQ_sound (hN := hN) hR hC hoi hso hi (Nat.le_refl _) hq e
      exact go t v fr1 h1 _ _ p1 p2 (p3.lower ht) (.loud (r := ⟨i, anAt ops i, Nat.beq (kindOf o.op) 1, h.nx, h1.nx, f1⟩) hk (Nat.le_refl _) p3.le rfl p3.all (fun hrd => step_reader hoi (Nat.eq_of_beq_eq_true hrd) p1) rfl) p4

/-- What can be seen of a region ahead of all runs. -/
structure Inf where
  i : Nat
  an : Nat
  lk : Nat
  ds : Nat
  kd : Nat
def opM (l : List Operand) : Nat := List.rec (motive := fun _ => Nat) 0 (fun x _ ih => Operand.rec (motive := fun _ => Nat) (fun t => Nat.lor (Nat.shiftLeft 1 t) ih) (fun _ => ih) (fun _ => ih) (fun _ => ih) x) l
def dsM (d : Option Tmp) : Nat := Option.rec (motive := fun _ => Nat) 0 (fun t => Nat.shiftLeft 1 t) d
def lkM (ops : Array Oper) (o : Oper) : Nat := Nat.lor (opM o.op.operands.toList) (Option.rec (motive := fun _ => Nat) 0 (fun g => dsM (dstN ops g.1)) o.guard)
def infL (ops : Array Oper) (l : List Oper) : Nat → List Inf := List.rec (motive := fun _ => Nat → List Inf) (fun _ => []) (fun o _ ih i => ⟨i, anAt ops i, lkM ops o, dsM o.dst, kindOf o.op⟩ :: ih (Nat.succ i)) l
def bitAt (m i : Nat) : Bool := Nat.beq (Nat.mod (Nat.shiftRight m i) 2) 1
theorem bitAt_eq (m i : Nat) : bitAt m i = m.testBit i := by
  have e : m.testBit i = decide ((m >>> i) % 2 = 1) := by
    rw [Nat.testBit_eq_decide_div_mod_eq, Nat.shiftRight_eq_div_pow]
  rw [e]
  unfold bitAt
  show Nat.beq ((m >>> i) % 2) 1 = _
  cases h : Nat.beq ((m >>> i) % 2) 1 with
  | true => exact (decide_eq_true (Nat.eq_of_beq_eq_true h)).symm
  | false => exact (decide_eq_false (fun e => by rw [e] at h; cases h)).symm
def freeB (x y : Inf) : Bool := Nat.beq (Nat.lor (Nat.land x.ds (Nat.lor y.lk y.ds)) (Nat.land x.lk y.ds)) 0
def okZ (l : List Inf) : Bool := allB (fun y => allB (fun x => Bool.rec (motive := fun _ => Bool) true (Bool.rec (motive := fun _ => Bool) (freeB x y) true (bitAt y.an x.i)) (Nat.blt x.i y.i)) l) l
/-- No two of them need to be looked at in a run. -/
def calmZ (l : List Inf) : Bool := allB (fun y => allB (fun x => Bool.rec (motive := fun _ => Bool) true (Bool.rec (motive := fun _ => Bool) (Nat.ble (Nat.mul x.kd y.kd) 1) true (bitAt y.an x.i)) (Nat.blt x.i y.i)) l) l
theorem opM_bit : ∀ {l : List Operand} {t : Tmp}, .tmp t ∈ l → (opM l).testBit t = true
  | x :: l, t, h => by
    have step : (opM l).testBit t = true → (opM (x :: l)).testBit t = true := by
      intro k
      cases x with
      | tmp u => show (Nat.lor (Nat.shiftLeft 1 u) (opM l)).testBit t = true; exact lor_right k
      | _ => exact k
    rcases List.mem_cons.1 h with rfl | h
    · show (Nat.lor (Nat.shiftLeft 1 t) (opM l)).testBit t = true
      exact lor_left (bit_self _)
    · exact step (opM_bit h)
theorem lkM_bit {ops : Array Oper} {o : Oper} {t : Tmp} (h : t ∈ o.looksAt ops) : (lkM ops o).testBit t = true := by
  unfold Oper.looksAt at h
  unfold lkM
  rcases List.mem_append.1 h with h | h
  · obtain ⟨x, hx, he⟩ := List.mem_filterMap.1 h
    refine lor_left (opM_bit ?_)
    cases x with
    | tmp u => cases he; exact hx
    | _ => cases he
  · refine lor_right ?_
    cases hg : o.guard with
    | none => rw [hg] at h; cases h
    | some g =>
      rw [hg] at h
      have h : t ∈ (dstOf ops g.1).toList := h
      show (dsM (dstN ops g.1)).testBit t = true
      rw [dstN_eq]
      cases hd : dstOf ops g.1 with
      | none => rw [hd] at h; cases h
      | some d =>
        rw [hd] at h
        obtain rfl := List.mem_singleton.1 h
        exact bit_self _
theorem infL_mem {ops : Array Oper} : ∀ (l : List Oper) (j : Nat), l = ops.toList.drop j → ∀ (i : Nat) (o : Oper), j ≤ i → ops[i]? = some o → (⟨i, anAt ops i, lkM ops o, dsM o.dst, kindOf o.op⟩ : Inf) ∈ infL ops l j
  | [], j, hl, i, o, hj, ho => by
    exfalso
    have h1 := (Array.getElem?_eq_some_iff.1 ho).1
    have h2 := congrArg List.length hl
    simp at h2
    omega
  | x :: l, j, hl, i, o, hj, ho => by
    show _ ∈ _ :: infL ops l (j + 1)
    by_cases h : j = i
    · subst h
      have hoi : ops[j]? = some x := by
        rw [← Array.getElem?_toList]
        have := congrArg (fun l => l[0]?) hl
        simpa using this.symm
      rw [hoi] at ho; cases ho
      exact List.mem_cons_self
    · refine List.mem_cons_of_mem _ (infL_mem l (j + 1) ?_ i o (by omega) ho)
      have := congrArg List.tail hl
      simpa [List.tail_drop] using this
theorem okZ_apart {ops : Array Oper} (h : okZ (infL ops ops.toList 0) = true) {i j : Nat} {x y : Oper} (hx : ops[i]? = some x) (hy : ops[j]? = some y) (hij : i < j) : Anc ops i j ∨ x.apart ops y = true := by
  have h1 := allB_spec (allB_spec h _ (infL_mem _ 0 rfl j y (Nat.zero_le _) hy)) _ (infL_mem _ 0 rfl i x (Nat.zero_le _) hx)
  simp only at h1
  rw [blt_true hij, bitAt_eq] at h1
  cases hb : (anAt ops j).testBit i with
  | true => exact .inl (anAt_sound hb)
  | false =>
    right
    rw [hb] at h1
    have h2 : (dsM x.dst &&& (lkM ops y ||| dsM y.dst)) ||| (lkM ops x &&& dsM y.dst) = 0 := Nat.eq_of_beq_eq_true h1
    have h3 : ∀ k, ((dsM x.dst).testBit k = true → (lkM ops y).testBit k = false ∧ (dsM y.dst).testBit k = false) ∧ ((dsM y.dst).testBit k = true → (lkM ops x).testBit k = false) := by
      intro k
      have : ((dsM x.dst &&& (lkM ops y ||| dsM y.dst)) ||| (lkM ops x &&& dsM y.dst)).testBit k = false := by rw [h2]; simp
      rw [Nat.testBit_or, Nat.testBit_and, Nat.testBit_and, Nat.testBit_or] at this
      constructor
      · intro hd; rw [hd] at this; cases h5 : (lkM ops y).testBit k <;> cases h6 : (dsM y.dst).testBit k <;> simp_all
      · intro hd; rw [hd] at this; cases h5 : (lkM ops x).testBit k <;> simp_all
    have hds : ∀ {o : Oper} {d : Tmp}, o.dst = some d → (dsM o.dst).testBit d = true := fun h => by rw [h]; exact bit_self _
    unfold Oper.apart
    rw [Bool.and_eq_true]
    constructor
    · cases hd : x.dst with
      | none => rfl
      | some d =>
        obtain ⟨g1, g2⟩ := (h3 d).1 (hds hd)
        rw [Bool.and_eq_true]
        constructor
        · rw [Bool.not_eq_true']
          cases hc : (y.looksAt ops).contains d with
          | false => rfl
          | true => rw [lkM_bit (List.contains_iff_mem.1 hc)] at g1; cases g1
        · cases hd2 : y.dst with
          | none => rfl
          | some d2 =>
            by_cases he : d2 = d
            · subst he
              rw [hds hd2] at g2; cases g2
            · simp [he]
    · cases hd : y.dst with
      | none => rfl
      | some d =>
        have g1 := (h3 d).2 (hds hd)
        simp only [Bool.not_eq_true']
        cases hc : (x.looksAt ops).contains d with
        | false => rfl
        | true => rw [lkM_bit (List.contains_iff_mem.1 hc)] at g1; cases g1
theorem calmZ_kinds {ops : Array Oper} (h : calmZ (infL ops ops.toList 0) = true) {i j : Nat} {x y : Oper} (hx : ops[i]? = some x) (hy : ops[j]? = some y) (hij : i < j) : Anc ops i j ∨ kindOf x.op = 0 ∨ kindOf y.op = 0 ∨ (kindOf x.op = 1 ∧ kindOf y.op = 1) := by
  have h1 := allB_spec (allB_spec h _ (infL_mem _ 0 rfl j y (Nat.zero_le _) hy)) _ (infL_mem _ 0 rfl i x (Nat.zero_le _) hx)
  simp only at h1
  rw [blt_true hij, bitAt_eq] at h1
  cases hb : (anAt ops j).testBit i with
  | true => exact .inl (anAt_sound hb)
  | false =>
    right
    rw [hb] at h1
    have h2 : kindOf x.op * kindOf y.op ≤ 1 := Nat.le_of_ble_eq_true h1
    rcases Nat.eq_zero_or_pos (kindOf x.op) with h3 | h3
    · exact .inl h3
    · rcases Nat.eq_zero_or_pos (kindOf y.op) with h4 | h4
      · exact .inr (.inl h4)
      · right; right
        have h5 : kindOf x.op * 1 ≤ kindOf x.op * kindOf y.op := Nat.mul_le_mul_left _ h4
        have h6 : 1 * kindOf y.op ≤ kindOf x.op * kindOf y.op := Nat.mul_le_mul_right _ h3
        omega
theorem rds_apart {t u : List Ac} (h : ∀ a ∈ t, isRd a) (k : ∀ a ∈ u, isRd a) : AllApart t u := fun a ha b hb => by
  obtain ⟨_, _, _, rfl⟩ := h a ha
  obtain ⟨_, _, _, rfl⟩ := k b hb
  trivial
theorem pairsOk_of {ops : Array Oper} : ∀ {l : List Stp}, l.Pairwise (fun s u => Anc ops s.i u.i ∨ StpApart ops s u) → PairsOk ops l
  | [], _ => trivial
  | s :: l, h => by
    rw [List.pairwise_cons] at h
    exact ⟨h.1, pairsOk_of h.2⟩
theorem seq_mem {ops : Array Oper} : ∀ {l : List Stp} {e : Act}, SeqR (opA hN ng) K ops l e → ∀ s ∈ l, ∃ e', StepR (opA hN ng) K ops s.i e' s.t s.v
  | s :: l, e, h, u, hu => by
    rcases List.mem_cons.1 hu with rfl | hu
    · exact ⟨e, h.1⟩
    · exact seq_mem h.2 u hu
theorem calm_pairs {ops : Array Oper} {st : List Stp} {e : Act} (h : SeqR (opA hN ng) K ops st e) (hm : st.map (·.i) = List.range ops.size) (h1 : okZ (infL ops ops.toList 0) = true) (h2 : calmZ (infL ops ops.toList 0) = true) : PairsOk ops st := by
  have hso : st.Pairwise (fun s u => s.i < u.i) := List.pairwise_map.1 (by rw [hm]; exact List.pairwise_lt_range)
  refine pairsOk_of (hso.imp_of_mem fun {s u} hs hu hlt => ?_)
  have hin : ∀ x ∈ st, ∃ o, ops[x.i]? = some o := fun x hx => by
    have : x.i ∈ st.map (·.i) := List.mem_map.2 ⟨x, hx, rfl⟩
    rw [hm, List.mem_range] at this
    exact ⟨_, Array.getElem?_eq_getElem this⟩
  obtain ⟨x, hx⟩ := hin s hs
  obtain ⟨y, hy⟩ := hin u hu
  obtain ⟨_, r1⟩ := seq_mem h s hs
  obtain ⟨_, r2⟩ := seq_mem h u hu
  rcases okZ_apart h1 hx hy hlt with ha | ha
  · exact .inl ha
  rcases calmZ_kinds h2 hx hy hlt with hb | hb | hb | ⟨hb, hc⟩
  · exact .inl hb
  · exact .inr ⟨by rw [step_quiet hx hb r1]; exact fun a ha => (by cases ha), x, y, hx, hy, ha⟩
  · exact .inr ⟨by rw [step_quiet hy hb r2]; exact fun a _ b hb => (by cases hb), x, y, hx, hy, ha⟩
  · exact .inr ⟨rds_apart (step_reader hx hb r1) (step_reader hy hc r2), x, y, hx, hy, ha⟩

/-- A later one and one ahead. -/
def pairB (r u : RecZ) : Bool := Bool.rec (motive := fun _ => Bool) (Bool.rec (motive := fun _ => Bool) (Bool.rec (motive := fun _ => Bool) false (apartNew u.a u.b r.f) (clashZ u.f r.f)) true (Bool.rec (motive := fun _ => Bool) false r.rd u.rd)) true (bitAt r.an u.i)
def pairsB (l : List RecZ) : Bool := List.rec (motive := fun _ => Bool) true (fun r l ih => Bool.rec (motive := fun _ => Bool) false ih (allB (pairB r) l)) l
theorem Rk.find {ops : Array Oper} {st : List Stp} {rs : List RecZ} {hi : Nat} (h : Rk ops st rs hi) : ∀ s ∈ st, s.t = [] ∨ ∃ u ∈ rs, u.i = s.i ∧ u.b ≤ hi ∧ AllZ u.a u.a u.b u.f s.t ∧ (u.rd = true → ∀ a ∈ s.t, isRd a) := by
  induction h with
  | nil => intro s hs; cases hs
  | soft _ ht hh ih =>
    intro s hs
    rcases List.mem_append.1 hs with hs | hs
    · rcases ih s hs with h | ⟨u, h1, h2, h3, h4⟩
      · exact .inl h
      · exact .inr ⟨u, h1, h2, Nat.le_trans h3 hh, h4⟩
    · rw [List.mem_singleton.1 hs]; exact .inl ht
  | loud _ h1 h2 h3 h4 h5 h6 ih =>
    intro s hs
    rcases List.mem_append.1 hs with hs | hs
    · rcases ih s hs with h | ⟨u, g1, g2, g3, g4⟩
      · exact .inl h
      · exact .inr ⟨u, List.mem_cons_of_mem _ g1, g2, by omega, g4⟩
    · rw [List.mem_singleton.1 hs]
      exact .inr ⟨_, List.mem_cons_self, h3.symm, Nat.le_refl _, h4, h5⟩
theorem Rk.pairs {ops : Array Oper} (h1 : okZ (infL ops ops.toList 0) = true) {st : List Stp} {rs : List RecZ} {hi : Nat} (h : Rk ops st rs hi) : pairsB rs = true → st.Pairwise (fun s u => s.i < u.i) → (∀ s ∈ st, ∃ o, ops[s.i]? = some o) → st.Pairwise (fun s u => Anc ops s.i u.i ∨ StpApart ops s u) := by
  induction h with
  | nil => intro _ _ _; exact .nil
  | soft hk ht hh ih =>
    rename_i st rs hi hi' s
    intro hp hso hin
    rw [List.pairwise_append] at hso ⊢
    refine ⟨ih hp hso.1 (fun x hx => hin x (List.mem_append_left _ hx)), List.pairwise_singleton _ _, fun x hx u hu => ?_⟩
    rw [List.mem_singleton.1 hu]
    have hlt := hso.2.2 x hx s List.mem_cons_self
    obtain ⟨ox, hox⟩ := hin x (List.mem_append_left _ hx)
    obtain ⟨os, hos⟩ := hin s (List.mem_append_right _ List.mem_cons_self)
    rcases okZ_apart h1 hox hos hlt with ha | ha
    · exact .inl ha
    · exact .inr ⟨by rw [ht]; exact fun a _ b hb => (by cases hb), ox, os, hox, hos, ha⟩
  | loud hk g1 g2 g3 g4 g5 g6 ih =>
    rename_i st rs hi s r
    intro hp hso hin
    have hp : Bool.rec (motive := fun _ => Bool) false (pairsB rs) (allB (pairB r) rs) = true := hp
    cases hall : allB (pairB r) rs with
    | false => rw [hall] at hp; cases hp
    | true =>
      rw [hall] at hp
      rw [List.pairwise_append] at hso ⊢
      refine ⟨ih hp hso.1 (fun x hx => hin x (List.mem_append_left _ hx)), List.pairwise_singleton _ _, fun x hx u hu => ?_⟩
      rw [List.mem_singleton.1 hu]
      have hlt := hso.2.2 x hx s List.mem_cons_self
      obtain ⟨ox, hox⟩ := hin x (List.mem_append_left _ hx)
      obtain ⟨os, hos⟩ := hin s (List.mem_append_right _ List.mem_cons_self)
      rcases okZ_apart h1 hox hos hlt with ha | ha
      · exact .inl ha
      rcases hk.find x hx with ht | ⟨u, hu, k1, k2, k3, k4⟩
      · exact .inr ⟨by rw [ht]; exact fun a ha => (by cases ha), ox, os, hox, hos, ha⟩
      · have hb := allB_spec hall u hu
        unfold pairB at hb
        rw [bitAt_eq] at hb
        cases hc : r.an.testBit u.i with
        | true => rw [g6, k1] at hc; exact .inl (anAt_sound hc)
        | false =>
          rw [hc] at hb
          cases hu1 : u.rd with
          | true =>
            cases hr1 : r.rd with
            | true => exact .inr ⟨rds_apart (k4 hu1) (g5 hr1), ox, os, hox, hos, ha⟩
            | false =>
              rw [hu1, hr1] at hb
              cases hcl : clashZ u.f r.f with
              | false => rw [hcl] at hb; cases hb
              | true =>
                rw [hcl] at hb
                exact .inr ⟨apartZ k3 g4 (by omega) hcl hb, ox, os, hox, hos, ha⟩
          | false =>
            rw [hu1] at hb
            cases hcl : clashZ u.f r.f with
            | false => rw [hcl] at hb; cases hb
            | true =>
              rw [hcl] at hb
              exact .inr ⟨apartZ k3 g4 (by omega) hcl hb, ox, os, hox, hos, ha⟩

def backB (ops : Array Oper) : Bool := ops.toList.zipIdx.all fun (o, j) => o.after.toList.all fun g => !Region.binds .any g || Nat.blt g.on j
theorem backB_backs {ops : Array Oper} (h : backB ops = true) : Backs ops := by
  unfold backB at h
  intro j o g ho hg hb
  have h1 := List.all_eq_true.1 h (o, j) (by rw [List.mem_zipIdx_iff_getElem?]; simpa using ho)
  have h2 := List.all_eq_true.1 h1 g (Array.mem_toList_iff.2 hg)
  rw [hb] at h2
  simpa [Nat.blt_eq] using h2
end
end
end Go.Proofs.YtjeplkbdgphfoaaDoor
