/-
  Plain facts: names that are the same, the first of a list, all, any; which types are which.
-/
import Derived.Test.YtjlljfeledapaaaDoorDat
namespace Go.Proofs.YtjlljfeledapaaaDoor

def sB (a b : ByteArray) : Bool := a.data.toList == b.data.toList
theorem sB_eq (a b : ByteArray) : (a.toList == b.toList) = sB a b := by rw [ByteArray.toList_eq, ByteArray.toList_eq]; rfl
theorem sB_of {a b : ByteArray} {x : Bool} (h : (a.toList == b.toList) = x) : sB a b = x := by rw [← sB_eq]; exact h
theorem sB_refl (a : ByteArray) : sB a a = true := by simp [sB]
theorem sB_comm (a b : ByteArray) : sB a b = sB b a := by unfold sB; rw [Bool.eq_iff_iff]; simp only [beq_iff_eq]; exact eq_comm
theorem sB_empty (a : ByteArray) : a.toList.isEmpty = sB a { data := #[] } := by
  rw [ByteArray.toList_eq]; unfold sB; cases a.data.toList <;> rfl

section
variable {α : Type} {l : List α} {p : α → Bool}
theorem idx_some {k : Nat} (hk : k < l.length) (h : ∀ j (hj : j < k), p (l[j]'(by omega)) = false) (hp : p l[k] = true) : l.findIdx? p = some k := by
  rw [List.findIdx?_eq_some_iff_getElem]
  refine ⟨hk, hp, fun j hj => ?_⟩
  rw [h j hj]; decide
theorem idx_none (h : ∀ j (hj : j < l.length), p l[j] = false) : l.findIdx? p = none := by
  rw [List.findIdx?_eq_none_iff]
  intro x hx
  obtain ⟨j, hj, rfl⟩ := List.getElem_of_mem hx
  exact h j hj
theorem all_yes (h : ∀ j (hj : j < l.length), p l[j] = true) : l.all p = true := by
  rw [List.all_eq_true]; intro x hx; obtain ⟨j, hj, rfl⟩ := List.getElem_of_mem hx; exact h j hj
theorem all_no {k : Nat} (hk : k < l.length) (h : p l[k] = false) : l.all p = false := by
  rw [List.all_eq_false]; exact ⟨l[k], List.getElem_mem _, by rw [h]; decide⟩
theorem any_no (h : ∀ j (hj : j < l.length), p l[j] = false) : l.any p = false := by
  rw [List.any_eq_false]; intro x hx; obtain ⟨j, hj, rfl⟩ := List.getElem_of_mem hx; rw [h j hj]; decide
theorem any_yes {k : Nat} (hk : k < l.length) (h : p l[k] = true) : l.any p = true := by
  rw [List.any_eq_true]; exact ⟨l[k], List.getElem_mem _, h⟩
/-- A fact of all below k, one further. -/
theorem below_next {P : Nat → Prop} {k : Nat} (h : ∀ j, j < k → P j) (hk : P k) : ∀ j, j < k + 1 → P j := by
  intro j hj
  rcases Nat.lt_succ_iff_lt_or_eq.1 hj with h1 | rfl
  · exact h j h1
  · exact hk
end

def fldIdx (fs : List Fld) (nm : ByteArray) : Option Nat := fs.findIdx? fun f => sB f.name nm
def mthIdx (ms : List Mth) (nm : ByteArray) : Option Nat := ms.findIdx? fun m => sB m.name nm
theorem fldIdx_some {fs : List Fld} {nm : ByteArray} {k : Nat} (hk : k < fs.length) (h : ∀ j (hj : j < k), sB (fs[j]'(by omega)).name nm = false) (hp : sB fs[k].name nm = true) : fldIdx fs nm = some k := idx_some hk h hp
theorem fldIdx_none {fs : List Fld} {nm : ByteArray} (h : ∀ j (hj : j < fs.length), sB fs[j].name nm = false) : fldIdx fs nm = none := idx_none h
theorem mthIdx_some {fs : List Mth} {nm : ByteArray} {k : Nat} (hk : k < fs.length) (h : ∀ j (hj : j < k), sB (fs[j]'(by omega)).name nm = false) (hp : sB fs[k].name nm = true) : mthIdx fs nm = some k := idx_some hk h hp
theorem mthIdx_none {fs : List Mth} {nm : ByteArray} (h : ∀ j (hj : j < fs.length), sB fs[j].name nm = false) : mthIdx fs nm = none := idx_none h
/-- A result of two: a place, and whether there is one. -/
def found (o : Option Nat) : Value := .tuple #[.int .i64 (o.getD 0 : Nat), .bool o.isSome]

def typ (l : List Typ) (t : Int) : Typ := l.getD t.toNat ⟨0, ⟨#[]⟩, 0, [], []⟩
theorem typ_at {l : List Typ} {k : Nat} (h : k < l.length) : typ l k = l[k] := by simp [typ, h]
def isTypeB (n : Nat) (t : Int) : Bool := decide (0 ≤ t ∧ t < n)
theorem isType_yes {n k : Nat} (h : k < n) : isTypeB n k = true := by simp [isTypeB]; omega
theorem isType_no {n : Nat} {t : Int} (h : t < 0 ∨ n ≤ t) : isTypeB n t = false := by simp [isTypeB]; omega
theorem isType_out {n : Nat} {t : Int} (h : isTypeB n t = true) : ∃ k : Nat, k < n ∧ t = k := by
  simp only [isTypeB, decide_eq_true_eq] at h
  exact ⟨t.toNat, by omega, by omega⟩
theorem isType_off {n : Nat} {t : Int} (h : isTypeB n t = false) : t < 0 ∨ n ≤ t := by
  simp only [isTypeB, decide_eq_false_iff_not] at h; omega
def isKindB (l : List Typ) (t k : Int) : Bool := isTypeB l.length t && (typ l t).kind == k
theorem isKind_type {l : List Typ} {t k : Int} (h : isKindB l t k = true) : isTypeB l.length t = true := by
  unfold isKindB at h; rw [Bool.and_eq_true] at h; exact h.1
def nilableB (k : Int) : Bool := k == 5 || k == 6 || k == 7
def isValueB (n : Nat) (t : Int) : Bool := isTypeB n t && t != 0 && t != 4
def rightFuncB (k f : Int) : Bool := if k = 7 then f == -1 else decide (0 ≤ f)

def sameIntsB (a b : List Int) : Bool := a == b
def callB (a b : Mth) : Bool := sB a.name b.name && a.result == b.result && sameIntsB a.params b.params
def offersB (ms : List Mth) (m : Mth) : Bool := ms.any fun x => callB x m
def hasB (l : List Typ) (s f : Int) : Bool := isKindB l s 5 && isKindB l f 7 && (typ l f).methods.all (offersB (typ l s).methods)
def fitsB (l : List Typ) (a b : Int) : Bool :=
  isTypeB l.length a && isTypeB l.length b && (if (typ l a).kind = 4 then nilableB (typ l b).kind else if a = b then (typ l a).kind != 0 else hasB l a b)
def isRefB (l : List Typ) (t : Int) : Bool := isTypeB l.length t && ((typ l t).kind == 3 || nilableB (typ l t).kind)

/-- Two lists that are the same, one by one. -/
def same2 {α : Type} (p : α → α → Bool) (a b : List α) : Bool := a.length == b.length && (List.zip a b).all fun x => p x.1 x.2
theorem same2_no_len {α : Type} {p : α → α → Bool} {a b : List α} (h : a.length ≠ b.length) : same2 p a b = false := by simp [same2, h]
theorem same2_no {α : Type} {p : α → α → Bool} {a b : List α} {k : Nat} (ha : k < a.length) (hb : k < b.length) (h : p a[k] b[k] = false) : same2 p a b = false := by
  unfold same2
  rw [Bool.and_eq_false_iff]
  refine .inr (all_no (k := k) (by rw [List.length_zip]; omega) ?_)
  simpa using h
theorem same2_yes {α : Type} {p : α → α → Bool} {a b : List α} (hl : a.length = b.length) (h : ∀ j (ha : j < a.length) (hb : j < b.length), p a[j] b[j] = true) : same2 p a b = true := by
  unfold same2
  rw [Bool.and_eq_true]
  refine ⟨by simp [hl], all_yes fun j hj => ?_⟩
  rw [List.length_zip] at hj
  simpa using h j (by omega) (by omega)
def fldB (a b : Fld) : Bool := sB a.name b.name && a.type == b.type
def mthB (a b : Mth) : Bool := a.func == b.func && callB a b
def sameB (a b : Typ) : Bool := a.kind == b.kind && sB a.name b.name && a.elem == b.elem && same2 fldB a.fields b.fields && same2 mthB a.methods b.methods
theorem sameInts_same2 (a b : List Int) : sameIntsB a b = same2 (fun x y : Int => x == y) a b := by
  by_cases hl : a.length = b.length
  · by_cases h : a = b
    · subst h
      rw [same2_yes rfl (fun j _ _ => by simp)]; simp [sameIntsB]
    · have : ∃ j, ∃ (ha : j < a.length) (hb : j < b.length), a[j] ≠ b[j] := by
        rcases Classical.em (∃ j, ∃ (ha : j < a.length) (hb : j < b.length), a[j] ≠ b[j]) with h1 | h1
        · exact h1
        · exfalso
          exact h (List.ext_getElem hl fun j ha hb => Classical.byContradiction fun hn => h1 ⟨j, ha, hb, hn⟩)
      obtain ⟨j, ha, hb, hn⟩ := this
      rw [same2_no ha hb (by simpa using hn)]; simp [sameIntsB, h]
  · rw [same2_no_len hl]
    simp only [sameIntsB, beq_eq_false_iff_ne]
    rintro rfl; exact hl rfl
theorem same2_refl {α : Type} {p : α → α → Bool} (hp : ∀ x, p x x = true) (a : List α) : same2 p a a = true := same2_yes rfl fun _ _ _ => hp _
theorem same2_comm {α : Type} {p : α → α → Bool} (hp : ∀ x y, p x y = p y x) (a b : List α) : same2 p a b = same2 p b a := by
  unfold same2
  rw [show (a.length == b.length) = (b.length == a.length) by rw [Bool.eq_iff_iff]; simp only [beq_iff_eq]; exact eq_comm]
  congr 1
  induction a generalizing b with
  | nil => cases b <;> rfl
  | cons x r ih => cases b with
    | nil => rfl
    | cons y t => simp only [List.zip_cons_cons, List.all_cons]; rw [hp, ih]
theorem callB_refl (a : Mth) : callB a a = true := by simp [callB, sB_refl, sameIntsB]
theorem beq_comm_int (a b : Int) : (a == b) = (b == a) := by rw [Bool.eq_iff_iff]; simp only [beq_iff_eq]; exact eq_comm
theorem callB_comm (a b : Mth) : callB a b = callB b a := by
  unfold callB sameIntsB
  rw [sB_comm, beq_comm_int, show (a.params == b.params) = (b.params == a.params) by rw [Bool.eq_iff_iff]; simp only [beq_iff_eq]; exact eq_comm]
theorem sameB_refl (a : Typ) : sameB a a = true := by
  unfold sameB
  rw [same2_refl (fun x => by simp [fldB, sB_refl]), same2_refl (fun x => by simp [mthB, callB_refl]), sB_refl]; simp
theorem sameB_comm (a b : Typ) : sameB a b = sameB b a := by
  unfold sameB
  rw [same2_comm (p := fldB) (fun x y => by unfold fldB; rw [sB_comm, beq_comm_int]), same2_comm (p := mthB) (fun x y => by unfold mthB; rw [callB_comm, beq_comm_int x.func]), sB_comm, beq_comm_int a.kind, beq_comm_int a.elem]

/-- Has Name: how often [] is written. -/
def nestOf (l : List Typ) : Nat → Int → Nat × Int
  | 0, t => (0, t)
  | n + 1, t => if isKindB l t 6 then ((nestOf l n (typ l t).elem).1 + 1, (nestOf l n (typ l t).elem).2) else (0, t)
def plainOf (l : List Typ) (t : Int) : ByteArray := if isTypeB l.length t && (typ l t).kind != 6 then (typ l t).name else ⟨#[]⟩

def clashB (b own : Typ) : Bool := (b.kind == 6 && own.kind == 6 && b.elem == own.elem) || (b.kind != 6 && own.kind != 6 && sB b.name own.name)
def namedB (t : Typ) : Bool := !sB t.name ⟨#[]⟩ && t.elem == 0
def fieldOkB (n : Nat) (fs : List Fld) (i : Nat) : Bool := match fs[i]? with
  | some f => (fldIdx (fs.take i) f.name).isNone && isValueB n f.type
  | none => true
def rightFieldsB (n : Nat) (fs : List Fld) : Bool := decide (fs.length ≤ 12) && (List.range fs.length).all (fieldOkB n fs)
def rightCallB (n : Nat) (m : Mth) : Bool := decide (m.params.length ≤ 8) && m.params.all (isValueB n) && (m.result == 0 || isValueB n m.result)
def methodOkB (n : Nat) (t : Typ) (i : Nat) : Bool := match t.methods[i]? with
  | some m => (mthIdx (t.methods.take i) m.name).isNone && (fldIdx t.fields m.name).isNone && rightCallB n m && rightFuncB t.kind m.func
  | none => true
def rightMethodsB (n : Nat) (t : Typ) : Bool := decide (t.methods.length ≤ 12) && (List.range t.methods.length).all (methodOkB n t)
def rightTypeB (n : Nat) (t : Typ) : Bool :=
  if t.kind = 5 then namedB t && rightFieldsB n t.fields && rightMethodsB n t
  else if t.kind = 6 then sB t.name ⟨#[]⟩ && isValueB n t.elem && t.fields.length == 0 && t.methods.length == 0
  else if t.kind = 7 then namedB t && t.fields.length == 0 && rightMethodsB n t
  else false
def baseT : List Typ := [⟨0, ⟨#[]⟩, 0, [], []⟩, ⟨1, ⟨#[105, 110, 116]⟩, 0, [], []⟩, ⟨2, ⟨#[98, 111, 111, 108]⟩, 0, [], []⟩, ⟨3, ⟨#[115, 116, 114, 105, 110, 103]⟩, 0, [], []⟩, ⟨4, ⟨#[110, 105, 108]⟩, 0, [], []⟩]
def rightB (l : List Typ) : Bool :=
  decide (5 ≤ l.length) && decide (l.length ≤ 60) && (List.range 5).all (fun i => sameB (typ l i) (typ baseT i)) &&
    (List.range (l.length - 5)).all fun i => rightTypeB l.length (typ l (i + 5 : Nat)) && !(l.take (i + 5)).any (fun b => clashB b (typ l (i + 5 : Nat)))
end Go.Proofs.YtjlljfeledapaaaDoor
