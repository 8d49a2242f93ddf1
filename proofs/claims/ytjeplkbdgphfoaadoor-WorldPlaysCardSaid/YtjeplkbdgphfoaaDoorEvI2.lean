/-
  A run that is reckoned over blocks with names of its own: maps, interfaces: no function of a program is named here.
-/
import Derived.Test.YtjeplkbdgphfoaaDoorEvI1
namespace Go.Proofs.YtjeplkbdgphfoaaDoor
open Go.RowKit
noncomputable section

/-- Numbers of one kind. -/
def sameK : IntKind → IntKind → Bool
  | .i64, .i64 => true
  | .u8, .u8 => true
  | .u64, .u64 => true
  | .i32, .i32 => true
  | .u32, .u32 => true
  | _, _ => false
theorem sameK_eq {k k' : IntKind} (h : sameK k k' = true) : k = k' := by cases k <;> cases k' <;> first | rfl | cases h
def leq : List UInt8 → List UInt8 → Bool
  | [], [] => true
  | a :: l, b :: m => match Nat.beq a.toNat b.toNat with
    | true => leq l m
    | false => false
  | _, _ => false
theorem leq_eq : ∀ (l m : List UInt8), leq l m = (l == m)
  | [], [] => rfl
  | [], b :: m => rfl
  | a :: l, [] => rfl
  | a :: l, b :: m => by
    simp only [leq]
    cases hb : Nat.beq a.toNat b.toNat with
    | true =>
      have : a = b := UInt8.toNat_inj.1 (Nat.eq_of_beq_eq_true hb)
      subst this
      rw [leq_eq l m]
      simp
    | false =>
      have : a ≠ b := fun e => by subst e; rw [Nat.beq_refl] at hb; cases hb
      simp [this]
theorem bytes_list (b : ByteArray) : b.toList = b.data.toList := by first | rfl | exact ByteArray.toList_eq b | simp
def lenY (l : List UInt8) : Nat := List.rec (motive := fun _ => Nat) 0 (fun _ _ ih => Nat.succ ih) l
theorem lenY_eq : ∀ l : List UInt8, lenY l = l.length
  | [] => rfl
  | _ :: l => by show Nat.succ (lenY l) = _; rw [lenY_eq l]; rfl
def appY (a b : List UInt8) : List UInt8 := List.rec (motive := fun _ => List UInt8) b (fun x _ ih => List.cons x ih) a
theorem appY_eq : ∀ a b : List UInt8, appY a b = a ++ b
  | [], _ => rfl
  | x :: a, b => by show x :: appY a b = _; rw [appY_eq a b]; rfl
def leqY (a : List UInt8) : List UInt8 → Bool := List.rec (motive := fun _ => List UInt8 → Bool) (fun b => List.rec (motive := fun _ => Bool) true (fun _ _ _ => false) b) (fun x _ ih b => List.rec (motive := fun _ => Bool) false (fun y m _ => Bool.rec (motive := fun _ => Bool) false (ih m) (Nat.beq x.toNat y.toNat)) b) a
theorem leqY_eq : ∀ a b : List UInt8, leqY a b = leq a b
  | [], [] => rfl
  | [], _ :: _ => rfl
  | _ :: _, [] => rfl
  | x :: a, y :: b => by
    show Bool.rec (motive := fun _ => Bool) false (leqY a b) (Nat.beq x.toNat y.toNat) = _
    rw [leqY_eq a b]
    simp only [leq]
    cases Nat.beq x.toNat y.toNat <;> rfl

theorem bytes_beq (x y : ByteArray) : (x == y) = (x.data.toList == y.data.toList) := by
  cases x; cases y
  rename_i a b
  have h : (ByteArray.mk a == ByteArray.mk b) = (a == b) := rfl
  rw [h]
  by_cases e : a = b
  · subst e; simp
  · have h1 : (a == b) = false := by simpa using e
    have h2 : a.toList ≠ b.toList := fun h => e (Array.toList_inj.1 h)
    rw [h1]; exact (beq_eq_false_iff_ne.2 h2).symm
section
variable {P : Program} {ρ : Rho} {w : World}

/-- Is a key met? -/
def keyIs (d : TypeDesc) (k e : Value) : Option Bool := match d, k, e with
  | .int _, .int j a, .int j' b => (match sameK j j' with
    | true => some (a == b)
    | false => none)
  | .string, .string a, .string b => some (leqY a.data.toList b.data.toList)
  | _, _, _ => none
theorem keyIs_rel {d : TypeDesc} {k k' e e' : Value} {b : Bool} (hk : V ρ k k') (he : V ρ e e') (h : keyIs d k e = some b) : Instr.sameNow d k' e' = some b ∧ (b = true → Instr.sameBits 10000 e' k' = true) := by
  unfold keyIs at h
  split at h
  · split at h
    · rename_i hs
      have := sameK_eq hs
      subst this
      cases hk; cases he; cases h
      refine ⟨by simp [Instr.sameNow], fun hb => ?_⟩
      simp only [Instr.sameBits]
      simp at hb ⊢
      exact hb.symm
    · cases h
  · cases hk; cases he; cases h
    rename_i x y
    have e1 : leqY x.data.toList y.data.toList = (x == y) := by
      rw [leqY_eq, leq_eq]
      show (x.data.toList == y.data.toList) = _
      exact (bytes_beq x y).symm
    rw [e1]
    refine ⟨by simp [Instr.sameNow], fun hb => ?_⟩
    have hxy : x = y := by
      rw [bytes_beq] at hb
      exact ByteArray.ext (Array.toList_inj.1 (eq_of_beq hb))
    subst hxy
    generalize 10000 = m
    have hb2 : (x == x) = true := by rw [bytes_beq]; simp
    cases m <;> simpa [Instr.sameBits] using hb2
  · cases h

def findL (d : TypeDesc) (k : Value) : List Value → Option (Option Value)
  | e :: v :: _ :: l => (match keyIs d k e with
    | some true => some (some v)
    | some false => findL d k l
    | none => none)
  | [] => some none
  | _ => none
theorem flatM_cases {l : List Value} {es : List MapEntry} (h : VL ρ l (flatM es)) : (l = [] ∧ es = []) ∨ ∃ k v b r e es', l = k :: v :: b :: r ∧ es = e :: es' ∧ V ρ k e.key ∧ V ρ v e.val ∧ V ρ b (.int .u64 e.born) ∧ VL ρ r (flatM es') := by
  cases es with
  | nil =>
    left
    have := h.1
    simp only [flatM, List.length_nil] at this
    exact ⟨List.eq_nil_of_length_eq_zero this, rfl⟩
  | cons e es' =>
    right
    have hl := h.1
    simp only [flatM, List.length_cons] at hl
    match l, h, hl with
    | k :: v :: b :: r, h, _ => exact ⟨k, v, b, r, e, es', rfl, rfl, h.head, h.tail.head, h.tail.tail.head, h.tail.tail.tail⟩
    | [], _, hl => simp at hl
    | [_], _, hl => simp at hl
    | [_, _], _, hl => simp at hl
theorem findL_rel {d : TypeDesc} {k k' : Value} (hk : V ρ k k') : ∀ {es : List MapEntry} {l : List Value} {r : Option Value} (i : Nat), VL ρ l (flatM es) → findL d k l = some r →
    (r = none ∧ Instr.findNow d k' es i = some none) ∨ ∃ v j v', r = some v ∧ Instr.findNow d k' es i = some (some (j, v')) ∧ V ρ v v'
  | [], l, r, i, hl, h => by
    rcases flatM_cases hl with ⟨rfl, _⟩ | ⟨_, _, _, _, _, _, _, h2, _⟩
    · simp only [findL] at h; cases h; exact .inl ⟨rfl, rfl⟩
    · cases h2
  | e :: es, l, r, i, hl, h => by
    rcases flatM_cases hl with ⟨_, h2⟩ | ⟨x, v, b, t, e', es', rfl, h2, h3, h4, h5, h6⟩
    · cases h2
    cases h2
    simp only [findL] at h
    split at h
    · rename_i hb
      cases h
      have := (keyIs_rel hk h3 hb).1
      exact .inr ⟨v, i, e.val, rfl, by simp only [Instr.findNow, this], h4⟩
    · rename_i hb
      have := (keyIs_rel hk h3 hb).1
      rcases findL_rel hk (i + 1) h6 h with ⟨g1, g2⟩ | ⟨v2, j, v', g1, g2, g3⟩
      · exact .inl ⟨g1, by simp only [Instr.findNow, this, g2]⟩
      · exact .inr ⟨v2, j, v', g1, by simp only [Instr.findNow, this, g2], g3⟩
    · cases h

/-- An entry is laid into a map. -/
def entL (d : TypeDesc) (k v : Value) (cl : Nat) : List Value → Option (List Value × Nat)
  | e :: u :: b :: l => (match keyIs d k e with
    | some true => some (k :: v :: b :: l, cl)
    | some false => (match entL d k v cl l with
      | some (m, c) => some (e :: u :: b :: m, c)
      | none => none)
    | none => none)
  | [] => some ([k, v, .int .u64 cl], cl + 1)
  | _ => none
theorem entL_rel {d : TypeDesc} {k k' v v' : Value} {cl : Nat} (hk : V ρ k k') (hv : V ρ v v') : ∀ {es : List MapEntry} {l m : List Value} {c : Nat} (i : Nat), VL ρ l (flatM es) → entL d k v cl l = some (m, c) →
    (Instr.findNow d k' es i = some none ∧ c = cl + 1 ∧ VL ρ m (flatM (es ++ [{ key := k', val := v', born := cl }]))) ∨
    ∃ j u e, Instr.findNow d k' es i = some (some (i + j, u)) ∧ c = cl ∧ es[j]? = some e ∧ Instr.sameBits 10000 e.key k' = true ∧ VL ρ m (flatM (es.modify j fun e => { e with key := k', val := v' }))
  | [], l, m, c, i, hl, h => by
    rcases flatM_cases hl with ⟨rfl, _⟩ | ⟨_, _, _, _, _, _, _, h2, _⟩
    · simp only [entL] at h; cases h
      exact .inl ⟨rfl, rfl, VL.cons hk (VL.cons hv (VL.cons (.int _ _) VL.nil))⟩
    · cases h2
  | e :: es, l, m, c, i, hl, h => by
    rcases flatM_cases hl with ⟨_, h2⟩ | ⟨x, y, b, t, e', es', rfl, h2, h3, h4, h5, h6⟩
    · cases h2
    cases h2
    simp only [entL] at h
    split at h
    · rename_i hb
      cases h
      have hq := keyIs_rel hk h3 hb
      exact .inr ⟨0, e.val, e, by simp only [Instr.findNow, hq.1, Nat.add_zero], rfl, rfl, hq.2 rfl, VL.cons hk (VL.cons hv (VL.cons h5 h6))⟩
    · rename_i hb
      have hq := keyIs_rel hk h3 hb
      split at h
      · rename_i m' c' hp
        cases h
        rcases entL_rel hk hv (i + 1) h6 hp with ⟨g1, g2, g3⟩ | ⟨j, u, e2, g1, g2, g3, g4, g5⟩
        · exact .inl ⟨by simp only [Instr.findNow, hq.1, g1], g2, VL.cons h3 (VL.cons h4 (VL.cons h5 g3))⟩
        · refine .inr ⟨j + 1, u, e2, by simp only [Instr.findNow, hq.1, g1]; congr 3; omega, g2, by simpa using g3, g4, ?_⟩
          rw [List.modify_succ_cons]
          exact VL.cons h3 (VL.cons h4 (VL.cons h5 g5))
      · cases h
    · cases h

/-- Keys of which it is seen at once whether they are the same. -/
def keyKind (P : Program) (t : TypeId) : Option TypeDesc := match P.underlying t with
  | some (.int k) => some (.int k)
  | some .string => some .string
  | _ => none
theorem keyKind_spec {t : TypeId} {d : TypeDesc} (h : keyKind P t = some d) : P.underlying t = some d ∧ ∀ (emp : Bool) (v : Value) (w : World), (Instr.checkKey emp 10000 t v).run P w = .ok () w := by
  unfold keyKind at h
  split at h <;> cases h
  · rename_i k hu
    refine ⟨hu, fun emp v w => ?_⟩
    generalize hn : 10000 = m
    obtain ⟨m, rfl⟩ : ∃ j, m = j + 1 := ⟨9999, hn.symm⟩
    unfold Instr.checkKey
    simp only [Sem.run_bind, run_underlying hu, Result.andThen_ok, Sem.run_pure]
  · rename_i hu
    refine ⟨hu, fun emp v w => ?_⟩
    generalize hn : 10000 = m
    obtain ⟨m, rfl⟩ : ∃ j, m = j + 1 := ⟨9999, hn.symm⟩
    unfold Instr.checkKey
    simp only [Sem.run_bind, run_underlying hu, Result.andThen_ok, Sem.run_pure]
theorem findKey_run {t : TypeId} {d : TypeDesc} {k : Value} {es : List MapEntry} {r : Option (Nat × Value)} (hu : P.underlying t = some d) (h : Instr.findNow d k es 0 = some r) (w : World) : (Instr.findKey t k es).run P w = .ok r w := by
  simp only [Instr.findKey, Sem.run_bind, run_underlying hu, Result.andThen_ok, h, Sem.run_pure]
theorem zero_run {t : TypeId} {z : Value} (h : zeroP P t = some z) (w : World) : (zeroValue t).run P w = .ok z w ∧ ground z = true := by
  obtain ⟨i, h1, h2, h3⟩ := zeroP_spec h
  refine ⟨?_, h3⟩
  simp only [zeroValue, typeInfo, Sem.run_bind]
  simp [h1, h2, program, Sem.run]

def okV (ok : Bool) (v : Value) (b : Bool) : Value := match ok with
  | true => .tuple ⟨[v, .bool b]⟩
  | false => v
theorem okV_rel {ok b : Bool} {v v' : Value} (h : V ρ v v') : V ρ (okV ok v b) (if ok then .tuple #[v', .bool b] else v') := by
  cases ok with
  | false => exact h
  | true =>
    have := VL.cons h (VL.cons (.bool b) VL.nil)
    exact .tuple _ _ this.1 this.2
theorem run_getObj {k : Nat} {es : Array MapEntry} {cl : Nat} (h : w.heap[k]? = some (.map es cl)) : (getObj k).run P w = .ok (.map es cl) w := by
  simp [getObj, Sem.run, h]
theorem run_setObj {k : Nat} {es es' : Array MapEntry} {cl cl' : Nat} (h : w.heap[k]? = some (.map es cl)) : (setObj k (.map es' cl')).run P w = .ok () { w with heap := w.heap.setIfInBounds k (.map es' cl') } := by
  simp [setObj, Sem.run, h]

def lookP (P : Program) (t : TypeId) (x k : Value) (ok : Bool) : Prog := match P.underlying t with
  | some (.map kt et) => (match keyKind P kt with
    | some d => (match x with
      | .map (some b) => .mrd b fun _ l => (match findL d k l with
        | some (some v) => .val (okV ok v true)
        | some none => (match zeroP P et with
          | some z => .val (okV ok z false)
          | none => .fail)
        | none => .fail)
      | .map none => (match zeroP P et with
        | some z => .val (okV ok z false)
        | none => .fail)
      | _ => .fail)
    | none => .fail)
  | _ => .fail
theorem look_sim {t : TypeId} {x x' k k' : Value} {ok : Bool} (hx : V ρ x x') (hk : V ρ k k') : Sim P (lookP P t x k ok) (do pure (.value (← Instr.lookup t x' k' ok))) ρ w := by
  unfold lookP
  split
  case h_2 => exact Sim.fail
  rename_i kt et hu
  split
  case h_2 => exact Sim.fail
  rename_i d hd
  obtain ⟨hd1, hd2⟩ := keyKind_spec hd
  split
  · rename_i b
    cases hx
    rename_i c κ hr
    refine Sim.v fun H tr r hpr hval hw => ?_
    cases hpr with
    | mrd h =>
      rename_i cl l tr
      obtain ⟨c', κ', es, e1, e2, e3⟩ := hw.mrd hval.1
      rw [hr] at e1; cases e1
      have hw2 : Went P ρ H w [.rd b tyOff (mapV cl l)] ρ w := (Went.refl hw).congr rfl (fun b hb => by cases hb)
      dsimp only at h
      split at h
      · rename_i v hf
        cases h
        rcases findL_rel hk 0 e3 hf with ⟨g1, _⟩ | ⟨v2, j, v', g1, g2, g3⟩
        · cases g1
        · cases g1
          refine ⟨_, _, w, ρ, rfl, ?_, hw2, okV_rel g3⟩
          simp only [Instr.lookup, Sem.run_bind, run_underlying hu, Result.andThen_ok, run_getObj e2, Sem.run_pure, hd2, findKey_run hd1 g2]
      · rename_i hf
        rcases findL_rel hk 0 e3 hf with ⟨_, g2⟩ | ⟨v2, j, v', g1, _⟩
        · split at h
          · rename_i z hz
            cases h
            obtain ⟨hz1, hz2⟩ := zero_run hz w
            refine ⟨_, _, w, ρ, rfl, ?_, hw2, okV_rel (V.ground hz2)⟩
            simp only [Instr.lookup, Sem.run_bind, run_underlying hu, Result.andThen_ok, run_getObj e2, Sem.run_pure, hd2, findKey_run hd1 g2, hz1]
          · cases h
        · cases g1
      · cases h
  · cases hx
    split
    · rename_i z hz
      obtain ⟨hz1, hz2⟩ := zero_run hz w
      refine Sim.vv rfl ?_ (okV_rel (V.ground hz2))
      simp only [Instr.lookup, Sem.run_bind, run_underlying hu, Result.andThen_ok, Sem.run_pure, hd2, findKey_run (es := []) (k := k') hd1 rfl, hz1]
    · exact Sim.fail
  · exact Sim.fail

def updP (P : Program) (t : TypeId) (x k v : Value) : Prog := match P.underlying t with
  | some (.map kt _) => (match keyKind P kt with
    | some d => (match x with
      | .map (some b) => .mrd b fun cl l => (match entL d k v cl l with
        | some (m, c) => .mwr b c m .skip
        | none => .fail)
      | _ => .fail)
    | none => .fail)
  | _ => .fail
theorem upd_sim {t : TypeId} {x x' k k' v v' : Value} (hx : V ρ x x') (hk : V ρ k k') (hv : V ρ v v') : Sim P (updP P t x k v) (do Instr.mapUpdate t x' k' v'; pure .skip) ρ w := by
  unfold updP
  split
  case h_2 => exact Sim.fail
  rename_i kt et hu
  split
  case h_2 => exact Sim.fail
  rename_i d hd
  obtain ⟨hd1, hd2⟩ := keyKind_spec hd
  split
  case h_2 => exact Sim.fail
  rename_i b
  cases hx
  rename_i c κ hr
  intro H tr r hpr hval hw
  cases hpr with
  | mrd h =>
    rename_i cl l tr
    obtain ⟨hval1, hval2⟩ := hval
    obtain ⟨c', κ', es, e1, e2, e3⟩ := hw.mrd hval1
    rw [hr] at e1; cases e1
    dsimp only at h
    split at h
    case h_2 => cases h
    rename_i m c2 hp
    cases h with
    | mwr h =>
      cases h
      have hval3 := hval2.1
      rcases entL_rel hk hv 0 e3 hp with ⟨g1, g2, g3⟩ | ⟨j, u, e, g1, g2, g3, g4, g5⟩
      · subst g2
        have hw2 := hw.mwr (es := es.push { key := k', val := v', born := cl }) hval3 hr e2 (by simpa using g3)
        refine ⟨.skip, _, ρ, ?_, hw2.congr rfl (fun b hb => hb), trivial⟩
        simp only [Instr.mapUpdate, Sem.run_bind, run_underlying hu, Result.andThen_ok, run_getObj e2, Sem.run_pure, hd2, findKey_run hd1 g1, run_setObj e2]
      · subst g2
        rw [Nat.zero_add] at g1
        have hmod : (es.modify j fun e => { e with key := k', val := v' }).toList = es.toList.modify j fun e => { e with key := k', val := v' } := by simp
        have hw2 := hw.mwr (es := es.modify j fun e => { e with key := k', val := v' }) hval3 hr e2 (by rw [hmod]; exact g5)
        refine ⟨.skip, _, ρ, ?_, hw2.congr rfl (fun b hb => hb), trivial⟩
        have g3' : es[j]? = some e := by rw [← Array.getElem?_toList]; exact g3
        simp only [Instr.mapUpdate, Sem.run_bind, run_underlying hu, Result.andThen_ok, run_getObj e2, Sem.run_pure, hd2, findKey_run hd1 g1, g3', Option.map_some, Option.getD_some, Instr.keyThatStays, g4, if_true, run_setObj e2]

def mkMP (t : TypeId) (r : Option Value) : Prog := match r with
  | none => .mnw t fun b => .val (.map (some b))
  | _ => .fail
theorem mkM_sim {t : TypeId} {r r' : Option Value} (h : r.isSome = r'.isSome) : Sim P (mkMP t r) (do pure (.value (← Instr.makeMap t r'))) ρ w := by
  unfold mkMP
  split
  case h_2 => exact Sim.fail
  obtain rfl : r' = none := by cases r' with | none => rfl | some => cases h
  refine Sim.v fun H tr r hpr hval hw => ?_
  cases hpr with
  | mnw h =>
    rename_i b tr
    cases h
    have hw2 := hw.mnw rfl hval.1
    refine ⟨_, _, _, _, rfl, ?_, hw2, .map _ _ _ Rho.add_eq⟩
    simp only [Instr.makeMap, Sem.run_bind, Sem.run_pure, newObj]
    rfl

/-- Values behind interfaces. -/
def mkIP (P : Program) (t : TypeId) (v : Value) : Prog := match P.underlying t with
  | some (.interface _) => .fail
  | some _ => .val (.iface t v)
  | none => .fail
theorem mkI_sim {t : TypeId} {v v' : Value} (hv : V ρ v v') : Sim P (mkIP P t v) (do pure (.value (← Instr.makeInterface t v'))) ρ w := by
  unfold mkIP
  split
  · exact Sim.fail
  · rename_i d hne hu
    refine Sim.vv rfl (v' := .iface t v') ?_ (.iface t _ _ hv)
    simp only [Instr.makeInterface, Sem.run_bind, run_underlying hu, Result.andThen_ok]
    first
      | (split
         · rename_i m hm; exact absurd hm (hne _)
         · rfl)
      | (cases d <;> first | rfl | exact absurd rfl (hne _))
  · exact Sim.fail

def assertP (P : Program) (x : Value) (t : TypeId) (ok : Bool) : Prog := match P.underlying t with
  | some (.interface _) => .fail
  | some _ => (match x with
    | .iface u v => (match Nat.beq u t with
      | true => .val (okV ok v true)
      | false => (match ok, zeroP P t with
        | true, some z => .val (okV true z false)
        | _, _ => .fail))
    | .nilIface => (match ok, zeroP P t with
      | true, some z => .val (okV true z false)
      | _, _ => .fail)
    | _ => .fail)
  | none => .fail
theorem assert_sim {x x' : Value} {xt t : TypeId} {ok : Bool} (hx : V ρ x x') : Sim P (assertP P x t ok) (do pure (.value (← Instr.typeAssert x' xt t ok))) ρ w := by
  unfold assertP
  split
  · exact Sim.fail
  · rename_i d hne hu
    have hni : ∀ m, d ≠ .interface m := fun m e => hne m e
    split
    · rename_i u v
      cases hx
      rename_i v' hv
      split
      · rename_i hb
        obtain rfl := Nat.eq_of_beq_eq_true hb
        refine Sim.vv rfl ?_ (okV_rel hv)
        simp only [Instr.typeAssert, Sem.run_bind, run_underlying hu, Result.andThen_ok]
        cases d <;> first | exact absurd rfl (hni _) | simp
      · rename_i hb
        have hut : ¬ u = t := fun e => by rw [e, Nat.beq_refl] at hb; cases hb
        split
        · rename_i z hz
          obtain ⟨hz1, hz2⟩ := zero_run hz w
          refine Sim.vv rfl ?_ (okV_rel (ok := true) (V.ground hz2))
          simp only [Instr.typeAssert, Sem.run_bind, run_underlying hu, Result.andThen_ok]
          cases d <;> first | exact absurd rfl (hni _) | simp [hut, hz1]
        · exact Sim.fail
    · cases hx
      split
      · rename_i z hz
        obtain ⟨hz1, hz2⟩ := zero_run hz w
        refine Sim.vv rfl ?_ (okV_rel (ok := true) (V.ground hz2))
        simp only [Instr.typeAssert, Sem.run_bind, run_underlying hu, Result.andThen_ok]
        cases d <;> first | exact absurd rfl (hni _) | simp [hz1]
      · exact Sim.fail
    · exact Sim.fail
  · exact Sim.fail

/-- A method of the value behind an interface, that needs no way to it. -/
def methP (P : Program) (t : TypeId) (name : String) : Option (FuncId × Option TypeId) := match P.info? t with
  | some i => (match i.methods.toList.find? (·.name == name) with
    | some m => (match m.path.toList, m.func, P.underlying t with
      | [], some (f, false), some (.pointer el) => some (f, some el)
      | [], some (f, false), some _ => some (f, none)
      | [], some (f, true), some (.pointer _) => some (f, none)
      | _, _, _ => none)
    | none => none)
  | none => none
theorem meth_run {t : TypeId} {name : String} {f : FuncId} (h : methP P t name = some (f, none)) (n : Nat) (v : Value) (w : World) : (method (n + 1) t v name).run P w = .ok (f, v) w := by
  unfold methP at h
  split at h
  case h_2 => cases h
  rename_i i hi
  split at h
  case h_2 => cases h
  rename_i m hm
  have hm' : i.methods.find? (·.name == name) = some m := by rw [← hm]; simp
  have hti : (typeInfo t).run P w = .ok i w := by simp [typeInfo, program, Sem.run, hi]
  split at h
  · cases h
  · rename_i f' d hne hp hf hu
    cases h
    simp only [method, Sem.run_bind, hti, Result.andThen_ok, hm', hp, follow, Sem.run_pure, hf, receiverAt, run_underlying hu]
    cases d <;> first | exact absurd rfl (hne _) | simp [Place.get]
  · rename_i f' el hp hf hu
    cases h
    simp only [method, Sem.run_bind, hti, Result.andThen_ok, hm', hp, follow, Sem.run_pure, hf, receiverAt, run_underlying hu]
    simp [Place.get]
  · cases h
/-- A method of the value that the pointer behind an interface points to. -/
theorem meth_run2 {t el : TypeId} {name : String} {f : FuncId} (h : methP P t name = some (f, some el)) (n : Nat) {a : Addr} {u : Value} {w : World} (hl : (loadVar el a).run P w = .ok u w) : (method (n + 1) t (.pointer (some a)) name).run P w = .ok (f, u) w := by
  unfold methP at h
  split at h
  case h_2 => cases h
  rename_i i hi
  split at h
  case h_2 => cases h
  rename_i m hm
  have hm' : i.methods.find? (·.name == name) = some m := by rw [← hm]; simp
  have hti : (typeInfo t).run P w = .ok i w := by simp [typeInfo, program, Sem.run, hi]
  split at h
  · rename_i f' el' hp hf hu
    cases h
    simp only [method, Sem.run_bind, hti, Result.andThen_ok, hm', hp, follow, Sem.run_pure, hf, receiverAt, run_underlying hu]
    have hchk : ∀ (n : String), Builtin.ssaWrapNilChk_ #[t] t #[.pointer (some a), strVal "", strVal n] = pure (.pointer (some a)) := fun _ => rfl
    have hp2 : m.path = #[] := Array.toList_inj.1 hp
    simp [Place.get, hp2, hchk, asAddr, hl]
  · cases h
  · cases h
  · cases h
end
end
end Go.Proofs.YtjeplkbdgphfoaaDoor
