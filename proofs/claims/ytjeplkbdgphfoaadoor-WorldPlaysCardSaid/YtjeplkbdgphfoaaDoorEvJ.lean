/-
  A run that is reckoned over blocks with names of its own: the reckoning itself: no function of a program is named here.
-/
import Derived.Test.YtjeplkbdgphfoaaDoorEvI0
namespace Go.Proofs.YtjeplkbdgphfoaaDoor
noncomputable section

/-- A digit. -/
inductive D8
  | d0 | d1 | d2 | d3 | d4 | d5 | d6 | d7
def D8.of (n : Nat) : D8 := Nat.rec (motive := fun _ => D8) .d0 (fun n _ => Nat.rec (motive := fun _ => D8) .d1 (fun n _ => Nat.rec (motive := fun _ => D8) .d2 (fun n _ => Nat.rec (motive := fun _ => D8) .d3 (fun n _ => Nat.rec (motive := fun _ => D8) .d4 (fun n _ => Nat.rec (motive := fun _ => D8) .d5 (fun n _ => Nat.rec (motive := fun _ => D8) .d6 (fun _ _ => .d7) n) n) n) n) n) n) n
def D8.n : D8 → Nat
  | .d0 => 0 | .d1 => 1 | .d2 => 2 | .d3 => 3 | .d4 => 4 | .d5 => 5 | .d6 => 6 | .d7 => 7
theorem D8.of_n : ∀ n : Nat, n < 8 → (D8.of n).n = n
  | 0, _ => rfl | 1, _ => rfl | 2, _ => rfl | 3, _ => rfl | 4, _ => rfl | 5, _ => rfl | 6, _ => rfl | 7, _ => rfl
  | n + 8, h => absurd h (by omega)
/-- A number's way: digits from the root on. -/
def way (k : Nat) : List D8 := Nat.rec (motive := fun _ => Nat → List D8) (fun _ => [])
  (fun _ ih k => Bool.rec (D8.of (Nat.mod (Nat.sub k 1) 8) :: ih (Nat.div (Nat.sub k 1) 8)) [] (Nat.beq k 0)) k k
def wayF (f k : Nat) : List D8 := Nat.rec (motive := fun _ => Nat → List D8) (fun _ => [])
  (fun _ ih k => Bool.rec (D8.of (Nat.mod (Nat.sub k 1) 8) :: ih (Nat.div (Nat.sub k 1) 8)) [] (Nat.beq k 0)) f k
theorem beq_false {a b : Nat} (h : a ≠ b) : Nat.beq a b = false := by
  cases hb : Nat.beq a b with
  | false => rfl
  | true => exact absurd (Nat.eq_of_beq_eq_true hb) h
theorem wayF_0 (f : Nat) : wayF f 0 = [] := by cases f <;> rfl
theorem wayF_s (f k : Nat) : wayF (f + 1) (k + 1) = D8.of (k % 8) :: wayF f (k / 8) := rfl
theorem wayF_inj : ∀ (f g a b : Nat), a ≤ f → b ≤ g → wayF f a = wayF g b → a = b
  | f, g, 0, 0, _, _, _ => rfl
  | f, 0, a + 1, b + 1, _, h, _ => absurd h (by omega)
  | 0, g, a + 1, b, h, _, _ => absurd h (by omega)
  | f, 0, 0, b + 1, _, h, _ => absurd h (by omega)
  | f, g + 1, 0, b + 1, _, _, e => by rw [wayF_0, wayF_s] at e; cases e
  | f + 1, g, a + 1, 0, _, _, e => by rw [wayF_0, wayF_s] at e; cases e
  | f + 1, g + 1, a + 1, b + 1, ha, hb, e => by
    rw [wayF_s, wayF_s] at e
    have e1 := (List.cons.inj e).1
    have e2 := wayF_inj f g (a / 8) (b / 8) (by omega) (by omega) (List.cons.inj e).2
    have e3 := congrArg D8.n e1
    rw [D8.of_n _ (Nat.mod_lt _ (by omega)), D8.of_n _ (Nat.mod_lt _ (by omega))] at e3
    omega
theorem way_inj {a b : Nat} (h : way a = way b) : a = b := wayF_inj a b a b (Nat.le_refl _) (Nat.le_refl _) h

/-- A map from numbers, of any size. -/
inductive To (α : Type)
  | e
  | n (v : Option α) (c0 c1 c2 c3 c4 c5 c6 c7 : To α)
section
variable {α : Type}
def To.child (d : D8) (t : To α) : To α := To.rec (motive := fun _ => To α) .e (fun _ c0 c1 c2 c3 c4 c5 c6 c7 _ _ _ _ _ _ _ _ => D8.rec (motive := fun _ => To α) c0 c1 c2 c3 c4 c5 c6 c7 d) t
def To.top (t : To α) : Option α := To.rec (motive := fun _ => Option α) none (fun v _ _ _ _ _ _ _ _ _ _ _ _ _ _ _ _ => v) t
def To.upd (d : D8) (t x : To α) : To α := To.rec (motive := fun _ => To α) (D8.rec (motive := fun _ => To α) (.n none x .e .e .e .e .e .e .e) (.n none .e x .e .e .e .e .e .e) (.n none .e .e x .e .e .e .e .e) (.n none .e .e .e x .e .e .e .e) (.n none .e .e .e .e x .e .e .e) (.n none .e .e .e .e .e x .e .e) (.n none .e .e .e .e .e .e x .e) (.n none .e .e .e .e .e .e .e x) d) (fun v c0 c1 c2 c3 c4 c5 c6 c7 _ _ _ _ _ _ _ _ => D8.rec (motive := fun _ => To α) (.n v x c1 c2 c3 c4 c5 c6 c7) (.n v c0 x c2 c3 c4 c5 c6 c7) (.n v c0 c1 x c3 c4 c5 c6 c7) (.n v c0 c1 c2 x c4 c5 c6 c7) (.n v c0 c1 c2 c3 x c5 c6 c7) (.n v c0 c1 c2 c3 c4 x c6 c7) (.n v c0 c1 c2 c3 c4 c5 x c7) (.n v c0 c1 c2 c3 c4 c5 c6 x) d) t
def To.put0 (t : To α) (x : α) : To α := To.rec (motive := fun _ => To α) (.n (some x) .e .e .e .e .e .e .e .e) (fun _ c0 c1 c2 c3 c4 c5 c6 c7 _ _ _ _ _ _ _ _ => .n (some x) c0 c1 c2 c3 c4 c5 c6 c7) t
def To.getW (p : List D8) : To α → Option α := List.rec (motive := fun _ => To α → Option α) To.top (fun d _ ih t => ih (To.child d t)) p
def To.setW (x : α) (p : List D8) : To α → To α := List.rec (motive := fun _ => To α → To α) (fun t => To.put0 t x) (fun d _ ih t => To.upd d t (ih (To.child d t))) p
theorem To.child_upd (d : D8) (t x : To α) : To.child d (To.upd d t x) = x := by cases d <;> cases t <;> rfl
theorem To.child_upd_ne {d d' : D8} (h : d ≠ d') (t x : To α) : To.child d' (To.upd d t x) = To.child d' t := by cases d <;> cases d' <;> first | exact absurd rfl h | (cases t <;> rfl)
theorem To.top_upd (d : D8) (t x : To α) : To.top (To.upd d t x) = To.top t := by cases d <;> cases t <;> rfl
theorem To.child_put0 (d : D8) (t : To α) (x : α) : To.child d (To.put0 t x) = To.child d t := by cases d <;> cases t <;> rfl
theorem To.top_put0 (t : To α) (x : α) : To.top (To.put0 t x) = some x := by cases t <;> rfl
theorem To.getW_setW_eq (x : α) : ∀ (p : List D8) (t : To α), To.getW p (To.setW x p t) = some x
  | [], t => To.top_put0 t x
  | d :: p, t => by
    show To.getW p (To.child d (To.upd d t (To.setW x p (To.child d t)))) = _
    rw [To.child_upd]; exact To.getW_setW_eq x p _
theorem To.getW_setW_ne (x : α) : ∀ (p q : List D8) (t : To α), p ≠ q → To.getW q (To.setW x p t) = To.getW q t
  | [], [], t, h => absurd rfl h
  | [], d :: q, t, h => by
    show To.getW q (To.child d (To.put0 t x)) = _
    rw [To.child_put0]; rfl
  | d :: p, [], t, h => To.top_upd d t _
  | d :: p, d' :: q, t, h => by
    show To.getW q (To.child d' (To.upd d t (To.setW x p (To.child d t)))) = To.getW q (To.child d' t)
    by_cases hd : d = d'
    · subst hd
      rw [To.child_upd]
      exact To.getW_setW_ne x p q _ fun e => h (by rw [e])
    · rw [To.child_upd_ne hd]
theorem To.getW_e : ∀ p : List D8, To.getW p (.e : To α) = none
  | [] => rfl
  | d :: p => by
    show To.getW p (To.child d .e) = none
    exact To.getW_e p
end

/-- A map from numbers: the first sixteen, those below 4096, others. -/
structure Tr (α : Type) where
  z : N16 (Option α)
  a : N16 (N16 (N16 (Option α)))
  hi : To α
structure SlT (α : Type) where
  g : Tr α → Option α
  s : Tr α → α → Tr α
section
variable {α : Type}
def sl0 (α : Type) (d : D16) : SlT α := P16.rec (motive := fun _ => SlT α) (fun g s _ => ⟨fun t => g t.z, fun t x => Tr.rec (motive := fun _ => Tr α) (fun z a hi => ⟨s z (some x), a, hi⟩) t⟩) (p16 (Option α) d)
def sl1 (α : Type) (d e f : D16) : SlT α := P16.rec (motive := fun _ => SlT α) (fun g1 _ m1 => P16.rec (motive := fun _ => SlT α) (fun g2 _ m2 => P16.rec (motive := fun _ => SlT α) (fun g3 s3 _ =>
  ⟨fun t => g3 (g2 (g1 t.a)), fun t x => Tr.rec (motive := fun _ => Tr α) (fun z a hi => ⟨z, m1 a (fun u => m2 u (fun v => s3 v (some x))), hi⟩) t⟩) (p16 (Option α) f)) (p16 (N16 (Option α)) e)) (p16 (N16 (N16 (Option α))) d)
def sl2 (α : Type) (i : Nat) : SlT α := ⟨fun t => To.getW (way i) t.hi, fun t x => Tr.rec (motive := fun _ => Tr α) (fun z a hi => ⟨z, a, To.setW x (way i) hi⟩) t⟩
def slT (α : Type) (i : Nat) : SlT α := Bool.rec (motive := fun _ => SlT α) (Bool.rec (motive := fun _ => SlT α) (sl2 α i) (sl1 α (D16.of (Nat.div i 256)) (D16.of (Nat.mod (Nat.div i 16) 16)) (D16.of (Nat.mod i 16))) (Nat.blt i 4096)) (sl0 α (D16.of i)) (Nat.blt i 16)
def e16 (β : Type) (x : β) : N16 β := ⟨x, x, x, x, x, x, x, x, x, x, x, x, x, x, x, x⟩
def Tr.e : Tr α := ⟨e16 _ none, e16 _ (e16 _ (e16 _ none)), .e⟩
def Tr.get (_ : Nat) (t : Tr α) (k : Nat) : Option α := (slT α k).g t
def Tr.set (_ : Nat) (t : Tr α) (k : Nat) (x : α) : Tr α := (slT α k).s t x
theorem sl0_g (d : D16) (t : Tr α) : (sl0 α d).g t = (p16 (Option α) d).g t.z := rfl
theorem sl0_s (d : D16) (t : Tr α) (x : α) : (sl0 α d).s t x = ⟨(p16 (Option α) d).s t.z (some x), t.a, t.hi⟩ := rfl
theorem sl1_g (d e f : D16) (t : Tr α) : (sl1 α d e f).g t = (p16 (Option α) f).g ((p16 (N16 (Option α)) e).g ((p16 (N16 (N16 (Option α))) d).g t.a)) := rfl
theorem sl1_s (d e f : D16) (t : Tr α) (x : α) : (sl1 α d e f).s t x = ⟨t.z, (p16 _ d).s t.a ((p16 _ e).s ((p16 _ d).g t.a) ((p16 _ f).s ((p16 _ e).g ((p16 _ d).g t.a)) (some x))), t.hi⟩ := by
  rw [← p16_m e ((p16 _ d).g t.a) (fun v => (p16 _ f).s v (some x)), ← p16_m d t.a (fun u => (p16 _ e).m u (fun v => (p16 _ f).s v (some x)))]; rfl
theorem e16_g {β : Type} (x : β) (d : D16) : (p16 β d).g (e16 β x) = x := by cases d <;> rfl
theorem Tr.get_e (f k : Nat) : Tr.get (α := α) f .e k = none := by
  unfold Tr.get slT
  cases Nat.blt k 16 with
  | true => show (sl0 α _).g _ = _; rw [sl0_g]; exact e16_g _ _
  | false =>
    cases Nat.blt k 4096 with
    | true => show (sl1 α _ _ _).g _ = _; rw [sl1_g]; simp only [Tr.e, e16_g]
    | false => exact To.getW_e _
theorem Tr.get_set_same {g : Nat} (f : Nat) (t : Tr α) (k : Nat) (x : α) : Tr.get g (Tr.set f t k x) k = some x := by
  unfold Tr.get Tr.set slT
  cases Nat.blt k 16 with
  | true => show (sl0 α _).g ((sl0 α _).s _ _) = _; rw [sl0_s, sl0_g]; exact p16_same _ _ _
  | false =>
    cases Nat.blt k 4096 with
    | true => show (sl1 α _ _ _).g ((sl1 α _ _ _).s _ _) = _; rw [sl1_s, sl1_g]; simp only [p16_same]
    | false => exact To.getW_setW_eq x (way k) t.hi
theorem Tr.get_set_eq {g : Nat} (f : Nat) (t : Tr α) (k : Nat) (x : α) (_ : k + 1 < 2 ^ f) : Tr.get g (Tr.set f t k x) k = some x := Tr.get_set_same f t k x
theorem Tr.get_set_ne {g : Nat} (f : Nat) (t : Tr α) (k j : Nat) (x : α) (h : k ≠ j) : Tr.get g (Tr.set f t k x) j = Tr.get g t j := by
  have lt_of : ∀ {a b : Nat}, Nat.blt a b = true → a < b := fun h => by simpa [Nat.blt_eq] using h
  unfold Tr.get Tr.set slT
  cases hk : Nat.blt k 16 with
  | true =>
    cases hj : Nat.blt j 16 with
    | true =>
      show (sl0 α _).g ((sl0 α _).s _ _) = (sl0 α _).g _
      rw [sl0_s, sl0_g, sl0_g]
      exact p16_ne (fun e => h (D16.of_inj (lt_of hk) (lt_of hj) e)) _ _
    | false => cases Nat.blt j 4096 <;> rfl
  | false =>
    cases hk2 : Nat.blt k 4096 with
    | true =>
      cases hj : Nat.blt j 16 with
      | true =>
        show (sl0 α _).g ((sl1 α _ _ _).s _ _) = (sl0 α _).g _
        rw [sl1_s]; rfl
      | false =>
        cases hj2 : Nat.blt j 4096 with
        | false =>
          show (sl2 α _).g ((sl1 α _ _ _).s _ _) = (sl2 α _).g _
          rw [sl1_s]; rfl
        | true =>
          show (sl1 α _ _ _).g ((sl1 α _ _ _).s _ _) = (sl1 α _ _ _).g _
          rw [sl1_s, sl1_g, sl1_g]
          have h1 := lt_of hk2
          have h2 := lt_of hj2
          simp only
          by_cases e1 : D16.of (Nat.div k 256) = D16.of (Nat.div j 256)
          · have d1 : k / 256 = j / 256 := D16.of_inj (by omega) (by omega) e1
            rw [e1, p16_same]
            by_cases e2 : D16.of (Nat.mod (Nat.div k 16) 16) = D16.of (Nat.mod (Nat.div j 16) 16)
            · have d2 : k / 16 % 16 = j / 16 % 16 := D16.of_inj (by omega) (by omega) e2
              rw [e2, p16_same]
              refine p16_ne (fun e3 => ?_) _ _
              have d3 : k % 16 = j % 16 := D16.of_inj (by omega) (by omega) e3
              omega
            · rw [p16_ne e2]
          · rw [p16_ne e1]
    | false =>
      cases hj : Nat.blt j 16 with
      | true => rfl
      | false =>
        cases hj2 : Nat.blt j 4096 with
        | true => rfl
        | false => exact To.getW_setW_ne x _ _ t.hi fun e => h (way_inj e)


/-- A row of cells as a map, from o on. -/
def Tr.row (t : Tr α) : Nat → List α → Tr α
  | _, [] => t
  | o, v :: l => Tr.row (Tr.set 30 t o v) (o + 1) l
theorem Tr.get_row : ∀ (l : List α) (t : Tr α) (o j : Nat), o + l.length + 1 < 2 ^ 30 → Tr.get 30 (Tr.row t o l) j = if j < o then Tr.get 30 t j else if j < o + l.length then l[j - o]? else Tr.get 30 t j
  | [], t, o, j, _ => by simp only [Tr.row, List.length_nil, Nat.add_zero]; split <;> simp
  | v :: l, t, o, j, h => by
    simp only [Tr.row]
    rw [Tr.get_row l _ (o + 1) j (by simp at h; omega)]
    simp only [List.length_cons]
    by_cases h1 : j < o
    · rw [if_pos (by omega), if_pos h1, Tr.get_set_ne _ _ _ _ _ (by omega)]
    · rw [if_neg h1]
      by_cases h2 : j = o
      · subst h2
        rw [if_pos (by omega), if_pos (by omega), Tr.get_set_eq _ _ _ _ (by simp at h; omega)]
        simp
      · rw [if_neg (by omega)]
        by_cases h3 : j < o + 1 + l.length
        · rw [if_pos h3, if_pos (by omega), show j - o = (j - (o + 1)) + 1 by omega]
          rfl
        · rw [if_neg h3, if_neg (by omega), Tr.get_set_ne _ _ _ _ _ (by omega)]
end

/-- A block: which of its cells are known: the first len. -/
structure Bk where
  ty : TypeId × Nat
  cells : Tr Value
  len : Nat
  mc : Nat × List Value
/-- No map. -/
def m0 : Nat × List Value := (0, [])
structure Hs where
  m : Tr (Option Bk)
  nx : Nat
/-- The cells of a block; one that does not grow tells its type. -/
def Bk.cell (k : Bk) : Nat → Option Value := fun o => if o = tyOff then (if k.ty.2 = 0 then some (tyV k.ty.1) else if k.ty.2 = mp then some (mapV k.mc.1 k.mc.2) else none) else Tr.get 30 k.cells o
theorem Bk.cell_of {k : Bk} {o : Nat} (h : o ≠ tyOff) : k.cell o = Tr.get 30 k.cells o := if_neg h
def Hs.den (h : Hs) : Hp := fun b => if b < h.nx then (match Tr.get 30 h.m b with
  | some (some k) => .live k.ty k.cell
  | _ => .dead) else .unborn
structure Hs.Inv (h : Hs) : Prop where
  nx : h.nx + 1 < 2 ^ 30
  bk : ∀ (b : Nat) (k : Bk), b < h.nx → Tr.get 30 h.m b = some (some k) → (∀ i, (Tr.get 30 k.cells i).isSome = true ↔ i < k.len) ∧ k.len + 1 < 2 ^ 30
  mpl : ∀ (b : Nat) (k : Bk), b < h.nx → Tr.get 30 h.m b = some (some k) → k.ty.2 = mp → k.len = 0

def lim : Nat := 1073741824
def Hs.cell (h : Hs) (b o : Nat) : Option Value := match Nat.blt b h.nx with
  | true => match Tr.get 30 h.m b with
    | some (some k) => Tr.get 30 k.cells o
    | _ => none
  | false => none
def Hs.put (h : Hs) (b o : Nat) (v : Value) : Option Hs := match Nat.blt b h.nx with
  | true => match Tr.get 30 h.m b with
    | some (some k) => match Nat.blt o k.len with
      | true => match one v, Nat.beq k.ty.2 ro with
        | true, false => some ⟨Tr.set 30 h.m b (some ⟨k.ty, Tr.set 30 k.cells o v, k.len, k.mc⟩), h.nx⟩
        | _, _ => none
      | false => none
    | _ => none
  | false => none
def okNew (ty : TypeId × Nat) (cs : List Value) : Bool := match Nat.beq ty.2 mp with
  | true => false
  | false => cs.all one
theorem okNew_spec {ty : TypeId × Nat} {cs : List Value} (h : okNew ty cs = true) : ty.2 ≠ mp ∧ cs.all one = true := by
  unfold okNew at h
  split at h
  · cases h
  · rename_i e
    exact ⟨fun e2 => (by rw [e2, Nat.beq_refl] at e; cases e), h⟩
def Hs.new (h : Hs) (ty : TypeId × Nat) (cs : List Value) : Option Hs := match Nat.blt (h.nx + 3) lim, Nat.blt (cs.length + 3) lim, okNew ty cs with
  | true, true, true => some ⟨Tr.set 30 h.m h.nx (some ⟨ty, Tr.row .e 0 cs, cs.length, m0⟩), h.nx + 1⟩
  | _, _, _ => none
/-- The first n cells, ahead of others. -/
def Tr.first (t : Tr Value) (n : Nat) : List Value → List Value := Nat.rec (fun acc => acc) (fun n ih acc => ih (match Tr.get 30 t n with
  | some v => v :: acc
  | none => acc)) n
/-- Cells of which the first n alone count. -/
def Tr.cut (t : Tr Value) (len n : Nat) : Tr Value := match Nat.beq len n with
  | true => t
  | false => Tr.row .e 0 (Tr.first t n [])
def Hs.mv (h : Hs) (a : Nat) (ty : TypeId × Nat) (n : Nat) (cs : List Value) : Option Hs := match Nat.blt (h.nx + 3) lim, Nat.blt a h.nx, cs.all one with
  | true, true, true => match Tr.get 30 h.m a with
    | some (some k) => match Nat.beq k.ty.1 ty.1, or (Nat.beq k.ty.2 ty.2) (Nat.beq ty.2 ro), or (or (Nat.beq k.ty.2 0) (Nat.beq k.ty.2 ro)) (Nat.beq k.ty.2 mp), Nat.ble n k.len, Nat.blt (n + cs.length + 3) lim with
      | true, true, false, true, true => some ⟨Tr.set 30 (Tr.set 30 h.m a none) h.nx (some ⟨ty, Tr.row (Tr.cut k.cells k.len n) n cs, n + cs.length, m0⟩), h.nx + 1⟩
      | _, _, _, _, _ => none
    | _ => none
  | _, _, _ => none

section
variable {h h' : Hs}
theorem low_off {o : Nat} (h : o + 1 < 2 ^ 30) : o ≠ tyOff := by
  intro e; subst e; revert h; decide
theorem Hs.cell_ok (hi : h.Inv) {b o : Nat} {v : Value} (e : h.cell b o = some v) : Ok h.den (.rd b o v) ∧ b < h.nx ∧ o ≠ tyOff := by
  unfold Hs.cell at e
  split at e
  · rename_i hb
    have hb : b < h.nx := by simpa [Nat.blt_eq] using hb
    split at e
    · rename_i k hk
      obtain ⟨q1, q2⟩ := hi.bk b k hb hk
      have ho : o < k.len := (q1 o).1 (by rw [e]; rfl)
      have ho : o ≠ tyOff := low_off (by omega)
      exact ⟨⟨k.ty, k.cell, by unfold Hs.den; rw [if_pos hb, hk], by rw [Bk.cell_of ho]; exact e⟩, hb, ho⟩
    · cases e
  · cases e

/-- A block's type is told. -/
def Hs.tq (h : Hs) (b : Nat) : Option TypeId := match Nat.blt b h.nx with
  | true => match Tr.get 30 h.m b with
    | some (some k) => (match Nat.beq k.ty.2 0 with
      | true => some k.ty.1
      | false => none)
    | _ => none
  | false => none
theorem Hs.tq_ok {b : Nat} {t : TypeId} (e : h.tq b = some t) : Ok h.den (.rd b tyOff (tyV t)) ∧ b < h.nx := by
  unfold Hs.tq at e
  split at e
  · rename_i hb
    have hb : b < h.nx := by simpa [Nat.blt_eq] using hb
    split at e
    · rename_i k hk
      split at e
      case h_2 => cases e
      rename_i e2
      have e2 := Nat.eq_of_beq_eq_true e2
      have e1 := Option.some.inj e
      exact ⟨⟨k.ty, k.cell, by unfold Hs.den; rw [if_pos hb, hk], by unfold Bk.cell; rw [if_pos rfl, if_pos e2, e1]⟩, hb⟩
    · cases e
  · cases e

theorem Hs.put_ok (hi : h.Inv) {b o : Nat} {v : Value} (e : h.put b o v = some h') : Ok h.den (.wr b o v) ∧ app h.den (.wr b o v) = h'.den ∧ h'.Inv ∧ h'.nx = h.nx ∧ b < h.nx := by
  unfold Hs.put at e
  split at e
  case h_2 => cases e
  rename_i hb
  have hb : b < h.nx := by simpa [Nat.blt_eq] using hb
  split at e
  case h_2 => cases e
  rename_i k hk
  split at e
  case h_2 => cases e
  rename_i ho
  have ho : o < k.len := by simpa [Nat.blt_eq] using ho
  split at e
  case h_2 => cases e
  rename_i h1 h1r
  have h1r : k.ty.2 ≠ ro := fun e => by rw [e, Nat.beq_refl] at h1r; cases h1r
  cases e
  obtain ⟨q1, q2⟩ := hi.bk b k hb hk
  have hnm : k.ty.2 ≠ mp := fun e => by have := hi.mpl b k hb hk e; omega
  have hl := hi.nx
  have hd : h.den b = .live k.ty k.cell := by unfold Hs.den; rw [if_pos hb, hk]
  have hot : o ≠ tyOff := low_off (by omega)
  obtain ⟨u, hu⟩ := Option.isSome_iff_exists.1 ((q1 o).2 ho)
  refine ⟨⟨⟨k.ty, _, u, hd, by rw [Bk.cell_of hot]; exact hu, h1r, ⟨fun e => absurd e hot, fun e => absurd e hnm⟩⟩, h1⟩, ?_, ⟨hl, fun b' k' hb' hk' => ?_, fun b' k' hb' hk' hm' => ?_⟩, rfl, hb⟩
  · simp only [app, hd]
    funext i
    unfold Hp.set
    by_cases hib : i = b
    · subst hib
      rw [if_pos rfl]
      unfold Hs.den
      rw [if_pos (show i < h.nx from hb), Tr.get_set_eq _ _ _ _ (by omega)]
      congr 1
      funext j
      unfold cellSet
      unfold Bk.cell
      simp only
      by_cases hj : j = o
      · subst hj; rw [if_pos rfl, if_neg hot, Tr.get_set_eq _ _ _ _ (by omega)]
      · rw [if_neg hj, Tr.get_set_ne _ _ _ _ _ (Ne.symm hj)]
    · rw [if_neg hib]
      unfold Hs.den
      simp only
      rw [Tr.get_set_ne _ _ _ _ _ (Ne.symm hib)]
  · simp only at hb' hk'
    by_cases hbb : b' = b
    · subst hbb
      rw [Tr.get_set_eq _ _ _ _ (by omega)] at hk'
      cases hk'
      refine ⟨fun i => ?_, q2⟩
      simp only
      by_cases hio : i = o
      · subst hio; rw [Tr.get_set_eq _ _ _ _ (by omega)]; simp [ho]
      · rw [Tr.get_set_ne _ _ _ _ _ (Ne.symm hio)]; exact q1 i
    · rw [Tr.get_set_ne _ _ _ _ _ (Ne.symm hbb)] at hk'
      exact hi.bk b' k' hb' hk'
  · simp only at hb' hk'
    by_cases hbb : b' = b
    · subst hbb
      rw [Tr.get_set_eq _ _ _ _ (by omega)] at hk'
      cases hk'
      exact absurd hm' hnm
    · rw [Tr.get_set_ne _ _ _ _ _ (Ne.symm hbb)] at hk'
      exact hi.mpl b' k' hb' hk' hm'

theorem row_inv {cs : List Value} {t : Tr Value} {n : Nat} (ht : ∀ i, (Tr.get 30 t i).isSome = true ↔ i < n) (hl : n + cs.length + 1 < 2 ^ 30) : (∀ i, (Tr.get 30 (Tr.row t n cs) i).isSome = true ↔ i < n + cs.length) ∧ (fun i => Tr.get 30 (Tr.row t n cs) i) = cellMore (fun i => Tr.get 30 t i) n cs := by
  refine ⟨fun i => ?_, funext fun i => ?_⟩
  · rw [Tr.get_row cs t n i hl]
    by_cases h1 : i < n
    · rw [if_pos h1, ht i]; omega
    · rw [if_neg h1]
      by_cases h2 : i < n + cs.length
      · rw [if_pos h2]; simp [List.getElem?_eq_getElem (show i - n < cs.length by omega), h2]
      · rw [if_neg h2, ht i]; omega
  · rw [Tr.get_row cs t n i hl]
    unfold cellMore
    by_cases h1 : i < n
    · rw [if_pos h1, if_pos h1]
    · rw [if_neg h1, if_neg h1]
      by_cases h2 : i < n + cs.length
      · rw [if_pos h2]
      · rw [if_neg h2, List.getElem?_eq_none (by omega)]
        have := ht i
        cases hg : Tr.get 30 t i with
        | none => rfl
        | some v => rw [hg] at this; simp at this; omega

theorem Hs.new_ok (hi : h.Inv) {ty : TypeId × Nat} {cs : List Value} (e : h.new ty cs = some h') : Ok h.den (.nw h.nx ty cs) ∧ app h.den (.nw h.nx ty cs) = h'.den ∧ h'.Inv ∧ h'.nx = h.nx + 1 := by
  unfold Hs.new at e
  split at e
  case h_2 => cases e
  rename_i h1 h2 h3
  cases e
  obtain ⟨hnm, h3⟩ := okNew_spec h3
  have h1 : h.nx + 3 < lim := by simpa [Nat.blt_eq] using h1
  have h2 : cs.length + 3 < lim := by simpa [Nat.blt_eq] using h2
  unfold lim at h1 h2
  have hr := row_inv (cs := cs) (t := .e) (n := 0) (fun i => by rw [Tr.get_e]; simp) (by omega)
  refine ⟨⟨by unfold Hs.den; rw [if_neg (Nat.lt_irrefl _)], List.all_eq_true.1 h3⟩, ?_, ⟨by simp only; omega, fun b' k' hb' hk' => ?_, fun b' k' hb' hk' hm' => ?_⟩, rfl⟩
  · simp only [app]
    funext i
    unfold Hp.set
    by_cases hib : i = h.nx
    · rw [if_pos hib]
      unfold Hs.den
      simp only
      rw [if_pos (by omega), hib, Tr.get_set_eq _ _ _ _ (by omega)]
      simp only
      congr 1
      funext j
      rw [newCell_of hnm]
      unfold Bk.cell
      simp only [if_neg hnm]
      by_cases hj : j = tyOff
      · rw [if_pos hj, if_pos hj]
      · rw [if_neg hj, if_neg hj]
        have := congrFun hr.2 j
        rw [this]
        rfl
    · rw [if_neg hib]
      unfold Hs.den
      simp only
      rw [Tr.get_set_ne _ _ _ _ _ (Ne.symm hib)]
      by_cases hlt : i < h.nx
      · rw [if_pos hlt, if_pos (by omega)]
      · rw [if_neg hlt, if_neg (by omega)]
  · simp only at hb' hk'
    by_cases hbb : b' = h.nx
    · subst hbb
      rw [Tr.get_set_eq _ _ _ _ (by omega)] at hk'
      cases hk'
      exact ⟨fun i => by have := hr.1 i; rw [Nat.zero_add] at this; exact this, by simp only; omega⟩
    · rw [Tr.get_set_ne _ _ _ _ _ (Ne.symm hbb)] at hk'
      exact hi.bk b' k' (by omega) hk'
  · simp only at hb' hk'
    by_cases hbb : b' = h.nx
    · subst hbb
      rw [Tr.get_set_eq _ _ _ _ (by omega)] at hk'
      cases hk'
      exact absurd hm' hnm
    · rw [Tr.get_set_ne _ _ _ _ _ (Ne.symm hbb)] at hk'
      exact hi.mpl b' k' (by omega) hk' hm'

theorem Tr.first_spec (t : Tr Value) : ∀ (n : Nat) (acc : List Value), (∀ i, i < n → (Tr.get 30 t i).isSome = true) → ∃ l : List Value, Tr.first t n acc = l ++ acc ∧ l.length = n ∧ ∀ i, i < n → l[i]? = Tr.get 30 t i
  | 0, acc, _ => ⟨[], rfl, rfl, fun i h => absurd h (Nat.not_lt_zero i)⟩
  | n + 1, acc, h => by
    obtain ⟨v, hv⟩ := Option.isSome_iff_exists.1 (h n (Nat.lt_succ_self n))
    obtain ⟨l, e1, e2, e3⟩ := Tr.first_spec t n (v :: acc) fun i hi => h i (by omega)
    refine ⟨l ++ [v], ?_, by simp [e2], fun i hi => ?_⟩
    · show Tr.first t n (match Tr.get 30 t n with
        | some v => v :: acc
        | none => acc) = _
      rw [hv]
      simpa using e1
    · by_cases hn : i < n
      · rw [List.getElem?_append_left (by omega)]; exact e3 i hn
      · obtain rfl : i = n := by omega
        rw [List.getElem?_append_right (by omega), e2, hv]; simp
theorem Tr.cut_spec {t : Tr Value} {len n : Nat} (ht : ∀ i, (Tr.get 30 t i).isSome = true ↔ i < len) (hn : n ≤ len) (hl : n + 1 < 2 ^ 30) : (∀ i, (Tr.get 30 (Tr.cut t len n) i).isSome = true ↔ i < n) ∧ ∀ i, i < n → Tr.get 30 (Tr.cut t len n) i = Tr.get 30 t i := by
  unfold Tr.cut
  cases hb : Nat.beq len n with
  | true =>
    obtain rfl := Nat.eq_of_beq_eq_true hb
    exact ⟨ht, fun _ _ => rfl⟩
  | false =>
    obtain ⟨l, e1, e2, e3⟩ := Tr.first_spec t n [] fun i hi => (ht i).2 (by omega)
    simp only [e1, List.append_nil]
    have hr := row_inv (cs := l) (t := .e) (n := 0) (fun i => by rw [Tr.get_e]; simp) (by omega)
    refine ⟨fun i => (hr.1 i).trans (by rw [e2, Nat.zero_add]), fun i hi => ?_⟩
    have := congrFun hr.2 i
    simp only [cellMore, Nat.not_lt_zero, if_false, Nat.sub_zero] at this
    rw [this]; exact e3 i hi
theorem Hs.mv_ok (hi : h.Inv) {a : Nat} {ty : TypeId × Nat} {n : Nat} {cs : List Value} (e : h.mv a ty n cs = some h') : Ok h.den (.mv a h.nx ty n cs) ∧ app h.den (.mv a h.nx ty n cs) = h'.den ∧ h'.Inv ∧ h'.nx = h.nx + 1 ∧ a < h.nx := by
  unfold Hs.mv at e
  split at e
  case h_2 => cases e
  rename_i h1 h2 h3
  have h1 : h.nx + 3 < lim := by simpa [Nat.blt_eq] using h1
  have h2 : a < h.nx := by simpa [Nat.blt_eq] using h2
  split at e
  case h_2 => cases e
  rename_i k hk
  split at e
  case h_2 => cases e
  rename_i g1 g2 g3 g4 g5
  cases e
  have g1 := Nat.eq_of_beq_eq_true g1
  have g4 := Nat.le_of_ble_eq_true g4
  have g5 : n + cs.length + 3 < lim := by simpa [Nat.blt_eq] using g5
  have g3n : k.ty.2 ≠ mp := fun e => by rw [e, Nat.beq_refl, Bool.or_true] at g3; cases g3
  have g3' : k.ty.2 ≠ 0 ∧ k.ty.2 ≠ ro := ⟨fun e => (by rw [e] at g3; cases g3), fun e => (by rw [e, Nat.beq_refl, Bool.or_true] at g3; cases g3)⟩
  have g2' : ty.2 = k.ty.2 ∨ ty.2 = ro := by
    rw [Bool.or_eq_true] at g2
    rcases g2 with h | h
    · exact .inl (Nat.eq_of_beq_eq_true h).symm
    · exact .inr (Nat.eq_of_beq_eq_true h)
  have gz : ty.2 ≠ 0 := by
    rcases g2' with h | h
    · rw [h]; exact g3'.1
    · rw [h]; decide
  have gnm : ty.2 ≠ mp := by
    rcases g2' with h | h
    · rw [h]; exact g3n
    · rw [h]; decide
  have gty : k.ty = (ty.1, k.ty.2) := Prod.ext g1 rfl
  unfold lim at h1 g5
  obtain ⟨q1, q2⟩ := hi.bk a k h2 hk
  have hct := Tr.cut_spec q1 g4 (by omega)
  have hr := row_inv (cs := cs) hct.1 (by omega)
  replace q1 : ∀ i, i < n → (Tr.get 30 k.cells i).isSome = true := fun i hin => (q1 i).2 (by omega)
  have hd : h.den a = .live (ty.1, k.ty.2) k.cell := by unfold Hs.den; rw [if_pos h2, hk, ← gty]
  refine ⟨⟨⟨_, _, hd, ⟨g3'.1, g3'.2, g3n, g2'⟩, fun i hin => ?_⟩, by unfold Hs.den; rw [if_neg (Nat.lt_irrefl _)], List.all_eq_true.1 h3⟩, ?_, ⟨by simp only; omega, fun b' k' hb' hk' => ?_, fun b' k' hb' hk' hm' => ?_⟩, rfl, h2⟩
  · have := q1 i hin
    intro hn
    rw [Bk.cell_of (low_off (by omega))] at hn
    rw [hn] at this; cases this
  · simp only [app, hd]
    funext i
    unfold Hp.set
    by_cases hib : i = h.nx
    · rw [if_pos hib]
      unfold Hs.den
      simp only
      rw [if_pos (by omega), hib, Tr.get_set_eq _ _ _ _ (by omega)]
      simp only
      congr 1
      funext j
      have hrj := congrFun hr.2 j
      unfold cellMore at hrj ⊢
      by_cases hj : j = tyOff
      · have hjn : ¬ j < n := fun h => low_off (o := j) (by omega) hj
        have hjc : cs[j - n]? = none := List.getElem?_eq_none (by
          have : tyOff ≥ 2 ^ 31 := by decide
          omega)
        rw [if_neg hjn, hjc]
        unfold Bk.cell
        simp only
        rw [if_pos hj, if_neg gz, if_neg gnm]
      · rw [show (Bk.mk ty (Tr.row (Tr.cut k.cells k.len n) n cs) (n + cs.length) m0).cell j = Tr.get 30 (Tr.row (Tr.cut k.cells k.len n) n cs) j from Bk.cell_of hj, hrj]
        by_cases hjn : j < n
        · rw [if_pos hjn, if_pos hjn, Bk.cell_of hj]; exact (hct.2 j hjn).symm
        · rw [if_neg hjn, if_neg hjn]
    · rw [if_neg hib]
      by_cases hia : i = a
      · rw [if_pos hia]
        unfold Hs.den
        simp only
        rw [if_pos (by omega), Tr.get_set_ne _ _ _ _ _ (Ne.symm hib), hia, Tr.get_set_eq _ _ _ _ (by omega)]
      · rw [if_neg hia]
        unfold Hs.den
        simp only
        rw [Tr.get_set_ne _ _ _ _ _ (Ne.symm hib), Tr.get_set_ne _ _ _ _ _ (Ne.symm hia)]
        by_cases hlt : i < h.nx
        · rw [if_pos hlt, if_pos (by omega)]
        · rw [if_neg hlt, if_neg (by omega)]
  · simp only at hb' hk'
    by_cases hbb : b' = h.nx
    · subst hbb
      rw [Tr.get_set_eq _ _ _ _ (by omega)] at hk'
      cases hk'
      exact ⟨hr.1, by simp only; omega⟩
    · rw [Tr.get_set_ne _ _ _ _ _ (Ne.symm hbb)] at hk'
      by_cases hba : b' = a
      · subst hba
        rw [Tr.get_set_eq _ _ _ _ (by omega)] at hk'
        cases hk'
      · rw [Tr.get_set_ne _ _ _ _ _ (Ne.symm hba)] at hk'
        exact hi.bk b' k' (by omega) hk'
  · simp only at hb' hk'
    by_cases hbb : b' = h.nx
    · subst hbb
      rw [Tr.get_set_eq _ _ _ _ (by omega)] at hk'
      cases hk'
      exact absurd hm' gnm
    · rw [Tr.get_set_ne _ _ _ _ _ (Ne.symm hbb)] at hk'
      by_cases hba : b' = a
      · subst hba
        rw [Tr.get_set_eq _ _ _ _ (by omega)] at hk'
        cases hk'
      · rw [Tr.get_set_ne _ _ _ _ _ (Ne.symm hba)] at hk'
        exact hi.mpl b' k' (by omega) hk' hm'

/-- What a map holds. -/
def Hs.mrd (h : Hs) (b : Nat) : Option (Nat × List Value) := match Nat.blt b h.nx with
  | true => match Tr.get 30 h.m b with
    | some (some k) => (match Nat.beq k.ty.2 mp with
      | true => some k.mc
      | false => none)
    | _ => none
  | false => none
theorem mp_ne : ¬ mp = 0 ∧ ¬ mp = ro := by decide
theorem Hs.mrd_ok {b : Nat} {c : Nat × List Value} (e : h.mrd b = some c) : Ok h.den (.rd b tyOff (mapV c.1 c.2)) ∧ b < h.nx := by
  unfold Hs.mrd at e
  split at e
  · rename_i hb
    have hb : b < h.nx := by simpa [Nat.blt_eq] using hb
    split at e
    · rename_i k hk
      split at e
      case h_2 => cases e
      rename_i e2
      have e2 := Nat.eq_of_beq_eq_true e2
      have e1 := Option.some.inj e
      exact ⟨⟨k.ty, k.cell, by unfold Hs.den; rw [if_pos hb, hk], by unfold Bk.cell; rw [if_pos rfl, e2, if_neg mp_ne.1, if_pos rfl, e1]⟩, hb⟩
    · cases e
  · cases e
def Hs.mwr (h : Hs) (b cl : Nat) (l : List Value) : Option Hs := match Nat.blt b h.nx with
  | true => match Tr.get 30 h.m b with
    | some (some k) => (match Nat.beq k.ty.2 mp with
      | true => some ⟨Tr.set 30 h.m b (some ⟨k.ty, k.cells, k.len, (cl, l)⟩), h.nx⟩
      | false => none)
    | _ => none
  | false => none
theorem Hs.mwr_ok (hi : h.Inv) {b cl : Nat} {l : List Value} (e : h.mwr b cl l = some h') : Ok h.den (.wr b tyOff (mapV cl l)) ∧ app h.den (.wr b tyOff (mapV cl l)) = h'.den ∧ h'.Inv ∧ h'.nx = h.nx ∧ b < h.nx := by
  unfold Hs.mwr at e
  split at e
  case h_2 => cases e
  rename_i hb
  have hb : b < h.nx := by simpa [Nat.blt_eq] using hb
  split at e
  case h_2 => cases e
  rename_i k hk
  split at e
  case h_2 => cases e
  rename_i e2
  have e2 := Nat.eq_of_beq_eq_true e2
  cases e
  obtain ⟨q1, q2⟩ := hi.bk b k hb hk
  have hl := hi.nx
  have hd : h.den b = .live k.ty k.cell := by unfold Hs.den; rw [if_pos hb, hk]
  refine ⟨⟨⟨k.ty, _, mapV k.mc.1 k.mc.2, hd, by unfold Bk.cell; rw [if_pos rfl, e2, if_neg mp_ne.1, if_pos rfl], by rw [e2]; exact mp_ne.2, ⟨fun _ => e2, fun _ => rfl⟩⟩, rfl⟩, ?_, ⟨hl, fun b' k' hb' hk' => ?_, fun b' k' hb' hk' hm' => ?_⟩, rfl, hb⟩
  · simp only [app, hd]
    funext i
    unfold Hp.set
    by_cases hib : i = b
    · subst hib
      rw [if_pos rfl]
      unfold Hs.den
      rw [if_pos (show i < h.nx from hb), Tr.get_set_eq _ _ _ _ (by omega)]
      congr 1
      funext j
      unfold cellSet
      unfold Bk.cell
      simp only
      by_cases hj : j = tyOff
      · rw [if_pos hj, if_pos hj, e2, if_neg mp_ne.1, if_pos rfl]
      · rw [if_neg hj, if_neg hj, if_neg hj]
    · rw [if_neg hib]
      unfold Hs.den
      simp only
      rw [Tr.get_set_ne _ _ _ _ _ (Ne.symm hib)]
  · simp only at hb' hk'
    by_cases hbb : b' = b
    · subst hbb
      rw [Tr.get_set_eq _ _ _ _ (by omega)] at hk'
      cases hk'
      exact ⟨q1, q2⟩
    · rw [Tr.get_set_ne _ _ _ _ _ (Ne.symm hbb)] at hk'
      exact hi.bk b' k' hb' hk'
  · simp only at hb' hk'
    by_cases hbb : b' = b
    · subst hbb
      rw [Tr.get_set_eq _ _ _ _ (by omega)] at hk'
      cases hk'
      exact hi.mpl b' k hb hk e2
    · rw [Tr.get_set_ne _ _ _ _ _ (Ne.symm hbb)] at hk'
      exact hi.mpl b' k' hb' hk' hm'
def Hs.mnw (h : Hs) (t : TypeId) : Option Hs := match Nat.blt (h.nx + 3) lim with
  | true => some ⟨Tr.set 30 h.m h.nx (some ⟨(t, mp), .e, 0, (0, [])⟩), h.nx + 1⟩
  | false => none
theorem Hs.mnw_ok (hi : h.Inv) {t : TypeId} (e : h.mnw t = some h') : Ok h.den (.nw h.nx (t, mp) [mapV 0 []]) ∧ app h.den (.nw h.nx (t, mp) [mapV 0 []]) = h'.den ∧ h'.Inv ∧ h'.nx = h.nx + 1 := by
  unfold Hs.mnw at e
  split at e
  case h_2 => cases e
  rename_i h1
  cases e
  have h1 : h.nx + 3 < lim := by simpa [Nat.blt_eq] using h1
  unfold lim at h1
  refine ⟨⟨by unfold Hs.den; rw [if_neg (Nat.lt_irrefl _)], fun v hv => by rw [List.mem_singleton.1 hv]; rfl⟩, ?_, ⟨by simp only; omega, fun b' k' hb' hk' => ?_, fun b' k' hb' hk' hm' => ?_⟩, rfl⟩
  · simp only [app]
    funext i
    unfold Hp.set
    by_cases hib : i = h.nx
    · rw [if_pos hib]
      unfold Hs.den
      simp only
      rw [if_pos (by omega), hib, Tr.get_set_eq _ _ _ _ (by omega)]
      simp only
      congr 1
      funext j
      unfold newCell Bk.cell
      simp only [if_neg mp_ne.1, if_true]
      by_cases hj : j = tyOff
      · rw [if_pos hj, if_pos hj]; rfl
      · rw [if_neg hj, if_neg hj, Tr.get_e]
    · rw [if_neg hib]
      unfold Hs.den
      simp only
      rw [Tr.get_set_ne _ _ _ _ _ (Ne.symm hib)]
      by_cases hlt : i < h.nx
      · rw [if_pos hlt, if_pos (by omega)]
      · rw [if_neg hlt, if_neg (by omega)]
  · simp only at hb' hk'
    by_cases hbb : b' = h.nx
    · subst hbb
      rw [Tr.get_set_eq _ _ _ _ (by omega)] at hk'
      cases hk'
      exact ⟨fun i => by rw [Tr.get_e]; simp, show (0 : Nat) + 1 < 2 ^ 30 by decide⟩
    · rw [Tr.get_set_ne _ _ _ _ _ (Ne.symm hbb)] at hk'
      exact hi.bk b' k' (by omega) hk'
  · simp only at hb' hk'
    by_cases hbb : b' = h.nx
    · subst hbb
      rw [Tr.get_set_eq _ _ _ _ (by omega)] at hk'
      cases hk'
      rfl
    · rw [Tr.get_set_ne _ _ _ _ _ (Ne.symm hbb)] at hk'
      exact hi.mpl b' k' (by omega) hk' hm'
end
end
end Go.Proofs.YtjeplkbdgphfoaaDoor
