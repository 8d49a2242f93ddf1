/-
  A run that is reckoned over blocks with names of its own: what is touched, bit by bit; blocks looked up fast: no function of a program is named here.
-/
import Derived.Test.YtjeplkbdgphfoaaDoorEvR
namespace Go.Proofs.YtjeplkbdgphfoaaDoor
open Go.RowKit
noncomputable section

/-- What is touched: sixteen bits a block. -/
structure Fz where
  r : Nat
  w : Nat
def ixZ (b o : Nat) : Nat := Nat.add (Nat.mul b 16) (Bool.rec (motive := fun _ => Nat) 15 o (Nat.blt o 15))
def bitZ (b o : Nat) : Nat := Nat.shiftLeft 1 (ixZ b o)
def Fz.rd (f : Fz) (thr b o : Nat) : Fz := Bool.rec (motive := fun _ => Fz) f ⟨Nat.lor f.r (bitZ b o), f.w⟩ (Nat.blt b thr)
def Fz.wr (f : Fz) (thr b o : Nat) : Fz := Bool.rec (motive := fun _ => Fz) f ⟨f.r, Nat.lor f.w (bitZ b o)⟩ (Nat.blt b thr)
def Fz.kl (f : Fz) (thr b : Nat) : Fz := Bool.rec (motive := fun _ => Fz) f ⟨f.r, Nat.lor f.w (Nat.shiftLeft 65535 (Nat.mul b 16))⟩ (Nat.blt b thr)
def ToldZ (f : Fz) : Ac → Prop
  | .rd b o _ => f.r.testBit (ixZ b o) = true
  | .wr b o _ => f.w.testBit (ixZ b o) = true
  | .nw _ _ _ => True
  | .mv a _ _ _ _ => ∀ j, j < 16 → f.w.testBit (a * 16 + j) = true
def SubZ (f g : Fz) : Prop := (∀ i, f.r.testBit i = true → g.r.testBit i = true) ∧ ∀ i, f.w.testBit i = true → g.w.testBit i = true
theorem SubZ.refl (f : Fz) : SubZ f f := ⟨fun _ h => h, fun _ h => h⟩
theorem SubZ.trans {f g h : Fz} (a : SubZ f g) (b : SubZ g h) : SubZ f h := ⟨fun i x => b.1 i (a.1 i x), fun i x => b.2 i (a.2 i x)⟩
theorem SubZ.told {f g : Fz} (h : SubZ f g) {a : Ac} (k : ToldZ f a) : ToldZ g a := by
  cases a with
  | rd b o v => exact h.1 _ k
  | wr b o v => exact h.2 _ k
  | nw => trivial
  | mv a b ty n cs => exact fun j hj => h.2 _ (k j hj)
theorem lor_left {a b i : Nat} (h : a.testBit i = true) : (Nat.lor a b).testBit i = true := by
  have : (a ||| b).testBit i = true := by rw [Nat.testBit_or, h]; rfl
  exact this
theorem lor_right {a b i : Nat} (h : b.testBit i = true) : (Nat.lor a b).testBit i = true := by
  have : (a ||| b).testBit i = true := by rw [Nat.testBit_or, h, Bool.or_true]
  exact this
theorem blt_true {a b : Nat} (h : a < b) : Nat.blt a b = true := by simpa [Nat.blt_eq] using h
theorem blt_lt {a b : Nat} (h : Nat.blt a b = true) : a < b := by simpa [Nat.blt_eq] using h
theorem blt_ge {a b : Nat} (h : Nat.blt a b = false) : b ≤ a := by
  rcases Nat.lt_or_ge a b with h1 | h1
  · rw [blt_true h1] at h; cases h
  · exact h1
theorem rdZ_sub (f : Fz) (thr b o : Nat) : SubZ f (f.rd thr b o) := by
  unfold Fz.rd; cases Nat.blt b thr
  · exact SubZ.refl f
  · exact ⟨fun i h => lor_left h, fun _ h => h⟩
theorem wrZ_sub (f : Fz) (thr b o : Nat) : SubZ f (f.wr thr b o) := by
  unfold Fz.wr; cases Nat.blt b thr
  · exact SubZ.refl f
  · exact ⟨fun _ h => h, fun i h => lor_left h⟩
theorem klZ_sub (f : Fz) (thr b : Nat) : SubZ f (f.kl thr b) := by
  unfold Fz.kl; cases Nat.blt b thr
  · exact SubZ.refl f
  · exact ⟨fun _ h => h, fun i h => lor_left h⟩
theorem rdZ_told (f : Fz) {thr b o : Nat} {v : Value} (h : b < thr) : ToldZ (f.rd thr b o) (.rd b o v) := by
  unfold Fz.rd; rw [blt_true h]; exact lor_right (bit_self _)
theorem wrZ_told (f : Fz) {thr b o : Nat} {v : Value} (h : b < thr) : ToldZ (f.wr thr b o) (.wr b o v) := by
  unfold Fz.wr; rw [blt_true h]; exact lor_right (bit_self _)
theorem ones16 : ∀ j, j < 16 → Nat.testBit 65535 j = true := by decide
theorem klZ_told (f : Fz) {thr a b n : Nat} {ty : TypeId × Nat} {cs : List Value} (h : a < thr) : ToldZ (f.kl thr a) (.mv a b ty n cs) := by
  unfold Fz.kl; rw [blt_true h]
  intro j hj
  refine lor_right ?_
  have : (65535 <<< (a * 16)).testBit (a * 16 + j) = true := by
    rw [Nat.testBit_shiftLeft, Nat.add_sub_cancel_left, ones16 j hj]
    simp
  exact this

/-- All that is done to blocks below lo is told of; new blocks have names from mid to hi. -/
def AllZ (lo mid hi : Nat) (f : Fz) (t : List Ac) : Prop := ∀ a ∈ t, (∀ b, a.old = some b → b < hi ∧ (b < lo → ToldZ f a)) ∧ (∀ b, a.fresh = some b → mid ≤ b ∧ b < hi)
theorem AllZ.nil (lo mid hi : Nat) (f : Fz) : AllZ lo mid hi f [] := fun a h => by cases h
theorem AllZ.more {lo mid mid' hi hi' : Nat} {f g : Fz} {t : List Ac} (h : AllZ lo mid hi f t) (hm : mid' ≤ mid) (hh : hi ≤ hi') (hs : SubZ f g) : AllZ lo mid' hi' g t := fun a ha =>
  ⟨fun b hb => ⟨Nat.lt_of_lt_of_le ((h a ha).1 b hb).1 hh, fun hl => hs.told (((h a ha).1 b hb).2 hl)⟩, fun b hb => ⟨Nat.le_trans hm ((h a ha).2 b hb).1, Nat.lt_of_lt_of_le ((h a ha).2 b hb).2 hh⟩⟩
theorem AllZ.append {lo mid hi : Nat} {f : Fz} {t u : List Ac} (h : AllZ lo mid hi f t) (k : AllZ lo mid hi f u) : AllZ lo mid hi f (t ++ u) := fun a ha => by
  rcases List.mem_append.1 ha with h1 | h1
  · exact h a h1
  · exact k a h1

/-- What a reckoning leaves. -/
structure LeftZ (thr : Nat) (h : Hs) (f : Fz) (h' : Hs) (f' : Fz) (t : List Ac) : Prop where
  val : Valid h.den t
  app : apps h.den t = h'.den
  inv : h'.Inv
  le : h.nx ≤ h'.nx
  sub : SubZ f f'
  all : AllZ thr h.nx h'.nx f' t
theorem LeftZ.refl {thr : Nat} {h : Hs} (hi : h.Inv) (f : Fz) : LeftZ thr h f h f [] := ⟨trivial, rfl, hi, Nat.le_refl _, SubZ.refl f, AllZ.nil _ _ _ _⟩
theorem LeftZ.trans {thr : Nat} {h h1 h2 : Hs} {f f1 f2 : Fz} {t u : List Ac} (k : LeftZ thr h f h1 f1 t) (l : LeftZ thr h1 f1 h2 f2 u) : LeftZ thr h f h2 f2 (t ++ u) :=
  ⟨Valid.append.2 ⟨k.val, by rw [k.app]; exact l.val⟩, by rw [apps_append, k.app, l.app], l.inv, Nat.le_trans k.le l.le, k.sub.trans l.sub,
    (k.all.more (Nat.le_refl _) l.le l.sub).append (l.all.more k.le (Nat.le_refl _) (SubZ.refl _))⟩
theorem LeftZ.cons {thr : Nat} {h h1 h2 : Hs} {f f1 f2 : Fz} {a : Ac} {u : List Ac} (k : LeftZ thr h f h1 f1 [a]) (l : LeftZ thr h1 f1 h2 f2 u) : LeftZ thr h f h2 f2 (a :: u) := k.trans l

theorem left_rd {thr : Nat} {h : Hs} (hi : h.Inv) (f : Fz) {b o : Nat} {v : Value} (e : h.cell b o = some v) : LeftZ thr h f h (f.rd thr b o) [.rd b o v] := by
  obtain ⟨h1, h2, _⟩ := Hs.cell_ok hi e
  refine ⟨⟨h1, trivial⟩, rfl, hi, Nat.le_refl _, rdZ_sub _ _ _ _, fun a ha => ?_⟩
  obtain rfl := List.mem_singleton.1 ha
  exact ⟨fun b' hb => by cases hb; exact ⟨h2, fun hl => rdZ_told f hl⟩, fun b' hb => by cases hb⟩
theorem left_tq {thr : Nat} {h : Hs} (hi : h.Inv) (f : Fz) {b : Nat} {t : TypeId} (e : h.tq b = some t) : LeftZ thr h f h (f.rd thr b tyOff) [.rd b tyOff (tyV t)] := by
  obtain ⟨h1, h2⟩ := Hs.tq_ok e
  refine ⟨⟨h1, trivial⟩, rfl, hi, Nat.le_refl _, rdZ_sub _ _ _ _, fun a ha => ?_⟩
  obtain rfl := List.mem_singleton.1 ha
  exact ⟨fun b' hb => by cases hb; exact ⟨h2, fun hl => rdZ_told f hl⟩, fun b' hb => by cases hb⟩
theorem left_wr {thr : Nat} {h h' : Hs} (hi : h.Inv) (f : Fz) {b o : Nat} {v : Value} (e : h.put b o v = some h') : LeftZ thr h f h' (f.wr thr b o) [.wr b o v] := by
  obtain ⟨h1, h2, h3, h4, h5⟩ := Hs.put_ok hi e
  refine ⟨⟨h1, trivial⟩, h2, h3, by omega, wrZ_sub _ _ _ _, fun a ha => ?_⟩
  obtain rfl := List.mem_singleton.1 ha
  exact ⟨fun b' hb => by cases hb; exact ⟨by omega, fun hl => wrZ_told f hl⟩, fun b' hb => by cases hb⟩
theorem left_nw {thr : Nat} {h h' : Hs} (hi : h.Inv) (f : Fz) {ty : TypeId × Nat} {cs : List Value} (e : h.new ty cs = some h') : LeftZ thr h f h' f [.nw h.nx ty cs] := by
  obtain ⟨h1, h2, h3, h4⟩ := Hs.new_ok hi e
  refine ⟨⟨h1, trivial⟩, h2, h3, by omega, SubZ.refl _, fun a ha => ?_⟩
  obtain rfl := List.mem_singleton.1 ha
  exact ⟨fun b' hb => (by cases hb), fun b' hb => (by cases hb; exact ⟨Nat.le_refl _, by omega⟩)⟩
theorem left_mv {thr : Nat} {h h' : Hs} (hi : h.Inv) (f : Fz) {a n : Nat} {ty : TypeId × Nat} {cs : List Value} (e : h.mv a ty n cs = some h') : LeftZ thr h f h' (f.kl thr a) [.mv a h.nx ty n cs] := by
  obtain ⟨h1, h2, h3, h4, h5⟩ := Hs.mv_ok hi e
  refine ⟨⟨h1, trivial⟩, h2, h3, by omega, klZ_sub _ _ _, fun x hx => ?_⟩
  obtain rfl := List.mem_singleton.1 hx
  exact ⟨fun b' hb => by cases hb; exact ⟨by omega, fun hl => klZ_told f hl⟩, fun b' hb => by cases hb; exact ⟨Nat.le_refl _, by omega⟩⟩

theorem left_mrd {thr : Nat} {h : Hs} (hi : h.Inv) (f : Fz) {b : Nat} {c : Nat × List Value} (e : h.mrd b = some c) : LeftZ thr h f h (f.rd thr b tyOff) [.rd b tyOff (mapV c.1 c.2)] := by
  obtain ⟨h1, h2⟩ := Hs.mrd_ok e
  refine ⟨⟨h1, trivial⟩, rfl, hi, Nat.le_refl _, rdZ_sub _ _ _ _, fun a ha => ?_⟩
  obtain rfl := List.mem_singleton.1 ha
  exact ⟨fun b' hb => by cases hb; exact ⟨h2, fun hl => rdZ_told f hl⟩, fun b' hb => by cases hb⟩
theorem left_mwr {thr : Nat} {h h' : Hs} (hi : h.Inv) (f : Fz) {b cl : Nat} {l : List Value} (e : h.mwr b cl l = some h') : LeftZ thr h f h' (f.wr thr b tyOff) [.wr b tyOff (mapV cl l)] := by
  obtain ⟨h1, h2, h3, h4, h5⟩ := Hs.mwr_ok hi e
  refine ⟨⟨h1, trivial⟩, h2, h3, by omega, wrZ_sub _ _ _ _, fun a ha => ?_⟩
  obtain rfl := List.mem_singleton.1 ha
  exact ⟨fun b' hb => by cases hb; exact ⟨by omega, fun hl => wrZ_told f hl⟩, fun b' hb => by cases hb⟩
theorem left_mnw {thr : Nat} {h h' : Hs} (hi : h.Inv) (f : Fz) {t : TypeId} (e : h.mnw t = some h') : LeftZ thr h f h' f [.nw h.nx (t, mp) [mapV 0 []]] := by
  obtain ⟨h1, h2, h3, h4⟩ := Hs.mnw_ok hi e
  refine ⟨⟨h1, trivial⟩, h2, h3, by omega, SubZ.refl _, fun a ha => ?_⟩
  obtain rfl := List.mem_singleton.1 ha
  exact ⟨fun b' hb => (by cases hb), fun b' hb => (by cases hb; exact ⟨Nat.le_refl _, by omega⟩)⟩

/-- Those of blocks below thr. -/
def Fz.cut (f : Fz) (thr : Nat) : Fz := ⟨Nat.mod f.r (Nat.shiftLeft 1 (Nat.mul thr 16)), Nat.mod f.w (Nat.shiftLeft 1 (Nat.mul thr 16))⟩
def Fz.join (f g : Fz) : Fz := ⟨Nat.lor f.r g.r, Nat.lor f.w g.w⟩
theorem mod_bit {x n i : Nat} (h : x.testBit i = true) (hi : i < n) : (Nat.mod x (Nat.shiftLeft 1 n)).testBit i = true := by
  have : (x % (1 <<< n)).testBit i = true := by
    rw [Nat.one_shiftLeft, Nat.testBit_mod_two_pow, h]
    simp [hi]
  exact this
theorem ixZ_eq (b o : Nat) : ixZ b o = b * 16 + (if o < 15 then o else 15) := by
  unfold ixZ
  by_cases h : o < 15
  · rw [blt_true h, if_pos h]; rfl
  · cases hb : Nat.blt o 15 with
    | true => exact absurd (blt_lt hb) h
    | false => rw [if_neg h]; rfl
theorem ixZ_lt {b o thr : Nat} (h : b < thr) : ixZ b o < thr * 16 := by
  rw [ixZ_eq]; split <;> omega
theorem toldZ_cut {f : Fz} {thr : Nat} {a : Ac} (h : ToldZ f a) (hb : ∀ b, a.old = some b → b < thr) : ToldZ (f.cut thr) a := by
  cases a with
  | nw => trivial
  | rd b o v => exact mod_bit h (ixZ_lt (hb b rfl))
  | wr b o v => exact mod_bit h (ixZ_lt (hb b rfl))
  | mv a b ty n cs => exact fun j hj => mod_bit (h j hj) (by have := hb a rfl; show a * 16 + j < thr * 16; omega)
theorem LeftZ.lower {thr : Nat} {h h' : Hs} {f f' g : Fz} {t : List Ac} (k : LeftZ h.nx h g h' f' t) (ht : thr ≤ h.nx) : LeftZ thr h f h' (f.join (f'.cut thr)) t :=
  ⟨k.val, k.app, k.inv, k.le, ⟨fun _ h => lor_left h, fun _ h => lor_left h⟩, fun a ha => ⟨fun b hb => ⟨((k.all a ha).1 b hb).1, fun hl =>
    SubZ.told (f := f'.cut thr) ⟨fun _ h => lor_right h, fun _ h => lor_right h⟩ (toldZ_cut (((k.all a ha).1 b hb).2 (by omega)) (fun b' hb' => by rw [hb] at hb'; cases hb'; exact hl))⟩, (k.all a ha).2⟩⟩

/-- Nothing is touched by both, but read. -/
def clashZ (a b : Fz) : Bool := Nat.beq (Nat.lor (Nat.land a.w (Nat.lor b.r b.w)) (Nat.land a.r b.w)) 0
def apartNew (a b : Nat) (f : Fz) : Bool := Nat.beq (Nat.mod (Nat.shiftRight (Nat.lor f.r f.w) (Nat.mul a 16)) (Nat.shiftLeft 1 (Nat.mul (Nat.sub b a) 16))) 0
theorem clashZ_spec {a b : Fz} (h : clashZ a b = true) (i : Nat) : (a.w.testBit i = true → b.r.testBit i = false ∧ b.w.testBit i = false) ∧ (a.r.testBit i = true → b.w.testBit i = false) := by
  have h := Nat.eq_of_beq_eq_true h
  have h1 : ((a.w &&& (b.r ||| b.w)) ||| (a.r &&& b.w)).testBit i = false := by
    have : ((a.w &&& (b.r ||| b.w)) ||| (a.r &&& b.w)) = 0 := h
    rw [this]; simp
  rw [Nat.testBit_or, Nat.testBit_and, Nat.testBit_or, Nat.testBit_and] at h1
  constructor
  · intro hw; rw [hw] at h1; cases hr : b.r.testBit i <;> cases hw2 : b.w.testBit i <;> simp_all
  · intro hr; rw [hr] at h1; cases hw2 : b.w.testBit i <;> simp_all
theorem apartNew_spec {a b : Nat} {f : Fz} (h : apartNew a b f = true) {i : Nat} (h1 : a * 16 ≤ i) (h2 : i < b * 16) : f.r.testBit i = false ∧ f.w.testBit i = false := by
  have h := Nat.eq_of_beq_eq_true h
  have h3 : (((f.r ||| f.w) >>> (a * 16)) % (1 <<< ((b - a) * 16))).testBit (i - a * 16) = false := by
    have : (((f.r ||| f.w) >>> (a * 16)) % (1 <<< ((b - a) * 16))) = 0 := h
    rw [this]; simp
  rw [Nat.one_shiftLeft, Nat.testBit_mod_two_pow, Nat.testBit_shiftRight, show a * 16 + (i - a * 16) = i by omega, Nat.testBit_or] at h3
  have h4 : i - a * 16 < (b - a) * 16 := by
    rw [Nat.sub_mul]; omega
  simp only [h4, decide_true, Bool.true_and, Bool.or_eq_false_iff] at h3
  exact h3
theorem toldZ_in {f : Fz} {x : Ac} {b lo hi : Nat} (h : ToldZ f x) (hx : x.old = some b) (h1 : lo ≤ b) (h2 : b < hi) (hn : apartNew lo hi f = true) : False := by
  have key : ∀ o, lo * 16 ≤ ixZ b o ∧ ixZ b o < hi * 16 := fun o => ⟨by rw [ixZ_eq]; split <;> omega, ixZ_lt h2⟩
  cases x with
  | rd b' o v => cases hx; have := (apartNew_spec hn (key o).1 (key o).2).1; rw [show f.r.testBit (ixZ b o) = true from h] at this; cases this
  | wr b' o v => cases hx; have := (apartNew_spec hn (key o).1 (key o).2).2; rw [show f.w.testBit (ixZ b o) = true from h] at this; cases this
  | nw => cases hx
  | mv a b' ty n cs => cases hx; have := (apartNew_spec (i := b * 16 + 0) hn (by omega) (by omega)).2; rw [h 0 (by omega)] at this; cases this
theorem apartZ {a1 b1 a2 b2 : Nat} {f g : Fz} {t u : List Ac} (h : AllZ a1 a1 b1 f t) (k : AllZ a2 a2 b2 g u) (hab : b1 ≤ a2) (hn : clashZ f g = true) (hg : apartNew a1 b1 g = true) : AllApart t u := by
  intro x hx y hy
  obtain ⟨x1, x2⟩ := h x hx
  obtain ⟨y1, y2⟩ := k y hy
  have both : ∀ b, x.old = some b → y.old = some b → ToldZ f x ∧ ToldZ g y := by
    intro b hbx hby
    obtain ⟨q1, q2⟩ := x1 b hbx
    have ty := (y1 b hby).2 (by omega)
    rcases Nat.lt_or_ge b a1 with h1 | h1
    · exact ⟨q2 h1, ty⟩
    · exact (toldZ_in ty hby h1 q1 hg).elim
  have fresh_old : ∀ bx by_, x.fresh = some bx → y.old = some by_ → by_ ≠ bx := by
    intro bx by_ hbx hby e
    subst e
    obtain ⟨q1, q2⟩ := x2 by_ hbx
    exact toldZ_in ((y1 by_ hby).2 (by omega)) hby q1 q2 hg
  have old_fresh : ∀ bx by_, x.old = some bx → y.fresh = some by_ → bx ≠ by_ := by
    intro bx by_ hbx hby e
    have := (x1 bx hbx).1
    have := (y2 by_ hby).1
    omega
  have fresh_fresh : ∀ bx by_, x.fresh = some bx → y.fresh = some by_ → bx ≠ by_ := by
    intro bx by_ hbx hby e
    have := (x2 bx hbx).2
    have := (y2 by_ hby).1
    omega
  have mvx : ∀ (a b : Nat) (ty : TypeId × Nat) (n : Nat) (cs : List Value), x = .mv a b ty n cs → y.old ≠ some a := by
    intro a b ty n cs e hy2
    subst e
    obtain ⟨p1, p2⟩ := both a rfl hy2
    have hc := fun j (hj : j < 16) => (clashZ_spec hn (a * 16 + j)).1 (p1 j hj)
    have hlt : ∀ o, (if o < 15 then o else 15) < 16 := fun o => by split <;> omega
    cases y with
    | rd b' o v => cases hy2; have := (hc _ (hlt o)).1; rw [← ixZ_eq, show g.r.testBit (ixZ a o) = true from p2] at this; cases this
    | wr b' o v => cases hy2; have := (hc _ (hlt o)).2; rw [← ixZ_eq, show g.w.testBit (ixZ a o) = true from p2] at this; cases this
    | nw => cases hy2
    | mv a' b' ty' n' cs' => cases hy2; have := (hc 0 (by omega)).2; rw [p2 0 (by omega)] at this; cases this
  have mvy : ∀ (a b : Nat) (ty : TypeId × Nat) (n : Nat) (cs : List Value), y = .mv a b ty n cs → x.old ≠ some a := by
    intro a b ty n cs e hx2
    subst e
    obtain ⟨p1, p2⟩ := both a hx2 rfl
    have hlt : ∀ o, (if o < 15 then o else 15) < 16 := fun o => by split <;> omega
    cases x with
    | rd b' o v => cases hx2; have := (clashZ_spec hn (ixZ a o)).2 p1; rw [ixZ_eq, p2 _ (hlt o)] at this; cases this
    | wr b' o v => cases hx2; have := ((clashZ_spec hn (ixZ a o)).1 p1).2; rw [ixZ_eq, p2 _ (hlt o)] at this; cases this
    | nw => cases hx2
    | mv a' b' ty' n' cs' => cases hx2; have := ((clashZ_spec hn (a * 16 + 0)).1 (p1 0 (by omega))).2; rw [p2 0 (by omega)] at this; cases this
  cases x with
  | rd b o v =>
    cases y with
    | rd => trivial
    | wr b' o' v' =>
      by_cases hb : b = b'
      · right
        rintro rfl
        subst hb
        obtain ⟨p1, p2⟩ := both b rfl rfl
        have := (clashZ_spec hn (ixZ b o)).2 p1
        rw [show g.w.testBit (ixZ b o) = true from p2] at this; cases this
      · exact .inl hb
    | nw => exact old_fresh _ _ rfl rfl
    | mv a b' ty n cs => exact ⟨fun e => mvy a b' ty n cs rfl (by rw [← e]; rfl), old_fresh _ _ rfl rfl⟩
  | wr b o v =>
    cases y with
    | rd b' o' v' =>
      by_cases hb : b = b'
      · right
        rintro rfl
        subst hb
        obtain ⟨p1, p2⟩ := both b rfl rfl
        have := ((clashZ_spec hn (ixZ b o)).1 p1).1
        rw [show g.r.testBit (ixZ b o) = true from p2] at this; cases this
      · exact .inl hb
    | wr b' o' v' =>
      by_cases hb : b = b'
      · right
        rintro rfl
        subst hb
        obtain ⟨p1, p2⟩ := both b rfl rfl
        have := ((clashZ_spec hn (ixZ b o)).1 p1).2
        rw [show g.w.testBit (ixZ b o) = true from p2] at this; cases this
      · exact .inl hb
    | nw => exact old_fresh _ _ rfl rfl
    | mv a b' ty n cs => exact ⟨fun e => mvy a b' ty n cs rfl (by rw [← e]; rfl), old_fresh _ _ rfl rfl⟩
  | nw b ty cs =>
    cases y with
    | rd => exact (fresh_old _ _ rfl rfl).symm
    | wr => exact (fresh_old _ _ rfl rfl).symm
    | nw => exact fresh_fresh _ _ rfl rfl
    | mv => exact ⟨(fresh_old _ _ rfl rfl).symm, fresh_fresh _ _ rfl rfl⟩
  | mv a b ty n cs =>
    have h1 : ∀ by_, y.old = some by_ → by_ ≠ a := fun by_ hby e => mvx a b ty n cs rfl (by rw [hby, e])
    cases y with
    | rd => exact ⟨h1 _ rfl, fresh_old _ _ rfl rfl⟩
    | wr => exact ⟨h1 _ rfl, fresh_old _ _ rfl rfl⟩
    | nw => exact ⟨(old_fresh _ _ rfl rfl).symm, (fresh_fresh _ _ rfl rfl).symm⟩
    | mv => exact ⟨(h1 _ rfl).symm, old_fresh _ _ rfl rfl, (fresh_old _ _ rfl rfl).symm, fresh_fresh _ _ rfl rfl⟩

/-- Blocks looked up fast. -/
def oneZ (v : Value) : Bool := Value.rec (motive_1 := fun _ => Bool) (motive_2 := fun _ => Unit) (motive_3 := fun _ => Unit) (fun _ => true) (fun _ _ => true) (fun _ _ => true) (fun _ _ _ => true) (fun _ => true) (fun _ => true) (fun _ _ _ => true) (fun _ => true) (fun _ => true) (fun _ _ _ _ _ => true) true (fun _ _ _ => true) true (fun _ _ => false) (fun _ _ => false) (fun _ _ => ()) () (fun _ _ _ _ => ()) v
theorem oneZ_eq (v : Value) : oneZ v = one v := by cases v <;> rfl
def allOne (l : List Value) : Bool := List.rec (motive := fun _ => Bool) true (fun v _ ih => Bool.rec (motive := fun _ => Bool) false ih (oneZ v)) l
theorem allOne_eq : ∀ l : List Value, allOne l = l.all one
  | [] => rfl
  | v :: l => by
    show Bool.rec (motive := fun _ => Bool) false (allOne l) (oneZ v) = _
    rw [allOne_eq l, oneZ_eq, List.all_cons]
    cases one v <;> rfl
def lenZ {α : Type} (l : List α) : Nat := List.rec (motive := fun _ => Nat) 0 (fun _ _ ih => Nat.succ ih) l
theorem lenZ_eq {α : Type} : ∀ l : List α, lenZ l = l.length
  | [] => rfl
  | v :: l => by show Nat.succ (lenZ l) = _; rw [lenZ_eq l]; rfl
def rowZ (l : List Value) : Nat → Tr Value → Tr Value := List.rec (motive := fun _ => Nat → Tr Value → Tr Value) (fun _ t => t) (fun v _ ih o t => ih (Nat.succ o) (Tr.set 30 t o v)) l
theorem rowZ_eq : ∀ (l : List Value) (o : Nat) (t : Tr Value), rowZ l o t = Tr.row t o l
  | [], _, _ => rfl
  | _ :: l, o, _ => rowZ_eq l (o + 1) _
def Hs.bk (h : Hs) (b : Nat) : Option Bk := Bool.rec (motive := fun _ => Option Bk) none (Option.rec (motive := fun _ => Option Bk) none (fun x => x) (Tr.get 30 h.m b)) (Nat.blt b h.nx)
def cellZ (h : Hs) (b o : Nat) : Option Value := Option.rec (motive := fun _ => Option Value) none (fun k => Tr.get 30 k.cells o) (h.bk b)
theorem cellZ_eq (h : Hs) (b o : Nat) : cellZ h b o = h.cell b o := by
  unfold cellZ Hs.cell Hs.bk
  cases Nat.blt b h.nx with
  | false => rfl
  | true =>
    cases Tr.get 30 h.m b with
    | none => rfl
    | some x => cases x <;> rfl
def putZ (h : Hs) (b o : Nat) (v : Value) : Option Hs := Option.rec (motive := fun _ => Option Hs) none (fun k => Bk.rec (motive := fun _ => Option Hs) (fun ty cells len mc => Bool.rec (motive := fun _ => Option Hs) none (Bool.rec (motive := fun _ => Option Hs) none (Bool.rec (motive := fun _ => Option Hs) (Hs.rec (motive := fun _ => Option Hs) (fun m nx => some ⟨Tr.set 30 m b (some ⟨ty, Tr.set 30 cells o v, len, mc⟩), nx⟩) h) none (Nat.beq ty.2 ro)) (oneZ v)) (Nat.blt o len)) k) (h.bk b)
theorem putZ_eq (h : Hs) (b o : Nat) (v : Value) : putZ h b o v = h.put b o v := by
  unfold putZ Hs.put Hs.bk
  cases Nat.blt b h.nx with
  | false => rfl
  | true =>
    cases Tr.get 30 h.m b with
    | none => rfl
    | some x =>
      cases x with
      | none => rfl
      | some k =>
        simp only
        cases Nat.blt o k.len with
        | false => rfl
        | true =>
          rw [oneZ_eq]
          simp only
          cases one v <;> cases Nat.beq k.ty.2 ro <;> rfl
def newZ (h : Hs) (ty : TypeId × Nat) (cs : List Value) : Option Hs := Hs.rec (motive := fun _ => Option Hs) (fun m nx => Bool.rec (motive := fun _ => Option Hs) none (Bool.rec (motive := fun _ => Option Hs) none (Bool.rec (motive := fun _ => Option Hs) none (some ⟨Tr.set 30 m nx (some ⟨ty, rowZ cs 0 .e, lenZ cs, m0⟩), Nat.succ nx⟩) (Bool.rec (motive := fun _ => Bool) (allOne cs) false (Nat.beq ty.2 mp))) (Nat.blt (Nat.add (lenZ cs) 3) lim)) (Nat.blt (Nat.add nx 3) lim)) h
theorem newZ_eq (h : Hs) (ty : TypeId × Nat) (cs : List Value) : newZ h ty cs = h.new ty cs := by
  obtain ⟨m, nx⟩ := h
  unfold newZ Hs.new
  simp only
  unfold okNew
  rw [allOne_eq, lenZ_eq, rowZ_eq]
  rw [show Nat.add cs.length 3 = cs.length + 3 from rfl, show Nat.add nx 3 = nx + 3 from rfl]
  cases Nat.blt (nx + 3) lim <;> cases Nat.blt (cs.length + 3) lim <;> cases Nat.beq ty.2 mp <;> cases cs.all one <;> rfl
end
end Go.Proofs.YtjeplkbdgphfoaaDoor
