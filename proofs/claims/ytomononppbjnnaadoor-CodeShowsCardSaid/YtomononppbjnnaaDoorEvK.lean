/-
  A run that is reckoned over blocks with names of its own: what is touched, single operations reckoned: no function of a program is named here.
-/
import Derived.Test.YtomononppbjnnaaDoorEvJ
namespace Go.Proofs.YtomononppbjnnaaDoor
noncomputable section

/-- What is touched of a block: cells that are read, cells that are written (bit by bit), the block that ends. -/
structure Fe where
  b : Nat
  r : Nat
  w : Nat
  k : Bool
abbrev Fo := List Fe
def Fo.add : Fo → Nat → Nat → Nat → Bool → Fo
  | [], b, r, w, k => [⟨b, r, w, k⟩]
  | f :: l, b, r, w, k => match Nat.beq f.b b with
    | true => ⟨b, Nat.lor f.r r, Nat.lor f.w w, or f.k k⟩ :: l
    | false => f :: Fo.add l b r w k
def Fo.join : Fo → Fo → Fo
  | φ, [] => φ
  | φ, f :: l => Fo.join (φ.add f.b f.r f.w f.k) l
/-- Those of blocks that stood ahead. -/
def Fo.cut (thr : Nat) : Fo → Fo
  | [] => []
  | f :: l => match Nat.blt f.b thr with
    | true => f :: Fo.cut thr l
    | false => Fo.cut thr l

/-- A deed is told of. -/
def Told (φ : Fo) : Ac → Prop
  | .rd b o _ => ∃ f ∈ φ, f.b = b ∧ f.r.testBit o = true
  | .wr b o _ => ∃ f ∈ φ, f.b = b ∧ f.w.testBit o = true
  | .nw _ _ _ => True
  | .mv a _ _ _ _ => ∃ f ∈ φ, f.b = a ∧ f.k = true
def Sub (φ ψ : Fo) : Prop := ∀ a, Told φ a → Told ψ a
theorem Sub.refl (φ : Fo) : Sub φ φ := fun _ h => h
theorem Sub.trans {φ ψ χ : Fo} (h : Sub φ ψ) (k : Sub ψ χ) : Sub φ χ := fun a x => k a (h a x)

theorem add_keeps (φ : Fo) (b r w : Nat) (k : Bool) : (∀ f ∈ φ, ∃ g ∈ φ.add b r w k, g.b = f.b ∧ (∀ o, f.r.testBit o = true → g.r.testBit o = true) ∧ (∀ o, f.w.testBit o = true → g.w.testBit o = true) ∧ (f.k = true → g.k = true)) ∧
    ∃ g ∈ φ.add b r w k, g.b = b ∧ (∀ o, r.testBit o = true → g.r.testBit o = true) ∧ (∀ o, w.testBit o = true → g.w.testBit o = true) ∧ (k = true → g.k = true) := by
  induction φ with
  | nil => exact ⟨fun f hf => (by cases hf), ⟨b, r, w, k⟩, List.mem_cons_self, rfl, fun _ h => h, fun _ h => h, fun h => h⟩
  | cons f l ih =>
    simp only [Fo.add]
    cases hb : Nat.beq f.b b with
    | true =>
      have hb := Nat.eq_of_beq_eq_true hb
      have e1 : ∀ x y o, (Nat.lor x y).testBit o = (x.testBit o || y.testBit o) := fun x y o => Nat.testBit_or x y o
      refine ⟨fun g hg => ?_, ⟨_, List.mem_cons_self, rfl, fun o h => by simp only [e1, h, Bool.or_true], fun o h => by simp only [e1, h, Bool.or_true], fun h => by simp only [h, Bool.or_true]⟩⟩
      rcases List.mem_cons.1 hg with rfl | hg
      · exact ⟨_, List.mem_cons_self, hb.symm, fun o h => by simp only [e1, h, Bool.true_or], fun o h => by simp only [e1, h, Bool.true_or], fun h => by simp only [h, Bool.true_or]⟩
      · exact ⟨g, List.mem_cons_of_mem _ hg, rfl, fun _ h => h, fun _ h => h, fun h => h⟩
    | false =>
      refine ⟨fun g hg => ?_, ?_⟩
      · rcases List.mem_cons.1 hg with rfl | hg
        · exact ⟨_, List.mem_cons_self, rfl, fun _ h => h, fun _ h => h, fun h => h⟩
        · obtain ⟨g', h1, h2⟩ := ih.1 g hg
          exact ⟨g', List.mem_cons_of_mem _ h1, h2⟩
      · obtain ⟨g', h1, h2⟩ := ih.2
        exact ⟨g', List.mem_cons_of_mem _ h1, h2⟩
theorem Sub.add (φ : Fo) (b r w : Nat) (k : Bool) : Sub φ (φ.add b r w k) := by
  intro a h
  obtain ⟨h1, _⟩ := add_keeps φ b r w k
  cases a with
  | rd b' o v => obtain ⟨f, hf, e1, e2⟩ := h; obtain ⟨g, hg, e3, e4, e5, e6⟩ := h1 f hf; exact ⟨g, hg, e3.trans e1, e4 o e2⟩
  | wr b' o v => obtain ⟨f, hf, e1, e2⟩ := h; obtain ⟨g, hg, e3, e4, e5, e6⟩ := h1 f hf; exact ⟨g, hg, e3.trans e1, e5 o e2⟩
  | nw b' ty cs => trivial
  | mv a' b' ty n cs => obtain ⟨f, hf, e1, e2⟩ := h; obtain ⟨g, hg, e3, e4, e5, e6⟩ := h1 f hf; exact ⟨g, hg, e3.trans e1, e6 e2⟩
theorem join_left (φ ψ : Fo) : Sub φ (φ.join ψ) := by
  induction ψ generalizing φ with
  | nil => exact Sub.refl φ
  | cons f l ih => exact (Sub.add φ _ _ _ _).trans (ih _)
theorem join_right (φ ψ : Fo) : Sub ψ (φ.join ψ) := by
  induction ψ generalizing φ with
  | nil =>
    intro a h
    cases a with
    | nw => trivial
    | rd => obtain ⟨f, hf, _⟩ := h; cases hf
    | wr => obtain ⟨f, hf, _⟩ := h; cases hf
    | mv => obtain ⟨f, hf, _⟩ := h; cases hf
  | cons f l ih =>
    intro a h
    obtain ⟨g, hg, e3, e4, e5, e6⟩ := (add_keeps φ f.b f.r f.w f.k).2
    have here : Told [f] a → Told ((φ.add f.b f.r f.w f.k).join l) a := fun h => join_left _ l a (by
      cases a with
      | rd b' o v => obtain ⟨f', hf, e1, e2⟩ := h; obtain rfl := List.mem_singleton.1 hf; exact ⟨g, hg, e3.trans e1, e4 o e2⟩
      | wr b' o v => obtain ⟨f', hf, e1, e2⟩ := h; obtain rfl := List.mem_singleton.1 hf; exact ⟨g, hg, e3.trans e1, e5 o e2⟩
      | nw b' ty cs => trivial
      | mv a' b' ty n cs => obtain ⟨f', hf, e1, e2⟩ := h; obtain rfl := List.mem_singleton.1 hf; exact ⟨g, hg, e3.trans e1, e6 e2⟩)
    have there : Told l a → Told ((φ.add f.b f.r f.w f.k).join l) a := ih (φ.add f.b f.r f.w f.k) a
    cases a with
    | nw => trivial
    | rd b' o v =>
      obtain ⟨f', hf, e1⟩ := h
      rcases List.mem_cons.1 hf with rfl | hf
      · exact here ⟨_, List.mem_singleton.2 rfl, e1⟩
      · exact there ⟨f', hf, e1⟩
    | wr b' o v =>
      obtain ⟨f', hf, e1⟩ := h
      rcases List.mem_cons.1 hf with rfl | hf
      · exact here ⟨_, List.mem_singleton.2 rfl, e1⟩
      · exact there ⟨f', hf, e1⟩
    | mv a' b' ty n cs =>
      obtain ⟨f', hf, e1⟩ := h
      rcases List.mem_cons.1 hf with rfl | hf
      · exact here ⟨_, List.mem_singleton.2 rfl, e1⟩
      · exact there ⟨f', hf, e1⟩
theorem mem_cut {thr : Nat} {φ : Fo} {f : Fe} (h : f ∈ φ) (hb : f.b < thr) : f ∈ φ.cut thr := by
  induction φ with
  | nil => cases h
  | cons g l ih =>
    simp only [Fo.cut]
    rcases List.mem_cons.1 h with rfl | h
    · rw [show Nat.blt f.b thr = true by simpa [Nat.blt_eq] using hb]; exact List.mem_cons_self
    · cases Nat.blt g.b thr
      · exact ih h
      · exact List.mem_cons_of_mem _ (ih h)

/-- The block that a deed touches and that must have been there. -/
def Ac.old : Ac → Option Nat
  | .rd b _ _ => some b
  | .wr b _ _ => some b
  | .nw _ _ _ => none
  | .mv a _ _ _ _ => some a
def Ac.fresh : Ac → Option Nat
  | .nw b _ _ => some b
  | .mv _ b _ _ _ => some b
  | _ => none
theorem told_cut {thr : Nat} {φ : Fo} {a : Ac} (h : Told φ a) (hb : ∀ b, a.old = some b → b < thr) : Told (φ.cut thr) a := by
  cases a with
  | nw => trivial
  | rd b o v => obtain ⟨f, hf, e1, e2⟩ := h; exact ⟨f, mem_cut hf (by rw [e1]; exact hb b rfl), e1, e2⟩
  | wr b o v => obtain ⟨f, hf, e1, e2⟩ := h; exact ⟨f, mem_cut hf (by rw [e1]; exact hb b rfl), e1, e2⟩
  | mv a b ty n cs => obtain ⟨f, hf, e1, e2⟩ := h; exact ⟨f, mem_cut hf (by rw [e1]; exact hb a rfl), e1, e2⟩

/-- All that is done to blocks that stood ahead is told of; new blocks have names from lo to hi. -/
def All (lo hi : Nat) (φ : Fo) (t : List Ac) : Prop := ∀ a ∈ t, (∀ b, a.old = some b → b < hi ∧ (b < lo → Told φ a)) ∧ (∀ b, a.fresh = some b → lo ≤ b ∧ b < hi)
theorem All.nil (lo hi : Nat) (φ : Fo) : All lo hi φ [] := fun a h => by cases h
theorem All.more {lo hi hi' : Nat} {φ ψ : Fo} {t : List Ac} (h : All lo hi φ t) (hh : hi ≤ hi') (hs : Sub φ ψ) : All lo hi' ψ t := fun a ha =>
  ⟨fun b hb => ⟨Nat.lt_of_lt_of_le ((h a ha).1 b hb).1 hh, fun hl => hs a (((h a ha).1 b hb).2 hl)⟩, fun b hb => ⟨((h a ha).2 b hb).1, Nat.lt_of_lt_of_le ((h a ha).2 b hb).2 hh⟩⟩
theorem All.append {lo hi : Nat} {φ : Fo} {t u : List Ac} (h : All lo hi φ t) (k : All lo hi φ u) : All lo hi φ (t ++ u) := fun a ha => by
  rcases List.mem_append.1 ha with h1 | h1
  · exact h a h1
  · exact k a h1

def Fo.rdo (φ : Fo) (thr b o : Nat) : Fo := match Nat.blt b thr with
  | true => φ.add b (Nat.shiftLeft 1 o) 0 false
  | false => φ
def Fo.wro (φ : Fo) (thr b o : Nat) : Fo := match Nat.blt b thr with
  | true => φ.add b 0 (Nat.shiftLeft 1 o) false
  | false => φ
def Fo.klo (φ : Fo) (thr b : Nat) : Fo := match Nat.blt b thr with
  | true => φ.add b 0 0 true
  | false => φ
theorem bit_self (o : Nat) : (Nat.shiftLeft 1 o).testBit o = true := by
  have : (1 <<< o).testBit o = true := by rw [Nat.testBit_shiftLeft]; simp
  exact this
theorem rdo_sub (φ : Fo) (thr b o : Nat) : Sub φ (φ.rdo thr b o) := by
  unfold Fo.rdo; split
  · exact Sub.add _ _ _ _ _
  · exact Sub.refl _
theorem wro_sub (φ : Fo) (thr b o : Nat) : Sub φ (φ.wro thr b o) := by
  unfold Fo.wro; split
  · exact Sub.add _ _ _ _ _
  · exact Sub.refl _
theorem klo_sub (φ : Fo) (thr b : Nat) : Sub φ (φ.klo thr b) := by
  unfold Fo.klo; split
  · exact Sub.add _ _ _ _ _
  · exact Sub.refl _
theorem rdo_told {φ : Fo} {thr b o : Nat} {v : Value} (h : b < thr) : Told (φ.rdo thr b o) (.rd b o v) := by
  unfold Fo.rdo
  rw [show Nat.blt b thr = true by simpa [Nat.blt_eq] using h]
  obtain ⟨g, hg, e3, e4, _⟩ := (add_keeps φ b (Nat.shiftLeft 1 o) 0 false).2
  exact ⟨g, hg, e3, e4 o (bit_self o)⟩
theorem wro_told {φ : Fo} {thr b o : Nat} {v : Value} (h : b < thr) : Told (φ.wro thr b o) (.wr b o v) := by
  unfold Fo.wro
  rw [show Nat.blt b thr = true by simpa [Nat.blt_eq] using h]
  obtain ⟨g, hg, e3, _, e5, _⟩ := (add_keeps φ b 0 (Nat.shiftLeft 1 o) false).2
  exact ⟨g, hg, e3, e5 o (bit_self o)⟩
theorem klo_told {φ : Fo} {thr a b n : Nat} {ty : TypeId × Nat} {cs : List Value} (h : a < thr) : Told (φ.klo thr a) (.mv a b ty n cs) := by
  unfold Fo.klo
  rw [show Nat.blt a thr = true by simpa [Nat.blt_eq] using h]
  obtain ⟨g, hg, e3, _, _, e6⟩ := (add_keeps φ a 0 0 true).2
  exact ⟨g, hg, e3, e6 rfl⟩

/-- An operation, reckoned. -/
def runP (thr : Nat) : Prog → Hs → Fo → Option (Out × Hs × Fo)
  | .val v, h, φ => some (.val v, h, φ)
  | .skip, h, φ => some (.skip, h, φ)
  | .enter f l, h, φ => some (.enter f l, h, φ)
  | .fail, _, _ => none
  | .rd b o k, h, φ => match h.cell b o with
    | some v => runP thr (k v) h (φ.rdo thr b o)
    | none => none
  | .wr b o v k, h, φ => match h.put b o v with
    | some h' => runP thr k h' (φ.wro thr b o)
    | none => none
  | .nw ty cs k, h, φ => match h.new ty cs with
    | some h' => runP thr (k h.nx) h' φ
    | none => none
  | .mv a ty n cs k, h, φ => match h.mv a ty n cs with
    | some h' => runP thr (k h.nx) h' (φ.klo thr a)
    | none => none

theorem runP_sound {thr : Nat} : ∀ {p : Prog} {h h' : Hs} {φ φ' : Fo} {r : Out}, h.Inv → thr ≤ h.nx → runP thr p h φ = some (r, h', φ') →
    ∃ t, PR p t r ∧ Valid h.den t ∧ apps h.den t = h'.den ∧ h'.Inv ∧ h.nx ≤ h'.nx ∧ Sub φ φ' ∧ All thr h'.nx φ' t
  | .val v, h, h', φ, φ', r, hi, _, e => by cases e; exact ⟨[], .val v, trivial, rfl, hi, Nat.le_refl _, Sub.refl _, All.nil _ _ _⟩
  | .skip, h, h', φ, φ', r, hi, _, e => by cases e; exact ⟨[], .skip, trivial, rfl, hi, Nat.le_refl _, Sub.refl _, All.nil _ _ _⟩
  | .enter f l, h, h', φ, φ', r, hi, _, e => by cases e; exact ⟨[], .enter f l, trivial, rfl, hi, Nat.le_refl _, Sub.refl _, All.nil _ _ _⟩
  | .fail, h, h', φ, φ', r, _, _, e => by cases e
  | .rd b o k, h, h', φ, φ', r, hi, ht, e => by
    simp only [runP] at e
    cases hc : h.cell b o with
    | none => rw [hc] at e; cases e
    | some v =>
      rw [hc] at e
      obtain ⟨hk, hb⟩ := Hs.cell_ok hc
      obtain ⟨t, h1, h2, h3, h4, h5, h6, h7⟩ := runP_sound (p := k v) hi ht e
      refine ⟨.rd b o v :: t, .rd h1, ⟨hk, h2⟩, h3, h4, h5, (rdo_sub φ thr b o).trans h6, fun a ha => ?_⟩
      rcases List.mem_cons.1 ha with rfl | ha
      · exact ⟨fun b' hb' => by cases hb'; exact ⟨by omega, fun hl => h6 _ (rdo_told hl)⟩, fun b' hb' => by cases hb'⟩
      · exact h7 a ha
  | .wr b o v k, h, h', φ, φ', r, hi, ht, e => by
    simp only [runP] at e
    cases hc : h.put b o v with
    | none => rw [hc] at e; cases e
    | some h1 =>
      rw [hc] at e
      obtain ⟨hk, hd, hi1, hn, hb⟩ := Hs.put_ok hi hc
      obtain ⟨t, q1, q2, q3, q4, q5, q6, q7⟩ := runP_sound (p := k) hi1 (by omega) e
      refine ⟨.wr b o v :: t, .wr q1, ⟨hk, by rw [hd]; exact q2⟩, by simp only [apps]; rw [hd]; exact q3, q4, by omega, (wro_sub φ thr b o).trans q6, fun a ha => ?_⟩
      rcases List.mem_cons.1 ha with rfl | ha
      · exact ⟨fun b' hb' => by cases hb'; exact ⟨by omega, fun hl => q6 _ (wro_told hl)⟩, fun b' hb' => by cases hb'⟩
      · exact q7 a ha
  | .nw ty cs k, h, h', φ, φ', r, hi, ht, e => by
    simp only [runP] at e
    cases hc : h.new ty cs with
    | none => rw [hc] at e; cases e
    | some h1 =>
      rw [hc] at e
      obtain ⟨hk, hd, hi1, hn⟩ := Hs.new_ok hi hc
      obtain ⟨t, q1, q2, q3, q4, q5, q6, q7⟩ := runP_sound (p := k h.nx) hi1 (by omega) e
      refine ⟨.nw h.nx ty cs :: t, .nw q1, ⟨hk, by rw [hd]; exact q2⟩, by simp only [apps]; rw [hd]; exact q3, q4, by omega, q6, fun a ha => ?_⟩
      rcases List.mem_cons.1 ha with rfl | ha
      · exact ⟨fun b' hb' => (by cases hb'), fun b' hb' => (by cases hb'; exact ⟨ht, by omega⟩)⟩
      · exact q7 a ha
  | .mv a ty n cs k, h, h', φ, φ', r, hi, ht, e => by
    simp only [runP] at e
    cases hc : h.mv a ty n cs with
    | none => rw [hc] at e; cases e
    | some h1 =>
      rw [hc] at e
      obtain ⟨hk, hd, hi1, hn, ha⟩ := Hs.mv_ok hi hc
      obtain ⟨t, q1, q2, q3, q4, q5, q6, q7⟩ := runP_sound (p := k h.nx) hi1 (by omega) e
      refine ⟨.mv a h.nx ty n cs :: t, .mv q1, ⟨hk, by rw [hd]; exact q2⟩, by simp only [apps]; rw [hd]; exact q3, q4, by omega, (klo_sub φ thr a).trans q6, fun a' ha' => ?_⟩
      rcases List.mem_cons.1 ha' with rfl | ha'
      · exact ⟨fun b' hb' => by cases hb'; exact ⟨by omega, fun hl => q6 _ (klo_told hl)⟩, fun b' hb' => by cases hb'; exact ⟨ht, by omega⟩⟩
      · exact q7 a' ha'

/-- Nothing is touched by both, but read. -/
def clash1 (f g : Fe) : Bool := match Nat.beq f.b g.b with
  | true => or (or f.k g.k) (or (!Nat.beq (Nat.land f.w (Nat.lor g.r g.w)) 0) (!Nat.beq (Nat.land f.r g.w) 0))
  | false => false
def noClash : Fo → Fo → Bool
  | [], _ => true
  | f :: l, ψ => match ψ.any (clash1 f) with
    | true => false
    | false => noClash l ψ
def noneIn (lo hi : Nat) : Fo → Bool
  | [] => true
  | f :: l => match Nat.ble lo f.b, Nat.blt f.b hi with
    | true, true => false
    | _, _ => noneIn lo hi l
theorem noneIn_spec {lo hi : Nat} : ∀ {φ : Fo}, noneIn lo hi φ = true → ∀ f ∈ φ, ¬ (lo ≤ f.b ∧ f.b < hi)
  | [], _, f, hf => by cases hf
  | g :: l, h, f, hf => by
    simp only [noneIn] at h
    split at h
    · cases h
    · rename_i h1
      rcases List.mem_cons.1 hf with rfl | hf
      · intro hh
        exact h1 (Nat.ble_eq_true_of_le hh.1) (by simpa [Nat.blt_eq] using hh.2)
      · exact noneIn_spec h f hf
theorem noClash_spec : ∀ {φ ψ : Fo}, noClash φ ψ = true → ∀ f ∈ φ, ∀ g ∈ ψ, f.b = g.b → f.k = false ∧ g.k = false ∧ (∀ o, f.w.testBit o = true → g.r.testBit o = false ∧ g.w.testBit o = false) ∧ (∀ o, f.r.testBit o = true → g.w.testBit o = false)
  | [], ψ, _, f, hf => by cases hf
  | x :: l, ψ, h, f, hf => by
    simp only [noClash] at h
    cases hany : ψ.any (clash1 x) with
    | true => rw [hany] at h; cases h
    | false =>
      rw [hany] at h
      rcases List.mem_cons.1 hf with rfl | hf
      · intro g hg hb
        have h1 := List.any_eq_false.1 hany g hg
        unfold clash1 at h1
        rw [hb, show Nat.beq g.b g.b = true from Nat.beq_refl _] at h1
        simp only [Bool.or_eq_true, not_or, Bool.not_eq_true] at h1
        obtain ⟨⟨k1, k2⟩, k3, k4⟩ := h1
        have e3 : Nat.land f.w (Nat.lor g.r g.w) = 0 := Nat.eq_of_beq_eq_true (by simpa using k3)
        have e4 : Nat.land f.r g.w = 0 := Nat.eq_of_beq_eq_true (by simpa using k4)
        refine ⟨k1, k2, fun o ho => ?_, fun o ho => ?_⟩
        · have := congrArg (fun n => n.testBit o) e3
          have h5 : (f.w &&& (g.r ||| g.w)).testBit o = false := by rw [show f.w &&& (g.r ||| g.w) = 0 from e3]; exact Nat.zero_testBit o
          rw [Nat.testBit_and, Nat.testBit_or, ho, Bool.true_and, Bool.or_eq_false_iff] at h5
          exact h5
        · have h5 : (f.r &&& g.w).testBit o = false := by rw [show f.r &&& g.w = 0 from e4]; exact Nat.zero_testBit o
          rw [Nat.testBit_and, ho, Bool.true_and] at h5
          exact h5
      · exact noClash_spec h f hf

/-- Deeds that do not clash are apart. -/
theorem apart_of {a1 b1 a2 b2 : Nat} {φ ψ : Fo} {t u : List Ac} (h : All a1 b1 φ t) (k : All a2 b2 ψ u) (hab : b1 ≤ a2) (hn : noClash φ ψ = true) (hg : noneIn a1 b1 ψ = true) : AllApart t u := by
  intro x hx y hy
  obtain ⟨x1, x2⟩ := h x hx
  obtain ⟨y1, y2⟩ := k y hy
  -- an old block of y is either told of, or y's own
  have told_ne : ∀ (bx by_ : Nat), x.old = some bx → y.old = some by_ → bx = by_ → Told φ x ∧ Told ψ y ∧ bx < a1 := by
    intro bx by_ hbx hby e
    subst e
    obtain ⟨q1, q2⟩ := x1 bx hbx
    obtain ⟨r1, r2⟩ := y1 bx hby
    have ty := r2 (by omega)
    have hlo : bx < a1 := by
      rcases Nat.lt_or_ge bx a1 with h1 | h1
      · exact h1
      · exfalso
        have key : ∃ f ∈ ψ, f.b = bx := by
          cases y with
          | rd b o v => cases hby; obtain ⟨f, hf, e, _⟩ := ty; exact ⟨f, hf, e⟩
          | wr b o v => cases hby; obtain ⟨f, hf, e, _⟩ := ty; exact ⟨f, hf, e⟩
          | nw => cases hby
          | mv a b ty' n cs => cases hby; obtain ⟨f, hf, e, _⟩ := ty; exact ⟨f, hf, e⟩
        obtain ⟨f, hf, e⟩ := key
        exact noneIn_spec hg f hf ⟨by omega, by omega⟩
    exact ⟨q2 hlo, ty, hlo⟩
  have fresh_old : ∀ bx by_, x.fresh = some bx → y.old = some by_ → by_ ≠ bx := by
    intro bx by_ hbx hby e
    subst e
    obtain ⟨q1, q2⟩ := x2 by_ hbx
    have ty := (y1 by_ hby).2 (by omega)
    have key : ∃ f ∈ ψ, f.b = by_ := by
      cases y with
      | rd b o v => cases hby; obtain ⟨f, hf, e, _⟩ := ty; exact ⟨f, hf, e⟩
      | wr b o v => cases hby; obtain ⟨f, hf, e, _⟩ := ty; exact ⟨f, hf, e⟩
      | nw => cases hby
      | mv a b ty' n cs => cases hby; obtain ⟨f, hf, e, _⟩ := ty; exact ⟨f, hf, e⟩
    obtain ⟨f, hf, e⟩ := key
    exact noneIn_spec hg f hf ⟨by omega, by omega⟩
  have old_fresh : ∀ bx by_, x.old = some bx → y.fresh = some by_ → bx ≠ by_ := by
    intro bx by_ hbx hby e
    have := (x1 bx hbx).1
    have := (y2 by_ hby).1
    omega
  have fresh_fresh : ∀ bx by_, x.fresh = some bx → y.fresh = some by_ → bx ≠ by_ := by
    intro bx by_ hbx hby e
    have := (x2 bx hbx).2
    have := (y2 by_ hby).1
    omega
  have kill : ∀ bx by_ : Nat, x.old = some bx → y.old = some by_ → (∀ f ∈ φ, ∀ g ∈ ψ, f.b = g.b → (Told [f] x → Told [g] y → False)) → bx ≠ by_ := by
    intro bx by_ hbx hby hh e
    obtain ⟨p1, p2, _⟩ := told_ne bx by_ hbx hby e
    have ex : ∃ f ∈ φ, f.b = bx ∧ Told [f] x := by
      cases x with
      | rd b o v => cases hbx; obtain ⟨f, hf, e, q⟩ := p1; exact ⟨f, hf, e, f, List.mem_singleton.2 rfl, e, q⟩
      | wr b o v => cases hbx; obtain ⟨f, hf, e, q⟩ := p1; exact ⟨f, hf, e, f, List.mem_singleton.2 rfl, e, q⟩
      | nw => cases hbx
      | mv a b ty' n cs => cases hbx; obtain ⟨f, hf, e, q⟩ := p1; exact ⟨f, hf, e, f, List.mem_singleton.2 rfl, e, q⟩
    have ey : ∃ f ∈ ψ, f.b = by_ ∧ Told [f] y := by
      cases y with
      | rd b o v => cases hby; obtain ⟨f, hf, e, q⟩ := p2; exact ⟨f, hf, e, f, List.mem_singleton.2 rfl, e, q⟩
      | wr b o v => cases hby; obtain ⟨f, hf, e, q⟩ := p2; exact ⟨f, hf, e, f, List.mem_singleton.2 rfl, e, q⟩
      | nw => cases hby
      | mv a b ty' n cs => cases hby; obtain ⟨f, hf, e, q⟩ := p2; exact ⟨f, hf, e, f, List.mem_singleton.2 rfl, e, q⟩
    obtain ⟨f, hf, e1, e2⟩ := ex
    obtain ⟨g, hg', e3, e4⟩ := ey
    exact hh f hf g hg' (by omega) e2 e4
  have sing : ∀ {f : Fe} {q : Fe → Prop}, (∃ g ∈ [f], q g) → q f := fun ⟨g, hg, h⟩ => by rw [List.mem_singleton.1 hg] at h; exact h
  cases x with
  | rd b o v =>
    cases y with
    | rd => trivial
    | wr b' o' v' =>
      by_cases hb : b = b'
      · right
        rintro rfl
        obtain ⟨⟨f, hf, f1, f2⟩, ⟨g, hg', g1, g2⟩, _⟩ := told_ne b b' rfl rfl hb
        have := (noClash_spec hn f hf g hg' (by omega)).2.2.2 o f2
        rw [g2] at this; cases this
      · exact .inl hb
    | nw => exact old_fresh _ _ rfl rfl
    | mv a b' ty n cs => exact ⟨kill b a rfl rfl (fun f hf g hg' e1 _ q2 => (by
        have h1 := (noClash_spec hn f hf g hg' e1).2.1
        rw [(sing q2).2] at h1; cases h1)), old_fresh _ _ rfl rfl⟩
  | wr b o v =>
    cases y with
    | rd b' o' v' =>
      by_cases hb : b = b'
      · right
        rintro rfl
        obtain ⟨⟨f, hf, f1, f2⟩, ⟨g, hg', g1, g2⟩, _⟩ := told_ne b b' rfl rfl hb
        have := ((noClash_spec hn f hf g hg' (by omega)).2.2.1 o f2).1
        rw [g2] at this; cases this
      · exact .inl hb
    | wr b' o' v' =>
      by_cases hb : b = b'
      · right
        rintro rfl
        obtain ⟨⟨f, hf, f1, f2⟩, ⟨g, hg', g1, g2⟩, _⟩ := told_ne b b' rfl rfl hb
        have := ((noClash_spec hn f hf g hg' (by omega)).2.2.1 o f2).2
        rw [g2] at this; cases this
      · exact .inl hb
    | nw => exact old_fresh _ _ rfl rfl
    | mv a b' ty n cs => exact ⟨kill b a rfl rfl (fun f hf g hg' e1 _ q2 => (by
        have h1 := (noClash_spec hn f hf g hg' e1).2.1
        rw [(sing q2).2] at h1; cases h1)), old_fresh _ _ rfl rfl⟩
  | nw b ty cs =>
    cases y with
    | rd => exact (fresh_old _ _ rfl rfl).symm
    | wr => exact (fresh_old _ _ rfl rfl).symm
    | nw => exact fresh_fresh _ _ rfl rfl
    | mv => exact ⟨(fresh_old _ _ rfl rfl).symm, fresh_fresh _ _ rfl rfl⟩
  | mv a b ty n cs =>
    have h1 : ∀ by_, y.old = some by_ → by_ ≠ a := fun by_ hby e => (kill a by_ rfl hby (fun f hf g hg' e1 q1 _ => (by
      have h1 := (noClash_spec hn f hf g hg' e1).1
      rw [(sing q1).2] at h1; cases h1))) e.symm
    cases y with
    | rd => exact ⟨h1 _ rfl, fresh_old _ _ rfl rfl⟩
    | wr => exact ⟨h1 _ rfl, fresh_old _ _ rfl rfl⟩
    | nw => exact ⟨(old_fresh _ _ rfl rfl).symm, (fresh_fresh _ _ rfl rfl).symm⟩
    | mv => exact ⟨(h1 _ rfl).symm, old_fresh _ _ rfl rfl, (fresh_old _ _ rfl rfl).symm, fresh_fresh _ _ rfl rfl⟩
end
end Go.Proofs.YtomononppbjnnaaDoor
