/-
  Slices as they lie in memory, and the types of a program: no function of the program is named here.
-/
import Derived.Test.YtjeplkbdgphfoaaDoorBase
namespace Go.Proofs.YtjeplkbdgphfoaaDoor
open Go.RowKit

/-- A slice value reads as xs: sz cells an element, in a block of G. -/
def SlAt {α : Type} (w : World) (G : Nat → Prop) (sz : Nat) (C : α → List Value → Prop) (v : Value) (xs : List α) : Prop :=
  ∃ A c, v = .slice A xs.length c ∧ xs.length ≤ c ∧ c ≤ 9223372036854775807 ∧
    (xs ≠ [] → ∃ b o, A = some ⟨b, o, none⟩ ∧ G b ∧ b < w.heap.size ∧
      ∀ (j : Nat) (x : α), xs[j]? = some x → ∃ cs, C x cs ∧ cs.length = sz ∧ ∀ i u, cs[i]? = some u → w.cell? ⟨b, o + j * sz + i, none⟩ = some u)

/-- The same, laid out for a walk: an address, a capacity. -/
structure SlP {α : Type} (w : World) (G : Nat → Prop) (sz : Nat) (C : α → List Value → Prop) (A : Option Addr) (c : Nat) (xs : List α) : Prop where
  le : xs.length ≤ c
  big : c ≤ 9223372036854775807
  at_ : xs ≠ [] → ∃ b o, A = some ⟨b, o, none⟩ ∧ G b ∧ b < w.heap.size ∧
      ∀ (j : Nat) (x : α), xs[j]? = some x → ∃ cs, C x cs ∧ cs.length = sz ∧ ∀ i u, cs[i]? = some u → w.cell? ⟨b, o + j * sz + i, none⟩ = some u

section
variable {α : Type} {w w' : World} {G G' S : Nat → Prop} {sz : Nat} {C C' : α → List Value → Prop} {v : Value} {A : Option Addr} {c : Nat} {xs : List α}

theorem SlAt.parts (h : SlAt w G sz C v xs) : ∃ A c, v = .slice A xs.length c ∧ SlP w G sz C A c xs := by
  obtain ⟨A, c, e, h1, h2, h3⟩ := h
  exact ⟨A, c, e, h1, h2, h3⟩
theorem SlP.whole (h : SlP w G sz C A c xs) : SlAt w G sz C (.slice A xs.length c) xs := ⟨A, c, rfl, h.le, h.big, h.at_⟩

theorem SlP.kept (h : SlP w G sz C A c xs) (hf : Fr S w w') (hG : ∀ b, G b → ¬ S b) (hG' : ∀ b, G b → G' b) (hC : ∀ x ∈ xs, ∀ cs, C x cs → C' x cs) : SlP w' G' sz C' A c xs :=
  ⟨h.le, h.big, fun hne => by
    obtain ⟨b, o, e, hb, hlt, hx⟩ := h.at_ hne
    refine ⟨b, o, e, hG' b hb, Nat.lt_of_lt_of_le hlt hf.size, fun j x hj => ?_⟩
    obtain ⟨cs, hc, hl, hcell⟩ := hx j x hj
    exact ⟨cs, hC x (List.mem_of_getElem? hj) cs hc, hl, fun i u hu => (hf.cell (p := ⟨b, o + j * sz + i, none⟩) hlt (hG b hb)).trans (hcell i u hu)⟩⟩
theorem SlAt.kept (h : SlAt w G sz C v xs) (hf : Fr S w w') (hG : ∀ b, G b → ¬ S b) (hG' : ∀ b, G b → G' b) (hC : ∀ x ∈ xs, ∀ cs, C x cs → C' x cs) : SlAt w' G' sz C' v xs := by
  obtain ⟨A, c, rfl, hp⟩ := h.parts
  exact (hp.kept hf hG hG' hC).whole

/-- One element, in its cells. -/
theorem SlP.elem (h : SlP w G sz C A c xs) {k : Nat} (hk : k < xs.length) : ∃ b o cs, A = some ⟨b, o, none⟩ ∧ G b ∧ b < w.heap.size ∧ C xs[k] cs ∧ cs.length = sz ∧
    ∀ i u, cs[i]? = some u → w.cell? ⟨b, o + k * sz + i, none⟩ = some u := by
  obtain ⟨b, o, e, hb, hlt, hx⟩ := h.at_ (by intro h0; subst h0; simp at hk)
  obtain ⟨cs, hc, hl, hcell⟩ := hx k xs[k] (List.getElem?_eq_getElem hk)
  exact ⟨b, o, cs, e, hb, hlt, hc, hl, hcell⟩

theorem SlP.none_ : SlP w G sz C none 0 ([] : List α) := ⟨Nat.le_refl _, by decide, fun h => absurd rfl h⟩

/-- The first k elements. -/
theorem SlP.front (h : SlP w G sz C A c xs) (k : Nat) (hk : k ≤ xs.length) : SlP w G sz C A c (xs.take k) :=
  ⟨by rw [List.length_take]; have := h.le; omega, h.big, fun hne => by
    obtain ⟨b, o, e, hb, hlt, hx⟩ := h.at_ (by rintro rfl; simp at hne)
    refine ⟨b, o, e, hb, hlt, fun j x hj => hx j x ?_⟩
    rw [List.getElem?_take] at hj
    split at hj
    · exact hj
    · cases hj⟩
end

abbrev Up : World → World → Prop := Fr (fun _ => False)

section
variable {w w' : World} {G G' S : Nat → Prop} {sz : Nat} {v : Value} {A : Option Addr} {c : Nat}

def IntC (x : Int) (cs : List Value) : Prop := cs = [.int .i64 x]
abbrev IntsP (w : World) (G : Nat → Prop) := SlP w G 1 IntC
abbrev IntsAt (w : World) (G : Nat → Prop) := SlAt w G 1 IntC
theorem SlP.int {xs : List Int} (h : IntsP w G A c xs) {k : Nat} (hk : k < xs.length) : ∃ b o, A = some ⟨b, o, none⟩ ∧ G b ∧ w.cell? ⟨b, o + k, none⟩ = some (.int .i64 xs[k]) := by
  obtain ⟨b, o, cs, e, hb, _, rfl, _, hc⟩ := h.elem hk
  exact ⟨b, o, e, hb, by have := hc 0 _ rfl; simpa using this⟩

structure Fld where
  name : ByteArray
  type : Int

def FldC (x : Fld) (cs : List Value) : Prop := cs = [.string x.name, .int .i64 x.type] ∧ x.name.size ≤ 9223372036854775807
abbrev FldsP (w : World) (G : Nat → Prop) := SlP w G 2 FldC
abbrev FldsAt (w : World) (G : Nat → Prop) := SlAt w G 2 FldC
theorem SlP.fld {xs : List Fld} (h : FldsP w G A c xs) {k : Nat} (hk : k < xs.length) : ∃ b o, A = some ⟨b, o, none⟩ ∧ G b ∧
    w.cell? ⟨b, o + k * 2, none⟩ = some (.string xs[k].name) ∧ w.cell? ⟨b, o + k * 2 + 1, none⟩ = some (.int .i64 xs[k].type) := by
  obtain ⟨b, o, cs, e, hb, _, ⟨rfl, _⟩, _, hc⟩ := h.elem hk
  exact ⟨b, o, e, hb, hc 0 _ rfl, hc 1 _ rfl⟩

structure Mth where
  name : ByteArray
  params : List Int
  result : Int
  func : Int

def MthC (w : World) (G : Nat → Prop) (x : Mth) (cs : List Value) : Prop := ∃ vp, cs = [.string x.name, vp, .int .i64 x.result, .int .i64 x.func] ∧ IntsAt w G vp x.params ∧ x.name.size ≤ 9223372036854775807
abbrev MthsP (w : World) (G : Nat → Prop) := SlP w G 4 (MthC w G)
abbrev MthsAt (w : World) (G : Nat → Prop) := SlAt w G 4 (MthC w G)
theorem SlP.mth {xs : List Mth} (h : MthsP w G A c xs) {k : Nat} (hk : k < xs.length) : ∃ b o Ap cp, A = some ⟨b, o, none⟩ ∧ G b ∧ IntsP w G Ap cp xs[k].params ∧
    w.cell? ⟨b, o + k * 4, none⟩ = some (.string xs[k].name) ∧ w.cell? ⟨b, o + k * 4 + 1, none⟩ = some (.slice Ap xs[k].params.length cp) ∧
    w.cell? ⟨b, o + k * 4 + 2, none⟩ = some (.int .i64 xs[k].result) ∧ w.cell? ⟨b, o + k * 4 + 3, none⟩ = some (.int .i64 xs[k].func) := by
  obtain ⟨b, o, cs, e, hb, _, ⟨vp, rfl, hp, _⟩, _, hc⟩ := h.elem hk
  obtain ⟨Ap, cp, rfl, qp⟩ := hp.parts
  exact ⟨b, o, Ap, cp, e, hb, qp, hc 0 _ rfl, hc 1 _ rfl, hc 2 _ rfl, hc 3 _ rfl⟩

theorem IntsAt.kept {xs : List Int} (h : IntsAt w G v xs) (hf : Fr S w w') (hG : ∀ b, G b → ¬ S b) (hG' : ∀ b, G b → G' b) : IntsAt w' G' v xs := SlAt.kept h hf hG hG' (fun _ _ _ h => h)
theorem IntsP.kept {xs : List Int} (h : IntsP w G A c xs) (hf : Fr S w w') (hG : ∀ b, G b → ¬ S b) (hG' : ∀ b, G b → G' b) : IntsP w' G' A c xs := SlP.kept h hf hG hG' (fun _ _ _ h => h)
theorem FldsAt.kept {xs : List Fld} (h : FldsAt w G v xs) (hf : Fr S w w') (hG : ∀ b, G b → ¬ S b) (hG' : ∀ b, G b → G' b) : FldsAt w' G' v xs := SlAt.kept h hf hG hG' (fun _ _ _ h => h)
theorem FldsP.kept {xs : List Fld} (h : FldsP w G A c xs) (hf : Fr S w w') (hG : ∀ b, G b → ¬ S b) (hG' : ∀ b, G b → G' b) : FldsP w' G' A c xs := SlP.kept h hf hG hG' (fun _ _ _ h => h)
theorem MthC.kept {x : Mth} {cs : List Value} (h : MthC w G x cs) (hf : Fr S w w') (hG : ∀ b, G b → ¬ S b) (hG' : ∀ b, G b → G' b) : MthC w' G' x cs := by
  obtain ⟨vp, e, hp, hn⟩ := h
  exact ⟨vp, e, IntsAt.kept hp hf hG hG', hn⟩
theorem MthsAt.kept {xs : List Mth} (h : MthsAt w G v xs) (hf : Fr S w w') (hG : ∀ b, G b → ¬ S b) (hG' : ∀ b, G b → G' b) : MthsAt w' G' v xs := SlAt.kept h hf hG hG' (fun _ _ _ h => MthC.kept h hf hG hG')
theorem MthsP.kept {xs : List Mth} (h : MthsP w G A c xs) (hf : Fr S w w') (hG : ∀ b, G b → ¬ S b) (hG' : ∀ b, G b → G' b) : MthsP w' G' A c xs := SlP.kept h hf hG hG' (fun _ _ _ h => MthC.kept h hf hG hG')

structure Typ where
  kind : Int
  name : ByteArray
  elem : Int
  fields : List Fld
  methods : List Mth

/-- The five cells of a type. -/
def TypC (w : World) (G : Nat → Prop) (x : Typ) (cs : List Value) : Prop :=
  ∃ vf vm, cs = [.int .i64 x.kind, .string x.name, .int .i64 x.elem, vf, vm] ∧ FldsAt w G vf x.fields ∧ MthsAt w G vm x.methods ∧ x.name.size ≤ 9223372036854775807
abbrev TypsP (w : World) (G : Nat → Prop) := SlP w G 5 (TypC w G)
abbrev TypsAt (w : World) (G : Nat → Prop) := SlAt w G 5 (TypC w G)
theorem SlP.typ {xs : List Typ} (h : TypsP w G A c xs) {k : Nat} (hk : k < xs.length) : ∃ b o Af cf Am cm, A = some ⟨b, o, none⟩ ∧ G b ∧ FldsP w G Af cf xs[k].fields ∧ MthsP w G Am cm xs[k].methods ∧
    w.cell? ⟨b, o + k * 5, none⟩ = some (.int .i64 xs[k].kind) ∧ w.cell? ⟨b, o + k * 5 + 1, none⟩ = some (.string xs[k].name) ∧ w.cell? ⟨b, o + k * 5 + 2, none⟩ = some (.int .i64 xs[k].elem) ∧
    w.cell? ⟨b, o + k * 5 + 3, none⟩ = some (.slice Af xs[k].fields.length cf) ∧ w.cell? ⟨b, o + k * 5 + 4, none⟩ = some (.slice Am xs[k].methods.length cm) := by
  obtain ⟨b, o, cs, e, hb, _, ⟨vf, vm, rfl, hf, hm, _⟩, _, hc⟩ := h.elem hk
  obtain ⟨Af, cf, rfl, qf⟩ := hf.parts
  obtain ⟨Am, cm, rfl, qm⟩ := hm.parts
  exact ⟨b, o, Af, cf, Am, cm, e, hb, qf, qm, hc 0 _ rfl, hc 1 _ rfl, hc 2 _ rfl, hc 3 _ rfl, hc 4 _ rfl⟩
theorem TypC.kept {x : Typ} {cs : List Value} (h : TypC w G x cs) (hf : Fr S w w') (hG : ∀ b, G b → ¬ S b) (hG' : ∀ b, G b → G' b) : TypC w' G' x cs := by
  obtain ⟨vf, vm, e, h1, h2, hn⟩ := h
  exact ⟨vf, vm, e, FldsAt.kept h1 hf hG hG', MthsAt.kept h2 hf hG hG', hn⟩
theorem TypsAt.kept {xs : List Typ} (h : TypsAt w G v xs) (hf : Fr S w w') (hG : ∀ b, G b → ¬ S b) (hG' : ∀ b, G b → G' b) : TypsAt w' G' v xs := SlAt.kept h hf hG hG' (fun _ _ _ h => TypC.kept h hf hG hG')
theorem TypsP.kept {xs : List Typ} (h : TypsP w G A c xs) (hf : Fr S w w') (hG : ∀ b, G b → ¬ S b) (hG' : ∀ b, G b → G' b) : TypsP w' G' A c xs := SlP.kept h hf hG hG' (fun _ _ _ h => TypC.kept h hf hG hG')

/-- A type by value. -/
def TypV (w : World) (G : Nat → Prop) (x : Typ) (v : Value) : Prop := ∃ vf vm, v = .agg #[.int .i64 x.kind, .string x.name, .int .i64 x.elem, vf, vm] ∧ FldsAt w G vf x.fields ∧ MthsAt w G vm x.methods
def MthV (w : World) (G : Nat → Prop) (x : Mth) (v : Value) : Prop := ∃ vp, v = .agg #[.string x.name, vp, .int .i64 x.result, .int .i64 x.func] ∧ IntsAt w G vp x.params
theorem TypV.kept {x : Typ} (h : TypV w G x v) (hf : Fr S w w') (hG : ∀ b, G b → ¬ S b) (hG' : ∀ b, G b → G' b) : TypV w' G' x v := by
  obtain ⟨vf, vm, e, h1, h2⟩ := h
  exact ⟨vf, vm, e, FldsAt.kept h1 hf hG hG', MthsAt.kept h2 hf hG hG'⟩
theorem MthV.kept {x : Mth} (h : MthV w G x v) (hf : Fr S w w') (hG : ∀ b, G b → ¬ S b) (hG' : ∀ b, G b → G' b) : MthV w' G' x v := by
  obtain ⟨vp, e, h1⟩ := h
  exact ⟨vp, e, IntsAt.kept h1 hf hG hG'⟩
end
end Go.Proofs.YtjeplkbdgphfoaaDoor
