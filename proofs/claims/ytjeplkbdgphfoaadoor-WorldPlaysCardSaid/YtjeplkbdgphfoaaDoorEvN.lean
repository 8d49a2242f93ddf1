/-
  A run that is reckoned over blocks with names of its own: deeds by their blocks; where a run begins: no function of a program is named here.
-/
import Derived.Test.YtjeplkbdgphfoaaDoorEvJ
import Derived.Test.YtjeplkbdgphfoaaDoorDat
namespace Go.Proofs.YtjeplkbdgphfoaaDoor
open Go.RowKit
noncomputable section

/-- The block that a deed touches and that must have been there. -/
def Ac.old : Ac → Option Nat
  | .rd b _ _ => some b
  | .wr b _ _ => some b
  | .nw _ _ _ => none
  | .mv a _ _ _ _ => some a
def Ac.fresh : Ac → Option Nat
  | .nw b _ _ => some b
  | .mv _ b _ _ _ => some b
  | _ => none
theorem bit_self (o : Nat) : (Nat.shiftLeft 1 o).testBit o = true := by
  have : (1 <<< o).testBit o = true := by rw [Nat.testBit_shiftLeft]; simp
  exact this
inductive Xx
  | normal
  | ret
  | exit (id : Nat)
def Xx.out : Xx → Exit
  | .normal => .normal
  | .ret => .ret
  | .exit id => .exit id

/-- A program's own arrays of which the cells are known: each with its number. -/
def known0 : List (Nat × List Value) → Tr (Option Bk)
  | [] => .e
  | (g, cs) :: l => Tr.set 30 (known0 l) g (some ⟨(0, ro), Tr.row .e 0 cs, cs.length, m0⟩)
def start (ng : Nat) (ks : List (Nat × List Value)) : Hs := ⟨known0 ks, ng⟩
theorem known0_get : ∀ {ks : List (Nat × List Value)} {b : Nat} {k : Bk}, (∀ x ∈ ks, x.1 + 1 < 2 ^ 30) → Tr.get 30 (known0 ks) b = some (some k) → ∃ cs, (b, cs) ∈ ks ∧ k = ⟨(0, ro), Tr.row .e 0 cs, cs.length, m0⟩
  | [], b, k, _, h => by simp only [known0] at h; rw [Tr.get_e] at h; cases h
  | (g, cs) :: l, b, k, hs, h => by
    simp only [known0] at h
    by_cases hb : g = b
    · subst hb
      rw [Tr.get_set_eq _ _ _ _ (hs _ List.mem_cons_self)] at h
      cases h
      exact ⟨cs, List.mem_cons_self, rfl⟩
    · rw [Tr.get_set_ne _ _ _ _ _ hb] at h
      obtain ⟨cs', h1, h2⟩ := known0_get (fun x hx => hs x (List.mem_cons_of_mem _ hx)) h
      exact ⟨cs', List.mem_cons_of_mem _ h1, h2⟩
def rho0 (ng : Nat) : Rho := fun b => if b < ng then some (b, 0) else none

theorem start_inv {ng : Nat} {ks : List (Nat × List Value)} (hn : ng + 1 < 2 ^ 30) (hks : ∀ x ∈ ks, x.1 < ng ∧ x.2.length + 1 < 2 ^ 30) : (start ng ks).Inv :=
  ⟨hn, fun b k _ hk => by
    obtain ⟨cs, h1, rfl⟩ := known0_get (fun x hx => by have := (hks x hx).1; omega) hk
    have hl : cs.length + 1 < 2 ^ 30 := (hks _ h1).2
    have := row_inv (cs := cs) (t := .e) (n := 0) (fun i => by rw [Tr.get_e]; simp) (by omega)
    exact ⟨fun i => by have := this.1 i; rw [Nat.zero_add] at this; exact this, hl⟩, fun b k _ hk hm => by
    obtain ⟨cs, h1, rfl⟩ := known0_get (fun x hx => by have := (hks x hx).1; omega) hk
    exact absurd (show ro = mp from hm) (by decide)⟩
theorem start_wr {P : Program} {w : World} {ng : Nat} {ks : List (Nat × List Value)} (hn : ng + 1 < 2 ^ 30) (hks : ∀ x ∈ ks, x.1 < ng ∧ x.2.length + 1 < 2 ^ 30 ∧ x.2.all flat = true ∧ x.2 ≠ []) (hw : ∀ x ∈ ks, w.rangeAt x.1 0 x.2) : WR P (rho0 ng) (start ng ks).den w := by
  have live : ∀ b ty c, (start ng ks).den b = .live ty c → b < ng ∧ ∃ cs, (b, cs) ∈ ks ∧ ty = (0, ro) ∧ c = (Bk.mk (0, ro) (Tr.row .e 0 cs) cs.length m0).cell := by
    intro b ty c h
    unfold Hs.den start at h
    simp only at h
    by_cases hb : b < ng
    · rw [if_pos hb] at h
      split at h
      · rename_i k hk
        obtain ⟨cs, h1, rfl⟩ := known0_get (fun x hx => by have := (hks x hx).1; omega) hk
        cases h
        exact ⟨hb, cs, h1, rfl, rfl⟩
      · cases h
    · rw [if_neg hb] at h; cases h
  refine ⟨fun b => ?_, fun b b' ty ty' c c' k κ κ' h1 h2 r1 r2 => ?_, fun b ty cell h hmm => ?_, fun b ty cell h _ => ?_⟩
  · unfold rho0 Hs.den start
    simp only
    by_cases hb : b < ng
    · rw [if_pos hb, if_pos hb]
      constructor
      · intro h; cases h
      · intro h; split at h <;> cases h
    · rw [if_neg hb, if_neg hb]; simp
  · unfold rho0 at r1 r2
    rw [if_pos (live _ _ _ h1).1] at r1
    rw [if_pos (live _ _ _ h2).1] at r2
    cases r1; cases r2; rfl
  · obtain ⟨hb, cs, hm, rfl, rfl⟩ := live b ty cell h
    exact absurd (show ro = mp from hmm) (by decide)
  · obtain ⟨hb, cs, hm, rfl, rfl⟩ := live b ty cell h
    obtain ⟨_, hl, hf, hne⟩ := hks _ hm
    simp only at hl hf hne
    have hc := hw _ hm
    obtain ⟨v0, r, rfl⟩ : ∃ v0 r, cs = v0 :: r := by cases cs with | nil => exact absurd rfl hne | cons v r => exact ⟨v, r, rfl⟩
    have h0 := hc 0 v0 rfl
    unfold World.cell? at h0
    simp only at h0
    cases hh : w.heap[b]? with
    | none => rw [hh] at h0; cases h0
    | some o =>
      cases o with
      | cells C t' fz =>
        refine ⟨b, 0, C, t', fz, by unfold rho0; rw [if_pos hb], hh, fun h => absurd rfl h, fun o v ho => ?_⟩
        have hot : o ≠ tyOff := fun e => by
          subst e
          unfold Bk.cell at ho
          rw [if_pos rfl, if_neg (show ¬ ro = 0 by decide), if_neg (show ¬ ro = mp by decide)] at ho
          cases ho
        rw [Bk.cell_of hot] at ho
        simp only at ho
        rw [Tr.get_row _ _ _ _ (by omega), if_neg (Nat.not_lt_zero _)] at ho
        rw [Tr.get_e] at ho
        split at ho
        · rw [Nat.sub_zero] at ho
          have := hc o v ho
          rw [cell_of_row _ _ _ _ _ _ hh, Nat.zero_add] at this
          exact .inr ⟨v, this, V.flat (List.all_eq_true.1 hf v (List.mem_of_getElem? ho))⟩
        · cases ho
      | _ => rw [hh] at h0; cases h0
theorem rho0_gl [Fx] (ng : Nat) (hf : Fx.holds (rho0 ng)) : GL (rho0 ng) ng := ⟨fun g hg => ⟨0, by unfold rho0; rw [if_pos hg]⟩, hf⟩
@[reducible] def Fx.nothing : Fx := ⟨fun _ => True, fun _ _ _ _ => trivial⟩

end
end Go.Proofs.YtjeplkbdgphfoaaDoor
