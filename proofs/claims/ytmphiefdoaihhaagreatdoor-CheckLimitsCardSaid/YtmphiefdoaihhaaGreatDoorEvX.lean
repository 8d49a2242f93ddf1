/-
  A run that is reckoned over blocks with names of its own: numbers that are not known, and what is known of single calls: no function of a program is named here.
-/
import Derived.Test.YtmphiefdoaihhaaGreatDoorEvW
namespace Go.Proofs.YtmphiefdoaihhaaGreatDoor
open Go.RowKit
noncomputable section

/-- Names from ng on stand for numbers. -/
def rhoN (ng : Nat) (zs : List Int) : Rho := fun b => if b < ng then some (b, 0) else (zs[b - ng]?).map fun z => (enc z, 77)
@[reducible] def Fx.nums (ng : Nat) (zs : List Int) : Fx := ⟨fun ρ => ∀ i z, zs[i]? = some z → ρ (ng + i) = some (enc z, 77), fun _ _ hr h i z hz => hr _ _ (h i z hz)⟩
theorem rhoN_num {ng i : Nat} {zs : List Int} {z : Int} (h : zs[i]? = some z) : rhoN ng zs (ng + i) = some (enc z, 77) := by
  unfold rhoN
  rw [if_neg (by omega), Nat.add_sub_cancel_left, h]; rfl
theorem startN_wr {P : Program} {w : World} {ng : Nat} {zs : List Int} {ks : List (Nat × List Value)} (hn : ng + zs.length + 1 < 2 ^ 30) (hks : ∀ x ∈ ks, x.1 < ng ∧ x.2.length + 1 < 2 ^ 30 ∧ x.2.all flat = true ∧ x.2 ≠ []) (hw : ∀ x ∈ ks, w.rangeAt x.1 0 x.2) : WR P (rhoN ng zs) (start (ng + zs.length) ks).den w := by
  have live : ∀ b ty c, (start (ng + zs.length) ks).den b = .live ty c → b < ng ∧ ∃ cs, (b, cs) ∈ ks ∧ ty = (0, ro) ∧ c = (Bk.mk (0, ro) (Tr.row .e 0 cs) cs.length m0).cell := by
    intro b ty c h
    unfold Hs.den start at h
    simp only at h
    by_cases hb : b < ng + zs.length
    · rw [if_pos hb] at h
      split at h
      · rename_i k hk
        obtain ⟨cs, h1, rfl⟩ := known0_get (fun x hx => by have := (hks x hx).1; omega) hk
        cases h
        exact ⟨(hks _ h1).1, cs, h1, rfl, rfl⟩
      · cases h
    · rw [if_neg hb] at h; cases h
  refine ⟨fun b => ?_, fun b b' ty ty' c c' k κ κ' h1 h2 r1 r2 => ?_, fun b ty cell h hmm => ?_, fun b ty cell h _ => ?_⟩
  · unfold rhoN Hs.den start
    simp only
    by_cases hb : b < ng
    · rw [if_pos hb, if_pos (by omega)]
      constructor
      · intro h; cases h
      · intro h; split at h <;> cases h
    · rw [if_neg hb]
      by_cases hb2 : b < ng + zs.length
      · rw [if_pos hb2, List.getElem?_eq_getElem (show b - ng < zs.length by omega)]
        constructor
        · intro h; cases h
        · intro h; split at h <;> cases h
      · rw [if_neg hb2, List.getElem?_eq_none (by omega)]; simp
  · unfold rhoN at r1 r2
    rw [if_pos (live _ _ _ h1).1] at r1
    rw [if_pos (live _ _ _ h2).1] at r2
    cases r1; cases r2; rfl
  · obtain ⟨hb, cs, hm, rfl, rfl⟩ := live b ty cell h
    exact absurd (show ro = mp from hmm) (by decide)
  · obtain ⟨hb, cs, hm, rfl, rfl⟩ := live b ty cell h
    obtain ⟨_, hl, hf, hne⟩ := hks _ hm
    simp only at hl hf hne
    have hc := hw _ hm
    obtain ⟨v0, r, rfl⟩ : ∃ v0 r, cs = v0 :: r := by cases cs with | nil => exact absurd rfl hne | cons v r => exact ⟨v, r, rfl⟩
    have h0 := hc 0 v0 rfl
    unfold World.cell? at h0
    simp only at h0
    cases hh : w.heap[b]? with
    | none => rw [hh] at h0; cases h0
    | some o =>
      cases o with
      | cells C t' fz =>
        refine ⟨b, 0, C, t', fz, by unfold rhoN; rw [if_pos hb], hh, fun h => absurd rfl h, fun o v ho => ?_⟩
        have hot : o ≠ tyOff := fun e => by
          subst e
          unfold Bk.cell at ho
          rw [if_pos rfl, if_neg (show ¬ ro = 0 by decide), if_neg (show ¬ ro = mp by decide)] at ho
          cases ho
        rw [Bk.cell_of hot] at ho
        simp only at ho
        rw [Tr.get_row _ _ _ _ (by omega), if_neg (Nat.not_lt_zero _)] at ho
        rw [Tr.get_e] at ho
        split at ho
        · rw [Nat.sub_zero] at ho
          have := hc o v ho
          rw [cell_of_row _ _ _ _ _ _ hh, Nat.zero_add] at this
          exact .inr ⟨v, this, V.flat (List.all_eq_true.1 hf v (List.mem_of_getElem? ho))⟩
        · cases ho
      | _ => rw [hh] at h0; cases h0

/-- What is known of a call: its function, its arguments, its answer. -/
structure Hk where
  f : FuncId
  l : List Value
  v : Value
def sameA (v e : Value) : Bool := match v, e with
  | .chan (some b), .chan (some b') => Nat.beq b b'
  | v, e => sameV v e
theorem sameA_eq {v e : Value} (h : sameA v e = true) : v = e := by
  unfold sameA at h
  split at h
  · rw [Nat.eq_of_beq_eq_true h]
  · exact sameV_eq h
def sameL : List Value → List Value → Bool
  | [], [] => true
  | v :: l, e :: m => match sameA v e with
    | true => sameL l m
    | false => false
  | _, _ => false
theorem sameL_eq : ∀ {l m : List Value}, sameL l m = true → l = m
  | [], [], _ => rfl
  | v :: l, e :: m, h => by
    simp only [sameL] at h
    cases hs : sameA v e with
    | false => rw [hs] at h; cases h
    | true => rw [hs] at h; rw [sameA_eq hs, sameL_eq h]
  | [], _ :: _, h => by cases h
  | _ :: _, [], h => by cases h
def findH (tb : List Hk) (g : FuncId) (l : List Value) : Option Value := List.rec (motive := fun _ => Option Value) none (fun e _ ih => Bool.rec (motive := fun _ => Option Value) ih (Bool.rec (motive := fun _ => Option Value) ih (some e.v) (sameL l e.l)) (Nat.beq e.f g)) tb
theorem findH_mem {g : FuncId} {l : List Value} {v : Value} : ∀ {tb : List Hk}, findH tb g l = some v → ∃ e ∈ tb, e.f = g ∧ e.l = l ∧ e.v = v
  | [], h => by cases h
  | e :: tb, h => by
    have h : Bool.rec (motive := fun _ => Option Value) (findH tb g l) (Bool.rec (motive := fun _ => Option Value) (findH tb g l) (some e.v) (sameL l e.l)) (Nat.beq e.f g) = some v := h
    have rest : findH tb g l = some v → ∃ e' ∈ e :: tb, e'.f = g ∧ e'.l = l ∧ e'.v = v := fun h => by
      obtain ⟨e', h1, h2⟩ := findH_mem h
      exact ⟨e', List.mem_cons_of_mem _ h1, h2⟩
    cases hb : Nat.beq e.f g with
    | false => rw [hb] at h; exact rest h
    | true =>
      rw [hb] at h
      cases hs : sameL l e.l with
      | false => rw [hs] at h; exact rest h
      | true =>
        rw [hs] at h
        cases h
        exact ⟨e, List.mem_cons_self, Nat.eq_of_beq_eq_true hb, (sameL_eq hs).symm, rfl⟩

section
variable {P : Program} {R : Rt} {ng fuel : Nat} {hN : NamesOk P}
def CallU (hN : NamesOk P) (ng : Nat) (ks : List (Nat × List Value)) (hs : List FuncId) (tb : List Hk) : Nat → CallK
  | 0 => fun _ _ _ _ => False
  | n + 1 => fun f l t v => (f ∈ hs ∧ l = [] ∧ PR (hookP ks) t (.val v)) ∨ (t = [] ∧ ∃ e ∈ tb, e.f = f ∧ e.l = l ∧ e.v = v) ∨ CallS (opA hN ng) (CallU hN ng ks hs tb n) f l t v
theorem callU_sound [Fx] (hm : P.follows .mixedOrders = true) {ks : List (Nat × List Value)} {hs : List FuncId} {tb : List Hk} (hks : ∀ x ∈ ks, x.1 < ng ∧ x.2.all flat = true)
    (hh : ∀ g ∈ hs, ∀ w, (∀ x ∈ ks, w.rangeAt x.1 0 x.2) → Calls P g #[] w fun e w' => e = .returned (.bool true) ∧ Up w w')
    (ht : ∀ e ∈ tb, flat e.v = true ∧ ∀ (ρ : Rho) (w : World) (l' : Array Value), Fx.holds ρ → VL ρ e.l l'.toList → Calls P e.f l' w fun x w' => x = .returned e.v ∧ w = w') : ∀ n, KSound P ng (CallU hN ng ks hs tb n)
  | 0 => fun f l t v h => h.elim
  | n + 1 => by
    intro f l t v h ρ H w l' hv hw hg hl
    rcases h with ⟨h1, rfl, h3⟩ | ⟨rfl, e, he, rfl, rfl, rfl⟩ | h
    · obtain ⟨h4, v2, h5⟩ := chkAll_read (val_read (.bool true)) ks t _ h3
      obtain ⟨h6, h7⟩ := rds_apps (H := H) h4
      obtain ⟨q1, t2, q2⟩ := chkAll_range hg hw hks h3 hv
      cases q2
      have hl0 : l' = #[] := Array.toList_inj.1 hl.cases_nil
      subst hl0
      refine (hh f h1 w q1).mono ?_
      rintro e w' ⟨rfl, hu⟩
      exact ⟨_, ρ, rfl, .bool true, (Went.up hw hu).congr (by rw [h6]; rfl) (fun b hb => by cases hb)⟩
    · obtain ⟨k1, k2⟩ := ht e he
      refine (k2 ρ w l' hg.fx hl).mono ?_
      rintro x w' ⟨rfl, rfl⟩
      exact ⟨_, ρ, rfl, V.flat k1, Went.refl hw⟩
    · exact callS_sound hm (callU_sound hm hks hh ht n) f l t v h ρ H w l' hv hw hg hl
def callUZ (P : Program) (R : Rt) (ng fuel : Nat) (ks : List (Nat × List Value)) (hs : List FuncId) (tb : List Hk) (d : Nat) : CZ := Nat.rec (motive := fun _ => CZ) (fun _ _ _ _ _ _ => .no "deep")
  (fun _ ih thr g l h f k => Bool.rec (motive := fun _ => Res) (Option.rec (motive := fun _ => Res) ((mkFn P R ng fuel g).run ih thr l h f k) (fun v => k v h f) (findH tb g l)) (runZ ih thr (hookP ks) h f k) (hookB hs g l)) d
theorem callUZ_sound (hR : R.Ok P) (ks : List (Nat × List Value)) (hs : List FuncId) (tb : List Hk) : ∀ d, CSoundZ (callUZ P R ng fuel ks hs tb d) (CallU hN ng ks hs tb d)
  | 0 => fun thr g l h f k q _ _ hq e => by
    have e : Res.no "deep" = q := e
    rw [← e] at hq; exact (rok_no hq).elim
  | d + 1 => fun thr g l h f k q hi ht hq e => by
    have e : Bool.rec (motive := fun _ => Res) (Option.rec (motive := fun _ => Res) ((mkFn P R ng fuel g).run (callUZ P R ng fuel ks hs tb d) thr l h f k) (fun v => k v h f) (findH tb g l)) (runZ (callUZ P R ng fuel ks hs tb d) thr (hookP ks) h f k) (hookB hs g l) = q := e
    cases hb : hookB hs g l with
    | false =>
      rw [hb] at e
      cases hf : findH tb g l with
      | some v =>
        rw [hf] at e
        exact ⟨[], v, h, f, .inr (.inl ⟨rfl, findH_mem hf⟩), LeftZ.refl hi f, e⟩
      | none =>
        rw [hf] at e
        obtain ⟨t, v, h', f', p1, p2, p3⟩ := stepZ_sound (ng := ng) (fuel := fuel) (hN := hN) hR (callUZ_sound hR ks hs tb d) thr g l h f k q hi ht hq e
        exact ⟨t, v, h', f', .inr (.inr p1), p2, p3⟩
    | true =>
      rw [hb] at e
      have h1 : g ∈ hs ∧ l = [] := by
        unfold hookB at hb
        cases hm : memN g hs with
        | false => rw [hm] at hb; cases hb
        | true => rw [hm] at hb; exact ⟨memN_mem hm, isNil_eq hb⟩
      obtain ⟨t, r, h', f', p1, p2, p3⟩ := runZ_sound hi ht hq e
      obtain ⟨_, v, rfl⟩ := chkAll_read (val_read (.bool true)) ks t r p1
      exact ⟨t, v, h', f', .inl ⟨h1.1, h1.2, p1⟩, p2, p3⟩

/-- A sentence over numbers of which single calls tell what is asked, that answers true. -/
theorem evu_run (hR : R.Ok P) (hN : NamesOk P) (hm : P.follows .mixedOrders = true) {d m : Nat} {g : FuncId} {l : List Value} {l' : Array Value} {w : World} {zs : List Int} {ks : List (Nat × List Value)} {hs : List FuncId} {tb : List Hk} (hz : zs.length = m) (hn : ng + m + 1 < 2 ^ 30)
    (hks : ∀ x ∈ ks, x.1 < ng ∧ x.2.length + 1 < 2 ^ 30 ∧ x.2.all flat = true ∧ x.2 ≠ []) (hh : ∀ g ∈ hs, ∀ w, (∀ x ∈ ks, w.rangeAt x.1 0 x.2) → Calls P g #[] w fun e w' => e = .returned (.bool true) ∧ Up w w')
    (ht : ∀ e ∈ tb, flat e.v = true ∧ ∀ (ρ : Rho) (w : World) (l' : Array Value), (Fx.nums ng zs).holds ρ → VL ρ e.l l'.toList → Calls P e.f l' w fun x w' => x = .returned e.v ∧ w = w')
    (hw : ∀ x ∈ ks, w.rangeAt x.1 0 x.2) (hl : VL (rhoN ng zs) l l'.toList)
    (hr : isTrue (callUZ P R ng fuel ks hs tb d (ng + m) g l (start (ng + m) ks) ⟨0, 0⟩ Res.ok) = true) : Calls P g l' w fun e w' => e = .returned (.bool true) ∧ Up w w' := by
  letI : Fx := Fx.nums ng zs
  subst hz
  cases hc : callUZ P R ng fuel ks hs tb d (ng + zs.length) g l (start (ng + zs.length) ks) ⟨0, 0⟩ Res.ok with
  | no s => rw [hc] at hr; cases hr
  | ok v h' f' =>
    rw [hc] at hr
    have hr : Bool.rec (motive := fun _ => Bool) false (Nat.beq f'.w 0) (isB true v) = true := hr
    have hi := start_inv (ng := ng + zs.length) (ks := ks) hn (fun x hx => ⟨by have := (hks x hx).1; omega, (hks x hx).2.1⟩)
    obtain ⟨t, v2, h2, f2, h1, hL, e⟩ := callUZ_sound (fuel := fuel) (hN := hN) hR ks hs tb d (ng + zs.length) g l _ ⟨0, 0⟩ Res.ok _ hi (Nat.le_refl _) ⟨v, h', f', rfl⟩ hc
    cases e
    cases hb : isB true v with
    | false => rw [hb] at hr; cases hr
    | true =>
      rw [hb] at hr
      have hw0 := Nat.eq_of_beq_eq_true hr
      rw [isB_eq] at hb
      have hv : v = .bool true := by
        cases v with
        | bool b => cases b <;> first | rfl | cases hb
        | _ => cases hb
      subst hv
      have hwr := startN_wr (P := P) (zs := zs) hn hks hw
      have hgl : GL (rhoN ng zs) ng := ⟨fun g hg => ⟨0, by unfold rhoN; rw [if_pos hg]⟩, fun i z hz => rhoN_num hz⟩
      refine (callU_sound (hN := hN) hm (fun x hx => ⟨(hks x hx).1, (hks x hx).2.2.1⟩) hh ht d g l t _ h1 (rhoN ng zs) _ w l' hL.val hwr hgl hl).mono ?_
      rintro e w' ⟨v', ρ', rfl, hv, hwent⟩
      refine ⟨by rw [hv.bool_eq], hwent.fr.mono fun i _ ⟨b, hb, κ, hr⟩ => ?_⟩
      have hlo : ng + zs.length ≤ b := wroteZ hw0 hL.all b hb
      unfold rhoN at hr
      rw [if_neg (by omega), List.getElem?_eq_none (by omega)] at hr
      cases hr
end
end
end Go.Proofs.YtmphiefdoaihhaaGreatDoor
