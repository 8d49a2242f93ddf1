/-
  A run that is reckoned over blocks with names of its own: what a call leaves, said once as a picture and taken again: no function of a program is named here.
-/
import Derived.Test.YtmphiefdoaihhaaGreatDoorEvX
namespace Go.Proofs.YtmphiefdoaihhaaGreatDoor
open Go.RowKit
noncomputable section

/-- A cell of a picture: blocks are told by how many stand between. -/
inductive SC
  | g (v : Value)
  | p (d o : Nat)
  | s (d o n : Nat)
inductive SR
  | c (x : SC)
  | a (l : List SC)
inductive ST
  | one (x : SR)
  | tup (l : List SR)

def nthE (env : List Nat) : Nat → Nat := List.rec (motive := fun _ => Nat → Nat) (fun _ => 0) (fun x _ ih d => Nat.rec (motive := fun _ => Nat) x (fun m _ => ih m) d) env
theorem nthE_of : ∀ {env : List Nat} {d b : Nat}, env[d]? = some b → nthE env d = b
  | [], d, b, h => by simp at h
  | x :: env, 0, b, h => by simp at h; exact h
  | x :: env, d + 1, b, h => by
    simp only [List.getElem?_cons_succ] at h
    exact nthE_of (env := env) h
def resC (env : List Nat) (c : SC) : Value := SC.rec (motive := fun _ => Value) (fun v => v) (fun d o => .pointer (some ⟨nthE env d, o, none⟩)) (fun d o n => .slice (some ⟨nthE env d, o, none⟩) n unk2) c
def resL (env : List Nat) (l : List SC) : List Value := List.rec (motive := fun _ => List Value) [] (fun c _ ih => resC env c :: ih) l
theorem resL_eq (env : List Nat) : ∀ l, resL env l = l.map (resC env)
  | [] => rfl
  | c :: l => by show resC env c :: resL env l = _; rw [resL_eq env l]; rfl
def resR (env : List Nat) (x : SR) : Value := SR.rec (motive := fun _ => Value) (fun c => resC env c) (fun l => .agg ⟨resL env l⟩) x
def resRs (env : List Nat) (l : List SR) : List Value := List.rec (motive := fun _ => List Value) [] (fun c _ ih => resR env c :: ih) l
theorem resRs_eq (env : List Nat) : ∀ l, resRs env l = l.map (resR env)
  | [] => rfl
  | c :: l => by show resR env c :: resRs env l = _; rw [resRs_eq env l]; rfl
def resT (env : List Nat) (x : ST) : Value := ST.rec (motive := fun _ => Value) (fun c => resR env c) (fun l => .tuple ⟨resRs env l⟩) x
/-- The blocks of a picture are made. -/
def nwsP (blks : List (List SC)) (k : List Nat → Prog) : List Nat → Prog := List.rec (motive := fun _ => List Nat → Prog) k (fun cs _ ih env => .nw (0, ro) (resL env cs) fun b => ih (b :: env)) blks

/-- What lies in memory. -/
def CRel (sg : List Nat) : SC → Value → Prop
  | .g v, v' => flat v = true ∧ v' = v
  | .p d o, v' => ∃ k, sg[d]? = some k ∧ v' = .pointer (some ⟨k, o, none⟩)
  | .s d o n, v' => ∃ k c', sg[d]? = some k ∧ n ≤ c' ∧ v' = .slice (some ⟨k, o, none⟩) n c'
def LRel {α β : Type} (r : α → β → Prop) (l : List α) (m : List β) : Prop := l.length = m.length ∧ ∀ (i : Nat) (x : α) (y : β), l[i]? = some x → m[i]? = some y → r x y
def RRel (sg : List Nat) : SR → Value → Prop
  | .c x, v' => CRel sg x v'
  | .a l, v' => ∃ l', v' = .agg ⟨l'⟩ ∧ LRel (CRel sg) l l'
def TRel (sg : List Nat) : ST → Value → Prop
  | .one x, v' => RRel sg x v'
  | .tup l, v' => ∃ l', v' = .tuple ⟨l'⟩ ∧ LRel (RRel sg) l l'
def SnapAt (w w' : World) (fin : List Nat → Prop) : List (List SC) → List Nat → Prop
  | [], sg => fin sg
  | cs :: r, sg => ∃ (k : Nat) (C : Array Value) (t : TypeId) (fz : Nat × Nat), w.heap.size ≤ k ∧ k ∉ sg ∧ w'.heap[k]? = some (.cells C t fz) ∧ (∀ (o : Nat) (c : SC), cs[o]? = some c → ∃ v', C[o]? = some v' ∧ CRel sg c v') ∧ SnapAt w w' fin r (k :: sg)

section
variable {P : Program} {ρ : Rho} {H : Hp} {w w' : World}
/-- Names and blocks of a picture. -/
def EnvR (ρ : Rho) (env sg : List Nat) : Prop := ∀ (d k : Nat), sg[d]? = some k → ∃ κ, ρ (nthE env d) = some (k, κ)
theorem CRel.v {env sg : List Nat} (he : EnvR ρ env sg) {c : SC} {v' : Value} (h : CRel sg c v') : V ρ (resC env c) v' := by
  cases c with
  | g v => obtain ⟨h1, rfl⟩ := h; exact V.flat h1
  | p d o =>
    obtain ⟨k, h1, rfl⟩ := h
    obtain ⟨κ, hr⟩ := he d k h1
    exact .ptr _ _ _ _ hr
  | s d o n =>
    obtain ⟨k, c', h1, h2, rfl⟩ := h
    obtain ⟨κ, hr⟩ := he d k h1
    exact .slc _ _ _ _ _ _ _ hr (.some_ _ h2)
theorem LRel.v {α : Type} {r : α → Value → Prop} {f : α → Value} (hr : ∀ x y, r x y → V ρ (f x) y) {l : List α} {m : List Value} (h : LRel r l m) : VL ρ (l.map f) m :=
  ⟨by simpa using h.1, fun i v v' hv hv' => by
    rw [List.getElem?_map] at hv
    cases hx : l[i]? with
    | none => rw [hx] at hv; cases hv
    | some x =>
      rw [hx] at hv
      cases hv
      exact hr _ _ (h.2 i x v' hx hv')⟩
theorem RRel.v {env sg : List Nat} (he : EnvR ρ env sg) {x : SR} {v' : Value} (h : RRel sg x v') : V ρ (resR env x) v' := by
  cases x with
  | c x => exact CRel.v he h
  | a l =>
    obtain ⟨l', rfl, h2⟩ := h
    have := h2.v (ρ := ρ) (f := resC env) fun x y => CRel.v he
    show V ρ (.agg ⟨resL env l⟩) _
    rw [resL_eq]
    exact .agg _ _ this.1 this.2
theorem TRel.v {env sg : List Nat} (he : EnvR ρ env sg) {x : ST} {v' : Value} (h : TRel sg x v') : V ρ (resT env x) v' := by
  cases x with
  | one x => exact RRel.v he h
  | tup l =>
    obtain ⟨l', rfl, h2⟩ := h
    have := h2.v (ρ := ρ) (f := resR env) fun x y => RRel.v he
    show V ρ (.tuple ⟨resRs env l⟩) _
    rw [resRs_eq]
    exact .tuple _ _ this.1 this.2

/-- A block that lies there already gets a name. -/
theorem WR.pic (h : WR P ρ H w) {b k : Nat} {cs : List Value} {C : Array Value} {t : TypeId} {fz : Nat × Nat} (hk : Ok H (.nw b (0, ro) cs)) (hb : w.heap[k]? = some (.cells C t fz))
    (hcs : ∀ (o : Nat) (v : Value), cs[o]? = some v → ∃ v', C[o]? = some v' ∧ V ρ v v') (hne : ∀ (b' : Nat) (ty : TypeId × Nat) (c : Nat → Option Value) (κ : Nat), H b' = .live ty c → ρ b' = some (k, κ) → False) :
    WR P (Rho.add ρ b k 0) (app H (.nw b (0, ro) cs)) w := by
  have hbn : ρ b = none := (h.dom b).2 hk.1
  show WR P _ (H.set b (.live (0, ro) (newCell (0, ro) cs))) _
  refine ⟨fun b' => ?_, ?_, ?_, ?_⟩
  · by_cases e : b' = b
    · subst e; rw [Hp.set_eq, Rho.add_eq]; simp
    · rw [Hp.set_ne e, Rho.add_ne e]; exact h.dom b'
  · intro b1 b2 t1 t2 c1 c2 k' κ1 κ2 g1 g2 r1 r2
    by_cases e1 : b1 = b <;> by_cases e2 : b2 = b
    · rw [e1, e2]
    · subst e1
      rw [Hp.set_ne e2] at g2
      rw [Rho.add_eq] at r1
      rw [Rho.add_ne e2] at r2
      cases r1
      exact (hne _ _ _ _ g2 r2).elim
    · subst e2
      rw [Hp.set_ne e1] at g1
      rw [Rho.add_eq] at r2
      rw [Rho.add_ne e1] at r1
      cases r2
      exact (hne _ _ _ _ g1 r1).elim
    · rw [Hp.set_ne e1] at g1
      rw [Hp.set_ne e2] at g2
      rw [Rho.add_ne e1] at r1
      rw [Rho.add_ne e2] at r2
      exact h.inj b1 b2 _ _ _ _ k' κ1 κ2 g1 g2 r1 r2
  · intro b' t' c' g hm
    by_cases e : b' = b
    · subst e
      rw [Hp.set_eq] at g
      cases g
      exact absurd (show ro = mp from hm) (by decide)
    · rw [Hp.set_ne e] at g
      obtain ⟨k2, κ2, es, cl, r2, w2, x2⟩ := h.map b' t' c' g hm
      exact ⟨k2, κ2, es, cl, by rw [Rho.add_ne e]; exact r2, w2, fun o v ho => by
        obtain ⟨h1, l, h2, h3⟩ := x2 o v ho
        exact ⟨h1, l, h2, h3.more (Rho.add_ext hbn)⟩⟩
  · intro b' t' c' g hm'
    by_cases e : b' = b
    · subst e
      rw [Hp.set_eq, newCell_of (show ro ≠ mp by decide)] at g
      cases g
      refine ⟨k, 0, C, t, fz, Rho.add_eq, hb, fun hf => absurd rfl hf, fun o v ho => ?_⟩
      dsimp only at ho
      by_cases hot : o = tyOff
      · rw [if_pos hot, if_neg (show ¬ ro = 0 by decide)] at ho; cases ho
      · rw [if_neg hot] at ho
        obtain ⟨v', h1, h2⟩ := hcs o v ho
        exact .inr ⟨v', h1, h2.more (Rho.add_ext hbn)⟩
    · rw [Hp.set_ne e] at g
      obtain ⟨k2, κ2, cs2, t2', fz2, r2, w2, R2, x2⟩ := h.blk b' t' c' g hm'
      refine ⟨k2, κ2, cs2, t2', fz2, by rw [Rho.add_ne e]; exact r2, w2, R2, fun o v ho => ?_⟩
      rcases x2 o v ho with hl | ⟨v', y1, y2⟩
      · exact .inl hl
      · exact .inr ⟨v', y1, y2.more (Rho.add_ext hbn)⟩

theorem nws_sound {fin : List Nat → Prop} {kont : List Nat → Prog} {r : Out} : ∀ (blks : List (List SC)) (env sg : List Nat) (ρ : Rho) (H : Hp) (t : List Ac), WR P ρ H w' → EnvR ρ env sg →
    (∀ (b : Nat) (ty : TypeId × Nat) (c : Nat → Option Value) (k κ : Nat), H b = .live ty c → ρ b = some (k, κ) → k < w.heap.size ∨ k ∈ sg) → SnapAt w w' fin blks sg → PR (nwsP blks kont env) t r → Valid H t →
    ∃ ρ' env' sg' t1 t2, t = t1 ++ t2 ∧ PR (kont env') t2 r ∧ WR P ρ' (apps H t1) w' ∧ (∀ b x, ρ b = some x → ρ' b = some x) ∧ wrote t1 = [] ∧ (∀ b k κ, ρ' b = some (k, κ) → ρ b = some (k, κ) ∨ w.heap.size ≤ k) ∧ fin sg' ∧ EnvR ρ' env' sg' ∧ Valid (apps H t1) t2
  | [], env, sg, ρ, H, t, hw, he, _, hs, hp, hv => ⟨ρ, env, sg, [], t, rfl, hp, hw, fun _ _ h => h, rfl, fun _ _ _ h => .inl h, hs, he, hv⟩
  | cs :: blks, env, sg, ρ, H, t, hw, he, hd, hs, hp, hv => by
    obtain ⟨k, C, ty, fz, q1, q2, q3, q4, q5⟩ := hs
    have hp : PR (.nw (0, ro) (resL env cs) fun b => nwsP blks kont (b :: env)) t r := hp
    cases hp with
    | nw hp =>
      rename_i b t hnm hq
      obtain ⟨hv1, hv2⟩ := hv
      have hbn : ρ b = none := (hw.dom b).2 hv1.1
      have hw2 := hw.pic (k := k) hv1 q3 (fun o v ho => by
        rw [resL_eq, List.getElem?_map] at ho
        cases hx : cs[o]? with
        | none => rw [hx] at ho; cases ho
        | some c =>
          rw [hx] at ho
          cases ho
          obtain ⟨v', h1, h2⟩ := q4 o c hx
          exact ⟨v', h1, h2.v he⟩) (fun b' ty' c' κ g1 g2 => by
        rcases hd b' ty' c' k κ g1 g2 with h1 | h1
        · omega
        · exact q2 h1)
      have he2 : EnvR (Rho.add ρ b k 0) (b :: env) (k :: sg) := by
        intro d k' hk'
        cases d with
        | zero =>
          simp at hk'
          subst hk'
          exact ⟨0, Rho.add_eq⟩
        | succ d =>
          simp only [List.getElem?_cons_succ] at hk'
          obtain ⟨κ, hr⟩ := he d k' hk'
          exact ⟨κ, Rho.add_ext hbn _ _ hr⟩
      have hd2 : ∀ (b' : Nat) (ty : TypeId × Nat) (c : Nat → Option Value) (k' κ : Nat), app H (.nw b (0, ro) (resL env cs)) b' = .live ty c → Rho.add ρ b k 0 b' = some (k', κ) → k' < w.heap.size ∨ k' ∈ k :: sg := by
        intro b' ty' c' k' κ g1 g2
        have g1 : (H.set b (.live (0, ro) (newCell (0, ro) (resL env cs)))) b' = .live ty' c' := g1
        by_cases e : b' = b
        · subst e
          rw [Rho.add_eq] at g2
          cases g2
          exact .inr List.mem_cons_self
        · rw [Hp.set_ne e] at g1
          rw [Rho.add_ne e] at g2
          rcases hd b' ty' c' k' κ g1 g2 with h1 | h1
          · exact .inl h1
          · exact .inr (List.mem_cons_of_mem _ h1)
      obtain ⟨ρ', env', sg', t1, t2, rfl, p1, p2, p3, p4, p5, p6, p7, p8⟩ := nws_sound blks (b :: env) (k :: sg) _ _ t hw2 he2 hd2 q5 hp hv2
      refine ⟨ρ', env', sg', .nw b (0, ro) (resL env cs) :: t1, t2, rfl, p1, p2, fun b' x hx => p3 b' x (Rho.add_ext hbn b' x hx), p4, fun b' k' κ hr => ?_, p6, p7, p8⟩
      rcases p5 b' k' κ hr with h1 | h1
      · by_cases e : b' = b
        · subst e
          rw [Rho.add_eq] at h1
          cases h1
          exact .inr q1
        · rw [Rho.add_ne e] at h1
          exact .inl h1
      · exact .inr h1

theorem chkP_split {b : Nat} {k : Prog} {r : Out} : ∀ {l : List Value} {o : Nat} {t : List Ac}, PR (chkP b o l k) t r → ∃ t1 t2, t = t1 ++ t2 ∧ (∀ a ∈ t1, isRd a) ∧ PR k t2 r
  | [], _, t, h => ⟨[], t, rfl, fun a ha => (by cases ha), h⟩
  | e :: l, o, t, h => by
    cases h with
    | rd ho h =>
      rename_i v t
      simp only at h
      cases hs : sameV v e with
      | false => rw [hs] at h; cases h
      | true =>
        rw [hs] at h
        obtain ⟨t1, t2, rfl, h1, h2⟩ := chkP_split h
        refine ⟨_ :: t1, t2, rfl, fun a ha => ?_, h2⟩
        rcases List.mem_cons.1 ha with rfl | ha
        · exact ⟨_, _, _, rfl⟩
        · exact h1 a ha
theorem chkAll_split {k : Prog} {r : Out} : ∀ {ks : List (Nat × List Value)} {t : List Ac}, PR (chkAll ks k) t r → ∃ t1 t2, t = t1 ++ t2 ∧ (∀ a ∈ t1, isRd a) ∧ PR k t2 r
  | [], t, h => ⟨[], t, rfl, fun a ha => (by cases ha), h⟩
  | (b, l) :: ks, t, h => by
    obtain ⟨t1, t2, rfl, h1, h2⟩ := chkP_split (k := chkAll ks k) h
    obtain ⟨t3, t4, rfl, h3, h4⟩ := chkAll_split h2
    refine ⟨t1 ++ t3, t4, by rw [List.append_assoc], fun a ha => ?_, h4⟩
    rcases List.mem_append.1 ha with ha | ha
    · exact h1 a ha
    · exact h3 a ha
end

/-- A picture: its function, its arguments, its blocks, its answer. -/
structure Sn where
  f : FuncId
  l : List Value
  blks : List (List SC)
  res : ST
def snP (ks : List (Nat × List Value)) (sn : Sn) : Prog := chkAll ks (nwsP sn.blks (fun env => .val (resT env sn.res)) [])
def SnOk (P : Program) (ks : List (Nat × List Value)) (sn : Sn) : Prop := sn.l.all flat = true ∧ ∀ w : World, (∀ x ∈ ks, w.rangeAt x.1 0 x.2) → Calls P sn.f ⟨sn.l⟩ w fun e w' => Up w w' ∧ ∃ v', e = .returned v' ∧ SnapAt w w' (fun sg => TRel sg sn.res v') sn.blks []
def findS (sns : List Sn) (g : FuncId) (l : List Value) : Option Sn := List.rec (motive := fun _ => Option Sn) none (fun e _ ih => Bool.rec (motive := fun _ => Option Sn) ih (Bool.rec (motive := fun _ => Option Sn) ih (some e) (sameL l e.l)) (Nat.beq e.f g)) sns
theorem findS_mem {g : FuncId} {l : List Value} {s : Sn} : ∀ {sns : List Sn}, findS sns g l = some s → s ∈ sns ∧ s.f = g ∧ s.l = l
  | [], h => by cases h
  | e :: tb, h => by
    have h : Bool.rec (motive := fun _ => Option Sn) (findS tb g l) (Bool.rec (motive := fun _ => Option Sn) (findS tb g l) (some e) (sameL l e.l)) (Nat.beq e.f g) = some s := h
    have rest : findS tb g l = some s → s ∈ e :: tb ∧ s.f = g ∧ s.l = l := fun h => by
      obtain ⟨h1, h2⟩ := findS_mem h
      exact ⟨List.mem_cons_of_mem _ h1, h2⟩
    cases hb : Nat.beq e.f g with
    | false => rw [hb] at h; exact rest h
    | true =>
      rw [hb] at h
      cases hs : sameL l e.l with
      | false => rw [hs] at h; exact rest h
      | true =>
        rw [hs] at h
        cases h
        exact ⟨List.mem_cons_self, Nat.eq_of_beq_eq_true hb, (sameL_eq hs).symm⟩

section
variable {P : Program} {R : Rt} {ng fuel : Nat} {hN : NamesOk P}
theorem nwsP_val {blks : List (List SC)} {f : List Nat → Value} : ∀ {env : List Nat} {t : List Ac} {r : Out}, PR (nwsP blks (fun env => .val (f env)) env) t r → ∃ v, r = .val v := by
  induction blks with
  | nil =>
    intro env t r h
    have h : PR (.val (f env)) t r := h
    cases h
    exact ⟨_, rfl⟩
  | cons cs blks ih =>
    intro env t r h
    have h : PR (.nw (0, ro) (resL env cs) fun b => nwsP blks (fun env => .val (f env)) (b :: env)) t r := h
    cases h with
    | nw h => exact ih h
def CallN (hN : NamesOk P) (ng : Nat) (ks : List (Nat × List Value)) (hs : List FuncId) (tb : List Hk) (sns : List Sn) : Nat → CallK
  | 0 => fun _ _ _ _ => False
  | n + 1 => fun f l t v => (f ∈ hs ∧ l = [] ∧ PR (hookP ks) t (.val v)) ∨ (t = [] ∧ ∃ e ∈ tb, e.f = f ∧ e.l = l ∧ e.v = v) ∨ (∃ s ∈ sns, s.f = f ∧ s.l = l ∧ PR (snP ks s) t (.val v)) ∨ CallS (opA hN ng) (CallN hN ng ks hs tb sns n) f l t v
theorem callN_sound [Fx] (hm : P.follows .mixedOrders = true) {ks : List (Nat × List Value)} {hs : List FuncId} {tb : List Hk} {sns : List Sn} (hks : ∀ x ∈ ks, x.1 < ng ∧ x.2.all flat = true)
    (hh : ∀ g ∈ hs, ∀ w, (∀ x ∈ ks, w.rangeAt x.1 0 x.2) → Calls P g #[] w fun e w' => e = .returned (.bool true) ∧ Up w w')
    (ht : ∀ e ∈ tb, flat e.v = true ∧ ∀ (ρ : Rho) (w : World) (l' : Array Value), Fx.holds ρ → VL ρ e.l l'.toList → Calls P e.f l' w fun x w' => x = .returned e.v ∧ w = w') (hsn : ∀ s ∈ sns, SnOk P ks s) : ∀ n, KSound P ng (CallN hN ng ks hs tb sns n)
  | 0 => fun f l t v h => h.elim
  | n + 1 => by
    intro f l t v h ρ H w l' hv hw hg hl
    rcases h with ⟨h1, rfl, h3⟩ | ⟨rfl, e, he, rfl, rfl, rfl⟩ | ⟨s, hs, rfl, rfl, h3⟩ | h
    · obtain ⟨h4, v2, h5⟩ := chkAll_read (val_read (.bool true)) ks t _ h3
      obtain ⟨h6, h7⟩ := rds_apps (H := H) h4
      obtain ⟨q1, t2, q2⟩ := chkAll_range hg hw hks h3 hv
      cases q2
      have hl0 : l' = #[] := Array.toList_inj.1 hl.cases_nil
      subst hl0
      refine (hh f h1 w q1).mono ?_
      rintro e w' ⟨rfl, hu⟩
      exact ⟨_, ρ, rfl, .bool true, (Went.up hw hu).congr (by rw [h6]; rfl) (fun b hb => by cases hb)⟩
    · obtain ⟨k1, k2⟩ := ht e he
      refine (k2 ρ w l' hg.fx hl).mono ?_
      rintro x w' ⟨rfl, rfl⟩
      exact ⟨_, ρ, rfl, V.flat k1, Went.refl hw⟩
    · obtain ⟨hfl, hcall⟩ := hsn s hs
      obtain ⟨q1, _⟩ := chkAll_range hg hw hks h3 hv
      obtain ⟨t1, t2, rfl, g1, g2⟩ := chkAll_split h3
      rw [Valid.append] at hv
      obtain ⟨a1, a2⟩ := rds_apps (H := H) g1
      have hl0 : l' = ⟨s.l⟩ := by
        have := flats_eq hl.1 hl.2 hfl
        exact Array.toList_inj.1 this
      subst hl0
      refine (hcall w q1).mono ?_
      rintro e w' ⟨hu, v', rfl, hsnap⟩
      have hwu := Went.up hw hu
      rw [a1] at hv
      obtain ⟨ρ', env', sg', u1, u2, rfl, p1, p2, p3, p4, p5, p6, p7, p8⟩ := nws_sound (w := w) (w' := w') s.blks [] [] ρ H t2 hwu.wr (fun d k h => by simp at h) (fun b ty c k κ h1 h2 => .inl (hw.lt h1 h2)) hsnap g2 hv.2
      cases p1
      refine ⟨v', ρ', rfl, p6.v p7, ⟨?_, p3, ?_, fun b k κ hr => ?_⟩⟩
      · rw [apps_append, a1, List.append_nil]; exact p2
      · exact hu.mono fun i _ hf => hf.elim
      · rcases p5 b k κ hr with h1 | h1
        · exact .inl h1
        · exact .inr (.inl h1)
    · exact callS_sound hm (callN_sound hm hks hh ht hsn n) f l t v h ρ H w l' hv hw hg hl
def callNZ (P : Program) (R : Rt) (ng fuel : Nat) (ks : List (Nat × List Value)) (hs : List FuncId) (tb : List Hk) (sns : List Sn) (d : Nat) : CZ := Nat.rec (motive := fun _ => CZ) (fun _ _ _ _ _ _ => .no "deep")
  (fun _ ih thr g l h f k => Bool.rec (motive := fun _ => Res) (Option.rec (motive := fun _ => Res) (Option.rec (motive := fun _ => Res) ((mkFn P R ng fuel g).run ih thr l h f k) (fun s => runZ ih thr (snP ks s) h f k) (findS sns g l)) (fun v => k v h f) (findH tb g l)) (runZ ih thr (hookP ks) h f k) (hookB hs g l)) d
theorem callNZ_sound (hR : R.Ok P) (ks : List (Nat × List Value)) (hs : List FuncId) (tb : List Hk) (sns : List Sn) : ∀ d, CSoundZ (callNZ P R ng fuel ks hs tb sns d) (CallN hN ng ks hs tb sns d)
  | 0 => fun thr g l h f k q _ _ hq e => by
    have e : Res.no "deep" = q := e
    rw [← e] at hq; exact (rok_no hq).elim
  | d + 1 => fun thr g l h f k q hi ht hq e => by
    have e : Bool.rec (motive := fun _ => Res) (Option.rec (motive := fun _ => Res) (Option.rec (motive := fun _ => Res) ((mkFn P R ng fuel g).run (callNZ P R ng fuel ks hs tb sns d) thr l h f k) (fun s => runZ (callNZ P R ng fuel ks hs tb sns d) thr (snP ks s) h f k) (findS sns g l)) (fun v => k v h f) (findH tb g l)) (runZ (callNZ P R ng fuel ks hs tb sns d) thr (hookP ks) h f k) (hookB hs g l) = q := e
    cases hb : hookB hs g l with
    | false =>
      rw [hb] at e
      cases hf : findH tb g l with
      | some v =>
        rw [hf] at e
        exact ⟨[], v, h, f, .inr (.inl ⟨rfl, findH_mem hf⟩), LeftZ.refl hi f, e⟩
      | none =>
        rw [hf] at e
        cases hs2 : findS sns g l with
        | some s =>
          rw [hs2] at e
          obtain ⟨h1, h2, h3⟩ := findS_mem hs2
          obtain ⟨t, r, h', f', p1, p2, p3⟩ := runZ_sound hi ht hq e
          have hv : ∃ v, r = .val v := by
            obtain ⟨t1, t2, _, _, g2⟩ := chkAll_split p1
            exact nwsP_val g2
          obtain ⟨v, rfl⟩ := hv
          exact ⟨t, v, h', f', .inr (.inr (.inl ⟨s, h1, h2, h3, p1⟩)), p2, p3⟩
        | none =>
          rw [hs2] at e
          obtain ⟨t, v, h', f', p1, p2, p3⟩ := stepZ_sound (ng := ng) (fuel := fuel) (hN := hN) hR (callNZ_sound hR ks hs tb sns d) thr g l h f k q hi ht hq e
          exact ⟨t, v, h', f', .inr (.inr (.inr p1)), p2, p3⟩
    | true =>
      rw [hb] at e
      have h1 : g ∈ hs ∧ l = [] := by
        unfold hookB at hb
        cases hm : memN g hs with
        | false => rw [hm] at hb; cases hb
        | true => rw [hm] at hb; exact ⟨memN_mem hm, isNil_eq hb⟩
      obtain ⟨t, r, h', f', p1, p2, p3⟩ := runZ_sound hi ht hq e
      obtain ⟨_, v, rfl⟩ := chkAll_read (val_read (.bool true)) ks t r p1
      exact ⟨t, v, h', f', .inl ⟨h1.1, h1.2, p1⟩, p2, p3⟩

/-- A sentence that answers true, with numbers of which single calls tell what is asked, and with pictures. -/
theorem evn_run (hR : R.Ok P) (hN : NamesOk P) (hm : P.follows .mixedOrders = true) {d m : Nat} {g : FuncId} {l : List Value} {l' : Array Value} {w : World} {zs : List Int} {ks : List (Nat × List Value)} {hs : List FuncId} {tb : List Hk} {sns : List Sn} (hz : zs.length = m) (hn : ng + m + 1 < 2 ^ 30)
    (hks : ∀ x ∈ ks, x.1 < ng ∧ x.2.length + 1 < 2 ^ 30 ∧ x.2.all flat = true ∧ x.2 ≠ []) (hh : ∀ g ∈ hs, ∀ w, (∀ x ∈ ks, w.rangeAt x.1 0 x.2) → Calls P g #[] w fun e w' => e = .returned (.bool true) ∧ Up w w')
    (ht : ∀ e ∈ tb, flat e.v = true ∧ ∀ (ρ : Rho) (w : World) (l' : Array Value), (Fx.nums ng zs).holds ρ → VL ρ e.l l'.toList → Calls P e.f l' w fun x w' => x = .returned e.v ∧ w = w') (hsn : ∀ s ∈ sns, SnOk P ks s)
    (hw : ∀ x ∈ ks, w.rangeAt x.1 0 x.2) (hl : VL (rhoN ng zs) l l'.toList)
    (hr : isTrue (callNZ P R ng fuel ks hs tb sns d (ng + m) g l (start (ng + m) ks) ⟨0, 0⟩ Res.ok) = true) : Calls P g l' w fun e w' => e = .returned (.bool true) ∧ Up w w' := by
  letI : Fx := Fx.nums ng zs
  subst hz
  cases hc : callNZ P R ng fuel ks hs tb sns d (ng + zs.length) g l (start (ng + zs.length) ks) ⟨0, 0⟩ Res.ok with
  | no s => rw [hc] at hr; cases hr
  | ok v h' f' =>
    rw [hc] at hr
    have hr : Bool.rec (motive := fun _ => Bool) false (Nat.beq f'.w 0) (isB true v) = true := hr
    have hi := start_inv (ng := ng + zs.length) (ks := ks) hn (fun x hx => ⟨by have := (hks x hx).1; omega, (hks x hx).2.1⟩)
    obtain ⟨t, v2, h2, f2, h1, hL, e⟩ := callNZ_sound (fuel := fuel) (hN := hN) hR ks hs tb sns d (ng + zs.length) g l _ ⟨0, 0⟩ Res.ok _ hi (Nat.le_refl _) ⟨v, h', f', rfl⟩ hc
    cases e
    cases hb : isB true v with
    | false => rw [hb] at hr; cases hr
    | true =>
      rw [hb] at hr
      have hw0 := Nat.eq_of_beq_eq_true hr
      rw [isB_eq] at hb
      have hv : v = .bool true := by
        cases v with
        | bool b => cases b <;> first | rfl | cases hb
        | _ => cases hb
      subst hv
      have hwr := startN_wr (P := P) (zs := zs) hn hks hw
      have hgl : GL (rhoN ng zs) ng := ⟨fun g hg => ⟨0, by unfold rhoN; rw [if_pos hg]⟩, fun i z hz => rhoN_num hz⟩
      refine (callN_sound (hN := hN) hm (fun x hx => ⟨(hks x hx).1, (hks x hx).2.2.1⟩) hh ht hsn d g l t _ h1 (rhoN ng zs) _ w l' hL.val hwr hgl hl).mono ?_
      rintro e w' ⟨v', ρ', rfl, hv, hwent⟩
      refine ⟨by rw [hv.bool_eq], hwent.fr.mono fun i _ ⟨b, hb, κ, hr⟩ => ?_⟩
      have hlo : ng + zs.length ≤ b := wroteZ hw0 hL.all b hb
      unfold rhoN at hr
      rw [if_neg (by omega), List.getElem?_eq_none (by omega)] at hr
      cases hr

/-- Is a value what a picture says? -/
def nthO (env : List Nat) : Nat → Option Nat := List.rec (motive := fun _ => Nat → Option Nat) (fun _ => none) (fun x _ ih d => Nat.rec (motive := fun _ => Option Nat) (some x) (fun m _ => ih m) d) env
theorem nthO_eq : ∀ (env : List Nat) (d : Nat), nthO env d = env[d]?
  | [], d => by simp [nthO]
  | x :: env, 0 => rfl
  | x :: env, d + 1 => by
    rw [List.getElem?_cons_succ, ← nthO_eq env d]; rfl
def capB (n k : Nat) : Bool := or (Nat.ble n k) (or (Nat.beq k unk) (Nat.beq k unk2))
def isAt (env : List Nat) (d b : Nat) : Bool := match nthO env d with
  | some b' => Nat.beq b b'
  | none => false
theorem isAt_spec {env : List Nat} {d b : Nat} (h : isAt env d b = true) : env[d]? = some b := by
  unfold isAt at h
  rw [nthO_eq] at h
  split at h
  · rename_i b' hb
    rw [hb, Nat.eq_of_beq_eq_true h]
  · cases h
def flatEq (v e : Value) : Bool := match v, e with
  | .pointer none, .pointer none => true
  | .slice none n k, .slice none m j => and (Nat.beq n m) (Nat.beq k j)
  | .nilFunc, .nilFunc => true
  | .nilIface, .nilIface => true
  | .map none, .map none => true
  | .int k a, .int k' b => and (Nat.beq (kn k) (kn k')) (eqV a b)
  | v, e => sameV v e
theorem flatEq_eq {v e : Value} (h : flatEq v e = true) : v = e := by
  unfold flatEq at h
  split at h
  · rfl
  · rw [Bool.and_eq_true] at h
    rw [Nat.eq_of_beq_eq_true h.1, Nat.eq_of_beq_eq_true h.2]
  · rfl
  · rfl
  · rfl
  · rw [Bool.and_eq_true] at h
    have h2 := h.2
    rw [eqV_eq] at h2
    rw [kn_inj h.1, eq_of_beq h2]
  · exact sameV_eq h
def isC (env : List Nat) (c : SC) (v : Value) : Bool := match c with
  | .g u => and (flat u) (flatEq v u)
  | .p d o => (match v with
    | .pointer (some ⟨b, o', none⟩) => and (isAt env d b) (Nat.beq o o')
    | _ => false)
  | .s d o n => (match v with
    | .slice (some ⟨b, o', none⟩) n' k' => and (and (isAt env d b) (Nat.beq o o')) (and (Nat.beq n n') (and (Nat.ble n k') (not (Nat.beq k' unk2))))
    | _ => false)
def isL {α : Type} (p : α → Value → Bool) : List α → List Value → Bool
  | [], [] => true
  | x :: l, v :: m => (match p x v with
    | true => isL p l m
    | false => false)
  | _, _ => false
theorem isL_spec {α : Type} {p : α → Value → Bool} : ∀ {l : List α} {m : List Value}, isL p l m = true → LRel (fun x v => p x v = true) l m
  | [], [], _ => ⟨rfl, fun i x y h => by simp at h⟩
  | x :: l, v :: m, h => by
    simp only [isL] at h
    split at h
    · rename_i hp
      obtain ⟨h1, h2⟩ := isL_spec h
      refine ⟨by simp [h1], fun i y z hy hz => ?_⟩
      cases i with
      | zero => simp at hy hz; subst hy hz; exact hp
      | succ i => simp only [List.getElem?_cons_succ] at hy hz; exact h2 i y z hy hz
    · cases h
  | [], _ :: _, h => by simp [isL] at h
  | _ :: _, [], h => by simp [isL] at h
def isR (env : List Nat) (x : SR) (v : Value) : Bool := match x with
  | .c x => isC env x v
  | .a l => (match v with
    | .agg ⟨m⟩ => isL (isC env) l m
    | _ => false)
def isT (env : List Nat) (x : ST) (v : Value) : Bool := match x with
  | .one x => isR env x v
  | .tup l => (match v with
    | .tuple ⟨m⟩ => isL (isR env) l m
    | _ => false)
/-- The cells of a block, from o on. -/
def isRow (h : Hs) (env : List Nat) (b : Nat) : List SC → Nat → Bool := fun l => List.rec (motive := fun _ => Nat → Bool) (fun _ => true) (fun c _ ih o => Option.rec (motive := fun _ => Bool) false (fun v => Bool.rec (motive := fun _ => Bool) false (ih (Nat.succ o)) (isC env c v)) (cellZ h b o)) l
theorem isRow_spec {h : Hs} {env : List Nat} {b : Nat} : ∀ {l : List SC} {o : Nat}, isRow h env b l o = true → ∀ (i : Nat) (c : SC), l[i]? = some c → ∃ v, h.cell b (o + i) = some v ∧ isC env c v = true
  | [], o, _, i, c, hc => by simp at hc
  | x :: l, o, hr, i, c, hc => by
    have hr : Option.rec (motive := fun _ => Bool) false (fun v => Bool.rec (motive := fun _ => Bool) false (isRow h env b l (o + 1)) (isC env x v)) (cellZ h b o) = true := hr
    rw [cellZ_eq] at hr
    cases hv : h.cell b o with
    | none => rw [hv] at hr; cases hr
    | some v =>
      rw [hv] at hr
      have hr : Bool.rec (motive := fun _ => Bool) false (isRow h env b l (o + 1)) (isC env x v) = true := hr
      cases hx : isC env x v with
      | false => rw [hx] at hr; cases hr
      | true =>
        rw [hx] at hr
        cases i with
        | zero => simp at hc; subst hc; exact ⟨v, hv, hx⟩
        | succ i =>
          simp only [List.getElem?_cons_succ] at hc
          obtain ⟨v', h1, h2⟩ := isRow_spec hr i c hc
          exact ⟨v', by rw [show o + (i + 1) = o + 1 + i by omega]; exact h1, h2⟩
def rowB (h : Hs) (b : Nat) : Bool := match h.bk b with
  | some k => (match Nat.beq k.ty.2 mp with
    | true => false
    | false => true)
  | none => false
theorem rowB_spec {h : Hs} {b : Nat} (e : rowB h b = true) : ∃ k : Bk, h.den b = .live k.ty k.cell ∧ k.ty.2 ≠ mp ∧ b < h.nx := by
  unfold rowB Hs.bk at e
  cases hb : Nat.blt b h.nx with
  | false => rw [hb] at e; cases e
  | true =>
    rw [hb] at e
    cases hk : Tr.get 30 h.m b with
    | none => rw [hk] at e; cases e
    | some x =>
      cases x with
      | none => rw [hk] at e; cases e
      | some k =>
        rw [hk] at e
        simp only at e
        split at e
        · cases e
        · rename_i h3
          refine ⟨k, by unfold Hs.den; rw [if_pos (blt_lt hb), hk], fun h4 => (by rw [h4, Nat.beq_refl] at h3; cases h3), blt_lt hb⟩
/-- Are blocks what a picture says? -/
def picB (h : Hs) (lo : Nat) (fin : List Nat → Bool) (blks : List (List SC)) : List Nat → List Nat → Bool := List.rec (motive := fun _ => List Nat → List Nat → Bool) (fun _ env => fin env)
  (fun cs _ ih ns env => List.rec (motive := fun _ => Bool) false (fun n r _ => Bool.rec (motive := fun _ => Bool) false (Bool.rec (motive := fun _ => Bool) (Bool.rec (motive := fun _ => Bool) false (Bool.rec (motive := fun _ => Bool) false (ih r (n :: env)) (isRow h env n cs 0)) (rowB h n)) false (memN n env)) (Nat.ble lo n)) ns) blks
theorem memN_false {g : Nat} : ∀ {l : List Nat}, memN g l = false → g ∉ l
  | [], _ => by simp
  | x :: l, h => by
    have h : Bool.rec (motive := fun _ => Bool) (memN g l) true (Nat.beq x g) = false := h
    cases hb : Nat.beq x g with
    | true => rw [hb] at h; cases h
    | false =>
      rw [hb] at h
      intro hm
      rcases List.mem_cons.1 hm with rfl | hm
      · rw [Nat.beq_refl] at hb; cases hb
      · exact memN_false h hm

/-- Names of a picture's blocks in a run, and the blocks. -/
def NmR (ρ : Rho) (env sg : List Nat) : Prop := env.length = sg.length ∧ ∀ (d b : Nat), env[d]? = some b → ∃ k κ, sg[d]? = some k ∧ ρ b = some (k, κ)
theorem isC_spec {ρ : Rho} {env sg : List Nat} (he : NmR ρ env sg) {c : SC} {v v' : Value} (h : isC env c v = true) (hv : V ρ v v') : CRel sg c v' := by
  cases c with
  | g u =>
    have h : and (flat u) (flatEq v u) = true := h
    rw [Bool.and_eq_true] at h
    obtain rfl := flatEq_eq h.2
    exact ⟨h.1, hv.flat_eq h.1⟩
  | p d o =>
    unfold isC at h
    simp only at h
    split at h
    · rename_i b o'
      rw [Bool.and_eq_true] at h
      obtain rfl := Nat.eq_of_beq_eq_true h.2
      obtain ⟨k, κ, h1, h2⟩ := he.2 d b (isAt_spec h.1)
      cases hv
      rename_i hr
      rw [h2] at hr
      cases hr
      exact ⟨_, h1, rfl⟩
    · cases h
  | s d o n =>
    unfold isC at h
    simp only at h
    split at h
    · rename_i b o' n' k'
      rw [Bool.and_eq_true, Bool.and_eq_true, Bool.and_eq_true, Bool.and_eq_true] at h
      obtain ⟨⟨h3, h4⟩, h5, h6, h7⟩ := h
      have h7 : k' ≠ unk2 := fun e => by rw [e, Nat.beq_refl] at h7; cases h7
      obtain rfl := Nat.eq_of_beq_eq_true h4
      obtain rfl := Nat.eq_of_beq_eq_true h5
      have h6 := Nat.le_of_ble_eq_true h6
      obtain ⟨k, κ, h1, h2⟩ := he.2 d b (isAt_spec h3)
      cases hv with
      | slc _ c0 κ0 _ _ _ k2 hr hk =>
        rw [h2] at hr
        cases hr
        refine ⟨_, k2, h1, ?_, rfl⟩
        cases hk with
        | same => exact h6
        | whole ho hn => exact hn
        | some_ _ hn => exact hn
      | slc0 => exact absurd rfl h7
    · cases h
theorem isL_rel {ρ : Rho} {α : Type} {p : α → Value → Bool} {r : α → Value → Prop} (hp : ∀ x v v', p x v = true → V ρ v v' → r x v') {l : List α} {m m' : List Value} (h : isL p l m = true) (hv : VL ρ m m') : LRel r l m' := by
  obtain ⟨h1, h2⟩ := isL_spec h
  refine ⟨h1.trans hv.1, fun i x y hx hy => ?_⟩
  have hi : i < m.length := by rw [hv.1]; exact (List.getElem?_eq_some_iff.1 hy).1
  exact hp _ _ _ (h2 i x _ hx (List.getElem?_eq_getElem hi)) (hv.2 i _ _ (List.getElem?_eq_getElem hi) hy)
theorem isR_spec {ρ : Rho} {env sg : List Nat} (he : NmR ρ env sg) {c : SR} {v v' : Value} (h : isR env c v = true) (hv : V ρ v v') : RRel sg c v' := by
  cases c with
  | c x => exact isC_spec he h hv
  | a l =>
    unfold isR at h
    simp only at h
    split at h
    · rename_i m
      cases hv with
      | agg _ m' hl hr => exact ⟨m', rfl, isL_rel (r := CRel sg) (fun x v v' h1 h2 => isC_spec he h1 h2) h ⟨hl, hr⟩⟩
    · cases h
theorem isT_spec {ρ : Rho} {env sg : List Nat} (he : NmR ρ env sg) {c : ST} {v v' : Value} (h : isT env c v = true) (hv : V ρ v v') : TRel sg c v' := by
  cases c with
  | one x => exact isR_spec he h hv
  | tup l =>
    unfold isT at h
    simp only at h
    split at h
    · rename_i m
      cases hv with
      | tuple _ m' hl hr => exact ⟨m', rfl, isL_rel (r := RRel sg) (fun x v v' h1 h2 => isR_spec he h1 h2) h ⟨hl, hr⟩⟩
    · cases h
theorem picB_spec {ρ : Rho} {h : Hs} {w w' : World} {lo : Nat} {fin : List Nat → Bool} {Fin : List Nat → Prop} (hi : h.Inv) (hw : WR P ρ h.den w') (hlo : ∀ b k κ, lo ≤ b → ρ b = some (k, κ) → w.heap.size ≤ k)
    (hf : ∀ env sg, NmR ρ env sg → fin env = true → Fin sg) : ∀ {blks : List (List SC)} {ns env sg : List Nat}, NmR ρ env sg → (∀ b ∈ env, ∃ k : Bk, h.den b = .live k.ty k.cell) → picB h lo fin blks ns env = true → SnapAt w w' Fin blks sg
  | [], ns, env, sg, he, _, hp => hf env sg he hp
  | cs :: blks, ns, env, sg, he, hl, hp => by
    cases ns with
    | nil => cases hp
    | cons n ns =>
      have hp : Bool.rec (motive := fun _ => Bool) false (Bool.rec (motive := fun _ => Bool) (Bool.rec (motive := fun _ => Bool) false (Bool.rec (motive := fun _ => Bool) false (picB h lo fin blks ns (n :: env)) (isRow h env n cs 0)) (rowB h n)) false (memN n env)) (Nat.ble lo n) = true := hp
      cases h1 : Nat.ble lo n with
      | false => rw [h1] at hp; cases hp
      | true =>
        rw [h1] at hp
        cases h2 : memN n env with
        | true => rw [h2] at hp; cases hp
        | false =>
          rw [h2] at hp
          cases h3 : rowB h n with
          | false => rw [h3] at hp; cases hp
          | true =>
            rw [h3] at hp
            cases h4 : isRow h env n cs 0 with
            | false => rw [h4] at hp; cases hp
            | true =>
              rw [h4] at hp
              obtain ⟨k, e1, e2, _⟩ := rowB_spec h3
              obtain ⟨c, κ, C, t', fz, r1, r2, _, r3⟩ := hw.blk n _ _ e1 e2
              have hnm : n ∉ env := memN_false h2
              refine ⟨c, C, t', fz, hlo n c κ (Nat.le_of_ble_eq_true h1) r1, fun hm => ?_, r2, fun o x hx => ?_, picB_spec hi hw hlo hf (ns := ns) (env := n :: env) ⟨by simp [he.1], fun d b hd => ?_⟩ (fun b hb => ?_) hp⟩
              · obtain ⟨d, hd⟩ := List.mem_iff_getElem?.1 hm
                have hdl : d < env.length := by rw [he.1]; exact (List.getElem?_eq_some_iff.1 hd).1
                obtain ⟨k2, κ2, g1, g2⟩ := he.2 d _ (List.getElem?_eq_getElem hdl)
                rw [hd] at g1
                cases g1
                obtain ⟨k3, e3⟩ := hl _ (List.getElem_mem hdl)
                have := hw.inj _ _ _ _ _ _ _ _ _ e1 e3 r1 g2
                exact hnm (this ▸ List.getElem_mem hdl)
              · obtain ⟨v, g1, g2⟩ := isRow_spec h4 o x hx
                rw [Nat.zero_add] at g1
                obtain ⟨⟨ty, c2, g3, g4⟩, _, g5⟩ := Hs.cell_ok hi g1
                rw [e1] at g3
                cases g3
                obtain ⟨v', g6, g7⟩ := (r3 o v g4).resolve_left (fun h => g5 h.1)
                exact ⟨v', g6, isC_spec he g2 g7⟩
              · cases d with
                | zero => simp at hd; subst hd; exact ⟨c, κ, rfl, r1⟩
                | succ d =>
                  simp only [List.getElem?_cons_succ] at hd ⊢
                  exact he.2 d b hd
              · rcases List.mem_cons.1 hb with rfl | hb
                · exact ⟨k, e1⟩
                · exact hl b hb

/-- A run leaves what a picture says. -/
def snapB (q : Res) (lo : Nat) (ns : List Nat) (blks : List (List SC)) (res : ST) : Bool := Res.rec (motive := fun _ => Bool) (fun _ => false) (fun v h f => Bool.rec (motive := fun _ => Bool) false (picB h lo (fun env => isT env res v) blks ns []) (Nat.beq f.w 0)) q
theorem evn_snap (hR : R.Ok P) (hN : NamesOk P) (hm : P.follows .mixedOrders = true) {d : Nat} {g : FuncId} {l : List Value} {ks : List (Nat × List Value)} {hs : List FuncId} {sns : List Sn} {ns : List Nat} {blks : List (List SC)} {res : ST} (hn : ng + 1 < 2 ^ 30)
    (hks : ∀ x ∈ ks, x.1 < ng ∧ x.2.length + 1 < 2 ^ 30 ∧ x.2.all flat = true ∧ x.2 ≠ []) (hh : ∀ g ∈ hs, ∀ w, (∀ x ∈ ks, w.rangeAt x.1 0 x.2) → Calls P g #[] w fun e w' => e = .returned (.bool true) ∧ Up w w') (hsn : ∀ s ∈ sns, SnOk P ks s) (hl : l.all flat = true)
    (hr : snapB (callNZ P R ng fuel ks hs [] sns d ng g l (start ng ks) ⟨0, 0⟩ Res.ok) ng ns blks res = true) : SnOk P ks ⟨g, l, blks, res⟩ := by
  refine ⟨hl, fun w hw => ?_⟩
  letI : Fx := Fx.nothing
  cases hc : callNZ P R ng fuel ks hs [] sns d ng g l (start ng ks) ⟨0, 0⟩ Res.ok with
  | no s => rw [hc] at hr; cases hr
  | ok v h' f' =>
    rw [hc] at hr
    have hr : Bool.rec (motive := fun _ => Bool) false (picB h' ng (fun env => isT env res v) blks ns []) (Nat.beq f'.w 0) = true := hr
    have hi := start_inv (ng := ng) (ks := ks) hn (fun x hx => ⟨(hks x hx).1, (hks x hx).2.1⟩)
    obtain ⟨t, v2, h2, f2, h1, hL, e⟩ := callNZ_sound (fuel := fuel) (hN := hN) hR ks hs [] sns d ng g l _ ⟨0, 0⟩ Res.ok _ hi (Nat.le_refl _) ⟨v, h', f', rfl⟩ hc
    cases e
    cases hb : Nat.beq f'.w 0 with
    | false => rw [hb] at hr; cases hr
    | true =>
      rw [hb] at hr
      have hw0 := Nat.eq_of_beq_eq_true hb
      have hwr := start_wr (P := P) hn hks hw
      have hvl : VL (rho0 ng) l (⟨l⟩ : Array Value).toList := ⟨rfl, flats_refl hl⟩
      refine (callN_sound (hN := hN) hm (fun x hx => ⟨(hks x hx).1, (hks x hx).2.2.1⟩) hh (fun _ h => by cases h) hsn d g l t _ h1 (rho0 ng) _ w ⟨l⟩ hL.val hwr (rho0_gl ng trivial) hvl).mono ?_
      rintro e w' ⟨v', ρ', rfl, hv, hwent⟩
      have hwrote : ∀ b ∈ wrote t, ∀ x, rho0 ng b ≠ some x := fun b hb x hx => by
        have hlo : ng ≤ b := wroteZ hw0 hL.all b hb
        unfold rho0 at hx
        rw [if_neg (by omega)] at hx
        cases hx
      refine ⟨hwent.fr.mono fun i _ ⟨b, hb, κ, hr⟩ => hwrote b hb _ hr, v', rfl, ?_⟩
      have hwr' : WR P ρ' h'.den w' := by rw [← hL.app]; exact hwent.wr
      refine picB_spec hL.inv hwr' (fun b k κ hlo hk => ?_) (fun env sg he hf => isT_spec he hf hv) (env := []) (sg := []) ⟨rfl, fun d b hd => by simp at hd⟩ (fun b hb => by cases hb) hr
      rcases hwent.new b k κ hk with h3 | h3 | ⟨a, ha, κ', h3⟩
      · unfold rho0 at h3
        rw [if_neg (by omega)] at h3
        cases h3
      · exact h3
      · exact absurd h3 (hwrote a ha _)
end
end
end Go.Proofs.YtmphiefdoaihhaaGreatDoor
