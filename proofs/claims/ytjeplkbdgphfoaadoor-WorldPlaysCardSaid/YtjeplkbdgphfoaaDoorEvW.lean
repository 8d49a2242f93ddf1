/-
  A run that is reckoned over blocks with names of its own: calls that were reckoned before are taken as they are: no function of a program is named here.
-/
import Derived.Test.YtjeplkbdgphfoaaDoorEvV
namespace Go.Proofs.YtjeplkbdgphfoaaDoor
open Go.RowKit
noncomputable section

/-- A call of a function with a body, its calls by K. -/
def CallS {P : Program} {ng : Nat} (A : OpA P ng) (K : CallK) : CallK := fun f l t v => ∃ fn c x t1 t2 e1, P.funcs[f]? = some fn ∧ fn.body = some c ∧ CodeR A K c { tmps := ⟨l⟩ ++ Array.replicate (fn.ntmps - l.length) undef, defers := [] } t1 x e1 ∧
      (x = .normal ∨ x = .ret) ∧ PR (resP P (fun t => e1.tmps.getD t undef) fn.results.toList [] fun l => .val (packed l)) t2 (.val v) ∧ t = t1 ++ t2
theorem callS_sound [Fx] {P : Program} {ng : Nat} (hm : P.follows .mixedOrders = true) {A : OpA P ng} {K : CallK} (hK : KSound P ng K) : KSound P ng (CallS A K) := by
  intro f l t v h ρ H w l' hv hw hg hl
  obtain ⟨fn, c, x, t1, t2, e1, hf, hb, hc, hx, hr, rfl⟩ := h
  rw [Valid.append] at hv
  have he : ER ρ { tmps := ⟨l⟩ ++ Array.replicate (fn.ntmps - l.length) undef, defers := [] } { tmps := l' ++ Array.replicate (fn.ntmps - l'.size) undef, defers := [] } := by
    have hs : l.length = l'.size := by rw [hl.1]; simp
    refine ⟨by simp [hs], fun i v v' a b => ?_, rfl, rfl⟩
    have hl2 : VL ρ (l ++ List.replicate (fn.ntmps - l.length) undef) (l'.toList ++ List.replicate (fn.ntmps - l.length) undef) := hl.append ⟨rfl, fun i v v' a b => by
      rw [a] at b; cases b
      have := List.mem_of_getElem? a
      rw [List.eq_of_mem_replicate this]; exact V.undef⟩
    refine hl2.2 i v v' ?_ ?_
    · rw [← a]; simp [← Array.getElem?_toList]
    · rw [← b]; simp [← Array.getElem?_toList, hs]
  refine calls_of_wp hf hb ((code_sound hm hK hc).wp _ _ ρ H w hv.1 hw he hg fun a' w' ρ' h1 h2 => ?_)
  obtain ⟨us, us', s1, s2, rfl, q1, q2, q3, q4, q5, q6⟩ := resP_sound h1.wr h2 hr hv.2
  cases q1
  have hres : (results fn a'.tmps).run P w' = .ok (packed us') w' := by
    have e : results fn a'.tmps = (do
        let vs ← fn.results.mapM (resM a')
        pure (if h : vs.size = 1 then vs[0] else .tuple vs)) := by
      unfold results
      congr 1
    rw [e, Array.mapM_eq_mapM_toList, map_eq_pure_bind]
    simp only [Sem.run_bind, Sem.run_pure, Result.andThen_ok, q3]
    unfold packed
    cases us' with
    | nil => rfl
    | cons x r => cases r <;> simp
  have hR : ∃ v' ρ'', (Ending.returned (packed us')) = .returned v' ∧ V ρ'' (packed ([].reverse ++ us)) v' ∧ Went P ρ H w (t1 ++ (s1 ++ [])) ρ'' w' := by
    refine ⟨_, ρ', rfl, ?_, ?_⟩
    · have q : VL ρ' us us' := q2
      unfold packed
      cases us with
      | nil => rw [q.cases_nil]; exact .tuple [] [] rfl (by simp)
      | cons x r =>
        obtain ⟨x', r', rfl, qx, qr⟩ := q.cases_cons
        cases r with
        | nil => rw [qr.cases_nil]; exact qx
        | cons y r =>
          obtain ⟨y', r'', rfl, qy, qs⟩ := qr.cases_cons
          exact .tuple _ _ q.1 q.2
    · refine h1.congr ?_ ?_
      · rw [apps_append, apps_append, q4]; rfl
      · intro b hb; rw [wrote_append]; exact List.mem_append_left _ hb
  rcases hx with rfl | rfl
  · exact ⟨h2.da, _, hres, hR⟩
  · exact ⟨h2.da, _, hres, hR⟩

section
variable {P : Program} {R : Rt} {ng n fuel : Nat} {hN : NamesOk P} {K : CallK}
theorem stepZ_sound (hR : R.Ok P) {C : CZ} (hC : CSoundZ C K) : CSoundZ (fun thr g l h f k => (mkFn P R ng fuel g).run C thr l h f k) (CallS (opA hN ng) K) := by
  intro thr g l h f k q hi ht hq e
  have e : (mkFn P R ng fuel g).run C thr l h f k = q := e
  unfold mkFn at e
  split at e
  case h_2 => rw [← e] at hq; exact (rok_no hq).elim
  rename_i fn hf
  split at e
  case h_2 => rw [← e] at hq; exact (rok_no hq).elim
  rename_i c hb
  have e : Bool.rec (motive := fun _ => Res) (.no "args") ((mkCode P R ng fn.ntmps fuel c).run C thr (fillZ l 0 uFrm) h f (fun fr h f => (rsZ R fn.ntmps fn.results.toList).run C thr fr h f k) (fun e fr h f => Xx.rec (motive := fun _ => Res) (.no "end") ((rsZ R fn.ntmps fn.results.toList).run C thr fr h f k) (fun _ => .no "exit") e)) (Nat.ble (lenZ l) fn.ntmps) = q := e
  rw [lenZ_eq] at e
  cases hl : Nat.ble l.length fn.ntmps with
  | false => rw [hl] at e; rw [← e] at hq; exact (rok_no hq).elim
  | true =>
    rw [hl] at e
    have hl := Nat.le_of_ble_eq_true hl
    obtain ⟨t1, fr1, h1, f1, ex, p1, p2, p3⟩ := mkCode_ok (hN := hN) (ng := ng) (fuel := fuel) hR c _ hC thr _ h f _ _ q hi ht hq e
    rw [fillZ_act hl] at p1
    rw [hR.2.2] at hf
    have main : (Xx.out ex = .normal ∨ Xx.out ex = .ret) → (rsZ R fn.ntmps fn.results.toList).run C thr fr1 h1 f1 k = q → ∃ t v h' f', CallS (opA hN ng) K g l t v ∧ LeftZ thr h f h' f' t ∧ k v h' f' = q := by
      intro hx e
      obtain ⟨t2, v, h2, f2, q1, q2, q3⟩ := rsZ_sound hR p2.inv (Nat.le_trans ht p2.le) hq e
      exact ⟨t1 ++ t2, v, h2, f2, ⟨fn, c, Xx.out ex, t1, t2, _, hf, hb, p1, hx, q1, rfl⟩, p2.trans q2, q3⟩
    cases ex with
    | normal => exact main (.inl rfl) p3
    | ret => exact main (.inr rfl) p3
    | exit j => have p3 : Res.no "exit" = q := p3; rw [← p3] at hq; exact (rok_no hq).elim


/-- The cells of the program's own arrays are as they were laid. -/
def sameV (v e : Value) : Bool := match v, e with
  | .string a, .string b => leq a.data.toList b.data.toList
  | .int k a, .int k' b => Bool.rec (motive := fun _ => Bool) false (eqV a b) (sameK k k')
  | .bool a, .bool b => a == b
  | _, _ => false
theorem sameV_eq {v e : Value} (h : sameV v e = true) : v = e := by
  unfold sameV at h
  split at h
  · rw [leq_eq] at h
    have := eq_of_beq h
    congr 1
    apply ByteArray.ext
    apply Array.toList_inj.1
    exact this
  · rename_i k a k' b
    cases hs : sameK k k' with
    | false => rw [hs] at h; cases h
    | true =>
      rw [hs] at h
      obtain rfl := sameK_eq hs
      have h : eqV a b = true := h
      rw [eqV_eq] at h
      rw [eq_of_beq h]
  · rw [eq_of_beq h]
  · cases h
def chkP (b : Nat) : Nat → List Value → Prog → Prog
  | _, [], k => k
  | o, e :: l, k => .rd b o fun v => match sameV v e with
    | true => chkP b (o + 1) l k
    | false => .fail
def chkAll : List (Nat × List Value) → Prog → Prog
  | [], k => k
  | (b, l) :: ks, k => chkP b 0 l (chkAll ks k)
theorem chkP_read {b : Nat} {k : Prog} (h : ReadP k) : ∀ (l : List Value) (o : Nat), ReadP (chkP b o l k)
  | [], _ => h
  | e :: l, o => fun t r hp => by
    cases hp with
    | rd hoo hp =>
      rename_i v t
      simp only at hp
      cases hs : sameV v e with
      | false => rw [hs] at hp; cases hp
      | true =>
        rw [hs] at hp
        obtain ⟨h1, h2⟩ := chkP_read h l (o + 1) t r hp
        refine ⟨fun a ha => ?_, h2⟩
        rcases List.mem_cons.1 ha with rfl | ha
        · exact ⟨_, _, _, rfl⟩
        · exact h1 a ha
theorem chkAll_read {k : Prog} (h : ReadP k) : ∀ ks : List (Nat × List Value), ReadP (chkAll ks k)
  | [] => h
  | (_, _) :: ks => chkP_read (chkAll_read h ks) _ _
theorem rds_apps {H : Hp} : ∀ {t : List Ac}, (∀ a ∈ t, isRd a) → apps H t = H ∧ wrote t = []
  | [], _ => ⟨rfl, rfl⟩
  | a :: t, h => by
    obtain ⟨b, o, v, rfl⟩ := h a List.mem_cons_self
    exact rds_apps (t := t) fun x hx => h x (List.mem_cons_of_mem _ hx)
theorem chkP_range {ρ : Rho} {H : Hp} {w : World} {b κ : Nat} (hr : ρ b = some (b, κ)) (hw : WR P ρ H w) {k : Prog} {r : Out} : ∀ {l : List Value} {o : Nat} {t : List Ac}, l.all flat = true → PR (chkP b o l k) t r → Valid H t → w.rangeAt b o l ∧ ∃ t2, PR k t2 r ∧ Valid H t2
  | [], o, t, _, h, hv => ⟨fun j v hj => by simp at hj, t, h, hv⟩
  | e :: l, o, t, hf, h, hv => by
    rw [List.all_cons, Bool.and_eq_true] at hf
    cases h with
    | rd ho h =>
      rename_i v t
      simp only at h
      cases hs : sameV v e with
      | false => rw [hs] at h; cases h
      | true =>
        rw [hs] at h
        obtain rfl := sameV_eq hs
        obtain ⟨h1, h2⟩ := hv
        obtain ⟨c', κ', v', e1, e2, e3⟩ := hw.rd ho h1
        rw [hr] at e1; cases e1
        obtain ⟨q1, q2⟩ := chkP_range hr hw hf.2 h h2
        refine ⟨fun j u hj => ?_, q2⟩
        cases j with
        | zero => simp at hj; subst hj; rw [← e3.flat_eq hf.1]; exact e2
        | succ j =>
          simp only [List.getElem?_cons_succ] at hj
          have := q1 j u hj
          rwa [show o + (j + 1) = o + 1 + j by omega]
theorem chkAll_range [Fx] {ρ : Rho} {H : Hp} {w : World} (hg : GL ρ ng) (hw : WR P ρ H w) {k : Prog} {r : Out} : ∀ {ks : List (Nat × List Value)} {t : List Ac}, (∀ x ∈ ks, x.1 < ng ∧ x.2.all flat = true) → PR (chkAll ks k) t r → Valid H t → (∀ x ∈ ks, w.rangeAt x.1 0 x.2) ∧ ∃ t2, PR k t2 r
  | [], t, _, h, _ => ⟨fun x hx => (by cases hx), t, h⟩
  | (b, l) :: ks, t, hk, h, hv => by
    obtain ⟨κ, hr⟩ := hg.gl b (hk _ List.mem_cons_self).1
    obtain ⟨q1, t2, q2, q3⟩ := chkP_range (k := chkAll ks k) hr hw (hk _ List.mem_cons_self).2 h hv
    obtain ⟨p1, p2⟩ := chkAll_range hg hw (fun y hy => hk y (List.mem_cons_of_mem _ hy)) q2 q3
    refine ⟨fun x hx => ?_, p2⟩
    rcases List.mem_cons.1 hx with rfl | hx
    · exact q1
    · exact p1 x hx

/-- What was reckoned before: functions without arguments that answer true. -/
def hookP (ks : List (Nat × List Value)) : Prog := chkAll ks (.val (.bool true))
def CallH (hN : NamesOk P) (ng : Nat) (ks : List (Nat × List Value)) (hs : List FuncId) : Nat → CallK
  | 0 => fun _ _ _ _ => False
  | n + 1 => fun f l t v => (f ∈ hs ∧ l = [] ∧ PR (hookP ks) t (.val v)) ∨ CallS (opA hN ng) (CallH hN ng ks hs n) f l t v
theorem Went.up {ρ : Rho} {H : Hp} {w w' : World} (hw : WR P ρ H w) (hu : Up w w') : Went P ρ H w [] ρ w' := by
  refine ⟨⟨hw.dom, hw.inj, fun b ty cell hb hm => ?_, fun b ty cell hb hm => ?_⟩, fun _ _ h => h, hu.mono fun i _ hf => hf.elim, fun _ _ _ h => .inl h⟩
  · obtain ⟨k, κ, es, cl, h1, h2, h3⟩ := hw.map b ty cell hb hm
    exact ⟨k, κ, es, cl, h1, by rw [hu.block k (Array.getElem?_eq_some_iff.1 h2).1 (fun h => h)]; exact h2, h3⟩
  obtain ⟨k, κ, cs, t', fz, h1, h2, h3, h4⟩ := hw.blk b ty cell hb hm
  exact ⟨k, κ, cs, t', fz, h1, by rw [hu.block k (Array.getElem?_eq_some_iff.1 h2).1 (fun h => h)]; exact h2, h3, h4⟩
theorem callH_sound [Fx] (hm : P.follows .mixedOrders = true) {ks : List (Nat × List Value)} {hs : List FuncId} (hks : ∀ x ∈ ks, x.1 < ng ∧ x.2.all flat = true)
    (hh : ∀ g ∈ hs, ∀ w, (∀ x ∈ ks, w.rangeAt x.1 0 x.2) → Calls P g #[] w fun e w' => e = .returned (.bool true) ∧ Up w w') : ∀ n, KSound P ng (CallH hN ng ks hs n)
  | 0 => fun f l t v h => h.elim
  | n + 1 => by
    intro f l t v h ρ H w l' hv hw hg hl
    rcases h with ⟨h1, rfl, h3⟩ | h
    · obtain ⟨h4, v2, h5⟩ := chkAll_read (val_read (.bool true)) ks t _ h3
      obtain ⟨h6, h7⟩ := rds_apps (H := H) h4
      obtain ⟨q1, t2, q2⟩ := chkAll_range hg hw hks h3 hv
      cases q2
      have hl0 : l' = #[] := Array.toList_inj.1 hl.cases_nil
      subst hl0
      refine (hh f h1 w q1).mono ?_
      rintro e w' ⟨rfl, hu⟩
      exact ⟨_, ρ, rfl, .bool true, (Went.up hw hu).congr (by rw [h6]; rfl) (fun b hb => by cases hb)⟩
    · exact callS_sound hm (callH_sound hm hks hh n) f l t v h ρ H w l' hv hw hg hl

def memN (g : Nat) (l : List Nat) : Bool := List.rec (motive := fun _ => Bool) false (fun x _ ih => Bool.rec (motive := fun _ => Bool) ih true (Nat.beq x g)) l
theorem memN_mem {g : Nat} : ∀ {l : List Nat}, memN g l = true → g ∈ l
  | [], h => by cases h
  | x :: l, h => by
    have h : Bool.rec (motive := fun _ => Bool) (memN g l) true (Nat.beq x g) = true := h
    cases hb : Nat.beq x g with
    | true => rw [← Nat.eq_of_beq_eq_true hb]; exact List.mem_cons_self
    | false => rw [hb] at h; exact List.mem_cons_of_mem _ (memN_mem h)
def isNil {α : Type} (l : List α) : Bool := List.rec (motive := fun _ => Bool) true (fun _ _ _ => false) l
theorem isNil_eq {α : Type} {l : List α} (h : isNil l = true) : l = [] := by cases l <;> first | rfl | cases h
def hookB (hs : List FuncId) (g : FuncId) (l : List Value) : Bool := Bool.rec (motive := fun _ => Bool) false (isNil l) (memN g hs)
def callHZ (P : Program) (R : Rt) (ng fuel : Nat) (ks : List (Nat × List Value)) (hs : List FuncId) (d : Nat) : CZ := Nat.rec (motive := fun _ => CZ) (fun _ _ _ _ _ _ => .no "deep")
  (fun _ ih thr g l h f k => Bool.rec (motive := fun _ => Res) ((mkFn P R ng fuel g).run ih thr l h f k) (runZ ih thr (hookP ks) h f k) (hookB hs g l)) d
theorem callHZ_sound (hR : R.Ok P) (ks : List (Nat × List Value)) (hs : List FuncId) : ∀ d, CSoundZ (callHZ P R ng fuel ks hs d) (CallH hN ng ks hs d)
  | 0 => fun thr g l h f k q _ _ hq e => by
    have e : Res.no "deep" = q := e
    rw [← e] at hq; exact (rok_no hq).elim
  | d + 1 => fun thr g l h f k q hi ht hq e => by
    have e : Bool.rec (motive := fun _ => Res) ((mkFn P R ng fuel g).run (callHZ P R ng fuel ks hs d) thr l h f k) (runZ (callHZ P R ng fuel ks hs d) thr (hookP ks) h f k) (hookB hs g l) = q := e
    cases hb : hookB hs g l with
    | false =>
      rw [hb] at e
      obtain ⟨t, v, h', f', p1, p2, p3⟩ := stepZ_sound (ng := ng) (fuel := fuel) (hN := hN) hR (callHZ_sound hR ks hs d) thr g l h f k q hi ht hq e
      exact ⟨t, v, h', f', .inr p1, p2, p3⟩
    | true =>
      rw [hb] at e
      have h1 : g ∈ hs ∧ l = [] := by
        unfold hookB at hb
        cases hm : memN g hs with
        | false => rw [hm] at hb; cases hb
        | true => rw [hm] at hb; exact ⟨memN_mem hm, isNil_eq hb⟩
      obtain ⟨t, r, h', f', p1, p2, p3⟩ := runZ_sound hi ht hq e
      obtain ⟨_, v, rfl⟩ := chkAll_read (val_read (.bool true)) ks t r p1
      exact ⟨t, v, h', f', .inl ⟨h1.1, h1.2, p1⟩, p2, p3⟩

/-- A closed sentence that answers true, with what was reckoned before. -/
theorem evh_run (hR : R.Ok P) (hN : NamesOk P) (hm : P.follows .mixedOrders = true) {d : Nat} {g : FuncId} {l : List Value} {l' : Array Value} {w : World} {ks : List (Nat × List Value)} {hs : List FuncId} (hn : ng + 1 < 2 ^ 30)
    (hks : ∀ x ∈ ks, x.1 < ng ∧ x.2.length + 1 < 2 ^ 30 ∧ x.2.all flat = true ∧ x.2 ≠ []) (hh : ∀ g ∈ hs, ∀ w, (∀ x ∈ ks, w.rangeAt x.1 0 x.2) → Calls P g #[] w fun e w' => e = .returned (.bool true) ∧ Up w w')
    (hw : ∀ x ∈ ks, w.rangeAt x.1 0 x.2) (hl : VL (rho0 ng) l l'.toList)
    (hr : isTrue (callHZ P R ng fuel ks hs d ng g l (start ng ks) ⟨0, 0⟩ Res.ok) = true) : Calls P g l' w fun e w' => e = .returned (.bool true) ∧ Up w w' := by
  letI : Fx := Fx.nothing
  cases hc : callHZ P R ng fuel ks hs d ng g l (start ng ks) ⟨0, 0⟩ Res.ok with
  | no s => rw [hc] at hr; cases hr
  | ok v h' f' =>
    rw [hc] at hr
    have hr : Bool.rec (motive := fun _ => Bool) false (Nat.beq f'.w 0) (isB true v) = true := hr
    have hi := start_inv (ng := ng) (ks := ks) hn (fun x hx => ⟨(hks x hx).1, (hks x hx).2.1⟩)
    obtain ⟨t, v2, h2, f2, h1, hL, e⟩ := callHZ_sound (fuel := fuel) (hN := hN) hR ks hs d ng g l _ ⟨0, 0⟩ Res.ok _ hi (Nat.le_refl _) ⟨v, h', f', rfl⟩ hc
    cases e
    cases hb : isB true v with
    | false => rw [hb] at hr; cases hr
    | true =>
      rw [hb] at hr
      have hw0 := Nat.eq_of_beq_eq_true hr
      rw [isB_eq] at hb
      have hv : v = .bool true := by
        cases v with
        | bool b => cases b <;> first | rfl | cases hb
        | _ => cases hb
      subst hv
      have hwr := start_wr (P := P) hn hks hw
      refine (callH_sound (hN := hN) hm (fun x hx => ⟨(hks x hx).1, (hks x hx).2.2.1⟩) hh d g l t _ h1 (rho0 ng) _ w l' hL.val hwr (rho0_gl ng trivial) hl).mono ?_
      rintro e w' ⟨v', ρ', rfl, hv, hwent⟩
      refine ⟨by rw [hv.bool_eq], hwent.fr.mono fun i _ ⟨b, hb, κ, hr⟩ => ?_⟩
      have hlo : ng ≤ b := wroteZ hw0 hL.all b hb
      unfold rho0 at hr
      rw [if_neg (by omega)] at hr
      cases hr
end
end
end Go.Proofs.YtjeplkbdgphfoaaDoor
