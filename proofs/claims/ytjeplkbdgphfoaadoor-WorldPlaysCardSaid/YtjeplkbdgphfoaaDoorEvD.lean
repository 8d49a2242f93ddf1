/-
  A run that is reckoned over blocks with names of its own: code and calls: no function of a program is named here.
-/
import Derived.Test.YtjeplkbdgphfoaaDoorEvC
import Derived.Deep.MidRow
namespace Go.Proofs.YtjeplkbdgphfoaaDoor
open Go.RowKit

/-- n cells are read. -/
def rdN (b : Nat) : Nat → Nat → List Value → (List Value → Prog) → Prog
  | 0, _, acc, k => k acc.reverse
  | n + 1, o, acc, k => .rd b o fun v => rdN b n (o + 1) (v :: acc) k
def loadP (P : Program) (t : TypeId) (v : Value) (k : Value → Prog) : Prog :=
  match v with
  | .pointer (some ⟨b, o, none⟩) =>
    match P.underlying t with
    | some d => if d.isRow then (match P.info? t with | some i => rdN b i.size o [] fun l => k (.agg ⟨l⟩) | none => .fail) else .rd b o k
    | none => .fail
  | _ => .fail

section
variable {P : Program} {ρ : Rho} {H : Hp} {w : World}
theorem rdN_sound {b c κ : Nat} (hr : ρ b = some (c, κ)) (hw : WR P ρ H w) {k : List Value → Prog} {r : Out} : ∀ {n o : Nat} {acc : List Value} {t : List Ac}, PR (rdN b n o acc k) t r → Valid H t →
    ∃ us us' t1 t2, t = t1 ++ t2 ∧ us.length = n ∧ PR (k (acc.reverse ++ us)) t2 r ∧ VL ρ us us' ∧ w.rangeAt c o us' ∧ apps H t1 = H ∧ wrote t1 = [] ∧ Valid H t2
  | 0, o, acc, t, h, hv => ⟨[], [], [], t, rfl, rfl, by simpa [rdN] using h, VL.nil, fun j v hj => by simp at hj, rfl, rfl, hv⟩
  | n + 1, o, acc, t, h, hv => by
    cases h with
    | rd ho h =>
      rename_i v t
      obtain ⟨h1, h2⟩ := hv
      obtain ⟨c', κ', v', e1, e2, e3⟩ := hw.rd ho h1
      rw [hr] at e1; cases e1
      obtain ⟨us, us', t1, t2, rfl, q1, q2, q3, q4, q5, q6, q7⟩ := rdN_sound hr hw h h2
      refine ⟨v :: us, v' :: us', .rd b o v :: t1, t2, rfl, by simp [q1], by simpa using q2, VL.cons e3 q3, fun j u hj => ?_, q5, q6, q7⟩
      cases j with
      | zero => simp at hj; subst hj; exact e2
      | succ j =>
        simp only [List.getElem?_cons_succ] at hj
        have := q4 j u hj
        rwa [show o + (j + 1) = o + 1 + j by omega]

theorem loadP_sound (hw : WR P ρ H w) {ty : TypeId} {v v' : Value} {k : Value → Prog} {r : Out} {t : List Ac} (hvv : V ρ v v') (h : PR (loadP P ty v k) t r) (hv : Valid H t) :
    ∃ c o u u' t1 t2, v' = .pointer (some ⟨c, o, none⟩) ∧ t = t1 ++ t2 ∧ PR (k u) t2 r ∧ V ρ u u' ∧ (loadVar ty ⟨c, o, none⟩).run P w = .ok u' w ∧ apps H t1 = H ∧ wrote t1 = [] ∧ Valid H t2 := by
  unfold loadP at h
  split at h
  · rename_i b o
    cases hvv with
    | ptr _ c κ _ hr =>
      cases hd : P.underlying ty with
      | none => rw [hd] at h; cases h
      | some d =>
        rw [hd] at h
        simp only at h
        by_cases hrow : d.isRow = true
        · rw [if_pos hrow] at h
          cases hi : P.info? ty with
          | none => rw [hi] at h; cases h
          | some i =>
            rw [hi] at h
            obtain ⟨us, us', t1, t2, rfl, q1, q2, q3, q4, q5, q6, q7⟩ := rdN_sound hr hw h hv
            refine ⟨c, o, .agg ⟨us⟩, .agg ⟨us'⟩, t1, t2, rfl, rfl, by simpa using q2, .agg _ _ q3.1 q3.2, ?_, q5, q6, q7⟩
            exact run_loadVar_mid w c o ty us' d q4 hd hrow (by rw [hi]; simp [← q1, q3.1])
        · rw [if_neg hrow] at h
          cases h with
          | rd ho h =>
            rename_i u t2
            obtain ⟨h1, h2⟩ := hv
            obtain ⟨c', κ', u', e1, e2, e3⟩ := hw.rd ho h1
            rw [hr] at e1; cases e1
            refine ⟨c, o, u, u', [.rd b o u], t2, rfl, rfl, h, e3, ?_, rfl, rfl, h2⟩
            have hagg : (isAgg ty).run P w = .ok false w := by
              unfold isAgg
              rw [Sem.run_bind, run_underlying hd w]
              cases d <;> simp_all
            simp only [loadVar, Sem.run_bind, hagg, Result.andThen_ok]
            simp [load, Sem.run, e2]
  · cases h
end

/-- The results of a function. -/
def resP (P : Program) (tm : Tmp → Value) : List ResultVar → List Value → (List Value → Prog) → Prog
  | [], acc, k => k acc.reverse
  | .tmp t :: l, acc, k => resP P tm l (tm t :: acc) k
  | .cell a t :: l, acc, k => loadP P t (tm a) fun v => resP P tm l (v :: acc) k
def packed (l : List Value) : Value := match l with
  | [v] => v
  | l => .tuple ⟨l⟩

section
variable {P : Program} {ng : Nat} (A : OpA P ng) (K : CallK)

inductive CodeR : Code → Act → List Ac → Exit → Act → Prop
  | skip (e : Act) : CodeR .skip e [] .normal e
  | label (l : Nat) (e : Act) : CodeR (.label l) e [] .normal e
  | ret (e : Act) : CodeR .ret e [] .ret e
  | exit (id : Nat) (e : Act) : CodeR (.exit id) e [] (.exit id) e
  | seq {x y : Code} {e e1 e2 : Act} {t u : List Ac} {ex : Exit} (h1 : CodeR x e t .normal e1) (h2 : CodeR y e1 u ex e2) : CodeR (.seq x y) e (t ++ u) ex e2
  | seqx {x y : Code} {e e1 : Act} {t : List Ac} {ex : Exit} (h : CodeR x e t ex e1) (hx : ex ≠ .normal) : CodeR (.seq x y) e t ex e1
  | cond {c : Operand} {x y : Code} {e e1 : Act} {t : List Ac} {ex : Exit} {b : Bool} (ho : opdOk ng c = true) (hc : e.eval c = .bool b) (h : CodeR (if b then x else y) e t ex e1) : CodeR (.cond c x y) e t ex e1
  | hit {id : Nat} {c : Code} {e e1 : Act} {t : List Ac} (h : CodeR c e t (.exit id) e1) : CodeR (.block id c) e t .normal e1
  | block {id : Nat} {c : Code} {e e1 : Act} {t : List Ac} {ex : Exit} (h : CodeR c e t ex e1) (hx : ex ≠ .exit id) : CodeR (.block id c) e t ex e1
  | loop {c : Code} {e e1 e2 : Act} {t u : List Ac} {ex : Exit} (h1 : CodeR c e t .normal e1) (h2 : CodeR (.loop c) e1 u ex e2) : CodeR (.loop c) e (t ++ u) ex e2
  | loopx {c : Code} {e e1 : Act} {t : List Ac} {ex : Exit} (h : CodeR c e t ex e1) (hx : ex ≠ .normal) : CodeR (.loop c) e t ex e1
  | reg {id : Nat} {ops : Array Oper} {e : Act} {l : List Stp} (hl : l.map (·.i) = List.range ops.size) (h : SeqR A K ops l e) : CodeR (.region id ops false) e (acts l) .normal (fin ops l e)
  | regd {id : Nat} {ops : Array Oper} {e : Act} {l : List Stp} (hl : l.map (·.i) = List.range ops.size) (hb : Backs ops) (hp : PairsOk ops l) (h : SeqR A K ops l e) : CodeR (.region id ops true) e (acts l) .normal (fin ops l e)

/-- From every memory that holds what is said, R holds. -/
def Good [Fx] (P : Program) (ng : Nat) (e : Act) (t : List Ac) (x : Exit) (e1 : Act) (R : (Exit → Act → World → Prop) → Act → World → Prop) : Prop :=
  ∀ (Q : Exit → Act → World → Prop) (a : Act) (ρ : Rho) (H : Hp) (w : World), Valid H t → WR P ρ H w → ER ρ e a → GL ρ ng →
    (∀ a' w' ρ', Went P ρ H w t ρ' w' → ER ρ' e1 a' → Q x a' w') → R Q a w
def Concl [Fx] (P : Program) (ng : Nat) (e : Act) (t : List Ac) (x : Exit) (e1 : Act) : Code → Prop
  | .loop c => ∃ n, Good P ng e t x e1 fun Q a w => Code.rounds P c Q n a w
  | c => Good P ng e t x e1 fun Q a w => c.wp P Q a w
end
theorem Concl.wp [Fx] {P : Program} {ng : Nat} {e e1 : Act} {t : List Ac} {x : Exit} {c : Code} (h : Concl P ng e t x e1 c) : Good P ng e t x e1 fun Q a w => c.wp P Q a w := by
  cases c
  case loop c => obtain ⟨n, h⟩ := h; exact fun Q a ρ H w h1 h2 h3 h4 h5 => wp_loop_rounds n (h Q a ρ H w h1 h2 h3 h4 h5)
  all_goals exact h

section
variable {P : Program} {ng : Nat} {A : OpA P ng} {K : CallK}

theorem Went.tape {ρ ρ' : Rho} {H : Hp} {w w' : World} {t : List Ac} {n : Nat} (h : Went P ρ H { w with drawn := n } t ρ' w') : Went P ρ H w t ρ' w' :=
  ⟨h.wr, h.ext, ⟨h.fr.os, h.fr.tape, h.fr.output, h.fr.size, h.fr.block⟩, h.new⟩

theorem code_sound [Fx] (hm : P.follows .mixedOrders = true) (hK : KSound P ng K) {c : Code} {e e1 : Act} {t : List Ac} {x : Exit} (h : CodeR A K c e t x e1) : Concl P ng e t x e1 c := by
  induction h with
  | skip e => intro Q a ρ H w _ hw he _ hq; exact wp_skip (hq a w ρ (Went.refl hw) he)
  | label l e => intro Q a ρ H w _ hw he _ hq; exact wp_label (hq a w ρ (Went.refl hw) he)
  | ret e => intro Q a ρ H w _ hw he _ hq; exact wp_ret (hq a w ρ (Went.refl hw) he)
  | exit id e => intro Q a ρ H w _ hw he _ hq; exact wp_exit (hq a w ρ (Went.refl hw) he)
  | seq _ _ ih1 ih2 =>
    intro Q a ρ H w hv hw he hg hq
    rw [Valid.append] at hv
    refine wp_seq (ih1.wp _ a ρ H w hv.1 hw he hg fun a' w' ρ' h1 h2 => ?_)
    exact (ih2.wp Q a' ρ' _ w' hv.2 h1.wr h2 (hg.more h1.ext) fun a'' w'' ρ'' h3 h4 => hq a'' w'' ρ'' (h1.trans h3) h4)
  | seqx _ hx ih =>
    intro Q a ρ H w hv hw he hg hq
    refine wp_seq (ih.wp _ a ρ H w hv hw he hg fun a' w' ρ' h1 h2 => ?_)
    have := hq a' w' ρ' h1 h2
    rename_i ex _
    cases ex <;> first | exact absurd rfl hx | exact this
  | cond ho hc _ ih =>
    intro Q a ρ H w hv hw he hg hq
    have hcv := he.eval hg ho
    rw [hc] at hcv
    exact wp_cond hcv.bool_eq (ih.wp Q a ρ H w hv hw he hg hq)
  | hit _ ih =>
    intro Q a ρ H w hv hw he hg hq
    refine wp_block (ih.wp _ a ρ H w hv hw he hg fun a' w' ρ' h1 h2 => ?_)
    simp only [Exit.inBlock, if_true]
    exact hq a' w' ρ' h1 h2
  | block _ hx ih =>
    intro Q a ρ H w hv hw he hg hq
    refine wp_block (ih.wp _ a ρ H w hv hw he hg fun a' w' ρ' h1 h2 => ?_)
    have := hq a' w' ρ' h1 h2
    rename_i id _ _ _ _ ex _
    cases ex with
    | exit i => simp only [Exit.inBlock]; rw [if_neg (fun h => hx (by rw [h]))]; exact this
    | _ => exact this
  | loop _ _ ih1 ih2 =>
    obtain ⟨n, hn⟩ := ih2
    refine ⟨n + 1, ?_⟩
    intro Q a ρ H w hv hw he hg hq
    rw [Valid.append] at hv
    rw [rounds_succ]
    refine ih1.wp _ a ρ H w hv.1 hw he hg fun a' w' ρ' h1 h2 => ?_
    exact hn Q a' ρ' _ w' hv.2 h1.wr h2 (hg.more h1.ext) fun a'' w'' ρ'' h3 h4 => hq a'' w'' ρ'' (h1.trans h3) h4
  | loopx _ hx ih =>
    refine ⟨1, ?_⟩
    intro Q a ρ H w hv hw he hg hq
    rw [rounds_succ]
    refine (ih.wp _ a ρ H w hv hw he hg fun a' w' ρ' h1 h2 => ?_)
    have := hq a' w' ρ' h1 h2
    rename_i ex _
    cases ex <;> first | exact absurd rfl hx | exact this
  | reg hl h =>
    intro Q a ρ H w hv hw he hg hq
    refine wp_region ?_
    rw [← hl]
    exact seq_sound hK h hv hw he hg hq
  | regd hl hb hp h =>
    intro Q a ρ H w hv hw he hg hq
    refine wp_region_any hm ?_
    rename_i id ops e l
    have hlen : l.length = ops.size := by have := congrArg List.length hl; simpa using this
    refine any_sound hK hb ops.size l (Array.replicate ops.size false) e a ρ H { w with drawn := w.drawn + 1 } (by omega) (by simp) (fun j hj => ?_) (by rw [hl]; exact List.pairwise_lt_range) (fun j o g ho hj => ?_) hp h hv hw.of_tape he hg
      fun a' w' ρ' h1 h2 => hq a' w' ρ' h1.tape h2
    · rw [hl, List.mem_range]
      simp [hj]
    · exfalso
      have := (Array.getElem?_eq_some_iff.1 ho).1
      simp [this] at hj

/-- A call: its frame, its code, its results. -/
def CallR (A : OpA P ng) : Nat → CallK
  | 0 => fun _ _ _ _ => False
  | n + 1 => fun f l t v => ∃ fn c x t1 t2 e1, P.funcs[f]? = some fn ∧ fn.body = some c ∧ CodeR A (CallR A n) c { tmps := ⟨l⟩ ++ Array.replicate (fn.ntmps - l.length) undef, defers := [] } t1 x e1 ∧
      (x = .normal ∨ x = .ret) ∧ PR (resP P (fun t => e1.tmps.getD t undef) fn.results.toList [] fun l => .val (packed l)) t2 (.val v) ∧ t = t1 ++ t2

theorem ER.getD {ρ : Rho} {e a : Act} (h : ER ρ e a) (t : Tmp) : V ρ (e.tmps.getD t undef) (a.tmps.getD t undef) := by
  letI : Fx := ⟨fun _ => True, fun _ _ _ _ => trivial⟩
  have := h.eval (ng := 0) ⟨fun g hg => absurd hg (Nat.not_lt_zero _), trivial⟩ (x := .tmp t) rfl
  exact this

def resM (a : Act) : ResultVar → Sem Value
  | .tmp t => pure (a.tmps.getD t undef)
  | .cell x t => do loadVar t (← asAddr (a.tmps.getD x undef))
theorem resP_sound {ρ : Rho} {H : Hp} {w : World} {e a : Act} (hw : WR P ρ H w) (he : ER ρ e a) {k : List Value → Prog} {r : Out} : ∀ {l : List ResultVar} {acc : List Value} {t : List Ac}, PR (resP P (fun t => e.tmps.getD t undef) l acc k) t r → Valid H t →
    ∃ us us' t1 t2, t = t1 ++ t2 ∧ PR (k (acc.reverse ++ us)) t2 r ∧ VL ρ us us' ∧ (l.mapM (resM a)).run P w = .ok us' w ∧ apps H t1 = H ∧ wrote t1 = [] ∧ Valid H t2
  | [], acc, t, h, hv => ⟨[], [], [], t, rfl, by simpa [resP] using h, VL.nil, by simp, rfl, rfl, hv⟩
  | .tmp x :: l, acc, t, h, hv => by
    obtain ⟨us, us', t1, t2, rfl, q1, q2, q3, q4, q5, q6⟩ := resP_sound hw he (l := l) h hv
    exact ⟨_ :: us, _ :: us', t1, t2, rfl, by simpa using q1, VL.cons (he.getD x) q2, by simp only [List.mapM_cons, resM, Sem.run_bind, Sem.run_pure, Result.andThen_ok, q3], q4, q5, q6⟩
  | .cell x ty :: l, acc, t, h, hv => by
    obtain ⟨c, o, u, u', s1, s2, p1, rfl, p3, p4, p5, p6, p7, p8⟩ := loadP_sound hw (he.getD x) h hv
    obtain ⟨us, us', t1, t2, rfl, q1, q2, q3, q4, q5, q6⟩ := resP_sound hw he (l := l) p3 p8
    refine ⟨u :: us, u' :: us', s1 ++ t1, t2, by simp, by simpa using q1, VL.cons p4 q2, ?_, by rw [apps_append, p6, q4], by rw [wrote_append, p7, q5]; rfl, q6⟩
    simp only [List.mapM_cons, resM, Sem.run_bind, Sem.run_pure, Result.andThen_ok, p1, asAddr, p5, q3]

theorem call_sound [Fx] (hm : P.follows .mixedOrders = true) (A : OpA P ng) : ∀ n, KSound P ng (CallR A n)
  | 0 => fun f l t v h => h.elim
  | n + 1 => by
    intro f l t v h ρ H w l' hv hw hg hl
    obtain ⟨fn, c, x, t1, t2, e1, hf, hb, hc, hx, hr, rfl⟩ := h
    rw [Valid.append] at hv
    have he : ER ρ { tmps := ⟨l⟩ ++ Array.replicate (fn.ntmps - l.length) undef, defers := [] } { tmps := l' ++ Array.replicate (fn.ntmps - l'.size) undef, defers := [] } := by
      have hs : l.length = l'.size := by rw [hl.1]; simp
      refine ⟨by simp [hs], fun i v v' a b => ?_, rfl, rfl⟩
      have hl2 : VL ρ (l ++ List.replicate (fn.ntmps - l.length) undef) (l'.toList ++ List.replicate (fn.ntmps - l.length) undef) := hl.append ⟨rfl, fun i v v' a b => by
        rw [a] at b; cases b
        have := List.mem_of_getElem? a
        rw [List.eq_of_mem_replicate this]; exact V.undef⟩
      refine hl2.2 i v v' ?_ ?_
      · rw [← a]; simp [← Array.getElem?_toList]
      · rw [← b]; simp [← Array.getElem?_toList, hs]
    refine calls_of_wp hf hb ((code_sound hm (call_sound hm A n) hc).wp _ _ ρ H w hv.1 hw he hg fun a' w' ρ' h1 h2 => ?_)
    obtain ⟨us, us', s1, s2, rfl, q1, q2, q3, q4, q5, q6⟩ := resP_sound h1.wr h2 hr hv.2
    cases q1
    have hres : (results fn a'.tmps).run P w' = .ok (packed us') w' := by
      have e : results fn a'.tmps = (do
          let vs ← fn.results.mapM (resM a')
          pure (if h : vs.size = 1 then vs[0] else .tuple vs)) := by
        unfold results
        congr 1
      rw [e, Array.mapM_eq_mapM_toList, map_eq_pure_bind]
      simp only [Sem.run_bind, Sem.run_pure, Result.andThen_ok, q3]
      unfold packed
      cases us' with
      | nil => rfl
      | cons x r => cases r <;> simp
    have hR : ∃ v' ρ'', (Ending.returned (packed us')) = .returned v' ∧ V ρ'' (packed ([].reverse ++ us)) v' ∧ Went P ρ H w (t1 ++ (s1 ++ [])) ρ'' w' := by
      refine ⟨_, ρ', rfl, ?_, ?_⟩
      · have q : VL ρ' us us' := q2
        unfold packed
        cases us with
        | nil => rw [q.cases_nil]; exact .tuple [] [] rfl (by simp)
        | cons x r =>
          obtain ⟨x', r', rfl, qx, qr⟩ := q.cases_cons
          cases r with
          | nil => rw [qr.cases_nil]; exact qx
          | cons y r =>
            obtain ⟨y', r'', rfl, qy, qs⟩ := qr.cases_cons
            exact .tuple _ _ q.1 q.2
      · refine h1.congr ?_ ?_
        · rw [apps_append, apps_append, q4]; rfl
        · intro b hb; rw [wrote_append]; exact List.mem_append_left _ hb
    rcases hx with rfl | rfl
    · exact ⟨h2.da, _, hres, hR⟩
    · exact ⟨h2.da, _, hres, hR⟩
end
end Go.Proofs.YtjeplkbdgphfoaaDoor
