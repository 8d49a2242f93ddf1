/-
  A run that is reckoned over blocks with names of its own: code and calls made ready once; the reckoning is right: no function of a program is named here.
-/
import Derived.Test.YtjeplkbdgphfoaaDoorEvU
namespace Go.Proofs.YtjeplkbdgphfoaaDoor
open Go.RowKit
noncomputable section

abbrev KX := Xx → Frm → Hs → Fz → Res
/-- Code, made ready. -/
structure CodeZ where
  run : CZ → Nat → Frm → Hs → Fz → KF → KX → Res
def goesX (ex : Xx) (k : KF) (x : KX) (fr : Frm) (h : Hs) (f : Fz) : Res := match ex with
  | .normal => k fr h f
  | .ret => x .ret fr h f
  | .exit j => x (.exit j) fr h f
def noZ (s : String) : CodeZ := ⟨fun _ _ _ _ _ _ _ => .no s⟩
def skipZ : CodeZ := ⟨fun _ _ fr h f k _ => k fr h f⟩
def retZ : CodeZ := ⟨fun _ _ fr h f _ x => x .ret fr h f⟩
def exitZ (id : Nat) : CodeZ := ⟨fun _ _ fr h f _ x => x (.exit id) fr h f⟩
def seqZ (a b : CodeZ) : CodeZ := ⟨fun C thr fr h f k x => a.run C thr fr h f (fun fr h f => b.run C thr fr h f k x) x⟩
def condZ (c : Opd) (a b : CodeZ) : CodeZ := ⟨fun C thr fr h f k x => boolOf (c.v fr) (.no "cond") (a.run C thr fr h f k x) (b.run C thr fr h f k x)⟩
def blockX (id : Nat) (k : KF) (x : KX) : KX := fun e fr h f => Xx.rec (motive := fun _ => Res) (x .normal fr h f) (x .ret fr h f) (fun j => Bool.rec (motive := fun _ => Res) (x (.exit j) fr h f) (k fr h f) (Nat.beq j id)) e
def blockZ (id : Nat) (a : CodeZ) : CodeZ := ⟨fun C thr fr h f k x => a.run C thr fr h f k (blockX id k x)⟩
def loopRun (a : CodeZ) (m : Nat) : CZ → Nat → Frm → Hs → Fz → KF → KX → Res := Nat.rec (motive := fun _ => CZ → Nat → Frm → Hs → Fz → KF → KX → Res) (fun _ _ _ _ _ _ _ => .no "loop")
  (fun _ ih C thr fr h f k x => a.run C thr fr h f (fun fr h f => ih C thr fr h f k x) x) m
def loopZ (a : CodeZ) (m : Nat) : CodeZ := ⟨loopRun a m⟩
def regQz (l : List StQ) : CodeZ := ⟨fun C thr fr h f k _ => runQ l C thr fr h f k⟩
def regDz (l : List StZ) : CodeZ := ⟨fun C thr fr h f k _ => runR l C thr fr h f [] fun fr h f rs => Bool.rec (motive := fun _ => Res) (.no "pairs") (k fr h f) (pairsB rs)⟩
def regZ (P : Program) (R : Rt) (ng n : Nat) (ops : Array Oper) (draw : Bool) : CodeZ :=
  Bool.rec (motive := fun _ => CodeZ) (noZ "ops") (Bool.rec (motive := fun _ => CodeZ) (regQz (mkQ P R ops ops.toList))
    (Bool.rec (motive := fun _ => CodeZ) (noZ "order") (Bool.rec (motive := fun _ => CodeZ) (noZ "back") (Bool.rec (motive := fun _ => CodeZ) (regDz (mkZ P R ops ops.toList 0)) (regQz (mkQ P R ops ops.toList)) (calmZ (infL ops ops.toList 0))) (backB ops)) (okZ (infL ops ops.toList 0))) draw)
    (allB (stOk ng n ops) ops.toList)
def mkCode (P : Program) (R : Rt) (ng n fuel : Nat) (c : Code) : CodeZ := Code.rec (motive := fun _ => CodeZ) skipZ (fun _ ops draw => regZ P R ng n ops draw) (fun _ _ a b => seqZ a b)
  (fun c _ _ a b => Bool.rec (motive := fun _ => CodeZ) (noZ "operand") (condZ (opd c) a b) (Bool.rec (motive := fun _ => Bool) false (opdT n c) (opdOk ng c))) (fun id _ a => blockZ id a) (fun _ a => loopZ a fuel)
  (fun _ _ _ _ _ _ => noZ "rangeFunc") (fun id => exitZ id) (fun _ _ => noZ "scope") (fun _ => skipZ) (fun _ => noZ "goto") retZ (fun _ => noZ "refuse") c

section
variable {P : Program} {R : Rt} {ng n fuel : Nat} {hN : NamesOk P} {K : CallK}

def CodeOk (hN : NamesOk P) (ng n : Nat) (K : CallK) (c : Code) (z : CodeZ) : Prop := ∀ (C : CZ), CSoundZ C K → ∀ thr fr h f k x q, h.Inv → thr ≤ h.nx → rok q → z.run C thr fr h f k x = q →
  ∃ t fr' h' f' ex, CodeR (opA hN ng) K c (Frm.act n fr) t (Xx.out ex) (Frm.act n fr') ∧ LeftZ thr h f h' f' t ∧ goesX ex k x fr' h' f' = q
theorem noZ_ok {c : Code} {s : String} : CodeOk hN ng n K c (noZ s) := fun C _ thr fr h f k x q _ _ hq e => by
  have e : Res.no s = q := e
  rw [← e] at hq; exact (rok_no hq).elim
theorem regZ_ok (hR : R.Ok P) {id : Nat} {ops : Array Oper} {draw : Bool} : CodeOk hN ng n K (.region id ops draw) (regZ P R ng n ops draw) := by
  unfold regZ
  cases hs : allB (stOk ng n ops) ops.toList with
  | false => exact noZ_ok
  | true =>
    have hs := allB_spec hs
    have quiet : (draw = true → okZ (infL ops ops.toList 0) = true ∧ backB ops = true ∧ calmZ (infL ops ops.toList 0) = true) → CodeOk hN ng n K (.region id ops draw) (regQz (mkQ P R ops ops.toList)) := by
      intro hd C hC thr fr h f k x q hi ht hq e
      obtain ⟨st, fr', h', f', q1, q2, q3, q4, q5⟩ := runQ_sound (hN := hN) hR hC hs hq ops.toList 0 fr h f rfl hi ht e
      have hmap : st.map (·.i) = List.range ops.size := by rw [q1, List.range_eq_range']; simp
      refine ⟨acts st, fr', h', f', .normal, ?_, q4, q5⟩
      rw [← q3]
      cases draw with
      | false => exact .reg hmap q2
      | true =>
        obtain ⟨d1, d2, d3⟩ := hd rfl
        exact .regd hmap (backB_backs d2) (calm_pairs q2 hmap d1 d3) q2
    cases draw with
    | false => exact quiet (fun h => by cases h)
    | true =>
      cases h1 : okZ (infL ops ops.toList 0) with
      | false => exact noZ_ok
      | true =>
        cases h2 : backB ops with
        | false => exact noZ_ok
        | true =>
          cases h3 : calmZ (infL ops ops.toList 0) with
          | true => exact quiet (fun _ => ⟨h1, h2, h3⟩)
          | false =>
            intro C hC thr fr h f k x q hi ht hq e
            have e : runR (mkZ P R ops ops.toList 0) C thr fr h f [] (fun fr h f rs => Bool.rec (motive := fun _ => Res) (.no "pairs") (k fr h f) (pairsB rs)) = q := e
            obtain ⟨st, fr', h', f', rs', q1, q2, q3, q4, q6, q5⟩ := runR_sound (hN := hN) hR hC hs hq ops.toList 0 fr h f [] [] rfl hi ht (.nil _) e
            have hmap : st.map (·.i) = List.range ops.size := by rw [q1, List.range_eq_range']; simp
            rw [List.nil_append] at q6
            cases hp : pairsB rs' with
            | false => rw [hp] at q5; rw [← q5] at hq; exact (rok_no hq).elim
            | true =>
              rw [hp] at q5
              refine ⟨acts st, fr', h', f', .normal, ?_, q4, q5⟩
              rw [← q3]
              refine .regd hmap (backB_backs h2) (pairsOk_of (q6.pairs h1 hp (List.pairwise_map.1 (by rw [hmap]; exact List.pairwise_lt_range)) fun s hs => ?_)) q2
              have : s.i ∈ st.map (·.i) := List.mem_map.2 ⟨s, hs, rfl⟩
              rw [hmap, List.mem_range] at this
              exact ⟨_, Array.getElem?_eq_getElem this⟩

theorem Xx.out_ne {x : Xx} (h : x ≠ .normal) : Xx.out x ≠ .normal := by cases x <;> simp_all [Xx.out]
theorem loopRun_ok {c : Code} {a : CodeZ} (ha : CodeOk hN ng n K c a) : ∀ m, CodeOk hN ng n K (.loop c) (loopZ a m)
  | 0 => fun C _ thr fr h f k x q _ _ hq e => by
    have e : Res.no "loop" = q := e
    rw [← e] at hq; exact (rok_no hq).elim
  | m + 1 => fun C hC thr fr h f k x q hi ht hq e => by
    have e : a.run C thr fr h f (fun fr h f => (loopZ a m).run C thr fr h f k x) x = q := e
    obtain ⟨t, fr1, h1, f1, ex, p1, p2, p3⟩ := ha C hC thr fr h f _ x q hi ht hq e
    cases ex with
    | normal =>
      obtain ⟨u, fr2, h2, f2, ex2, q1, q2, q3⟩ := loopRun_ok ha m C hC thr fr1 h1 f1 k x q p2.inv (Nat.le_trans ht p2.le) hq p3
      exact ⟨t ++ u, fr2, h2, f2, ex2, .loop p1 q1, p2.trans q2, q3⟩
    | ret => exact ⟨t, fr1, h1, f1, .ret, .loopx p1 (by intro h; cases h), p2, p3⟩
    | exit j => exact ⟨t, fr1, h1, f1, .exit j, .loopx p1 (by intro h; cases h), p2, p3⟩

theorem mkCode_ok (hR : R.Ok P) (c : Code) : CodeOk hN ng n K c (mkCode P R ng n fuel c) := by
  induction c with
  | skip => exact fun C _ thr fr h f k x q hi _ _ e => ⟨[], fr, h, f, .normal, .skip _, LeftZ.refl hi f, e⟩
  | region id ops draw => exact regZ_ok hR
  | seq a b iha ihb =>
    intro C hC thr fr h f k x q hi ht hq e
    have e : (mkCode P R ng n fuel a).run C thr fr h f (fun fr h f => (mkCode P R ng n fuel b).run C thr fr h f k x) x = q := e
    obtain ⟨t, fr1, h1, f1, ex, p1, p2, p3⟩ := iha C hC thr fr h f _ x q hi ht hq e
    cases ex with
    | normal =>
      obtain ⟨u, fr2, h2, f2, ex2, q1, q2, q3⟩ := ihb C hC thr fr1 h1 f1 k x q p2.inv (Nat.le_trans ht p2.le) hq p3
      exact ⟨t ++ u, fr2, h2, f2, ex2, .seq p1 q1, p2.trans q2, q3⟩
    | ret => exact ⟨t, fr1, h1, f1, .ret, .seqx p1 (by intro h; cases h), p2, p3⟩
    | exit j => exact ⟨t, fr1, h1, f1, .exit j, .seqx p1 (by intro h; cases h), p2, p3⟩
  | cond c a b iha ihb =>
    show CodeOk hN ng n K (.cond c a b) (Bool.rec (motive := fun _ => CodeZ) (noZ "operand") (condZ (opd c) (mkCode P R ng n fuel a) (mkCode P R ng n fuel b)) (Bool.rec (motive := fun _ => Bool) false (opdT n c) (opdOk ng c)))
    cases h1 : opdOk ng c with
    | false => exact noZ_ok
    | true =>
      cases h2 : opdT n c with
      | false => exact noZ_ok
      | true =>
        intro C hC thr fr h f k x q hi ht hq e
        have e : boolOf ((opd c).v fr) (.no "cond") ((mkCode P R ng n fuel a).run C thr fr h f k x) ((mkCode P R ng n fuel b).run C thr fr h f k x) = q := e
        rcases boolOf_spec (by rw [e]; exact hq) with ⟨e1, e2⟩ | ⟨e1, e2⟩
        · rw [e2] at e
          obtain ⟨t, fr1, h3, f1, ex, p1, p2, p3⟩ := iha C hC thr fr h f k x q hi ht hq e
          exact ⟨t, fr1, h3, f1, ex, .cond (b := true) h1 (by rw [← opd_eval h2 fr]; exact e1) p1, p2, p3⟩
        · rw [e2] at e
          obtain ⟨t, fr1, h3, f1, ex, p1, p2, p3⟩ := ihb C hC thr fr h f k x q hi ht hq e
          exact ⟨t, fr1, h3, f1, ex, .cond (b := false) h1 (by rw [← opd_eval h2 fr]; exact e1) p1, p2, p3⟩
  | block id c ih =>
    intro C hC thr fr h f k x q hi ht hq e
    have e : (mkCode P R ng n fuel c).run C thr fr h f k (blockX id k x) = q := e
    obtain ⟨t, fr1, h1, f1, ex, p1, p2, p3⟩ := ih C hC thr fr h f k _ q hi ht hq e
    cases ex with
    | normal => exact ⟨t, fr1, h1, f1, .normal, .block p1 (by intro h; cases h), p2, p3⟩
    | ret => exact ⟨t, fr1, h1, f1, .ret, .block p1 (by intro h; cases h), p2, p3⟩
    | exit j =>
      have p4 : Bool.rec (motive := fun _ => Res) (x (.exit j) fr1 h1 f1) (k fr1 h1 f1) (Nat.beq j id) = q := p3
      clear p3
      cases hb : Nat.beq j id with
      | true =>
        rw [hb] at p4
        obtain rfl := Nat.eq_of_beq_eq_true hb
        exact ⟨t, fr1, h1, f1, .normal, .hit p1, p2, p4⟩
      | false =>
        rw [hb] at p4
        refine ⟨t, fr1, h1, f1, .exit j, .block p1 (fun e => ?_), p2, p4⟩
        simp only [Xx.out, Exit.exit.injEq] at e
        rw [e, Nat.beq_refl] at hb; cases hb
  | loop c ih => exact loopRun_ok ih fuel
  | rangeFunc => exact noZ_ok
  | exit id => exact fun C _ thr fr h f k x q hi _ _ e => ⟨[], fr, h, f, .exit id, .exit id _, LeftZ.refl hi f, e⟩
  | scope => exact noZ_ok
  | label l => exact fun C _ thr fr h f k x q hi _ _ e => ⟨[], fr, h, f, .normal, .label l _, LeftZ.refl hi f, e⟩
  | goto => exact noZ_ok
  | ret => exact fun C _ thr fr h f k x q hi _ _ e => ⟨[], fr, h, f, .ret, .ret _, LeftZ.refl hi f, e⟩
  | refuse => exact noZ_ok

/-- Results. -/
structure RsZ where
  run : CZ → Nat → Frm → Hs → Fz → KO → Res
def tmG (n : Nat) (fr : Frm) (t : Tmp) : Value := Bool.rec (motive := fun _ => Value) undef ((slotOf t).g fr) (Nat.blt t n)
theorem tmG_eq (fr : Frm) : (fun t => (Frm.act n fr).tmps.getD t undef) = tmG n fr := by
  funext t
  unfold tmG
  cases h : Nat.blt t n with
  | true => exact act_eval (blt_lt h)
  | false =>
    have := blt_ge h
    simp only [Frm.act]
    rw [Array.getD_eq_getD_getElem?]
    simp [this]
def rsGen (R : Rt) (n : Nat) (l : List ResultVar) : RsZ := ⟨fun C thr fr h f k => runZ C thr (resPQ R (tmG n fr) l [] fun l => .val (packed l)) h f k⟩
def rsOne (x : Opd) : RsZ := ⟨fun _ _ fr h f k => k (x.v fr) h f⟩
def rsMany (x : Az) : RsZ := ⟨fun _ _ fr h f k => k (.tuple ⟨x.v fr⟩) h f⟩
def tmpsOf : List ResultVar → Option (List Tmp)
  | [] => some []
  | .tmp t :: l => (tmpsOf l).map (t :: ·)
  | _ => none
def rsZ (R : Rt) (n : Nat) (l : List ResultVar) : RsZ := match tmpsOf l with
  | some [t] => (match Nat.blt t n with
    | true => rsOne (opd (.tmp t))
    | false => rsGen R n l)
  | some ts => (match ts.all fun t => Nat.blt t n with
    | true => rsMany (argsZ (ts.map .tmp))
    | false => rsGen R n l)
  | none => rsGen R n l
theorem resP_tmps {tm : Tmp → Value} {g : List Value → Prog} : ∀ {l : List ResultVar} {ts : List Tmp} (acc : List Value), tmpsOf l = some ts → resP P tm l acc g = g (acc.reverse ++ ts.map tm)
  | [], ts, acc, h => by cases h; simp [resP]
  | .tmp t :: l, ts, acc, h => by
    simp only [tmpsOf] at h
    cases hl : tmpsOf l with
    | none => rw [hl] at h; cases h
    | some r =>
      rw [hl] at h; cases h
      simp only [resP]
      rw [resP_tmps (tm t :: acc) hl]
      simp
  | .cell a t :: l, ts, acc, h => by cases h
theorem loadk_read {t : TypeId} {v : Value} {g : Value → Prog} (h : ∀ v, ReadP (g v)) : ReadP (loadP P t v g) := by
  unfold loadP
  split
  · split
    · split
      · split
        · exact rdN_read (fun l => h _) _ _ _
        · exact fail_read
      · intro t r k
        cases k with
        | rd _ k =>
          obtain ⟨h1, h2⟩ := h _ _ _ k
          refine ⟨fun a ha => ?_, h2⟩
          rcases List.mem_cons.1 ha with rfl | ha
          · exact ⟨_, _, _, rfl⟩
          · exact h1 a ha
    · exact fail_read
  · exact fail_read
theorem resP_read {tm : Tmp → Value} : ∀ (l : List ResultVar) (acc : List Value), ReadP (resP P tm l acc fun l => .val (packed l))
  | [], _ => val_read _
  | .tmp _ :: l, _ => resP_read l _
  | .cell _ _ :: l, _ => loadk_read fun _ => resP_read l _
theorem rsZ_sound (hR : R.Ok P) {l : List ResultVar} {C : CZ} {thr : Nat} {fr : Frm} {h : Hs} {f : Fz} {k : KO} {q : Res} (hi : h.Inv) (ht : thr ≤ h.nx) (hq : rok q) (e : (rsZ R n l).run C thr fr h f k = q) :
    ∃ t v h' f', PR (resP P (fun t => (Frm.act n fr).tmps.getD t undef) l [] fun l => .val (packed l)) t (.val v) ∧ LeftZ thr h f h' f' t ∧ k v h' f' = q := by
  have gen : (rsGen R n l).run C thr fr h f k = q → ∃ t v h' f', PR (resP P (fun t => (Frm.act n fr).tmps.getD t undef) l [] fun l => .val (packed l)) t (.val v) ∧ LeftZ thr h f h' f' t ∧ k v h' f' = q := by
    intro e
    have e : runZ C thr (resPQ R (tmG n fr) l [] fun l => .val (packed l)) h f k = q := e
    rw [resPQ_eq hR, ← tmG_eq] at e
    obtain ⟨t, r, h', f', p1, p2, p3⟩ := runZ_sound hi ht hq e
    obtain ⟨_, v, rfl⟩ := resP_read l [] t r p1
    exact ⟨t, v, h', f', p1, p2, p3⟩
  unfold rsZ at e
  split at e
  · rename_i t htm
    split at e
    · rename_i htn
      have e : k ((opd (.tmp t)).v fr) h f = q := e
      refine ⟨[], _, h, f, ?_, LeftZ.refl hi f, e⟩
      rw [resP_tmps [] htm]
      have : (opd (.tmp t)).v fr = (Frm.act n fr).tmps.getD t undef := opd_eval (n := n) (x := .tmp t) htn fr
      rw [this]
      exact .val _
    · exact gen e
  · rename_i ts hne htm
    split at e
    · rename_i hall
      have e : k (.tuple ⟨(argsZ (ts.map .tmp)).v fr⟩) h f = q := e
      refine ⟨[], _, h, f, ?_, LeftZ.refl hi f, e⟩
      rw [resP_tmps [] htm, argsZ_eq (n := n) fr (fun x hx => by
        obtain ⟨t, ht, rfl⟩ := List.mem_map.1 hx
        exact List.all_eq_true.1 hall t ht)]
      simp only [List.reverse_nil, List.nil_append, List.map_map]
      have : packed (ts.map fun t => (Frm.act n fr).tmps.getD t undef) = .tuple ⟨ts.map ((Frm.act n fr).eval ∘ Operand.tmp)⟩ := by
        cases ts with
        | nil => rfl
        | cons a r =>
          cases r with
          | nil => exact (hne a rfl).elim
          | cons b r => rfl
      rw [← this]
      exact .val _
    · exact gen e
  · exact gen e

/-- A function, made ready. -/
structure FnZ where
  run : CZ → Nat → List Value → Hs → Fz → KO → Res
def fnRun (n : Nat) (z : CodeZ) (rs : RsZ) : FnZ := ⟨fun C thr l h f k => Bool.rec (motive := fun _ => Res) (.no "args") (z.run C thr (fillZ l 0 uFrm) h f (fun fr h f => rs.run C thr fr h f k) (fun e fr h f => Xx.rec (motive := fun _ => Res) (.no "end") (rs.run C thr fr h f k) (fun _ => .no "exit") e)) (Nat.ble (lenZ l) n)⟩
def mkFn (P : Program) (R : Rt) (ng fuel : Nat) (g : FuncId) : FnZ := match R.fn g with
  | some fn => (match fn.body with
    | some c => fnRun fn.ntmps (mkCode P R ng fn.ntmps fuel c) (rsZ R fn.ntmps fn.results.toList)
    | none => ⟨fun _ _ _ _ _ _ => .no "body"⟩)
  | none => ⟨fun _ _ _ _ _ _ => .no "fn"⟩
def callZ (P : Program) (R : Rt) (ng fuel d : Nat) : CZ := Nat.rec (motive := fun _ => CZ) (fun _ _ _ _ _ _ => .no "deep") (fun _ ih thr g l h f k => (mkFn P R ng fuel g).run ih thr l h f k) d

theorem callZ_sound (hR : R.Ok P) : ∀ d, CSoundZ (callZ P R ng fuel d) (CallR (opA hN ng) d)
  | 0 => fun thr g l h f k q _ _ hq e => by
    have e : Res.no "deep" = q := e
    rw [← e] at hq; exact (rok_no hq).elim
  | d + 1 => fun thr g l h f k q hi ht hq e => by
    have e : (mkFn P R ng fuel g).run (callZ P R ng fuel d) thr l h f k = q := e
    unfold mkFn at e
    split at e
    case h_2 => rw [← e] at hq; exact (rok_no hq).elim
    rename_i fn hf
    split at e
    case h_2 => rw [← e] at hq; exact (rok_no hq).elim
    rename_i c hb
    have e : Bool.rec (motive := fun _ => Res) (.no "args") ((mkCode P R ng fn.ntmps fuel c).run (callZ P R ng fuel d) thr (fillZ l 0 uFrm) h f (fun fr h f => (rsZ R fn.ntmps fn.results.toList).run (callZ P R ng fuel d) thr fr h f k) (fun e fr h f => Xx.rec (motive := fun _ => Res) (.no "end") ((rsZ R fn.ntmps fn.results.toList).run (callZ P R ng fuel d) thr fr h f k) (fun _ => .no "exit") e)) (Nat.ble (lenZ l) fn.ntmps) = q := e
    rw [lenZ_eq] at e
    cases hl : Nat.ble l.length fn.ntmps with
    | false => rw [hl] at e; rw [← e] at hq; exact (rok_no hq).elim
    | true =>
      rw [hl] at e
      have hl := Nat.le_of_ble_eq_true hl
      obtain ⟨t1, fr1, h1, f1, ex, p1, p2, p3⟩ := mkCode_ok (hN := hN) (ng := ng) (fuel := fuel) hR c _ (callZ_sound hR d) thr _ h f _ _ q hi ht hq e
      rw [fillZ_act hl] at p1
      rw [hR.2.2] at hf
      have main : (Xx.out ex = .normal ∨ Xx.out ex = .ret) → (rsZ R fn.ntmps fn.results.toList).run (callZ P R ng fuel d) thr fr1 h1 f1 k = q → ∃ t v h' f', CallR (opA hN ng) (d + 1) g l t v ∧ LeftZ thr h f h' f' t ∧ k v h' f' = q := by
        intro hx e
        obtain ⟨t2, v, h2, f2, q1, q2, q3⟩ := rsZ_sound hR p2.inv (Nat.le_trans ht p2.le) hq e
        exact ⟨t1 ++ t2, v, h2, f2, ⟨fn, c, Xx.out ex, t1, t2, _, hf, hb, p1, hx, q1, rfl⟩, p2.trans q2, q3⟩
      cases ex with
      | normal => exact main (.inl rfl) p3
      | ret => exact main (.inr rfl) p3
      | exit j => have p3 : Res.no "exit" = q := p3; rw [← p3] at hq; exact (rok_no hq).elim

/-- True, and nothing that stood ahead was written. -/
def isTrue (q : Res) : Bool := Res.rec (motive := fun _ => Bool) (fun _ => false) (fun v _ f => Bool.rec (motive := fun _ => Bool) false (Nat.beq f.w 0) (isB true v)) q
theorem wroteZ {lo mid hi : Nat} {f : Fz} (hw : f.w = 0) : ∀ {t : List Ac}, AllZ lo mid hi f t → ∀ b ∈ wrote t, lo ≤ b
  | [], _, b, hb => by cases hb
  | a :: t, h, b, hb => by
    have ih := wroteZ hw (t := t) (fun x hx => h x (List.mem_cons_of_mem _ hx)) b
    obtain ⟨h1, _⟩ := h a List.mem_cons_self
    rcases Nat.lt_or_ge b lo with hlt | hge
    · exfalso
      cases a with
      | rd => have := ih hb; omega
      | nw => have := ih hb; omega
      | wr b' o v =>
        rcases List.mem_cons.1 hb with rfl | hb
        · have : f.w.testBit (ixZ b o) = true := (h1 b rfl).2 hlt
          rw [hw] at this
          simp at this
        · have := ih hb; omega
      | mv a' b' ty n cs =>
        rcases List.mem_cons.1 hb with rfl | hb
        · have : ∀ j, j < 16 → f.w.testBit (b * 16 + j) = true := (h1 b rfl).2 hlt
          have := this 0 (by omega)
          rw [hw] at this
          simp at this
        · have := ih hb; omega
    · exact hge
theorem evz_run (hR : R.Ok P) (hN : NamesOk P) (hm : P.follows .mixedOrders = true) {d : Nat} {g : FuncId} {l : List Value} {l' : Array Value} {w : World} {ks : List (Nat × List Value)} (hn : ng + 1 < 2 ^ 30)
    (hks : ∀ x ∈ ks, x.1 < ng ∧ x.2.length + 1 < 2 ^ 30 ∧ x.2.all flat = true ∧ x.2 ≠ []) (hw : ∀ x ∈ ks, w.rangeAt x.1 0 x.2) (hl : VL (rho0 ng) l l'.toList)
    (hr : isTrue (callZ P R ng fuel d ng g l (start ng ks) ⟨0, 0⟩ Res.ok) = true) : Calls P g l' w fun e w' => e = .returned (.bool true) ∧ Up w w' := by
  letI : Fx := Fx.nothing
  cases hc : callZ P R ng fuel d ng g l (start ng ks) ⟨0, 0⟩ Res.ok with
  | no s => rw [hc] at hr; cases hr
  | ok v h' f' =>
    rw [hc] at hr
    have hr : Bool.rec (motive := fun _ => Bool) false (Nat.beq f'.w 0) (isB true v) = true := hr
    have hi := start_inv (ng := ng) (ks := ks) hn (fun x hx => ⟨(hks x hx).1, (hks x hx).2.1⟩)
    obtain ⟨t, v2, h2, f2, h1, hL, e⟩ := callZ_sound (fuel := fuel) (hN := hN) hR d ng g l _ ⟨0, 0⟩ Res.ok _ hi (Nat.le_refl _) ⟨v, h', f', rfl⟩ hc
    cases e
    cases hb : isB true v with
    | false => rw [hb] at hr; cases hr
    | true =>
      rw [hb] at hr
      have hw0 := Nat.eq_of_beq_eq_true hr
      rw [isB_eq] at hb
      have hv : v = .bool true := by
        cases v with
        | bool b => cases b <;> first | rfl | cases hb
        | _ => cases hb
      subst hv
      have hwr := start_wr (P := P) hn hks hw
      refine (call_sound hm (opA hN ng) d g l t _ h1 (rho0 ng) _ w l' hL.val hwr (rho0_gl ng trivial) hl).mono ?_
      rintro e w' ⟨v', ρ', rfl, hv, hwent⟩
      refine ⟨by rw [hv.bool_eq], hwent.fr.mono fun i _ ⟨b, hb, κ, hr⟩ => ?_⟩
      have hlo : ng ≤ b := wroteZ hw0 hL.all b hb
      unfold rho0 at hr
      rw [if_neg (by omega)] at hr
      cases hr
end
end
end Go.Proofs.YtjeplkbdgphfoaaDoor
