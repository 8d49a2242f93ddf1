/-
  A run that is reckoned over blocks with names of its own: all operations: no function of a program is named here.
-/
import Derived.Test.YtjeplkbdgphfoaaDoorEvI2
namespace Go.Proofs.YtjeplkbdgphfoaaDoor
open Go.RowKit
noncomputable section

section
variable {P : Program} {ρ : Rho} {w : World}

/-- Held against nil. -/
def nilB (P : Program) (t : TypeId) (x y : Value) : Option Bool := match x, y with
  | .pointer (some _), .pointer none => (match P.underlying t with | some (.pointer _) => some false | _ => none)
  | .pointer none, .pointer (some _) => (match P.underlying t with | some (.pointer _) => some false | _ => none)
  | .slice (some _) _ _, .slice none _ _ => (match P.underlying t with | some (.slice _) => some false | _ => none)
  | .slice none _ _, .slice (some _) _ _ => (match P.underlying t with | some (.slice _) => some false | _ => none)
  | .func _ _ _, .nilFunc => (match P.underlying t with | some (.func _ _ _) => some false | _ => none)
  | .nilFunc, .func _ _ _ => (match P.underlying t with | some (.func _ _ _) => some false | _ => none)
  | .map (some _), .map none => (match P.underlying t with | some (.map _ _) => some false | _ => none)
  | .map none, .map (some _) => (match P.underlying t with | some (.map _ _) => some false | _ => none)
  | .iface _ _, .nilIface => (match P.underlying t with | some (.interface _) => some false | _ => none)
  | .nilIface, .iface _ _ => (match P.underlying t with | some (.interface _) => some false | _ => none)
  | _, _ => none
theorem nil_equal {t : TypeId} {a b a' b' : Value} {r : Bool} (ha : V ρ a a') (hb : V ρ b b') (h : nilB P t a b = some r) (d : Nat) : (Op.equalIn (d + 1) t a' b').run P w = .ok r w := by
  unfold nilB at h
  split at h <;> (try cases h) <;> split at h <;> (try cases h) <;> rename_i hu <;> cases ha <;> cases hb <;>
    simp [Op.equalIn, run_underlying hu]
theorem nil_guard {t : TypeId} {x y : Operand} {a b a' b' : Value} {r : Bool} (ha : V ρ a a') (hb : V ρ b b') (h : nilB P t a b = some r) (op : BinOp) : eqGuard op t x y a' b' = pure () := by
  unfold nilB at h
  split at h <;> (try cases h) <;> cases ha <;> cases hb <;> cases op <;> rfl
theorem nil_binOp {t : TypeId} {a b a' b' : Value} {r : Bool} (ha : V ρ a a') (hb : V ρ b b') (h : nilB P t a b = some r) : binOp .eql t a' b' = (do pure (.bool (← Op.equal t a' b'))) ∧ binOp .neq t a' b' = (do pure (.bool (!(← Op.equal t a' b')))) := by
  unfold nilB at h
  split at h <;> (try cases h) <;> cases ha <;> cases hb <;> exact ⟨rfl, rfl⟩
theorem nil_run {t : TypeId} {x y : Operand} {a b a' b' : Value} {r : Bool} (ha : V ρ a a') (hb : V ρ b b') (h : nilB P t a b = some r) :
    (do eqGuard .eql t x y a' b'; binOp .eql t a' b').run P w = .ok (.bool r) w ∧ (do eqGuard .neq t x y a' b'; binOp .neq t a' b').run P w = .ok (.bool (!r)) w := by
  have he : (Op.equal t a' b').run P w = .ok r w := nil_equal ha hb h 9999
  obtain ⟨h1, h2⟩ := nil_binOp ha hb h
  rw [nil_guard ha hb h, nil_guard ha hb h, h1, h2]
  simp only [Sem.run_bind, Sem.run_pure, Result.andThen_ok, he]
  exact ⟨trivial, trivial⟩

/-- A text of bytes. -/
def bytesOf : List Value → Option (List UInt8)
  | [] => some []
  | .int .u8 n :: l => if 0 ≤ n ∧ n < 256 then (bytesOf l).map (UInt8.ofNat n.toNat :: ·) else none
  | _ => none
def bytesP (P : Program) (src dst : TypeId) (x : Value) : Prog := match x, P.underlying src, P.underlying dst with
  | .slice (some ⟨b, o, none⟩) n _, some (.slice e), some .string => match P.underlying e with
    | some (.int .u8) => rdN b n o [] fun l => match bytesOf l with
      | some s => .val (.string ⟨⟨s⟩⟩)
      | none => .fail
    | _ => .fail
  | _, _, _ => .fail
theorem bytesOf_spec : ∀ {l : List Value} {s : List UInt8}, bytesOf l = some s → l.length = s.length ∧ ∀ (i : Nat) (h : i < s.length), l[i]? = some (.int .u8 (s[i].toNat : Int))
  | [], s, h => by cases h; exact ⟨rfl, fun i h => by simp at h⟩
  | v :: l, s, h => by
    unfold bytesOf at h
    split at h
    · cases h; rename_i e; cases e
    case h_3 => cases h
    rename_i n l' e
    cases e
    split at h
    · rename_i hn
      cases hb : bytesOf l with
      | none => rw [hb] at h; cases h
      | some r =>
        rw [hb] at h
        cases h
        obtain ⟨h1, h2⟩ := bytesOf_spec hb
        refine ⟨by simp [h1], fun i hi => ?_⟩
        cases i with
        | zero =>
          simp only [List.getElem?_cons_zero, List.getElem_cons_zero]
          congr 2
          rw [UInt8.toNat_ofNat']
          omega
        | succ i => simpa using h2 i (by simpa using hi)
    · cases h
theorem ints_eq {l l' : List Value} (h : VL ρ l l') {i : Nat} {k : IntKind} {n : Int} (hi : l[i]? = some (.int k n)) : l'[i]? = some (.int k n) := by
  obtain ⟨v', h1, h2⟩ := h.get hi
  cases h2
  exact h1
theorem bytes_sim {src dst : TypeId} {x x' : Value} (hx : V ρ x x') : Sim P (bytesP P src dst x) (do pure (.value (← convert src dst x'))) ρ w := by
  refine Sim.v fun H tr r hpr hval hw => ?_
  unfold bytesP at hpr
  split at hpr
  case h_2 => cases hpr
  rename_i b o n k e hs hd
  split at hpr
  case h_2 => cases hpr
  rename_i he
  have key : ∀ (c κ o' k' : Nat), ρ b = some (c, κ) → x' = .slice (some ⟨c, o', none⟩) n k' → (n ≠ 0 → o' = o) → ∃ v v' w' ρ', r = .val v ∧ (convert src dst x').run P w = .ok v' w' ∧ Went P ρ H w tr ρ' w' ∧ V ρ' v v' := by
    intro c κ o' k' hr hxe ho
    obtain ⟨us, us', t1, t2, rfl, q1, q2, q3, q4, q5, q6, q7⟩ := rdN_sound hr hw hpr hval
    simp only [List.reverse_nil, List.nil_append] at q2
    cases hb : bytesOf us with
    | none => rw [hb] at q2; cases q2
    | some s =>
      rw [hb] at q2
      cases q2
      obtain ⟨h1, h2⟩ := bytesOf_spec hb
      have hsz : (⟨⟨s⟩⟩ : ByteArray).size = n := by rw [← q1, h1]; rfl
      refine ⟨_, _, w, ρ, rfl, ?_, (Went.refl hw).congr (by rw [List.append_nil, q5]; rfl) (fun b hb => by cases hb), .string _⟩
      rw [hxe, ← hsz]
      refine Lib.run_convert_whole (P := P) w src e dst hs he hd c o' ⟨⟨s⟩⟩ (fun i hi => ?_) k'
      have hi' : i < s.length := hi
      rw [ho (by omega)]
      exact q4 i _ (ints_eq q3 (h2 i hi'))
  cases hx with
  | slc _ c κ _ _ _ k' hr hk => exact key c κ o k' hr rfl (fun _ => rfl)
  | slc0 _ c κ _ o' k' hr => exact key c κ o' k' hr rfl (fun h => absurd rfl h)

/-- What hangs on the values alone. -/
def groundP (P : Program) (o : Oper) (ev : Operand → Value) : Prog :=
  match o.op with
  | .select _ _ => .fail
  | _ => if o.op.operands.toList.all fun x => ground (ev x) then (match pureRun P (execOp ev o) with
      | some (.value v) => if ground v then .val v else .fail
      | _ => .fail) else .fail
theorem ground_sim {o : Oper} {e a : Act} (h : ∀ x ∈ o.op.operands, V ρ (e.eval x) (a.eval x)) : Sim P (groundP P o e.eval) (execOp a.eval o) ρ w := by
  unfold groundP
  split
  · exact Sim.fail
  · rename_i hsel
    split
    · rename_i hall
      split
      · rename_i v hv
        split
        · rename_i hg
          have he : execOp a.eval o = execOp e.eval o := execOp_congr o hsel fun x hx => (h x hx).ground_eq (List.all_eq_true.1 hall x (Array.mem_toList_iff.2 hx))
          exact Sim.val rfl (fun w => by rw [he]; exact pureRun_run hv w) (V.ground hg)
        · exact Sim.fail
      · exact Sim.fail
    · exact Sim.fail
theorem ground_congr {o : Oper} {ev ev' : Operand → Value} (h : ∀ x ∈ o.op.operands, ev x = ev' x) : groundP P o ev = groundP P o ev' := by
  unfold groundP
  split
  · rfl
  · rename_i hsel
    rw [execOp_congr o hsel h]
    have : (o.op.operands.toList.all fun x => ground (ev x)) = (o.op.operands.toList.all fun x => ground (ev' x)) := by
      rw [Bool.eq_iff_iff, List.all_eq_true, List.all_eq_true]
      exact ⟨fun k x hx => by rw [← h x (Array.mem_toList_iff.1 hx)]; exact k x hx, fun k x hx => by rw [h x (Array.mem_toList_iff.1 hx)]; exact k x hx⟩
    rw [this]

/-- Calls. -/
def callP (P : Program) (o : Oper) (c : Call) (ev : Operand → Value) : Prog :=
  match c.callee with
  | .value f => match ev f with
    | .func (.func g) ⟨fs⟩ ⟨cs⟩ => match P.funcs[g]? with
      | some fn => if fn.body.isSome then .enter g (fs ++ c.args.toList.map ev ++ cs) else if isEsc fn then (match fs ++ c.args.toList.map ev ++ cs with
        | [x] => .val x
        | _ => .fail) else .fail
      | none => .fail
    | _ => .fail
  | .builtin .len => match c.args.toList.map ev, c.argTypes.toList with
    | [.slice (some _) n _], t :: _ => (match P.underlying t with | some (.slice _) => .val (goInt n) | _ => .fail)
    | [.string s], t :: _ => (match P.underlying t with | some .string => .val (goInt s.size) | _ => .fail)
    | _, _ => groundP P o ev
  | .builtin .append => match c.args.toList.map ev, c.argTypes.toList with
    | [s, x], [t, u] => if Nat.beq t u then appendP P t s x else (match x with
      | .string ⟨⟨str⟩⟩ => appendSP P t u s str
      | .int _ i => appendZP P t u s i
      | _ => .fail)
    | _, _ => .fail
  | .builtin .unsafeSliceData => match c.args.toList.map ev with
    | [s] => uDataP s
    | _ => .fail
  | .builtin .unsafeString => match c.args.toList.map ev, c.argTypes.toList with
    | [p, n], [t, _] => uStrP P t p n
    | _, _ => .fail
  | .builtin .copy => match c.args.toList.map ev, c.argTypes.toList with
    | [d, s], t :: _ => copyP P t d s
    | _, _ => .fail
  | .invoke recv name => (match ev recv with
    | .iface t v => (match methP P t name with
      | some (g, el) => (match P.funcs[g]? with
        | some fn => if fn.body.isSome then (match el with
          | none => .enter g (v :: c.args.toList.map ev)
          | some e => loadP P e v fun u => .enter g (u :: c.args.toList.map ev)) else .fail
        | none => .fail)
      | none => .fail)
    | _ => .fail)
  | _ => groundP P o ev

theorem maps_rel {e a : Act} {l : List Operand} (h : ∀ x ∈ l, V ρ (e.eval x) (a.eval x)) : VL ρ (l.map e.eval) (l.map a.eval) :=
  ⟨by simp, fun i v v' hv hv' => by
    rw [List.getElem?_map] at hv hv'
    cases hx : l[i]? with
    | none => rw [hx] at hv; cases hv
    | some x =>
      rw [hx] at hv hv'
      cases hv; cases hv'
      exact h x (List.mem_of_getElem? hx)⟩
theorem parts_rel {e a : Act} {ps : Array (Nat × Operand)} (h : ∀ p ∈ ps, V ρ (e.eval p.2) (a.eval p.2)) : (partsOf e.eval ps).length = (ps.map fun (i, x) => (i, a.eval x)).toList.length ∧
    ∀ (i : Nat) (p p' : Nat × Value), (partsOf e.eval ps)[i]? = some p → (ps.map fun (i, x) => (i, a.eval x)).toList[i]? = some p' → p.1 = p'.1 ∧ V ρ p.2 p'.2 := by
  refine ⟨by simp [partsOf], fun i p p' h1 h2 => ?_⟩
  simp only [partsOf, Array.toList_map, List.getElem?_map] at h1 h2
  cases hx : ps.toList[i]? with
  | none => rw [hx] at h1; cases h1
  | some q =>
    rw [hx] at h1 h2
    cases h1; cases h2
    exact ⟨rfl, h q (Array.mem_toList_iff.1 (List.mem_of_getElem? hx))⟩

/-- No function has a body and the name of one that the model knows. -/
def NamesOk (P : Program) : Prop := ∀ (f : FuncId) (fn : Func), P.funcs[f]? = some fn → fn.body.isSome = true → (fn.name == "runtime.NumGoroutine") = false

theorem call_sim (hN : NamesOk P) {o : Oper} {c : Call} (ho : o.op = .call c) {e a : Act} (h : ∀ x ∈ o.op.operands, V ρ (e.eval x) (a.eval x)) : Sim P (callP P o c e.eval) (execOp a.eval o) ρ w := by
  have hg := ground_sim (P := P) (w := w) h
  have hc : ∀ x ∈ c.operands, V ρ (e.eval x) (a.eval x) := by rw [ho] at h; exact h
  have hex : execOp a.eval o = (do let d ← resolve a.eval c o.type; invoke d.target d.args) := by unfold execOp; rw [ho]
  have hargs : VL ρ (c.args.toList.map e.eval) (c.args.toList.map a.eval) := maps_rel fun x hx => hc x (by simp only [Call.operands]; exact Array.mem_append_right _ (Array.mem_toList_iff.1 hx))
  unfold callP
  split
  · rename_i f hf
    have hfv : V ρ (e.eval f) (a.eval f) := hc f (by simp [Call.operands, hf])
    split
    · rename_i g fs cs hev
      rw [hev] at hfv
      split
      · rename_i fn hfn
        split
        · rename_i hb
          rw [hex]
          intro H t r hpr _ hw
          cases hpr
          cases hfe : a.eval f <;> rw [hfe] at hfv <;> cases hfv
          rename_i l' m' hl hm h1 h2
          have hres : (resolve a.eval c o.type).run P w = .ok { target := .fn (.func g) ⟨m'⟩, args := ⟨l'⟩ ++ c.args.map a.eval } w := by
            simp only [resolve, hf, hfe, Deferred.ofValue]
            rfl
          have hne : fn.body.isNone = false := by cases hbb : fn.body <;> simp_all
          have hcall : (callFunc g ((⟨l'⟩ ++ c.args.map a.eval) ++ ⟨m'⟩)).run P w = .ok (.enter g ((⟨l'⟩ ++ c.args.map a.eval) ++ ⟨m'⟩)) w := by
            simp only [callFunc, Sem.run_bind]
            simp only [program, Sem.run, Result.andThen_ok, hfn, hN g fn hfn hb, hne]
            rfl
          refine ⟨.enter g ((⟨l'⟩ ++ c.args.map a.eval) ++ ⟨m'⟩), w, ρ, ?_, Went.refl hw, rfl, ?_⟩
          · simp only [Sem.run_bind, hres, Result.andThen_ok, invoke, hcall]
          · have := (VL.append (ρ := ρ) ⟨hl, hm⟩ hargs).append (⟨h1, h2⟩ : VL ρ cs m')
            simpa using this
        · split
          · rename_i hesc
            split
            · rename_i x hx
              obtain ⟨e1, e2, e3, e4⟩ := esc_find hesc
              cases hfe : a.eval f <;> rw [hfe] at hfv <;> cases hfv
              rename_i l' m' hl hm h1 h2
              have hres : ∀ w, (resolve a.eval c o.type).run P w = .ok { target := .fn (.func g) ⟨m'⟩, args := ⟨l'⟩ ++ c.args.map a.eval } w := fun w => by
                simp only [resolve, hf, hfe, Deferred.ofValue]
                rfl
              have hv := (VL.append (ρ := ρ) ⟨hl, hm⟩ hargs).append (⟨h1, h2⟩ : VL ρ cs m')
              rw [hx] at hv
              obtain ⟨x', r', hx1, hx2, hx3⟩ := hv.cases_cons
              have hx4 := hx3.cases_nil
              subst hx4
              have hall : (⟨l'⟩ ++ c.args.map a.eval) ++ ⟨m'⟩ = #[x'] := by
                apply Array.toList_inj.1
                have := hx1
                simpa using this
              rw [hex]
              refine Sim.val rfl (v' := x') (fun w => ?_) hx2
              have hcall := run_callFunc_extern hfn e2 e1 e3 e4 #[x'] w
              rw [Lib.run_noEscape] at hcall
              simp only [Sem.run_bind, hres, Result.andThen_ok, invoke, hall, hcall]
            · exact Sim.fail
          · exact Sim.fail
      · exact Sim.fail
    · exact Sim.fail
  · rename_i hb
    split
    · rename_i b n k t ts h1 h2
      rw [h1] at hargs
      obtain ⟨v', r', e1, hv, hr⟩ := hargs.cases_cons
      have hr' := hr.cases_nil
      subst hr'
      have e2 : c.args.map a.eval = #[v'] := by apply Array.toList_inj.1; rw [Array.toList_map, e1]
      have e3 : c.argTypes = (t :: ts).toArray := by apply Array.toList_inj.1; rw [h2]
      split
      · rename_i e hu
        rw [hex]
        refine Sim.val rfl (v' := goInt n) (fun w => ?_) (.int _ _)
        simp only [resolve, hb, Sem.run_bind, Sem.run_pure, Result.andThen_ok, invoke, builtin, e2, e3]
        cases hv <;> simp [Builtin.len_, run_underlying hu]
      · exact Sim.fail
    · rename_i s t ts h1 h2
      rw [h1] at hargs
      obtain ⟨v', r', e1, hv, hr⟩ := hargs.cases_cons
      have hr' := hr.cases_nil
      subst hr'
      have e2 : c.args.map a.eval = #[v'] := by apply Array.toList_inj.1; rw [Array.toList_map, e1]
      have e3 : c.argTypes = (t :: ts).toArray := by apply Array.toList_inj.1; rw [h2]
      split
      · rename_i hu
        rw [hex]
        refine Sim.val rfl (v' := goInt s.size) (fun w => ?_) (.int _ _)
        simp only [resolve, hb, Sem.run_bind, Sem.run_pure, Result.andThen_ok, invoke, builtin, e2, e3]
        cases hv
        simp [Builtin.len_, run_underlying hu]
      · exact Sim.fail
    · exact hg
  · rename_i hb
    split
    · rename_i s x t u h1 h2
      split
      · rename_i htu
        have htu := Nat.eq_of_beq_eq_true htu
        subst htu
        rw [h1] at hargs
        obtain ⟨s', r', e1, hs, hr⟩ := hargs.cases_cons
        obtain ⟨x', r'', e4, hx, hr2⟩ := hr.cases_cons
        have hr' := hr2.cases_nil
        subst hr'
        subst e4
        have e2 : c.args.map a.eval = #[s', x'] := by apply Array.toList_inj.1; rw [Array.toList_map, e1]
        have e3 : c.argTypes = #[t, t] := by apply Array.toList_inj.1; rw [h2]
        have := append_sim (P := P) (w := w) (t := t) (ty := o.type) hs hx
        intro H tr r hpr hval hw
        obtain ⟨n, w', ρ', g1, g2, g3⟩ := this H tr r hpr hval hw
        refine ⟨n, w', ρ', ?_, g2, g3⟩
        rw [hex]
        simp only [resolve, hb, Sem.run_bind, Sem.run_pure, Result.andThen_ok, invoke, builtin, e2, e3]
        simpa [Sem.run_bind] using g1
      · split
        · rename_i str
          rw [h1] at hargs
          obtain ⟨s', r', e1, hs, hr⟩ := hargs.cases_cons
          obtain ⟨x', r'', e4, hx, hr2⟩ := hr.cases_cons
          have hr' := hr2.cases_nil
          subst hr'
          subst e4
          cases hx
          have e2 : c.args.map a.eval = #[s', .string ⟨⟨str⟩⟩] := by apply Array.toList_inj.1; rw [Array.toList_map, e1]
          have e3 : c.argTypes = #[t, u] := by apply Array.toList_inj.1; rw [h2]
          have := appendS_sim (P := P) (w := w) (t := t) (u := u) (ty := o.type) (str := str) hs
          intro H tr r hpr hval hw
          obtain ⟨n, w', ρ', g1, g2, g3⟩ := this H tr r hpr hval hw
          refine ⟨n, w', ρ', ?_, g2, g3⟩
          rw [hex]
          simp only [resolve, hb, Sem.run_bind, Sem.run_pure, Result.andThen_ok, invoke, builtin, e2, e3]
          simpa [Sem.run_bind] using g1
        · rename_i kq iq
          rw [h1] at hargs
          obtain ⟨s', r', e1, hs, hr⟩ := hargs.cases_cons
          obtain ⟨x', r'', e4, hx, hr2⟩ := hr.cases_cons
          have hr' := hr2.cases_nil
          subst hr'
          subst e4
          cases hx
          have e2 : c.args.map a.eval = #[s', .int kq iq] := by apply Array.toList_inj.1; rw [Array.toList_map, e1]
          have e3 : c.argTypes = #[t, u] := by apply Array.toList_inj.1; rw [h2]
          have := appendZ_sim (P := P) (w := w) (t := t) (u := u) (ty := o.type) (kq := kq) (i := iq) hs
          intro H tr r hpr hval hw
          obtain ⟨n, w', ρ', g1, g2, g3⟩ := this H tr r hpr hval hw
          refine ⟨n, w', ρ', ?_, g2, g3⟩
          rw [hex]
          simp only [resolve, hb, Sem.run_bind, Sem.run_pure, Result.andThen_ok, invoke, builtin, e2, e3]
          simpa [Sem.run_bind] using g1
        · exact Sim.fail
    · exact Sim.fail
  · rename_i hb
    split
    · rename_i s h1
      rw [h1] at hargs
      obtain ⟨s', r', e1, hs, hr⟩ := hargs.cases_cons
      have hr' := hr.cases_nil
      subst hr'
      have e2 : c.args.map a.eval = #[s'] := by apply Array.toList_inj.1; rw [Array.toList_map, e1]
      have := uData_sim (P := P) (w := w) (ts := c.argTypes) (ty := o.type) hs
      intro H tr r hpr hval hw
      obtain ⟨n, w', ρ', g1, g2, g3⟩ := this H tr r hpr hval hw
      refine ⟨n, w', ρ', ?_, g2, g3⟩
      rw [hex]
      simp only [resolve, hb, Sem.run_bind, Sem.run_pure, Result.andThen_ok, invoke, builtin, e2]
      simpa [Sem.run_bind] using g1
    · exact Sim.fail
  · rename_i hb
    split
    · rename_i p n t u h1 h2
      rw [h1] at hargs
      obtain ⟨p', r', e1, hp, hr⟩ := hargs.cases_cons
      obtain ⟨n', r'', e4, hn, hr2⟩ := hr.cases_cons
      have hr' := hr2.cases_nil
      subst hr'
      subst e4
      have e2 : c.args.map a.eval = #[p', n'] := by apply Array.toList_inj.1; rw [Array.toList_map, e1]
      have e3 : c.argTypes = #[t, u] := by apply Array.toList_inj.1; rw [h2]
      have := uStr_sim (P := P) (w := w) (pt := t) (it := u) (ty := o.type) hp hn
      intro H tr r hpr hval hw
      obtain ⟨m, w', ρ', g1, g2, g3⟩ := this H tr r hpr hval hw
      refine ⟨m, w', ρ', ?_, g2, g3⟩
      rw [hex]
      simp only [resolve, hb, Sem.run_bind, Sem.run_pure, Result.andThen_ok, invoke, builtin, e2, e3]
      simpa [Sem.run_bind] using g1
    · exact Sim.fail
  · rename_i hb
    split
    · rename_i d s t ts h1 h2
      rw [h1] at hargs
      obtain ⟨d', r', e1, hd, hr⟩ := hargs.cases_cons
      obtain ⟨s', r'', e4, hs, hr2⟩ := hr.cases_cons
      have hr' := hr2.cases_nil
      subst hr'
      subst e4
      have e2 : c.args.map a.eval = #[d', s'] := by apply Array.toList_inj.1; rw [Array.toList_map, e1]
      have e3 : c.argTypes = (t :: ts).toArray := by apply Array.toList_inj.1; rw [h2]
      have := copy_sim (P := P) (w := w) (ats := c.argTypes) (t := t) (ty := o.type) (by rw [e3]; rfl) hd hs
      intro H tr r hpr hval hw
      obtain ⟨m, w', ρ', g1, g2, g3⟩ := this H tr r hpr hval hw
      refine ⟨m, w', ρ', ?_, g2, g3⟩
      rw [hex]
      simp only [resolve, hb, Sem.run_bind, Sem.run_pure, Result.andThen_ok, invoke, builtin, e2]
      simpa [Sem.run_bind] using g1
    · exact Sim.fail
  · rename_i recv name hf
    have hrv : V ρ (e.eval recv) (a.eval recv) := hc recv (by simp [Call.operands, hf])
    split
    case h_2 => exact Sim.fail
    rename_i t v hev
    rw [hev] at hrv
    split
    case h_2 => exact Sim.fail
    rename_i g el hmeth
    split
    case h_2 => exact Sim.fail
    rename_i fn hfn
    split
    case isFalse => exact Sim.fail
    rename_i hb
    rw [hex]
    intro H tr r hpr hval hw
    cases hfe : a.eval recv <;> rw [hfe] at hrv <;> cases hrv
    rename_i v' hv
    have hres : (resolve a.eval c o.type).run P w = .ok { target := .fn (.method name) #[], args := #[.iface t v'] ++ c.args.map a.eval } w := by
      simp only [resolve, hf, hfe]
      rfl
    have hne : fn.body.isNone = false := by cases hbb : fn.body <;> simp_all
    have hcall : ∀ v', (callFunc g (#[v'] ++ c.args.map a.eval)).run P w = .ok (.enter g (#[v'] ++ c.args.map a.eval)) w := by
      intro v'
      simp only [callFunc, Sem.run_bind]
      simp only [program, Sem.run, Result.andThen_ok, hfn, hN g fn hfn hb, hne]
      rfl
    have hget : (#[Value.iface t v'] ++ c.args.map a.eval)[0]? = some (.iface t v') := by rw [Array.getElem?_append_left (by simp)]; rfl
    have hext : (#[Value.iface t v'] ++ c.args.map a.eval).extract 1 (#[Value.iface t v'] ++ c.args.map a.eval).size = c.args.map a.eval := by
      apply Array.toList_inj.1
      simp
      rw [List.take_of_length_le (by simp)]
    have hprog : ∀ w, (program).run P w = .ok P w := fun w => rfl
    have hdp : 0 < Made.depth := by decide
    obtain ⟨n, hn⟩ : ∃ n, P.types.size + Made.depth = n + 1 := ⟨P.types.size + Made.depth - 1, by omega⟩
    split at hpr
    · cases hpr
      refine ⟨.enter g (#[v'] ++ c.args.map a.eval), w, ρ, ?_, Went.refl hw, rfl, ?_⟩
      · simp only [Sem.run_bind, hres, Result.andThen_ok, invoke, hget, hext, callMethod, hprog, hn, meth_run hmeth, hcall]
      · have := VL.cons hv hargs
        simpa using this
    · rename_i e
      obtain ⟨c1, o1, u, u', t1, t2, rfl, rfl, q1, q2, q3, q4, q5, q6⟩ := loadP_sound hw hv hpr hval
      cases q1
      refine ⟨.enter g (#[u'] ++ c.args.map a.eval), w, ρ, ?_, (Went.refl hw).congr (by rw [List.append_nil, q4]; rfl) (fun b hb => by cases hb), rfl, ?_⟩
      · simp only [Sem.run_bind, hres, Result.andThen_ok, invoke, hget, hext, callMethod, hprog, hn, meth_run2 hmeth _ q3, hcall]
      · have := VL.cons q2 hargs
        simpa using this
  · exact hg

/-- A byte of a text. -/
def idxP (P : Program) (t : TypeId) (s : ByteArray) (n : Int) : Prog := match P.underlying t with
  | some .string => if 0 ≤ n then (match s.data.toList[n.toNat]? with
    | some b => .val (.int .u8 b.toNat)
    | none => .fail) else .fail
  | _ => .fail
theorem idx_sim {t : TypeId} {s : ByteArray} {k : IntKind} {n : Int} : Sim P (idxP P t s n) (do pure (.value (← Instr.index t (.string s) (.int k n)))) ρ w := by
  unfold idxP
  split
  · rename_i hu
    split
    · rename_i hn
      split
      · rename_i b hb
        refine Sim.vv rfl (v' := .int .u8 b.toNat) ?_ (.int _ _)
        have hg : s[n.toNat]? = some b := by
          obtain ⟨hlt, hb⟩ := List.getElem?_eq_some_iff.1 hb
          have hsz : n.toNat < s.size := hlt
          rw [getElem?_pos s n.toNat hsz]
          congr 1
        simp only [Instr.index, asIntOf, Sem.run_bind, Sem.run_pure, Result.andThen_ok, run_underlying hu]
        rw [if_pos hn, hg]
        rfl
      · exact Sim.fail
    · exact Sim.fail
  · exact Sim.fail
def cvtP (P : Program) (src dst : TypeId) (n : Int) : Prog := match P.underlying src, P.underlying dst with
  | some _, some (.int k) => .val (.int k (k.wrap n))
  | _, _ => .fail
theorem cvt_sim {src dst : TypeId} {k : IntKind} {n : Int} : Sim P (cvtP P src dst n) (do pure (.value (← convert src dst (.int k n)))) ρ w := by
  unfold cvtP
  split
  · rename_i d k' hs hd
    refine Sim.vv rfl (v' := .int k' (k'.wrap n)) ?_ (.int _ _)
    simp [convert, run_underlying hs, run_underlying hd, Conv.intToInt]
  · exact Sim.fail

def intV (op : BinOp) (k : IntKind) (a b : Int) : Option Value := match op with
  | .add => some (.int k (k.wrap (a + b)))
  | .sub => some (.int k (k.wrap (a - b)))
  | .mul => some (.int k (k.wrap (a * b)))
  | .eql => some (.bool (a == b))
  | .neq => some (.bool (a != b))
  | .lss => some (.bool (a < b))
  | .leq => some (.bool (a ≤ b))
  | .gtr => some (.bool (a > b))
  | .geq => some (.bool (a ≥ b))
  | _ => none
theorem intV_run {op : BinOp} {t : TypeId} {x y : Operand} {k : IntKind} {a b : Int} {v : Value} (h : intV op k a b = some v) : (do eqGuard op t x y (.int k a) (.int k b); binOp op t (.int k a) (.int k b)) = (pure v : Sem Value) := by
  have hg : eqGuard op t x y (.int k a) (.int k b) = pure () := by cases op <;> rfl
  rw [hg]
  cases op <;> simp only [intV] at h <;> cases h <;> simp [binOp, Op.intArith, Op.intCmp]
theorem intV_flat {op : BinOp} {k : IntKind} {a b : Int} {v : Value} (h : intV op k a b = some v) : flat v = true := by
  cases op <;> simp only [intV] at h <;> cases h <;> rfl

def strV2 (op : BinOp) (a b : ByteArray) : Option Value := match op with
  | .add => if lenY a.data.toList + lenY b.data.toList ≤ 4294967296 then some (.string ⟨⟨appY a.data.toList b.data.toList⟩⟩) else none
  | .eql => some (.bool (leqY a.data.toList b.data.toList))
  | .neq => some (.bool (!leqY a.data.toList b.data.toList))
  | _ => none
theorem strV2_run {op : BinOp} {t : TypeId} {x y : Operand} {a b : ByteArray} {v : Value} (h : strV2 op a b = some v) : (do eqGuard op t x y (.string a) (.string b); binOp op t (.string a) (.string b)) = (pure v : Sem Value) := by
  have hg : eqGuard op t x y (.string a) (.string b) = pure () := by cases op <;> rfl
  rw [hg]
  cases op <;> simp only [strV2, lenY_eq, appY_eq, leqY_eq] at h <;> try cases h
  · split at h
    · rename_i hl
      cases h
      have h1 : ¬ ((a.size + b.size : Nat) : Int) > IntKind.i64.max := by
        have : a.size + b.size ≤ 4294967296 := hl
        simp [IntKind.max, IntKind.signed, IntKind.bits]
        omega
      have h2 : a ++ b = ⟨⟨a.data.toList ++ b.data.toList⟩⟩ := by
        apply ByteArray.ext
        apply Array.toList_inj.1
        simp
      simp only [pure_bind, binOp, Op.stringOp]
      rw [if_neg h1, h2]
    · cases h
  · simp only [pure_bind, binOp, Op.stringOp]
    rw [leq_eq, bytes_list, bytes_list]
  · simp only [pure_bind, binOp, Op.stringOp]
    rw [leq_eq, bytes_list, bytes_list]
theorem strV2_flat {op : BinOp} {a b : ByteArray} {v : Value} (h : strV2 op a b = some v) : flat v = true := by
  cases op <;> simp only [strV2, lenY_eq, appY_eq, leqY_eq] at h <;> try cases h
  · split at h <;> cases h
    rfl
  · rfl
  · rfl

/-- What two values come to. -/
def binP (P : Program) (o : Oper) (op : BinOp) (t : TypeId) (ev : Operand → Value) (a b : Value) : Prog := match a, b with
  | .int k a, .int k' b => match sameK k k' with
    | true => (match intV op k a b with
      | some v => .val v
      | none => groundP P o ev)
    | false => groundP P o ev
  | .string a, .string b => (match strV2 op a b with
    | some v => .val v
    | none => groundP P o ev)
  | .pointer (some a), .pointer (some b) => ptrB P t op a b
  | a, b => (match nilB P t a b with
    | some r => (match op with
      | .eql => .val (.bool r)
      | .neq => .val (.bool (!r))
      | _ => .fail)
    | none => groundP P o ev)
theorem bin_sim {o : Oper} {op : BinOp} {t : TypeId} {x y : Operand} {z : TypeId} (ho : o.op = .binOp op t x y z) {e a : Act} (h : ∀ x ∈ o.op.operands, V ρ (e.eval x) (a.eval x)) : Sim P (binP P o op t e.eval (e.eval x) (e.eval y)) (execOp a.eval o) ρ w := by
  have hg := ground_sim (P := P) (w := w) h
  rw [ho] at h
  have hx := h x (by simp [Op.operands])
  have hy := h y (by simp [Op.operands])
  have hex : execOp a.eval o = (do pure (.value (← (do eqGuard op t x y (a.eval x) (a.eval y); binOp op t (a.eval x) (a.eval y))))) := by unfold execOp; rw [ho]
  unfold binP
  split
  · rename_i k m k' n hp hq
    rw [hp] at hx
    rw [hq] at hy
    have hxa : a.eval x = .int k m := by generalize a.eval x = v at hx; cases hx; rfl
    have hya : a.eval y = .int k' n := by generalize a.eval y = v at hy; cases hy; rfl
    split
    · rename_i hk
      have hk := sameK_eq hk
      subst hk
      split
      · rename_i v hv
        rw [hex, hxa, hya, intV_run hv]
        exact Sim.val rfl (v' := v) (fun w => rfl) (V.flat (intV_flat hv))
      · exact hg
    · exact hg
  · rename_i m n hp hq
    rw [hp] at hx
    rw [hq] at hy
    have hxa : a.eval x = .string m := by generalize a.eval x = v at hx; cases hx; rfl
    have hya : a.eval y = .string n := by generalize a.eval y = v at hy; cases hy; rfl
    split
    · rename_i v hv
      rw [hex, hxa, hya, strV2_run hv]
      exact Sim.val rfl (v' := v) (fun w => rfl) (V.flat (strV2_flat hv))
    · exact hg
  · rename_i p q hp hq
    rw [hp] at hx
    rw [hq] at hy
    rw [hex]
    exact ptr_sim hx hy
  · split
    · rename_i r hr
      have hn := nil_run (P := P) (w := w) (x := x) (y := y) hx hy hr
      rw [hex]
      cases op <;> first
        | exact Sim.fail
        | (refine Sim.val rfl (v' := .bool r) (fun w => ?_) (.bool r)
           have := (nil_run (P := P) (w := w) (x := x) (y := y) hx hy hr).1
           simp only [Sem.run_bind] at this ⊢
           rw [this]; rfl)
        | (refine Sim.val rfl (v' := .bool (!r)) (fun w => ?_) (.bool (!r))
           have := (nil_run (P := P) (w := w) (x := x) (y := y) hx hy hr).2
           simp only [Sem.run_bind] at this ⊢
           rw [this]; rfl)
    · exact hg

/-- A part of a text. -/
def sstP (P : Program) (t : TypeId) (s : ByteArray) (lo hi : Option Value) : Prog := match P.underlying t with
  | some .string => match boundOf lo 0, boundOf hi s.data.toList.length with
    | some l, some h => if Nat.ble l h && Nat.ble h s.data.toList.length then .val (.string ⟨⟨(s.data.toList.drop l).take (h - l)⟩⟩) else .fail
    | _, _ => .fail
  | _ => .fail
theorem run_boundsF {P : Program} {lo hi : Option Value} {n cap l h : Nat} (hl : (lo = none ∧ l = 0) ∨ ∃ k i, lo = some (.int k i) ∧ 0 ≤ i ∧ l = i.toNat) (hh : (hi = none ∧ h = n) ∨ ∃ k i, hi = some (.int k i) ∧ 0 ≤ i ∧ h = i.toNat)
    (h1 : l ≤ h) (h2 : h ≤ cap) : (Instr.sliceBounds false n cap lo hi none).run P w = .ok (l, h, cap) w := by
  have c1 : ∀ i : Int, 0 ≤ i → h = i.toNat → (0 ≤ i ∧ i ≤ (cap : Int)) := fun i a b => ⟨a, by omega⟩
  have c2 : ∀ i : Int, 0 ≤ i → l = i.toNat → (0 ≤ i ∧ i ≤ (h : Int)) := fun i a b => ⟨a, by omega⟩
  rcases hl with ⟨rfl, rfl⟩ | ⟨k, i, rfl, a, b⟩ <;> rcases hh with ⟨rfl, rfl⟩ | ⟨k', i', rfl, a', b'⟩
  · simp [Instr.sliceBounds]
  · simp [Instr.sliceBounds, Instr.sliceBound, asIntOf, c1 i' a' b', ← b']
  · simp [Instr.sliceBounds, Instr.sliceBound, asIntOf, c2 i a b, ← b]
  · simp [Instr.sliceBounds, Instr.sliceBound, asIntOf, c1 i' a' b', ← b', c2 i a b, ← b]
theorem sst_sim {t : TypeId} {s : ByteArray} {lo hi lo' hi' : Option Value} (hlo : VO ρ lo lo') (hhi : VO ρ hi hi') : Sim P (sstP P t s lo hi) (do pure (.value (← Instr.sliceAt t (.string s) lo' hi' none))) ρ w := by
  unfold sstP
  split
  · rename_i hu
    split
    · rename_i l h hl hh
      split
      · rename_i hb
        rw [Bool.and_eq_true] at hb
        have b1 := Nat.le_of_ble_eq_true hb.1
        have b2 := Nat.le_of_ble_eq_true hb.2
        have hl2 : (lo' = none ∧ l = 0) ∨ ∃ k i, lo' = some (.int k i) ∧ 0 ≤ i ∧ l = i.toNat := by
          rcases boundOf_rel hl hlo with ⟨_, a, b⟩ | h
          · exact .inl ⟨a, b⟩
          · exact .inr h
        have hh2 : (hi' = none ∧ h = s.size) ∨ ∃ k i, hi' = some (.int k i) ∧ 0 ≤ i ∧ h = i.toNat := by
          rcases boundOf_rel hh hhi with ⟨_, a, b⟩ | h
          · exact .inl ⟨a, b⟩
          · exact .inr h
        have hbd := run_boundsF (P := P) (w := w) hl2 hh2 b1 (show h ≤ s.size from b2)
        refine Sim.vv rfl (v' := .string ⟨⟨(s.data.toList.drop l).take (h - l)⟩⟩) ?_ (.string _)
        have he : s.extract l h = ⟨⟨(s.data.toList.drop l).take (h - l)⟩⟩ := by
          apply ByteArray.ext
          apply Array.toList_inj.1
          rw [Lib.extract_data]
        simp only [Instr.sliceAt, Sem.run_bind, run_underlying hu, Result.andThen_ok, Instr.slice, Option.isSome_none, Bool.false_eq_true, if_false, Sem.run_pure, hbd, he]
      · exact Sim.fail
    · exact Sim.fail
  · exact Sim.fail

/-- All operations. -/
def opF (P : Program) (o : Oper) (ev : Operand → Value) : Prog :=
  match o.op with
  | .move x => .val (ev x)
  | .assign x => .val (ev x)
  | .pick c a b => (match ev c with
    | .bool true => .val (ev a)
    | .bool false => .val (ev b)
    | _ => .fail)
  | .alloc t => allocP P t
  | .box t x => newP t (ev x)
  | .load t a => loadP P t (ev a) .val
  | .store t a x => storeP P t (ev a) (ev x)
  | .fieldAddr s x f => fieldP P s (ev x) f
  | .indexAddr t x i => ixP P t (ev x) (ev i)
  | .field t x f => fieldVP P t (ev x) f
  | .extract x i => extractP (ev x) i
  | .makeSlice t l c => mkP P t (ev l) (ev c)
  | .build t parts => buildP P t (partsOf ev parts)
  | .buildSlice t n parts => buildSP P t n (partsOf ev parts)
  | .makeFunc (.func f) first captured => .val (.func (.func f) ⟨first.toList.map ev⟩ ⟨captured.toList.map ev⟩)
  | .nilCheck x => (match ev x with
    | .pointer (some a) => .val (.pointer (some a))
    | .func (.func f) l m => .val (.func (.func f) l m)
    | _ => .fail)
  | .slice t x lo hi none => (match ev x with
    | .slice (some a) n k => slP P t (.slice (some a) n k) (lo.map ev) (hi.map ev)
    | .string s => sstP P t s (lo.map ev) (hi.map ev)
    | .pointer (some a) => slAP P t (.pointer (some a)) (lo.map ev) (hi.map ev)
    | _ => groundP P o ev)
  | .binOp op t x y _ => binP P o op t ev (ev x) (ev y)
  | .unOp .not _ x => (match ev x with
    | .bool b => .val (.bool (!b))
    | _ => groundP P o ev)
  | .convert s d x => (match ev x with
    | .slice (some a) n k => bytesP P s d (.slice (some a) n k)
    | .int _ n => cvtP P s d n
    | .pointer (some a) => uptrP P s d (.pointer (some a))
    | _ => groundP P o ev)
  | .index t x i => (match ev x, ev i with
    | .string s, .int _ n => idxP P t s n
    | _, _ => groundP P o ev)
  | .call c => callP P o c ev
  | .lookup t x k ok => lookP P t (ev x) (ev k) ok
  | .mapUpdate t m k x => updP P t (ev m) (ev k) (ev x)
  | .insert t m k x => updP P t (ev m) (ev k) (ev x)
  | .makeMap t r => mkMP t (r.map ev)
  | .makeInterface t x => mkIP P t (ev x)
  | .typeAssert x _ t ok => assertP P (ev x) t ok
  | _ => groundP P o ev

theorem map_opt {ev ev' : Operand → Value} {x : Option Operand} (h : ∀ y ∈ x.toArray, ev y = ev' y) : x.map ev = x.map ev' := by
  cases x with
  | none => rfl
  | some y => simp only [Option.map_some]; rw [h y (by simp)]

theorem opF_congr (o : Oper) (ev ev' : Operand → Value) (h : ∀ x ∈ o.op.operands, ev x = ev' x) : opF P o ev = opF P o ev' := by
  have hg := ground_congr (P := P) h
  unfold opF
  split <;> rename_i ho <;> (try (rw [ho] at h)) <;> (try exact hg)
  case h_1 x => rw [h x (by simp [Op.operands])]
  case h_2 x => rw [h x (by simp [Op.operands])]
  case h_3 c a b => rw [h c (by simp [Op.operands]), h a (by simp [Op.operands]), h b (by simp [Op.operands])]
  case h_5 t x => rw [h x (by simp [Op.operands])]
  case h_6 t x => rw [h x (by simp [Op.operands])]
  case h_7 t a x => rw [h a (by simp [Op.operands]), h x (by simp [Op.operands])]
  case h_8 s x f => rw [h x (by simp [Op.operands])]
  case h_9 t x i => rw [h x (by simp [Op.operands]), h i (by simp [Op.operands])]
  case h_10 t x f => rw [h x (by simp [Op.operands])]
  case h_11 x i => rw [h x (by simp [Op.operands])]
  case h_12 t l c => rw [h l (by simp [Op.operands]), h c (by simp [Op.operands])]
  case h_13 t parts =>
    have : partsOf ev parts = partsOf ev' parts := List.map_congr_left fun p hp => by
      obtain ⟨i, x⟩ := p
      show (i, ev x) = (i, ev' x)
      rw [h x (by simp only [Op.operands]; rw [List.mem_toArray]; exact List.mem_map.2 ⟨(i, x), hp, rfl⟩)]
    rw [this]
  case h_14 t n parts =>
    have : partsOf ev parts = partsOf ev' parts := List.map_congr_left fun p hp => by
      obtain ⟨i, x⟩ := p
      show (i, ev x) = (i, ev' x)
      rw [h x (by simp only [Op.operands]; rw [List.mem_toArray]; exact List.mem_map.2 ⟨(i, x), hp, rfl⟩)]
    rw [this]
  case h_15 f first captured =>
    have h1 : first.toList.map ev = first.toList.map ev' := List.map_congr_left fun x hx => h x (by simp only [Op.operands]; exact Array.mem_append_left _ (Array.mem_toList_iff.1 hx))
    have h2 : captured.toList.map ev = captured.toList.map ev' := List.map_congr_left fun x hx => h x (by simp only [Op.operands]; exact Array.mem_append_right _ (Array.mem_toList_iff.1 hx))
    rw [h1, h2]
  case h_16 x => rw [h x (by simp [Op.operands])]
  case h_17 t x lo hi =>
    have h1 : lo.map ev = lo.map ev' := map_opt fun y hy => h y (by simp only [Op.operands]; simp_all)
    have h2 : hi.map ev = hi.map ev' := map_opt fun y hy => h y (by simp only [Op.operands]; simp_all)
    rw [h x (by simp [Op.operands]), h1, h2, hg]
  case h_18 op t x y _ => unfold binP; rw [h x (by simp [Op.operands]), h y (by simp [Op.operands]), hg]
  case h_19 t x => rw [h x (by simp [Op.operands]), hg]
  case h_20 s d x => rw [h x (by simp [Op.operands]), hg]
  case h_21 t x i => rw [h x (by simp [Op.operands]), h i (by simp [Op.operands]), hg]
  case h_22 c =>
    have hf : ∀ f, c.callee = .value f → ev f = ev' f := fun f hf => h f (by simp [Op.operands, Call.operands, hf])
    have ha : c.args.toList.map ev = c.args.toList.map ev' := List.map_congr_left fun x hx => h x (by simp only [Op.operands, Call.operands]; exact Array.mem_append_right _ (Array.mem_toList_iff.1 hx))
    unfold callP
    rw [ha, hg]
    split
    · rename_i f hcf
      rw [hf f hcf]
    all_goals first
      | rfl
      | (rename_i recv name hcf
         rw [h recv (by simp [Op.operands, Call.operands, hcf])])
  case h_23 t x k ok => rw [h x (by simp [Op.operands]), h k (by simp [Op.operands])]
  case h_24 t m k x => rw [h m (by simp [Op.operands]), h k (by simp [Op.operands]), h x (by simp [Op.operands])]
  case h_25 t m k x => rw [h m (by simp [Op.operands]), h k (by simp [Op.operands]), h x (by simp [Op.operands])]
  case h_26 t r => rw [map_opt (x := r) fun y hy => h y (by simp only [Op.operands]; simp_all)]
  case h_27 t x => rw [h x (by simp [Op.operands])]
  case h_28 x _ t ok => rw [h x (by simp [Op.operands])]

theorem VO.of {e a : Act} {x : Option Operand} (h : ∀ y ∈ x.toArray, V ρ (e.eval y) (a.eval y)) : VO ρ (x.map e.eval) (x.map a.eval) := by
  cases x with
  | none => trivial
  | some y => exact h y (by simp)

theorem opF_sound (hN : NamesOk P) (o : Oper) (e a : Act) (ρ : Rho) (w : World) (h : ∀ x ∈ o.op.operands, V ρ (e.eval x) (a.eval x)) : Sim P (opF P o e.eval) (execOp a.eval o) ρ w := by
  have hg := ground_sim (P := P) (w := w) h
  have hh := h
  unfold opF
  split <;> rename_i ho <;> (try (rw [ho] at h)) <;> (try exact hg)
  case h_1 x => exact Sim.val rfl (v' := a.eval x) (fun w => by simp [execOp, ho]) (h x (by simp [Op.operands]))
  case h_2 x => exact Sim.val rfl (v' := a.eval x) (fun w => by simp [execOp, ho]) (h x (by simp [Op.operands]))
  case h_3 c x y =>
    have hc := h c (by simp [Op.operands])
    have hx := h x (by simp [Op.operands])
    have hy := h y (by simp [Op.operands])
    split
    · rename_i hb
      rw [hb] at hc
      have := hc.bool_eq
      exact Sim.val rfl (v' := a.eval x) (fun w => by simp [execOp, ho, this, asBool]) hx
    · rename_i hb
      rw [hb] at hc
      have := hc.bool_eq
      exact Sim.val rfl (v' := a.eval y) (fun w => by simp [execOp, ho, this, asBool]) hy
    · exact Sim.fail
  case h_4 t => have := alloc_sim (P := P) (ρ := ρ) (w := w) (t := t); unfold execOp; rw [ho]; exact this
  case h_5 t x => have := box_sim (P := P) (w := w) (t := t) (h x (by simp [Op.operands])); unfold execOp; rw [ho]; exact this
  case h_6 t x => have := load_sim (P := P) (w := w) (t := t) (h x (by simp [Op.operands])); unfold execOp; rw [ho]; exact this
  case h_7 t p x => have := storeP_sound (P := P) (w := w) (t := t) (h p (by simp [Op.operands])) (h x (by simp [Op.operands])); unfold execOp; rw [ho]; exact this
  case h_8 s x f => have := field_sim (P := P) (w := w) (s := s) (f := f) (h x (by simp [Op.operands])); unfold execOp; rw [ho]; exact this
  case h_9 t x i => have := ix_sim (P := P) (w := w) (t := t) (h x (by simp [Op.operands])) (h i (by simp [Op.operands])); unfold execOp; rw [ho]; exact this
  case h_10 t x f => have := fieldV_sim (P := P) (w := w) (t := t) (f := f) (h x (by simp [Op.operands])); unfold execOp; rw [ho]; exact this
  case h_11 x i => have := extract_sim (P := P) (w := w) (i := i) (h x (by simp [Op.operands])); unfold execOp; rw [ho]; exact this
  case h_12 t l c => have := mk_sim (P := P) (w := w) (t := t) (h l (by simp [Op.operands])) (h c (by simp [Op.operands])); unfold execOp; rw [ho]; exact this
  case h_13 t parts =>
    have hp := parts_rel (ρ := ρ) (e := e) (a := a) (ps := parts) fun p hp => h p.2 (by simp only [Op.operands]; rw [List.mem_toArray]; exact List.mem_map.2 ⟨p, Array.mem_toList_iff.2 hp, rfl⟩)
    have := build_sim (P := P) (w := w) (t := t) hp.1 hp.2; unfold execOp; rw [ho]; exact this
  case h_14 t n parts =>
    have hp := parts_rel (ρ := ρ) (e := e) (a := a) (ps := parts) fun p hp => h p.2 (by simp only [Op.operands]; rw [List.mem_toArray]; exact List.mem_map.2 ⟨p, Array.mem_toList_iff.2 hp, rfl⟩)
    have := buildS_sim (P := P) (w := w) (t := t) (n := n) hp.1 hp.2; unfold execOp; rw [ho]; exact this
  case h_15 f first captured =>
    have h1 := maps_rel (ρ := ρ) (e := e) (a := a) (l := first.toList) fun x hx => h x (by simp only [Op.operands]; exact Array.mem_append_left _ (Array.mem_toList_iff.1 hx))
    have h2 := maps_rel (ρ := ρ) (e := e) (a := a) (l := captured.toList) fun x hx => h x (by simp only [Op.operands]; exact Array.mem_append_right _ (Array.mem_toList_iff.1 hx))
    refine Sim.val rfl (v' := .func (.func f) (first.map a.eval) (captured.map a.eval)) (fun w => by simp [execOp, ho, Instr.makeFunc]) ?_
    have e1 : first.map a.eval = ⟨first.toList.map a.eval⟩ := by apply Array.toList_inj.1; simp
    have e2 : captured.map a.eval = ⟨captured.toList.map a.eval⟩ := by apply Array.toList_inj.1; simp
    rw [e1, e2]
    exact .func f _ _ _ _ h1.1 h2.1 h1.2 h2.2
  case h_16 x =>
    have hx := h x (by simp [Op.operands])
    split
    · rename_i p hp
      rw [hp] at hx
      cases hxa : a.eval x <;> rw [hxa] at hx <;> cases hx
      rename_i hr
      exact Sim.val rfl (v' := a.eval x) (fun w => by simp [execOp, ho, hxa]) (by rw [hxa]; exact .ptr _ _ _ _ hr)
    · rename_i f l m hp
      rw [hp] at hx
      cases hxa : a.eval x <;> rw [hxa] at hx <;> cases hx
      exact Sim.val rfl (v' := a.eval x) (fun w => by simp [execOp, ho, hxa]) (by rw [hxa]; exact .func _ _ _ _ _ ‹_› ‹_› ‹_› ‹_›)
    · exact Sim.fail
  case h_17 t x lo hi =>
    have hx := h x (by simp [Op.operands])
    have hlo := VO.of (ρ := ρ) (e := e) (a := a) (x := lo) fun y hy => h y (by simp only [Op.operands]; simp_all)
    have hhi := VO.of (ρ := ρ) (e := e) (a := a) (x := hi) fun y hy => h y (by simp only [Op.operands]; simp_all)
    split
    · rename_i p n k hp
      rw [hp] at hx
      have := sl_sim (P := P) (w := w) (t := t) hx hlo hhi; unfold execOp; rw [ho]; exact this
    · rename_i s hp
      rw [hp] at hx
      have hxa : a.eval x = .string s := by generalize a.eval x = v at hx; cases hx; rfl
      have := sst_sim (P := P) (w := w) (t := t) (s := s) hlo hhi; unfold execOp; rw [ho]; simp only; rw [hxa]; exact this
    · rename_i p hp
      rw [hp] at hx
      have := slA_sim (P := P) (w := w) (t := t) hx hlo hhi; unfold execOp; rw [ho]; exact this
    · exact hg
  case h_18 op t x y _ => exact bin_sim ho hh
  case h_19 t x =>
    have hx := h x (by simp [Op.operands])
    split
    · rename_i b hb
      rw [hb] at hx
      have := hx.bool_eq
      exact Sim.val rfl (v' := .bool (!b)) (fun w => by simp [execOp, ho, this, Op.unary]) (.bool _)
    · exact hg
  case h_20 s d x =>
    have hx := h x (by simp [Op.operands])
    split
    · rename_i p n k hp
      rw [hp] at hx
      have := bytes_sim (P := P) (w := w) (src := s) (dst := d) hx; unfold execOp; rw [ho]; exact this
    · rename_i k n hp
      rw [hp] at hx
      have hxa : a.eval x = .int k n := by generalize a.eval x = v at hx; cases hx; rfl
      have := cvt_sim (P := P) (ρ := ρ) (w := w) (src := s) (dst := d) (k := k) (n := n); unfold execOp; rw [ho]; simp only; rw [hxa]; exact this
    · rename_i p hp
      rw [hp] at hx
      have := uptr_sim (P := P) (ρ := ρ) (w := w) (src := s) (dst := d) hx; unfold execOp; rw [ho]; exact this
    · exact hg
  case h_21 t x i =>
    have hx := h x (by simp [Op.operands])
    have hi := h i (by simp [Op.operands])
    split
    · rename_i s k n hp hq
      rw [hp] at hx
      rw [hq] at hi
      have hxa : a.eval x = .string s := by generalize a.eval x = v at hx; cases hx; rfl
      have hia : a.eval i = .int k n := by generalize a.eval i = v at hi; cases hi; rfl
      have := idx_sim (P := P) (ρ := ρ) (w := w) (t := t) (s := s) (k := k) (n := n); unfold execOp; rw [ho]; simp only; rw [hxa, hia]; exact this
    · exact hg
  case h_22 c => exact call_sim hN ho hh
  case h_23 t x k ok => have := look_sim (P := P) (w := w) (t := t) (ok := ok) (h x (by simp [Op.operands])) (h k (by simp [Op.operands])); unfold execOp; rw [ho]; exact this
  case h_24 t m k x => have := upd_sim (P := P) (w := w) (t := t) (h m (by simp [Op.operands])) (h k (by simp [Op.operands])) (h x (by simp [Op.operands])); unfold execOp; rw [ho]; exact this
  case h_25 t m k x => have := upd_sim (P := P) (w := w) (t := t) (h m (by simp [Op.operands])) (h k (by simp [Op.operands])) (h x (by simp [Op.operands])); unfold execOp; rw [ho]; exact this
  case h_26 t r => have := mkM_sim (P := P) (ρ := ρ) (w := w) (t := t) (r := r.map e.eval) (r' := r.map a.eval) (by cases r <;> rfl); unfold execOp; rw [ho]; exact this
  case h_27 t x => have := mkI_sim (P := P) (w := w) (t := t) (h x (by simp [Op.operands])); unfold execOp; rw [ho]; exact this
  case h_28 x xt t ok => have := assert_sim (P := P) (w := w) (xt := xt) (t := t) (ok := ok) (h x (by simp [Op.operands])); unfold execOp; rw [ho]; exact this

def opA {P : Program} (hN : NamesOk P) (ng : Nat) : OpA P ng := ⟨opF P, opF_congr, opF_sound hN⟩
end
end
end Go.Proofs.YtjeplkbdgphfoaaDoor
